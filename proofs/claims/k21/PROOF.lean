import PyProof.Rows.All
import Wide.All
import OpenK.AllK
import Wide.FinOn
import Lean
import PyProof.EqAt
import PyProof.EqKinds
import PyProof.TupleCall
import PySem.Challenge.RW_primepapers_k21_full_papers_told
import KE.KLam
import KE.KNestM
import PyProof.NeKinds
import PyProof.ZipIter
import PyProof.TupleIter
import PyProof.ReprRoads
import PyProof.ReprLen
import PyProof.CompUse
import PyProof.Conv_int_bool
import PyProof.WalkInts
set_option genSizeOfSpec false
set_option genSizeOf false
set_option Elab.async false
set_option linter.all false
set_option maxRecDepth 100000
namespace L2
open PySem PySem.Spec PyProof.Rows
noncomputable abbrev Key := Sum Int Str
noncomputable def keyIs : Key → Value → Bool
  | .inl k, v => Value.isInt k v
  | .inr x, v => Value.isStrOf x v
noncomputable def keyH (w : World) : Key → Int
  | .inl k => hashInt k
  | .inr x => hashStr w x
theorem keyIs_shape : ∀ {k : Key} {v : Value}, keyIs k v = true → (∃ i t, k = Sum.inl i ∧ v = Value.int i t) ∨ (∃ x t, k = Sum.inr x ∧ v = Value.str x t)
  | .inl i, v, h => by
    obtain ⟨t, e⟩ := Value.isInt_shape (k := i) (v := v) h
    exact .inl ⟨i, t, rfl, e⟩
  | .inr x, v, h => by
    obtain ⟨t, e⟩ := Value.isStrOf_shape (x := x) (v := v) h
    exact .inr ⟨x, t, rfl, e⟩
theorem key_ll (a b : Int) : decide ((Sum.inl a : Key) = Sum.inl b) = (a == b) := by
  by_cases e : a = b
  · subst e; simp
  · have h : ¬ (Sum.inl a : Key) = Sum.inl b := fun q => e (Sum.inl.inj q)
    rw [decide_eq_false h]
    exact (beq_eq_false_iff_ne.mpr e).symm
theorem key_rr (a b : Str) : decide ((Sum.inr a : Key) = Sum.inr b) = decide (a = b) := by
  by_cases e : a = b
  · subst e; simp
  · have h : ¬ (Sum.inr a : Key) = Sum.inr b := fun q => e (Sum.inr.inj q)
    rw [decide_eq_false h, decide_eq_false e]
theorem key_lr (a : Int) (b : Str) : decide ((Sum.inl a : Key) = Sum.inr b) = false := decide_eq_false (fun q => nomatch q)
theorem key_rl (a : Str) (b : Int) : decide ((Sum.inr a : Key) = Sum.inl b) = false := decide_eq_false (fun q => nomatch q)
noncomputable def mixKind (prog : Program) (w : World) : PySem.KeyKind prog w Key where
  is := keyIs
  hash := keyH w
  inj := fun v a b ha hb => by
    rcases keyIs_shape ha with ⟨i, t, rfl, rfl⟩ | ⟨x, t, rfl, rfl⟩
    · rcases keyIs_shape hb with ⟨j, u, rfl, e⟩ | ⟨y, u, rfl, e⟩
      · injection e with e1 _; rw [e1]
      · exact nomatch e
    · rcases keyIs_shape hb with ⟨j, u, rfl, e⟩ | ⟨y, u, rfl, e⟩
      · exact nomatch e
      · injection e with e1 _; rw [e1]
  byValue := fun k v h => by
    rcases keyIs_shape h with ⟨i, t, rfl, rfl⟩ | ⟨x, t, rfl, rfl⟩ <;> rfl
  pyHash := fun hv h => by
    rcases keyIs_shape hv with ⟨i, t, rfl, rfl⟩ | ⟨x, t, rfl, rfl⟩
    · exact wpAny_pyHash_int h
    · exact wpAny_pyHash_str h
  eqBool := fun hu hv h => by
    rcases keyIs_shape hu with ⟨i, t, rfl, rfl⟩ | ⟨x, t, rfl, rfl⟩
    · rcases keyIs_shape hv with ⟨j, u, rfl, rfl⟩ | ⟨y, u, rfl, rfl⟩
      · rw [key_ll] at h; exact wpAny_eqBool_int h
      · rw [key_lr] at h; exact SeqAt.EqAt.int_str i t y u _ _ _ _ h
    · rcases keyIs_shape hv with ⟨j, u, rfl, rfl⟩ | ⟨y, u, rfl, rfl⟩
      · rw [key_rl] at h; exact SeqAt.EqAt.str_int x t j u _ _ _ _ h
      · rw [key_rr] at h; exact wpAny_eqBool_str h
  «strs» := fun k x t v h => by
    rcases keyIs_shape h with ⟨i, u, rfl, e⟩ | ⟨y, u, rfl, e⟩
    · exact nomatch e
    · injection e with e1 _
      subst e1
      cases v <;> rfl
end L2
namespace L2
open PySem PySem.Spec PyProof.Rows
inductive V where
  | non | bl (b : Bool) | int (i : Int) | str (x : Str) | byt (b : Array UInt8) | flt (b : UInt64) | ref (a : Addr) | ty (n : String)
  deriving DecidableEq
noncomputable def RelV : V → Value → Prop
  | .non, u => u = Value.none
  | .bl b, u => u = Value.bool b
  | .int i, u => ∃ t, u = Value.int i t
  | .str x, u => ∃ t, u = Value.str x t
  | .byt b, u => ∃ t, u = Value.bytes b t
  | .flt b, u => ∃ t, u = Value.float b t
  | .ref a, u => u = Value.ref a
  | .ty n, u => u = Value.type n
noncomputable abbrev Vals : List V → List Value → Prop := Paired RelV
theorem Vals.length {xs : List V} {us : List Value} (r : Vals xs us) : xs.length = us.length := Paired.length r
theorem Vals.get : ∀ {xs : List V} {us : List Value} {i : Nat} {x : V}, Vals xs us → xs[i]? = some x → ∃ u, us[i]? = some u ∧ RelV x u
  | _, _, _, _, .nil, e => by simp at e
  | _, _, 0, _, .cons r _, e => by simp at e; subst e; exact ⟨_, rfl, r⟩
  | _, _, i + 1, x, .cons _ t, e => by
    obtain ⟨u, h1, h2⟩ := Vals.get (i := i) (x := x) t (by simpa using e)
    exact ⟨u, by simpa using h1, h2⟩
theorem Vals.set {x : V} {u : Value} (r : RelV x u) : ∀ {xs : List V} {us : List Value} (i : Nat), Vals xs us → Vals (xs.set i x) (us.set i u)
  | _, _, _, .nil => .nil
  | _, _, 0, .cons _ t => .cons r t
  | _, _, i + 1, .cons q t => .cons q (Vals.set r i t)
theorem Vals.append : ∀ {xs ys : List V} {us ws : List Value}, Vals xs us → Vals ys ws → Vals (xs ++ ys) (us ++ ws)
  | _, _, _, _, .nil, s => s
  | _, _, _, _, .cons r t, s => .cons r (Vals.append t s)
theorem Vals.take : ∀ {xs : List V} {us : List Value} (n : Nat), Vals xs us → Vals (xs.take n) (us.take n)
  | _, _, 0, _ => .nil
  | _, _, _ + 1, .nil => .nil
  | _, _, n + 1, .cons r t => .cons r (Vals.take n t)
theorem Vals.drop : ∀ {xs : List V} {us : List Value} (n : Nat), Vals xs us → Vals (xs.drop n) (us.drop n)
  | _, _, 0, r => r
  | _, _, _ + 1, .nil => .nil
  | _, _, n + 1, .cons _ t => Vals.drop n t
noncomputable def RelO : Option V → Option Value → Prop
  | some v, some u => RelV v u
  | none, none => True
  | _, _ => False
noncomputable def KV {κ : Type} : List (κ × V) → List (κ × Value) → Prop := Paired fun (p : κ × V) (q : κ × Value) => p.1 = q.1 ∧ RelV p.2 q.2
noncomputable def kV : Key → V
  | .inl i => .int i
  | .inr x => .str x
inductive HO where
  
  | lst (xs : List V)
  
  | tup (xs : List V)
  
  | dK (kvs : List (Key × V)) | dT (kvs : List (List Key × V))
  
  | set (S : Int → Bool) (n : Nat)
  
  | ins (C dx : Addr) (fs : List (Str × V))
  
  | own (x : Addr)
  
  | xd (fs : List (Str × V))
  
  | met (f x : Addr)
  
  | rng (lo hi : Int)
  
  | frz (o : Obj) (u : HO)
  
  | tbl (ps : Array Value)
  
  | ext (φ : Heap → Prop)
noncomputable abbrev Hp := Addr → Option HO
noncomputable def upd (H : Hp) (a : Addr) (o : HO) : Hp := fun b => if b = a then some o else H b
theorem upd_same {H : Hp} {a : Addr} {o : HO} : upd H a o a = some o := by unfold upd; rw [if_pos rfl]
theorem upd_ne {H : Hp} {a b : Addr} {o : HO} (h : b ≠ a) : upd H a o b = H b := by unfold upd; rw [if_neg h]
theorem ne_of_none {H : Hp} {a b : Addr} {o : HO} (h : H a = some o) (h' : H b = none) : a ≠ b := by
  intro e; subst e; rw [h] at h'; cases h'
section
variable (P : Program) (w : World)
noncomputable def ObjOk (H : Hp) (h : Heap) (a : Addr) : HO → Prop
  | .lst xs => xs.length ≤ sizeLine ∧ ∃ (its : List Value) (n : Nat), Vals xs its ∧ h.get? a = some { cls := .type "list", data := .seq its.toArray n }
  | .tup xs => xs.length ≤ sizeLine ∧ ∃ its : List Value, Vals xs its ∧ IsTup h a its.toArray
  | .dK kvs => kvs.length ≤ sizeLine ∧ (a == sysModules) = false ∧ ∃ vs, KV kvs vs ∧ h.DictOf (mixKind P w) a vs
  | .dT kvs => kvs.length ≤ sizeLine ∧ (a == sysModules) = false ∧ ∃ xs : List (List Key × Addr × Value),
      Paired (fun (p : List Key × V) (q : List Key × Addr × Value) => p.1 = q.1 ∧ H q.2.1 = some (.tup (p.1.map kV)) ∧ RelV p.2 q.2.2) kvs xs ∧
      ∃ o es ep, h.get? a = some o ∧ o.ExactDict ∧ o.data = .dict es ep ∧ es.toList = xs.map (entryOfKey (tupleKind (mixKind P w))) ∧ (xs.map (·.1)).Nodup
  | .set S n => h.SetOf (intKind P w) a S n
  | .ins C dx fs => H dx = some (.own a) ∧ fs.length ≤ 1000 ∧ dx ≠ a ∧ h.get? a = some (PySem.W.instObj C dx) ∧
      ∃ mA, h.Ns1 dx mA ∧ (∀ f, RelO (fs.lookup f) (mA f)) ∧ PySem.Within mA (fs.map (·.1))
  | .own _ => ∃ o, h.get? a = some o
  | .xd fs => ∃ mA, h.Ns1 a mA ∧ ∀ f, RelO (fs.lookup f) (mA f)
  | .rng lo hi => ∃ t u v, h.get? a = some { cls := .type "range", data := .fields #[.int lo t, .int hi u, .int 1 v] }
  | .frz o u => h.get? a = some o ∧ ObjOk H h a u
  | .tbl ps => h.get? a = some { cls := .none, data := .fields ps }
  | .met f x => h.get? a = some (PySem.W.methodObj (.ref f) (.ref x))
  | .ext φ => φ h ∧ (∃ o, h.get? a = some o) ∧ ∀ h1 h2 : Heap, φ h1 → (∀ o, h1.get? a = some o → h2.get? a = some o) → φ h2
noncomputable def HOk (H : Hp) (h : Heap) : Prop := ∀ a o, H a = some o → ObjOk P w H h a o
end
section
variable {P : Program} {w : World} {H H' : Hp} {h h' : Heap} {a : Addr} {o : HO}
theorem ObjOk.lt (x : ObjOk P w H h a o) : a < h.objs.size := by
  cases o with
  | lst xs => obtain ⟨_, _, _, _, e⟩ := x; exact Heap.lt_size e
  | tup xs => obtain ⟨_, _, _, p⟩ := x; exact p.lt
  | dK kvs => obtain ⟨_, _, _, _, o, _, _, e, _⟩ := x; exact Heap.lt_size e
  | dT kvs => obtain ⟨_, _, _, _, o, _, _, e, _⟩ := x; exact Heap.lt_size e
  | set S n => obtain ⟨o, _, _, _, e, _⟩ := x; exact Heap.lt_size e
  | ins C dx fs => obtain ⟨_, _, _, e, _⟩ := x; exact Heap.lt_size e
  | own y => obtain ⟨_, e⟩ := x; exact Heap.lt_size e
  | xd fs => obtain ⟨_, ⟨_, _, _, e, _⟩, _⟩ := x; exact Heap.lt_size e
  | rng lo hi => obtain ⟨_, _, _, e⟩ := x; exact Heap.lt_size e
  | frz ob u => obtain ⟨e, _⟩ := x; exact Heap.lt_size e
  | tbl ps => exact Heap.lt_size (show h.get? a = some _ from x)
  | met f y => exact Heap.lt_size (show h.get? a = some _ from x)
  | ext φ => obtain ⟨_, ⟨_, e⟩, _⟩ := x; exact Heap.lt_size e
theorem Paired.mapP {α β : Type} {F G : α → β → Prop} : ∀ {l₁ : List α} {l₂ : List β}, Paired F l₁ l₂ → (∀ a b, F a b → G a b) → Paired G l₁ l₂
  | _, _, .nil, _ => .nil
  | _, _, .cons r t, f => .cons (f _ _ r) (Paired.mapP t f)
theorem ObjOk.stay (x : ObjOk P w H h a o) (k : ∀ b u, (b = a ∨ H b = some (.own a)) → h.get? b = some u → h'.get? b = some u)
    (ho : ∀ b, H b = some (.own a) → H' b = some (.own a)) (ht : ∀ b xs, H b = some (.tup xs) → H' b = some (.tup xs)) : ObjOk P w H' h' a o := by
  induction o with
  | lst xs => obtain ⟨z, its, n, r, e⟩ := x; exact ⟨z, its, n, r, k _ _ (.inl rfl) e⟩
  | tup xs => obtain ⟨z, its, r, ob, e, c⟩ := x; exact ⟨z, its, r, ob, k _ _ (.inl rfl) e, c⟩
  | dK kvs => obtain ⟨z, y, vs, r, ob, es, ep, e, c⟩ := x; exact ⟨z, y, vs, r, ob, es, ep, k _ _ (.inl rfl) e, c⟩
  | dT kvs =>
    obtain ⟨z, y, xs, r, ob, es, ep, e, c⟩ := x
    exact ⟨z, y, xs, Paired.mapP r fun p q z => ⟨z.1, ht _ _ z.2.1, z.2.2⟩, ob, es, ep, k _ _ (.inl rfl) e, c⟩
  | set S n => obtain ⟨ob, es, ep, t, e, c⟩ := x; exact ⟨ob, es, ep, t, k _ _ (.inl rfl) e, c⟩
  | ins C dx fs =>
    obtain ⟨d, z, ne, e, mA, ⟨od, es, ep, e2, c⟩, r⟩ := x
    exact ⟨ho _ d, z, ne, k _ _ (.inl rfl) e, mA, ⟨od, es, ep, k _ _ (.inr d) e2, c⟩, r⟩
  | own y => obtain ⟨ob, e⟩ := x; exact ⟨ob, k _ _ (.inl rfl) e⟩
  | xd fs => obtain ⟨mA, ⟨od, es, ep, e, c⟩, r⟩ := x; exact ⟨mA, ⟨od, es, ep, k _ _ (.inl rfl) e, c⟩, r⟩
  | rng lo hi => obtain ⟨t, u, v, e⟩ := x; exact ⟨t, u, v, k _ _ (.inl rfl) e⟩
  | frz ob u ih => obtain ⟨e, q⟩ := x; exact ⟨k _ _ (.inl rfl) e, ih q⟩
  | tbl ps =>
    have e : h.get? a = some { cls := .none, data := .fields ps } := x
    show h'.get? a = some { cls := .none, data := .fields ps }
    exact k a _ (.inl rfl) e
  | met f y =>
    have e : h.get? a = some (PySem.W.methodObj (.ref f) (.ref y)) := x
    show h'.get? a = some (PySem.W.methodObj (.ref f) (.ref y))
    exact k a _ (.inl rfl) e
  | ext φ => obtain ⟨p, ⟨o, e⟩, st⟩ := x; exact ⟨st _ _ p fun o q => k _ _ (.inl rfl) q, ⟨o, k _ _ (.inl rfl) e⟩, st⟩
theorem HOk.lt (x : HOk P w H h) (e : H a = some o) : a < h.objs.size := (x a o e).lt
theorem HOk.fresh (x : HOk P w H h) (e : h.objs.size ≤ a) : H a = none := by
  cases q : H a with
  | none => rfl
  | some u => exact absurd (Nat.lt_of_lt_of_le (x.lt q) e) (Nat.lt_irrefl _)
theorem HOk.kept (x : HOk P w H h) (k : ∀ b u, h.get? b = some u → h'.get? b = some u) : HOk P w H h' := fun a o e =>
  (x a o e).stay (fun b u _ q => k b u q) (fun _ q => q) fun _ _ q => q
theorem HOk.laid (x : HOk P w H h) (k : ∀ b u, h.get? b = some u → h'.get? b = some u) (hp : h.objs.size ≤ a) (new : ObjOk P w (upd H a o) h' a o) : HOk P w (upd H a o) h' := fun b u e => by
  have hn := x.fresh hp
  by_cases hb : b = a
  · subst hb; rw [upd_same] at e; cases e; exact new
  · rw [upd_ne hb] at e
    exact (x b u e).stay (fun c v _ q => k c v q) (fun c q => by rw [upd_ne (ne_of_none q hn)]; exact q) fun c xs q => by rw [upd_ne (ne_of_none q hn)]; exact q
end
noncomputable def Rd (H : Hp) (a : Addr) (u : HO) : Prop := H a = some u ∨ ∃ o, H a = some (.frz o u)
theorem Rd.of {H : Hp} {a : Addr} {u : HO} (h : H a = some u) : Rd H a u := .inl h
theorem Rd.ok {P : Program} {w : World} {H : Hp} {h : Heap} {a : Addr} {u : HO} (r : Rd H a u) (x : HOk P w H h) : ObjOk P w H h a u := by
  rcases r with r | ⟨o, r⟩
  · exact x a u r
  · obtain ⟨_, q⟩ := x a _ r
    exact q
noncomputable def Mut : Option HO → Prop
  | some (.lst _) => True
  | some (.dK _) => True
  | some (.dT _) => True
  | some (.set _ _) => True
  | some (.ins _ _ _) => True
  | some (.ext _) => True
  | _ => False
section
variable {P : Program} {w : World} {H : Hp} {h h' : Heap} {x e : Addr} {o' : HO}
theorem HOk.write (ok : HOk P w H h) (mu : Mut (H x)) (he : e = x ∨ H e = some (.own x)) (k : ∀ b u, b ≠ e → h.get? b = some u → h'.get? b = some u) (heo : ∃ u, h'.get? e = some u)
    (new : ObjOk P w (upd H x o') h' x o') : HOk P w (upd H x o') h' := fun b u q => by
  have nown : ∀ c y, H c = some (.own y) → c ≠ x := fun c y r z => by subst z; rw [r] at mu; exact mu
  have ntup : ∀ c xs, H c = some (.tup xs) → c ≠ x := fun c xs r z => by subst z; rw [r] at mu; exact mu
  by_cases hb : b = x
  · subst hb; rw [upd_same] at q; cases q; exact new
  · rw [upd_ne hb] at q
    by_cases hbe : b = e
    · have q' : H b = some (.own x) := by
        rcases he with z | z
        · exact absurd (hbe.trans z) hb
        · rw [hbe]; exact z
      rw [q] at q'; cases q'
      obtain ⟨v, hv⟩ := heo
      exact ⟨v, by rw [hbe]; exact hv⟩
    · refine (ok b u q).stay (fun c v hc r => k c v ?_ r) (fun c r => by rw [upd_ne (nown c b r)]; exact r) fun c xs r => by rw [upd_ne (ntup c xs r)]; exact r
      rcases hc with rfl | hc
      · exact hbe
      · rintro rfl
        rcases he with z | z
        · exact nown c b hc z
        · rw [hc] at z; cases z; exact hb rfl
end
structure Un (fs ex : List Addr) (H H' : Hp) (h h' : Heap) : Prop where
  keep : ∀ b o, h.get? b = some o → H b = none → b ∉ fs → b ∉ ex → h'.get? b = some o
  slot : ∀ b o, h.get? b = some o → H b = none → b ∈ fs → b ∉ ex → ∃ sl, h'.get? b = some { o with slots := sl }
  free : ∀ b o, h.get? b = some o → H b = none → b ∉ ex → H' b = none
  there : ∀ b o, h.get? b = some o → b ∉ ex → ∃ o', h'.get? b = some o'
  tups : ∀ b xs, H b = some (.tup xs) → H' b = some (.tup xs)
  frzs : ∀ b o u, H b = some (.frz o u) → H' b = some (.frz o u)
  tbls : ∀ b ps, H b = some (.tbl ps) → ∃ more, H' b = some (.tbl (ps ++ more))
section
variable {fs fs' ex ex' : List Addr} {H H1 H2 : Hp} {h h1 h2 h' : Heap} {a x e : Addr} {o : HO}
theorem Un.any (u : Un fs ex H H1 h h1) {b : Addr} {ob : Obj} (q : h.get? b = some ob) (n : H b = none) (hx : b ∉ ex) : ∃ sl, h1.get? b = some { ob with slots := sl } := by
  by_cases hb : b ∈ fs
  · exact u.slot b ob q n hb hx
  · exact ⟨ob.slots, u.keep b ob q n hb hx⟩
theorem Un.trans (a : Un fs ex H H1 h h1) (b : Un fs ex H1 H2 h1 h2) : Un fs ex H H2 h h2 where
  keep := fun c ob q n hc hx => b.keep c ob (a.keep c ob q n hc hx) (a.free c ob q n hx) hc hx
  slot := fun c ob q n hc hx => by
    obtain ⟨sl, e1⟩ := a.slot c ob q n hc hx
    obtain ⟨sl', e2⟩ := b.slot c _ e1 (a.free c ob q n hx) hc hx
    exact ⟨sl', e2⟩
  free := fun c ob q n hx => by
    obtain ⟨o', e1⟩ := a.there c ob q hx
    exact b.free c o' e1 (a.free c ob q n hx) hx
  there := fun c ob q hx => by
    obtain ⟨o', e1⟩ := a.there c ob q hx
    exact b.there c o' e1 hx
  tups := fun c xs q => b.tups c xs (a.tups c xs q)
  frzs := fun c ob xs q => b.frzs c ob xs (a.frzs c ob xs q)
  tbls := fun c ps q => by
    obtain ⟨m1, e1⟩ := a.tbls c ps q
    obtain ⟨m2, e2⟩ := b.tbls c _ e1
    exact ⟨m1 ++ m2, by rw [e2, Array.append_assoc]⟩
theorem Un.kept (k : ∀ b u, h.get? b = some u → h'.get? b = some u) : Un fs ex H H h h' :=
  ⟨fun b ob q _ _ _ => k b ob q, fun b ob q _ _ _ => ⟨ob.slots, k b ob q⟩, fun _ _ _ n _ => n, fun b ob q _ => ⟨ob, k b ob q⟩, fun _ _ q => q, fun _ _ _ q => q, fun _ ps q => ⟨#[], by rw [q]; simp⟩⟩
theorem Un.refl : Un fs ex H H h h := Un.kept fun _ _ q => q
theorem Un.laid (k : ∀ b u, h.get? b = some u → h'.get? b = some u) (hp : h.objs.size ≤ a) (hn : H a = none) : Un fs ex H (upd H a o) h h' where
  keep := fun b u q _ _ _ => k b u q
  slot := fun b u q _ _ _ => ⟨u.slots, k b u q⟩
  free := fun b u q n _ => by rw [upd_ne (Nat.ne_of_lt (Nat.lt_of_lt_of_le (Heap.lt_size q) hp))]; exact n
  there := fun b u q _ => ⟨u, k b u q⟩
  tups := fun b xs q => by rw [upd_ne (ne_of_none q hn)]; exact q
  frzs := fun b u xs q => by rw [upd_ne (ne_of_none q hn)]; exact q
  tbls := fun b ps q => ⟨#[], by rw [upd_ne (ne_of_none q hn), q]; simp⟩
theorem Un.write (mu : Mut (H x)) (he : e = x ∨ H e = some (.own x)) (k : ∀ b u, b ≠ e → h.get? b = some u → h'.get? b = some u) (heo : ∃ u, h'.get? e = some u) : Un fs ex H (upd H x o) h h' := by
  have hx : ∀ b, H b = none → b ≠ x := fun b n z => by subst z; rw [n] at mu; exact mu
  have hb : ∀ b, H b = none → b ≠ e := fun b n z => by
    subst z
    rcases he with r | r
    · exact hx b n r
    · rw [n] at r; cases r
  have hm : ∀ b u, H b = some u → ¬ Mut (some u) → b ≠ x := fun b u q nm z => by subst z; rw [q] at mu; exact nm mu
  refine ⟨fun b u q n _ _ => k b u (hb b n) q, fun b u q n _ _ => ⟨u.slots, k b u (hb b n) q⟩, fun b u q n _ => by rw [upd_ne (hx b n)]; exact n, fun b u q _ => ?_,
    fun b xs q => by rw [upd_ne (hm b _ q fun z => z)]; exact q, fun b u xs q => by rw [upd_ne (hm b _ q fun z => z)]; exact q, fun b ps q => ⟨#[], by rw [upd_ne (hm b _ q fun z => z), q]; simp⟩⟩
  by_cases hbe : b = e
  · subst hbe; exact heo
  · exact ⟨u, k b u hbe q⟩
theorem Un.mono (u : Un fs ex H H1 h h1) (hs : ∀ b ∈ fs, b ∈ fs') (hx : ∀ b ∈ ex, b ∈ ex') : Un fs' ex' H H1 h h1 :=
  ⟨fun b ob q n hb he => u.keep b ob q n (fun z => hb (hs b z)) fun z => he (hx b z), fun _ _ q n _ he => u.any q n fun z => he (hx _ z), fun b ob q n he => u.free b ob q n fun z => he (hx b z), fun b ob q he => u.there b ob q fun z => he (hx b z), u.tups, u.frzs, u.tbls⟩
end
noncomputable def trk (h : Heap) (H : Hp) : List Addr := (List.range h.objs.size).filter fun a => (H a).isSome
noncomputable def hidT (h : Heap) (H : Hp) : Heap := PySem.W.hideAll h (trk h H)
theorem hidT_size (h : Heap) (H : Hp) : (hidT h H).objs.size = h.objs.size := PySem.W.hideAll_size _ _
theorem hidT_get {h : Heap} {H : Hp} {b : Addr} {o : Obj} (e : h.get? b = some o) (n : H b = none) : (hidT h H).get? b = some o :=
  PySem.W.hideAll_get _ e fun hm => by
    have q : (H b).isSome = true := (List.mem_filter.mp hm).2
    rw [n] at q; simp at q
theorem of_hidT {h : Heap} {H : Hp} {b : Addr} {o : Obj} (e : (hidT h H).get? b = some o) : h.get? b = some o ∧ H b = none := by
  have e' : h.get? b = some o := PySem.W.of_hideAll (trk h H) e
  refine ⟨e', ?_⟩
  cases q : H b with
  | none => rfl
  | some x =>
    have hm : b ∈ trk h H := List.mem_filter.mpr ⟨List.mem_range.mpr (Heap.lt_size e'), by simp [q]⟩
    have z : (hidT h H).get? b = none := PySem.W.hideAll_none (trk h H) hm
    rw [z] at e; cases e
noncomputable def allNews (g h : Heap) (L : Addr) : List (Addr × Obj) := (List.range h.objs.size).filterMap fun a => if a = L ∨ (g.get? a).isSome = true then none else (h.get? a).map fun o => (a, o)
noncomputable def rest (g h : Heap) (L d : Addr) : List (Addr × Obj) := (allNews g h L).filter fun p => decide (p.1 ≠ d)
end L2
namespace L2
open PySem PySem.Spec PyProof.Rows
structure Mod (K : PySem.W.Frag) (mg : Str → Option Value) (base : Heap) : Prop where
  kin : K.In base
  glob : base.Ns mainGlobals mg
  blt : ∃ mb, base.Ns builtinsNs mb ∧ ∀ x : Str, x ≠ "__name__" → mb x = bootBuiltins x
  nolimit : base.NoLimit
structure Cx where
  prog : Program
  w : World
  K : PySem.W.Frag
  mg : Str → Option Value
  base : Heap
  A : Around
  N : List Str
  s₀ : Shared
  H₀ : Hp
  env : Env
  outer : List Env
  stack : List Env
  ex : List Addr
  fn : Str → Bool
  calm : Bool
  pn : List (Addr × Obj)
  xe : Value → Shared → Prop
noncomputable def frs (l : List Env) : List Addr := l.filterMap (·.frame)
noncomputable abbrev Cx.fs (X : Cx) : List Addr := frs X.outer
noncomputable def Vis (sc : Scope) (x : Str) : Prop := sc.names.lookup x = some .local ∨ sc.names.lookup x = some .cell ∨ sc.names.lookup x = some .free
noncomputable def Loc (sc : Scope) (x : Str) : Prop := sc.names.lookup x = some .local ∨ sc.names.lookup x = some .cell
noncomputable def Look (env : Env) (h : Heap) (m : Str → Option Value) (x : Str) (u : Value) : Prop :=
  (env.kindOf x = some .local ∧ m x = some u) ∨ ((env.kindOf x = some .cell ∨ env.kindOf x = some .free) ∧ ∃ c, env.cells.lookup x = some c ∧ h.IsCell c (some u))
structure Cx.Ok (X : Cx) : Prop where
  mod : Mod X.K X.mg X.base
  kind : X.env.scope.kind = .function
  glob : X.env.globals = mainGlobals
  blt : X.env.builtins = builtinsNs
  above : X.s₀.heap.objs.size ≤ X.env.locals
  inj : ∀ x y c, X.env.cells.lookup x = some c → X.env.cells.lookup y = some c → x = y
  has : ∀ x, (X.env.kindOf x = some .cell ∨ X.env.kindOf x = some .free) → ∃ c, X.env.cells.lookup x = some c
  cab : ∀ x c, X.fn x = true → X.env.cells.lookup x = some c → X.s₀.heap.objs.size ≤ c
  hd : X.calm = true → X.A.handled = none
  frames : X.A.frames = some X.stack
  stk : X.stack = X.outer ∨ (X.stack = X.env :: X.outer ∧ X.env.frame = some X.env.locals)
  exf : ∀ b ∈ X.ex, b ≠ X.env.locals ∧ ∀ x c, X.env.cells.lookup x = some c → c ≠ b
  bs : ∀ b o, X.base.get? b = some o → X.s₀.heap.get? b = some o ∧ X.H₀ b = none
  bsz : X.base.objs.size ≤ X.s₀.heap.objs.size
  noex : ∀ b o, X.base.get? b = some o → b ∉ X.ex
  exfs : ∀ b ∈ X.ex, b ∉ X.fs
  funs : X.s₀.heap.FunFrames X.base X.outer
  frf : ∀ b ∈ X.fs, X.H₀ b = none
structure Inv (X : Cx) (pins : List (Addr × Obj)) (σ : List (Option V)) (H : Hp) (s : Shared) : Prop where
  ok : X.Ok
  os : s.os = X.s₀.os
  bare : AllBare s.gens
  base : Un X.fs X.ex X.H₀ H X.s₀.heap s.heap
  loc : ∃ m, s.heap.Ns X.env.locals m ∧ ∀ (i : Nat) (x : Str) (v : V), X.N[i]? = some x → σ[i]? = some (some v) → Vis X.env.scope x → ∃ u, RelV v u ∧ Look X.env s.heap m x u
  cell : ∀ x c, X.env.cells.lookup x = some c → ∃ v, s.heap.IsCell c v
  free : H X.env.locals = none
  freeC : ∀ x c, X.env.cells.lookup x = some c → H c = none
  pin : ∀ p ∈ X.pn ++ pins, s.heap.get? p.1 = some p.2 ∧ H p.1 = none ∧ p.1 ≠ X.env.locals ∧ p.1 ∉ X.fs ∧ ∀ v, p.2.data ≠ .cell v
  hok : HOk X.prog X.w H s.heap
  len : σ.length = X.N.length
section
variable {X : Cx} {pins : List (Addr × Obj)} {σ : List (Option V)} {H H' : Hp} {s : Shared} {h' : Heap}
theorem Cx.Ok.nofr (ok : X.Ok) {b : Addr} {o : Obj} (e : X.base.get? b = some o) : b ∉ X.fs := fun hb => by
  have := (ok.funs.mem hb).1
  rw [e] at this; cases this
theorem Inv.bs (I : Inv X pins σ H s) : ∀ b o, X.base.get? b = some o → s.heap.get? b = some o ∧ H b = none := fun b o e =>
  ⟨I.base.keep b o (I.ok.bs b o e).1 (I.ok.bs b o e).2 (I.ok.nofr e) (I.ok.noex b o e), I.base.free b o (I.ok.bs b o e).1 (I.ok.bs b o e).2 (I.ok.noex b o e)⟩
theorem Inv.bk (I : Inv X pins σ H s) : ∀ b o, X.base.get? b = some o → s.heap.get? b = some o := fun b o e => (I.bs b o e).1
theorem Inv.mod (I : Inv X pins σ H s) : Mod X.K X.mg X.base := I.ok.mod
theorem Inv.kIn (I : Inv X pins σ H s) : X.K.In s.heap := I.ok.mod.kin.keeps I.bk
theorem Inv.nolimit (I : Inv X pins σ H s) : s.heap.NoLimit := I.ok.mod.nolimit.keeps I.bk
theorem Inv.fr (I : Inv X pins σ H s) : ∃ m, Fr X.base X.env.locals s.heap m :=
  let ⟨m, hn, _⟩ := I.loc
  ⟨m, hn, I.bk, Nat.le_trans I.ok.bsz I.ok.above⟩
theorem Inv.lt (I : Inv X pins σ H s) : X.env.locals < s.heap.objs.size := let ⟨_, hn, _⟩ := I.loc; hn.lt
theorem Inv.sz (I : Inv X pins σ H s) : X.s₀.heap.objs.size ≤ s.heap.objs.size := Nat.le_trans I.ok.above (Nat.le_of_lt I.lt)
theorem Inv.nofs (I : Inv X pins σ H s) {a : Addr} (h : s.heap.objs.size ≤ a) : a ∉ X.fs := fun hb => by
  obtain ⟨_, o, ho, _⟩ := I.ok.funs.mem hb
  exact absurd (Nat.lt_of_lt_of_le (Heap.lt_size ho) (Nat.le_trans I.sz h)) (Nat.lt_irrefl _)
theorem Inv.cne (I : Inv X pins σ H s) : ∀ x c, X.env.cells.lookup x = some c → c ≠ X.env.locals := fun x c e z => by
  obtain ⟨v, o, ho, hd⟩ := I.cell x c e
  obtain ⟨m, ⟨o', es, ep, ho', hd', _⟩, _⟩ := I.loc
  rw [z, ho'] at ho; cases ho; rw [hd'] at hd; cases hd
theorem Inv.funs (I : Inv X pins σ H s) : s.heap.FunFrames X.base X.outer := by
  have all : ∀ (l : List Env), (∀ b ∈ frs l, b ∈ X.fs) → X.s₀.heap.FunFrames X.base l → s.heap.FunFrames X.base l := by
    intro l
    induction l with
    | nil => intro _ _; trivial
    | cons env r ih =>
      intro hs hl
      obtain ⟨hk, ⟨L, o, hf, hn, ho, hd⟩, hr⟩ := hl
      have hL : L ∈ X.fs := hs L (by unfold frs; rw [List.filterMap_cons, hf]; exact List.mem_cons_self)
      obtain ⟨sl, e⟩ := I.base.slot L o ho (I.ok.frf L hL) hL fun z => I.ok.exfs L z hL
      exact ⟨hk, ⟨L, _, hf, hn, e, hd⟩, ih (fun b hb => hs b (by unfold frs; rw [List.filterMap_cons, hf]; exact List.mem_cons_of_mem _ hb)) hr⟩
  exact all X.outer (fun _ hb => hb) I.ok.funs
theorem Inv.stack (I : Inv X pins σ H s) : s.heap.FunFrames X.base X.stack := by
  rcases I.ok.stk with e | ⟨e, hf⟩
  · rw [e]; exact I.funs
  · rw [e]
    obtain ⟨m, hn, _⟩ := I.loc
    refine .cons (by rw [I.ok.kind]; decide) hf hn ?_ I.funs
    exact Heap.get?_none_of_le (Nat.le_trans I.ok.bsz I.ok.above)
theorem Inv.stkSub (I : Inv X pins σ H s) : ∀ b ∈ frs X.stack, b ∈ X.env.locals :: X.fs := fun b hb => by
  rcases I.ok.stk with e | ⟨e, hf⟩
  · rw [e] at hb; exact List.mem_cons_of_mem _ hb
  · rw [e] at hb
    unfold frs at hb
    rw [List.filterMap_cons, hf] at hb
    exact hb
theorem Inv.stkFree (I : Inv X pins σ H s) : ∀ b ∈ frs X.stack, H b = none := fun b hb => by
  rcases List.mem_cons.mp (I.stkSub b hb) with e | hb
  · rw [e]; exact I.free
  · obtain ⟨_, o, ho, _⟩ := I.ok.funs.mem hb
    exact I.base.free b o ho (I.ok.frf b hb) fun z => I.ok.exfs b z hb
theorem Inv.step {g' : Array GenState} {t' : Nat} {d' : Drawn} {ch : List Addr} (I : Inv X pins σ H s)
    (hch : ∀ b ∈ ch, (b ∈ X.ex ∨ X.s₀.heap.objs.size ≤ b) ∧ b ≠ X.env.locals ∧ (∀ x c, X.env.cells.lookup x = some c → c ≠ b) ∧ ∀ p ∈ X.pn ++ pins, p.1 ≠ b)
    (keep : ∀ b o, b ≠ X.env.locals → b ∉ X.fs → b ∉ ch → s.heap.get? b = some o → H b = none → h'.get? b = some o)
    (slot : ∀ b o, b ≠ X.env.locals → b ∈ X.fs → b ∉ ch → s.heap.get? b = some o → H b = none → ∃ sl, h'.get? b = some { o with slots := sl }) (free : ∀ b o, b ∉ ch → s.heap.get? b = some o → H b = none → H' b = none)
    (there : ∀ b o, b ∉ ch → s.heap.get? b = some o → ∃ o', h'.get? b = some o')
    (tups : ∀ b xs, H b = some (.tup xs) → H' b = some (.tup xs)) (frzs : ∀ b o u, H b = some (.frz o u) → H' b = some (.frz o u)) (tbls : ∀ b ps, H b = some (.tbl ps) → ∃ more, H' b = some (.tbl (ps ++ more)))
    (ns : ∀ m, s.heap.Ns X.env.locals m → h'.Ns X.env.locals m) (hok : HOk X.prog X.w H' h') (hg : AllBare g') :
    Inv X pins σ H' { s with heap := h', gens := g', drawn := d', toks := t' } := by
  have neL : ∀ b o, X.s₀.heap.get? b = some o → b ≠ X.env.locals := fun b o e => Nat.ne_of_lt (Nat.lt_of_lt_of_le (Heap.lt_size e) I.ok.above)
  have neC : ∀ b o, X.s₀.heap.get? b = some o → b ∉ X.ex → b ∉ ch := fun b o e hx hb => by
    rcases (hch b hb).1 with z | z
    · exact hx z
    · exact absurd (Nat.lt_of_lt_of_le (Heap.lt_size e) z) (Nat.lt_irrefl _)
  have cellK : ∀ x c, X.env.cells.lookup x = some c → ∀ v, s.heap.IsCell c v → h'.IsCell c v := fun x c e v ⟨o, ho, hd⟩ => by
    have nch : c ∉ ch := fun z => (hch c z).2.2.1 x c e rfl
    by_cases hc : c ∈ X.fs
    · obtain ⟨sl, q⟩ := slot c o (I.cne x c e) hc nch ho (I.freeC x c e)
      exact ⟨_, q, hd⟩
    · exact ⟨o, keep c o (I.cne x c e) hc nch ho (I.freeC x c e), hd⟩
  refine ⟨I.ok, I.os, hg, ⟨fun b o e n hb hx => ?_, fun b o e n hb hx => ?_, fun b o e n hx => ?_, fun b o e hx => ?_, fun b xs e => tups b xs (I.base.tups b xs e), fun b o xs e => frzs b o xs (I.base.frzs b o xs e), fun b ps e => ?_⟩, ?_, fun x c e => ?_, ?_, fun x c e => ?_, fun p hp => ?_, hok, I.len⟩
  · exact keep b o (neL b o e) hb (neC b o e hx) (I.base.keep b o e n hb hx) (I.base.free b o e n hx)
  · obtain ⟨sl, e1⟩ := I.base.slot b o e n hb hx
    obtain ⟨sl', e2⟩ := slot b _ (neL b o e) hb (neC b o e hx) e1 (I.base.free b o e n hx)
    exact ⟨sl', e2⟩
  · obtain ⟨o', e1⟩ := I.base.there b o e hx
    exact free b o' (neC b o e hx) e1 (I.base.free b o e n hx)
  · obtain ⟨o', e1⟩ := I.base.there b o e hx
    exact there b o' (neC b o e hx) e1
  · obtain ⟨m1, e1⟩ := I.base.tbls b ps e
    obtain ⟨m2, e2⟩ := tbls b _ e1
    exact ⟨m1 ++ m2, by rw [e2, Array.append_assoc]⟩
  · obtain ⟨m, hn, hl⟩ := I.loc
    refine ⟨m, ns m hn, fun i x v e1 e2 e3 => ?_⟩
    obtain ⟨u, r, l⟩ := hl i x v e1 e2 e3
    refine ⟨u, r, ?_⟩
    rcases l with l | ⟨k, c, e, z⟩
    · exact .inl l
    · exact .inr ⟨k, c, e, cellK x c e _ z⟩
  · obtain ⟨v, z⟩ := I.cell x c e
    exact ⟨v, cellK x c e v z⟩
  · obtain ⟨m, ⟨o, _, _, ho, _⟩, _⟩ := I.loc
    exact free _ o (fun z => (hch _ z).2.1 rfl) ho I.free
  · obtain ⟨v, o, ho, hd⟩ := I.cell x c e
    exact free c o (fun z => (hch c z).2.2.1 x c e rfl) ho (I.freeC x c e)
  · obtain ⟨e, n, ne, nf, d⟩ := I.pin p hp
    have nch : p.1 ∉ ch := fun z => (hch p.1 z).2.2.2 p hp rfl
    exact ⟨keep p.1 p.2 ne nf nch e n, free p.1 p.2 nch e n, ne, nf, d⟩
theorem Inv.un {t' : Nat} (I : Inv X pins σ H s) (u : Un X.fs [] H H' s.heap h') (hok : HOk X.prog X.w H' h') : Inv X pins σ H' { s with heap := h', toks := t' } := by
  obtain ⟨m, ⟨o, es, ep, ho, r⟩, _⟩ := id I.loc
  obtain ⟨sl, hL⟩ := u.any ho I.free (by simp)
  exact I.step (g' := s.gens) (d' := s.drawn) (ch := []) (fun _ z => nomatch z) (fun b o _ hb _ e n => u.keep b o e n hb (by simp)) (fun b o _ hb _ e n => u.slot b o e n hb (by simp)) (fun b o _ e n => u.free b o e n (by simp)) (fun b o _ e => u.there b o e (by simp)) u.tups u.frzs u.tbls (fun m' hm => by
    obtain ⟨o', es', ep', ho', r'⟩ := hm
    rw [ho] at ho'; cases ho'
    exact ⟨_, es', ep', hL, r'⟩) hok I.bare
theorem Inv.call {g' : Array GenState} {t' : Nat} {d' : Drawn} {ch : List Addr} (I : Inv X pins σ H s) (u : Un (frs X.stack) ch H H' s.heap h') (hok : HOk X.prog X.w H' h') (hg : AllBare g')
    (hch : ∀ b ∈ ch, (b ∈ X.ex ∨ X.s₀.heap.objs.size ≤ b) ∧ b ≠ X.env.locals ∧ (∀ x c, X.env.cells.lookup x = some c → c ≠ b) ∧ ∀ p ∈ X.pn ++ pins, p.1 ≠ b) :
    Inv X pins σ H' { s with heap := h', gens := g', drawn := d', toks := t' } := by
  obtain ⟨m, ⟨o, es, ep, ho, r⟩, _⟩ := id I.loc
  obtain ⟨sl, hL⟩ := u.any ho I.free fun z => (hch _ z).2.1 rfl
  exact I.step (ch := ch) hch (fun b o hL hb hc e n => u.keep b o e n (fun z => (List.mem_cons.mp (I.stkSub b z)).elim hL hb) hc) (fun b o _ _ hc e n => u.any e n hc) (fun b o hc e n => u.free b o e n hc) (fun b o hc e => u.there b o e hc) u.tups u.frzs u.tbls (fun m' hm => by
    obtain ⟨o', es', ep', ho', r'⟩ := hm
    rw [ho] at ho'; cases ho'
    exact ⟨_, es', ep', hL, r'⟩) hok hg
theorem Inv.turned {t' : Nat} {it : Addr} (I : Inv X pins σ H s) (k : ∀ b o, b ≠ it → s.heap.get? b = some o → h'.get? b = some o) (hn : H it = none) (hL : it ≠ X.env.locals)
    (h1 : it ∈ X.ex ∨ X.s₀.heap.objs.size ≤ it) (h2 : ∀ x c, X.env.cells.lookup x = some c → c ≠ it) (h3 : ∀ p ∈ X.pn ++ pins, p.1 ≠ it) : Inv X pins σ H { s with heap := h', toks := t' } := by
  have nit : ∀ b u, H b = some u → b ≠ it := fun b u e z => by rw [z, hn] at e; cases e
  refine I.step (g' := s.gens) (d' := s.drawn) (ch := [it]) (fun b hb => ?_) (fun b o _ _ hc e _ => k b o (fun z => hc (by simp [z])) e) (fun b o _ _ hc e _ => ⟨o.slots, k b o (fun z => hc (by simp [z])) e⟩) (fun _ _ _ _ n => n)
    (fun b o hc e => ⟨o, k b o (fun z => hc (by simp [z])) e⟩) (fun _ _ e => e) (fun _ _ _ e => e) (fun b ps e => ⟨#[], by rw [e]; simp⟩) (fun m hm => ?_) (fun b u e => ?_) I.bare
  · have e : b = it := by simpa using hb
    subst e
    exact ⟨h1, hL, h2, h3⟩
  · obtain ⟨o, es, ep, ho, r⟩ := hm
    exact ⟨o, es, ep, k _ o (Ne.symm hL) ho, r⟩
  · refine (I.hok b u e).stay (fun c v hc q => k c v ?_ q) (fun _ q => q) fun _ _ q => q
    rcases hc with z | z
    · rw [z]; exact nit b u e
    · exact nit c _ z
theorem Inv.tok (I : Inv X pins σ H s) (t : Nat) : Inv X pins σ H { s with toks := t } := I.un (h' := s.heap) (t' := t) Un.refl I.hok
theorem Inv.kept {t' : Nat} (I : Inv X pins σ H s) (k : ∀ b u, s.heap.get? b = some u → h'.get? b = some u) : Inv X pins σ H { s with heap := h', toks := t' } := I.un (Un.kept k) (I.hok.kept k)
theorem Inv.laid {a : Addr} {o : HO} {t' : Nat} (I : Inv X pins σ H s) (k : ∀ b u, s.heap.get? b = some u → h'.get? b = some u) (hp : s.heap.objs.size ≤ a) (new : ObjOk X.prog X.w (upd H a o) h' a o) :
    Inv X pins σ (upd H a o) { s with heap := h', toks := t' } := I.un (Un.laid k hp (I.hok.fresh hp)) (I.hok.laid k hp new)
theorem Inv.write {x e : Addr} {o : HO} {t' : Nat} (I : Inv X pins σ H s) (mu : Mut (H x)) (he : e = x ∨ H e = some (.own x)) (k : ∀ b u, b ≠ e → s.heap.get? b = some u → h'.get? b = some u) (heo : ∃ u, h'.get? e = some u)
    (new : ObjOk X.prog X.w (upd H x o) h' x o) : Inv X pins σ (upd H x o) { s with heap := h', toks := t' } := I.un (Un.write mu he k heo) (I.hok.write mu he k heo new)
theorem Inv.pins_of {pins' : List (Addr × Obj)} (I : Inv X pins σ H s) (h : ∀ p ∈ pins', s.heap.get? p.1 = some p.2 ∧ H p.1 = none ∧ p.1 ≠ X.env.locals ∧ p.1 ∉ X.fs ∧ ∀ v, p.2.data ≠ .cell v) : Inv X pins' σ H s :=
  ⟨I.ok, I.os, I.bare, I.base, I.loc, I.cell, I.free, I.freeC, fun p hp => (List.mem_append.mp hp).elim (fun z => I.pin p (List.mem_append_left _ z)) (h p), I.hok, I.len⟩
theorem nodup_ix {N : List Str} (hN : N.Nodup) {i j : Nat} {x : Str} (a : N[i]? = some x) (b : N[j]? = some x) : i = j := by
  obtain ⟨h1, e1⟩ := List.getElem?_eq_some_iff.mp a
  obtain ⟨h2, e2⟩ := List.getElem?_eq_some_iff.mp b
  exact (List.getElem_inj hN).mp (e1.trans e2.symm)
theorem store_ok2 {M : Model} {A : Around} {E : Value → Shared → Prop} {i : Nat} {x : Str} {v : V} {u : Value} {Q : Unit → Shared → Prop} (I : Inv X pins σ H s) (hN : X.N.Nodup) (hi : X.N[i]? = some x) (hx : Loc X.env.scope x) (r : RelV v u)
    (h : ∀ s', Inv X pins (σ.set i (some v)) H s' → (∃ a, Heap.SameBut a s.heap s'.heap ∧ (a = X.env.locals ∨ X.env.cells.lookup x = some a)) → Q () s') (hf : X.fn x = true ∨ X.env.scope.names.lookup x = some .local := by first | exact .inl rfl | exact .inr rfl | assumption) : wpAny M A (storeName X.env x u) Q E s := by
  obtain ⟨m, hn, hl⟩ := id I.loc
  have hcls : (X.env.scope.kind == .class || (X.env.scope.kind == .module && X.env.locals != X.env.globals)) = false := by rw [I.ok.kind]; rfl
  have hiσ : i < σ.length := by rw [I.len]; exact (List.getElem?_eq_some_iff.mp hi).1
  have cne := I.cne
  have tracked : ∀ {a : Addr} {h' : Heap}, (∃ o, s.heap.get? a = some o ∧ H a = none) → Heap.SameBut a s.heap h' → HOk X.prog X.w H h' := fun {a h'} ha hs b ob e => by
    obtain ⟨_, _, hfree⟩ := ha
    refine (I.hok b ob e).stay (fun c w' hc q => (hs.2 c ?_).trans q) (fun _ q => q) fun _ _ q => q
    rintro rfl
    rcases hc with rfl | hc
    · rw [hfree] at e; cases e
    · rw [hfree] at hc; cases hc
  rcases hx with hk | hk
  · refine wpAny_storeName_local hk hn (fun h' hn' hs => ?_) hcls
    obtain ⟨oL, _, _, hoL, _⟩ := id hn
    refine h _ ⟨I.ok, I.os, I.bare, ⟨fun b o e n hb hx => ?_, fun b o e n hb hx => ?_, I.base.free, fun b o e hx => ?_, I.base.tups, I.base.frzs, I.base.tbls⟩, ⟨_, hn', fun j y v' e1 e2 e3 => ?_⟩, fun y c e => ?_, I.free, I.freeC, fun p hp => ?_, tracked ⟨oL, hoL, I.free⟩ hs, by simpa using I.len⟩ ⟨_, hs, .inl rfl⟩
    · exact (hs.2 b (Nat.ne_of_lt (Nat.lt_of_lt_of_le (Heap.lt_size e) I.ok.above))).trans (I.base.keep b o e n hb hx)
    · obtain ⟨sl, e1⟩ := I.base.slot b o e n hb hx
      exact ⟨sl, (hs.2 b (Nat.ne_of_lt (Nat.lt_of_lt_of_le (Heap.lt_size e) I.ok.above))).trans e1⟩
    · obtain ⟨o', e1⟩ := I.base.there b o e hx
      exact ⟨o', (hs.2 b (Nat.ne_of_lt (Nat.lt_of_lt_of_le (Heap.lt_size e) I.ok.above))).trans e1⟩
    · by_cases hj : j = i
      · subst hj
        rw [hi] at e1; cases e1
        rw [List.getElem?_set_self hiσ] at e2
        cases e2
        exact ⟨u, r, .inl ⟨hk, by simp⟩⟩
      · rw [List.getElem?_set_ne (Ne.symm hj)] at e2
        obtain ⟨u', r', q⟩ := hl j y v' e1 e2 e3
        refine ⟨u', r', ?_⟩
        rcases q with ⟨k, e⟩ | ⟨k, c, e, z⟩
        · refine .inl ⟨k, ?_⟩
          have : y ≠ x := fun e => hj (nodup_ix hN e1 (e ▸ hi))
          simp [this, e]
        · exact .inr ⟨k, c, e, z.sameBut hs (cne y c e)⟩
    · obtain ⟨w', z⟩ := I.cell y c e
      exact ⟨w', z.sameBut hs (cne y c e)⟩
    · obtain ⟨e, n, ne, nf, d⟩ := I.pin p hp
      exact ⟨(hs.2 p.1 ne).trans e, n, ne, nf, d⟩
  · have hfn : X.fn x = true := by
      rcases hf with z | z
      · exact z
      · rw [z] at hk; cases hk
    obtain ⟨c, hc⟩ := I.ok.has x (.inl hk)
    obtain ⟨w', z⟩ := I.cell x c hc
    refine wpAny_storeName_cell I.ok.kind hk hc z (fun h' hc' hs => ?_)
    obtain ⟨oc, hoc, hocd⟩ := id z
    refine h { s with heap := h' } ⟨I.ok, I.os, I.bare, ⟨fun b o e n hb hx => ?_, fun b o e n hb hx => ?_, I.base.free, fun b o e hx => ?_, I.base.tups, I.base.frzs, I.base.tbls⟩, ⟨m, hn.sameBut hs (Ne.symm (cne x c hc)), fun j y v' e1 e2 e3 => ?_⟩, fun y c' e => ?_, I.free, I.freeC, fun p hp => ?_, tracked ⟨oc, hoc, I.freeC x c hc⟩ hs, by simpa using I.len⟩ ⟨c, hs, .inr hc⟩
    · exact (hs.2 b (Nat.ne_of_lt (Nat.lt_of_lt_of_le (Heap.lt_size e) (I.ok.cab x c hfn hc)))).trans (I.base.keep b o e n hb hx)
    · obtain ⟨sl, e1⟩ := I.base.slot b o e n hb hx
      exact ⟨sl, (hs.2 b (Nat.ne_of_lt (Nat.lt_of_lt_of_le (Heap.lt_size e) (I.ok.cab x c hfn hc)))).trans e1⟩
    · obtain ⟨o', e1⟩ := I.base.there b o e hx
      exact ⟨o', (hs.2 b (Nat.ne_of_lt (Nat.lt_of_lt_of_le (Heap.lt_size e) (I.ok.cab x c hfn hc)))).trans e1⟩
    · by_cases hj : j = i
      · subst hj
        rw [hi] at e1; cases e1
        rw [List.getElem?_set_self hiσ] at e2
        cases e2
        exact ⟨u, r, .inr ⟨.inl hk, c, hc, hc'⟩⟩
      · rw [List.getElem?_set_ne (Ne.symm hj)] at e2
        obtain ⟨u', r', q⟩ := hl j y v' e1 e2 e3
        refine ⟨u', r', ?_⟩
        rcases q with q | ⟨k, c', e, z'⟩
        · exact .inl q
        · refine .inr ⟨k, c', e, z'.sameBut hs ?_⟩
          rintro rfl
          exact hj (nodup_ix hN e1 (I.ok.inj _ _ _ e hc ▸ hi))
    · by_cases hcc : c' = c
      · subst hcc; exact ⟨_, hc'⟩
      · obtain ⟨w2, z2⟩ := I.cell y c' e
        exact ⟨w2, z2.sameBut hs hcc⟩
    · obtain ⟨e, n, ne, nf, d⟩ := I.pin p hp
      refine ⟨(hs.2 p.1 ?_).trans e, n, ne, nf, d⟩
      intro q
      rw [q, hoc] at e
      have q' : oc = p.2 := Option.some.inj e
      exact d w' (by rw [← q']; exact hocd)
theorem store_ok {M : Model} {A : Around} {E : Value → Shared → Prop} {i : Nat} {x : Str} {v : V} {u : Value} {Q : Unit → Shared → Prop} (I : Inv X pins σ H s) (hN : X.N.Nodup) (hi : X.N[i]? = some x) (hx : Loc X.env.scope x) (r : RelV v u)
    (h : ∀ s', Inv X pins (σ.set i (some v)) H s' → Q () s') (hf : X.fn x = true ∨ X.env.scope.names.lookup x = some .local := by first | exact .inl rfl | exact .inr rfl | assumption) : wpAny M A (storeName X.env x u) Q E s :=
  store_ok2 I hN hi hx r (fun s' I' _ => h s' I') hf
theorem Inv.call' {s' : Shared} {ch : List Addr} (I : Inv X pins σ H s) (ho : s'.os = s.os) (u : Un (frs X.stack) ch H H' s.heap s'.heap) (hok : HOk X.prog X.w H' s'.heap) (hg : AllBare s'.gens)
    (hch : ∀ b ∈ ch, (b ∈ X.ex ∨ X.s₀.heap.objs.size ≤ b) ∧ b ≠ X.env.locals ∧ (∀ x c, X.env.cells.lookup x = some c → c ≠ b) ∧ ∀ p ∈ X.pn ++ pins, p.1 ≠ b) : Inv X pins σ H' s' := by
  obtain ⟨h', g', d', t', o'⟩ := s'
  have e : o' = s.os := ho
  subst e
  exact I.call (g' := g') (t' := t') (d' := d') u hok hg hch
end
noncomputable abbrev XK := Value → Option Addr → Hp → Prop
noncomputable abbrev St := List (Option V)
noncomputable abbrev VK := V → Hp → Prop
noncomputable abbrev TE := St → Hp → VK → Prop
noncomputable abbrev TT := St → Hp → (Bool → Hp → Prop) → Prop
noncomputable abbrev TA := St → Hp → (List V → Hp → Prop) → Prop
structure Ends where
  nx : St → Hp → Prop
  rt : VK
  bk : St → Hp → Prop := fun _ _ => False
  ct : St → Hp → Prop := fun _ _ => False
noncomputable abbrev TS := Ends → St → Hp → Prop
noncomputable def EP (X : Cx) (pins : List (Addr × Obj)) (σ : St) (Q : VK) (u : Value) (s' : Shared) : Prop := ∃ v H', Inv X pins σ H' s' ∧ RelV v u ∧ Q v H'
noncomputable def TP (X : Cx) (pins : List (Addr × Obj)) (σ : St) (Q : Bool → Hp → Prop) (b : Bool) (s' : Shared) : Prop := ∃ H', Inv X pins σ H' s' ∧ Q b H'
noncomputable def AP (X : Cx) (pins : List (Addr × Obj)) (σ : St) (Q : List V → Hp → Prop) (us : List Value) (s' : Shared) : Prop := ∃ vs H', Inv X pins σ H' s' ∧ Vals vs us ∧ Q vs H'
noncomputable def SP (X : Cx) (pins : List (Addr × Obj)) (D : Ends) (f : Flow) (s' : Shared) : Prop :=
  match f with
  | .next => ∃ σ' H', Inv X pins σ' H' s' ∧ D.nx σ' H'
  | .brk => ∃ σ' H', Inv X pins σ' H' s' ∧ D.bk σ' H'
  | .cont => ∃ σ' H', Inv X pins σ' H' s' ∧ D.ct σ' H'
  | .ret u => ∃ v σ' H', Inv X pins σ' H' s' ∧ RelV v u ∧ D.rt v H'
noncomputable def PE (X : Cx) (e : Expr) (t : TE) : Prop :=
  ∀ (pins : List (Addr × Obj)) (s : Shared) (σ : St) (H : Hp) (Q : VK), Inv X pins σ H s → t σ H Q → wpAny (model X.prog X.w) X.A (eval e X.env) (EP X pins σ Q) X.xe s
noncomputable def PT (X : Cx) (e : Expr) (t : TT) : Prop :=
  ∀ (pins : List (Addr × Obj)) (s : Shared) (σ : St) (H : Hp) (Q : Bool → Hp → Prop), Inv X pins σ H s → t σ H Q → wpAny (model X.prog X.w) X.A (isTrue e X.env (eval e X.env)) (TP X pins σ Q) X.xe s
noncomputable def PW (X : Cx) (e : Expr) (t : TT) : Prop :=
  ∀ (whole : Sem Value) (pins : List (Addr × Obj)) (s : Shared) (σ : St) (H : Hp) (Q : Bool → Hp → Prop), Inv X pins σ H s → t σ H Q → wpAny (model X.prog X.w) X.A (isTrue e X.env whole) (TP X pins σ Q) X.xe s
theorem PW.pt {X : Cx} {e : Expr} {t : TT} (h : PW X e t) : PT X e t := h _
noncomputable def PA (X : Cx) (es : List Expr) (t : TA) : Prop :=
  ∀ (pos : Pos) (pins : List (Addr × Obj)) (s : Shared) (σ : St) (H : Hp) (Q : List V → Hp → Prop), Inv X pins σ H s → t σ H Q → wpAny (model X.prog X.w) X.A (spliced (backTo pos (starEach es X.env))) (AP X pins σ Q) X.xe s
noncomputable def PS (X : Cx) (st : Stmt) (t : TS) : Prop :=
  ∀ (pins : List (Addr × Obj)) (s : Shared) (σ : St) (H : Hp) (D : Ends), Inv X pins σ H s → t D σ H → wpAny (model X.prog X.w) X.A (exec st X.env) (SP X pins D) X.xe s
noncomputable def PSs (X : Cx) (st : List Stmt) (t : TS) : Prop :=
  ∀ (pins : List (Addr × Obj)) (s : Shared) (σ : St) (H : Hp) (D : Ends), Inv X pins σ H s → t D σ H → wpAny (model X.prog X.w) X.A (execs st X.env) (SP X pins D) X.xe s
theorem thn {α : Type} {t : Sem α} {Q Q' : α → Shared → Prop} {M : Model} {A : Around} {E : Value → Shared → Prop} {s : Shared} (h : wpAny M A t Q E s) (hQ : ∀ a s, Q a s → Q' a s) : wpAny M A t Q' E s := wpAny_mono h hQ fun _ _ x => x
end L2
namespace L2
open PySem PySem.Spec PyProof.Rows
section
variable {X : Cx}
noncomputable def tVar (i : Nat) : TE := fun σ H Q => ∃ v, σ[i]? = some (some v) ∧ Q v H
noncomputable def tC (v : V) : TE := fun _ H Q => Q v H
theorem pe_var {i : Nat} {x : Str} {pos : Pos} (hN : X.N[i]? = some x) (hv : Vis X.env.scope x) (hd : (x == ("__debug__" : Str)) = false := by decide) (hcd : (x == ("__classdict__" : Str)) = false := by decide) : PE X (.Name x pos) (tVar i) := by
  intro pins s σ H Q I h
  obtain ⟨v, e, h⟩ := h
  obtain ⟨m, hn, hl⟩ := I.loc
  obtain ⟨u, r, l⟩ := hl i x v hN e hv
  have fin : EP X pins σ Q u s := ⟨v, H, I, r, h⟩
  rcases l with ⟨hk, hm⟩ | ⟨hk, c, hc, hcell⟩
  · exact wpAny_Name (wpAny_loadName_local I.ok.kind hk hn hm fin) hd
  · rcases hk with hk | hk
    · exact wpAny_Name (wpAny_loadName_cell I.ok.kind hk hc hcell fin) hd
    · exact wpAny_Name (wpAny_loadName_free I.ok.kind hk hc hcell fin hcd) hd
theorem pe_int {i j pos} : PE X (.Constant (.int i) j pos) (tC (.int i)) := fun _ _ _ H _ I h => wpAny_Constant_int ⟨.int i, H, I.tok _, ⟨_, rfl⟩, h⟩
theorem pe_bl {b j pos} : PE X (.Constant (.bool b) j pos) (tC (.bl b)) := fun _ _ _ H _ I h => Constant_bool ⟨.bl b, H, I, rfl, h⟩
theorem pe_non {j pos} : PE X (.Constant .none j pos) (tC .non) := fun _ _ _ H _ I h => Constant_none ⟨.non, H, I, rfl, h⟩
theorem pe_str {x j pos} : PE X (.Constant (.str x) j pos) (tC (.str x)) := fun _ _ _ H _ I h => Calls.Constant_str ⟨.str x, H, I.tok _, ⟨_, rfl⟩, h⟩
noncomputable def Gl (X : Cx) (x : Str) : Prop := X.env.kindOf x = some .globalImplicit
theorem ld_glob {E : Value → Shared → Prop} {pins : List (Addr × Obj)} {s : Shared} {σ : St} {H : Hp} {x : Str} {u : Value} {pos : Pos} {Q : Value → Shared → Prop} (I : Inv X pins σ H s) (hg : Gl X x) (hm : X.mg x = some u) (h : Q u s)
    (hd : (x == ("__debug__" : Str)) = false := by decide) : wpAny (model X.prog X.w) X.A (eval (.Name x pos) X.env) Q E s :=
  Calls.Name_function_global I.ok.kind hg (Calls.loadGlobal_global (by rw [I.ok.glob]; exact I.mod.glob.keeps I.bk) hm h) hd
theorem ld_blt {E : Value → Shared → Prop} {pins : List (Addr × Obj)} {s : Shared} {σ : St} {H : Hp} {x : Str} {u : Value} {pos : Pos} {Q : Value → Shared → Prop} (I : Inv X pins σ H s) (hg : Gl X x) (hm : X.mg x = none) (hv : bootBuiltins x = some u) (h : Q u s)
    (hn : x ≠ "__name__" := by decide) (hd : (x == ("__debug__" : Str)) = false := by decide) : wpAny (model X.prog X.w) X.A (eval (.Name x pos) X.env) Q E s := by
  obtain ⟨mb, h1, h2⟩ := I.mod.blt
  exact Calls.Name_function_global I.ok.kind hg (Calls.loadGlobal_builtin (by rw [I.ok.glob]; exact I.mod.glob.keeps I.bk) hm (by rw [I.ok.blt]; exact h1.keeps I.bk) ((h2 x hn).trans hv) h) hd
theorem pe_glob {x : Str} {v : V} {u : Value} {pos : Pos} (hg : Gl X x) (hm : X.mg x = some u) (r : RelV v u) (hd : (x == ("__debug__" : Str)) = false := by decide) : PE X (.Name x pos) (tC v) :=
  fun _ _ _ H _ I h => ld_glob I hg hm ⟨v, H, I, r, h⟩ hd
theorem pe_bltn {x : Str} {v : V} {u : Value} {pos : Pos} (hg : Gl X x) (hm : X.mg x = none) (hv : bootBuiltins x = some u) (r : RelV v u) (hn : x ≠ "__name__" := by decide) (hd : (x == ("__debug__" : Str)) = false := by decide) : PE X (.Name x pos) (tC v) :=
  fun _ _ _ H _ I h => ld_blt I hg hm hv ⟨v, H, I, r, h⟩ hn hd
noncomputable def t2I (ta tb : TE) (k : Int → Int → Hp → Prop) : St → Hp → Prop := fun σ H => ta σ H fun x H1 => tb σ H1 fun y H2 => ∃ i j, x = .int i ∧ y = .int j ∧ k i j H2
noncomputable def tAdd (ta tb : TE) : TE := fun σ H Q => t2I ta tb (fun i j H2 => Q (.int (i + j)) H2) σ H
noncomputable def tSub (ta tb : TE) : TE := fun σ H Q => t2I ta tb (fun i j H2 => Q (.int (i - j)) H2) σ H
noncomputable def tMul (ta tb : TE) : TE := fun σ H Q => t2I ta tb (fun i j H2 => (-(2 ^ 64) < i ∧ i < 2 ^ 64) ∧ Q (.int (i * j)) H2) σ H
variable {a b : Expr} {ta tb : TE} {pos : Pos}
noncomputable def PC (X : Cx) (op : CmpOp) (a b : Expr) (t : TE) : Prop :=
  ∀ (pins : List (Addr × Obj)) (s : Shared) (σ : St) (H : Hp) (Q : VK), Inv X pins σ H s → t σ H Q →
    wpAny (model X.prog X.w) X.A (eval a X.env) (fun v s₁ => wpAny (model X.prog X.w) X.A (eval b X.env) (fun u s₂ => wpAny (model X.prog X.w) X.A (compareOp op v u) (EP X pins σ Q) X.xe s₂) X.xe s₁) X.xe s
theorem nobehind (b : Expr) {op : CmpOp} (h : op ≠ .In) (h2 : op ≠ .NotIn) : behindInMarks op b = false := by
  have e1 : (op == CmpOp.In) = false := by cases op <;> first | rfl | exact absurd rfl h
  have e2 : (op == CmpOp.NotIn) = false := by cases op <;> first | rfl | exact absurd rfl h2
  cases b <;> simp [behindInMarks, e1, e2]
noncomputable def tCmp (p : Int → Int → Bool) (ta tb : TE) : TE := fun σ H Q => t2I ta tb (fun i j H2 => Q (.bl (p i j)) H2) σ H
noncomputable abbrev tLt : TE → TE → TE := tCmp fun i j => decide (i < j)
noncomputable abbrev tLe : TE → TE → TE := tCmp fun i j => decide (i ≤ j)
noncomputable abbrev tGt : TE → TE → TE := tCmp fun i j => decide (j < i)
noncomputable abbrev tGe : TE → TE → TE := tCmp fun i j => decide (j ≤ i)
noncomputable abbrev tEqI : TE → TE → TE := tCmp fun i j => decide (i = j)
noncomputable abbrev tNeI : TE → TE → TE := tCmp fun i j => !decide (i = j)
noncomputable def tIsN (ta : TE) : TE := fun σ H Q => ta σ H fun x H1 => Q (.bl (decide (x = .non))) H1
noncomputable def tNotN (ta : TE) : TE := fun σ H Q => ta σ H fun x H1 => Q (.bl (!decide (x = .non))) H1
theorem RelV.none_iff {x : V} {v : Value} (r : RelV x v) : (v == Value.none) = decide (x = .non) := by
  cases x with
  | non => cases r; rfl
  | bl _ => cases r; rfl
  | int _ => obtain ⟨t, rfl⟩ := r; rfl
  | str _ => obtain ⟨t, rfl⟩ := r; rfl
  | byt _ => obtain ⟨t, rfl⟩ := r; rfl
  | flt _ => obtain ⟨t, rfl⟩ := r; rfl
  | ref _ => cases r; rfl
  | ty _ => cases r; rfl
theorem pc_isN {j pos'} (ha : PE X a ta) : PC X .Is a (.Constant .none j pos') (tIsN ta) := by
  intro pins s σ H Q I h
  refine thn (ha pins s σ H _ I h) fun v s1 ⟨x, H1, I1, r1, q1⟩ => ?_
  exact Constant_none (is_none_gen ⟨.bl _, H1, I1, by rw [r1.none_iff]; rfl, q1⟩)
noncomputable def tB (t : TE) : TT := fun σ H Q => t σ H fun x H1 => ∃ c, x = .bl c ∧ Q c H1
theorem pt_cmp {op : CmpOp} {t : TE} (h : PC X op a b t) (h1 : behindInMarks op b = false := by first | exact nobehind _ (by decide) (by decide) | rfl) : PT X (.Compare a [op] [b] pos) (tB t) := by
  intro pins s σ H Q I hw
  refine wpAny_isTrue_Compare1 (thn (h pins s σ H _ I hw) fun v s1 h1 => thn h1 fun u s2 h2 => thn h2 fun c s3 ⟨x, H1, I1, r1, q1⟩ => ?_) h1
  obtain ⟨d, rfl, q⟩ := q1
  cases r1
  exact wpAny_truthy_bool ⟨H1, I1, q⟩
theorem pt_val {e : Expr} {t : TE} (h : PE X e t) (he : ∀ whole, isTrue e X.env whole = (do let v ← whole; standAt e.pos; holding [v] (truthy v)) := by intro _; rfl) : PT X e (tB t) := by
  intro pins s σ H Q I hw
  refine isTrue_plain (thn (h pins s σ H _ I hw) fun v s1 ⟨x, H1, I1, r1, q1⟩ => ?_) (he _)
  obtain ⟨d, rfl, q⟩ := q1
  cases r1
  exact wpAny_truthy_bool ⟨H1, I1, q⟩
variable {tA tB' : TT} {rest : List Expr}
noncomputable def tAnd (t u : TT) : TT := fun σ H Q => t σ H fun c H1 => if c = true then u σ H1 Q else Q false H1
noncomputable def tOr (t u : TT) : TT := fun σ H Q => t σ H fun c H1 => if c = true then Q true H1 else u σ H1 Q
noncomputable def tNot (t : TT) : TT := fun σ H Q => t σ H fun c H1 => Q (!c) H1
theorem pw_or1 (ha : PT X a tA) : PW X (.BoolOp .Or [a] pos) tA := by
  intro wh pins s σ H Q I h
  refine isTrue_or (thn (ha pins s σ H Q I h) fun c s1 e => ?_)
  cases c with
  | false => exact isTrue_or_nil e
  | true => exact e
theorem pw_or (ha : PT X a tA) (hb : PW X (.BoolOp .Or (b :: rest) pos) tB') : PW X (.BoolOp .Or (a :: b :: rest) pos) (tOr tA tB') := by
  intro wh pins s σ H Q I h
  refine isTrue_or (thn (ha pins s σ H _ I h) fun c s1 ⟨H1, I1, q1⟩ => ?_)
  cases c with
  | true => exact ⟨H1, I1, q1⟩
  | false => exact hb wh pins s1 σ H1 Q I1 q1
theorem pt_not (ha : PT X a tA) : PT X (.UnaryOp .Not a pos) (tNot tA) := by
  intro pins s σ H Q I h
  exact isTrue_not (ha pins s σ H (fun c H1 => Q (!c) H1) I h)
noncomputable def tAndV (ta tb : TE) : TE := fun σ H Q => ta σ H fun x H1 => ∃ c, x = .bl c ∧ if c = true then tb σ H1 Q else Q (.bl false) H1
noncomputable def tOrV (ta tb : TE) : TE := fun σ H Q => ta σ H fun x H1 => ∃ c, x = .bl c ∧ if c = true then Q (.bl true) H1 else tb σ H1 Q
noncomputable def tNotV (ta : TE) : TE := fun σ H Q => ta σ H fun x H1 => ∃ c, x = .bl c ∧ Q (.bl (!c)) H1
theorem pe_one {op} {t : TE} (h : PE X a t) : PE X (.BoolOp op [a] pos) t := fun pins s σ H Q I hw => BoolOp_one (h pins s σ H Q I hw)
theorem pe_and (ha : PE X a ta) (hb : PE X (.BoolOp .And (b :: rest) pos) tb) : PE X (.BoolOp .And (a :: b :: rest) pos) (tAndV ta tb) := by
  intro pins s σ H Q I h
  refine BoolOp_and (thn (ha pins s σ H _ I h) fun v s1 ⟨x, H1, I1, r1, q1⟩ => ?_)
  obtain ⟨c, rfl, q1⟩ := q1
  cases r1
  refine wpAny_truthy_bool ?_
  cases c with
  | true => exact hb pins s1 σ H1 Q I1 q1
  | false => exact ⟨.bl false, H1, I1, rfl, q1⟩
theorem pe_not (ha : PE X a ta) : PE X (.UnaryOp .Not a pos) (tNotV ta) := by
  intro pins s σ H Q I h
  refine UnaryOp_ (thn (ha pins s σ H _ I h) fun v s1 ⟨x, H1, I1, r1, q1⟩ => ?_)
  obtain ⟨c, rfl, q1⟩ := q1
  cases r1
  exact not_of (wpAny_truthy_bool ⟨.bl (!c), H1, I1, rfl, q1⟩)
noncomputable def tIf (t : TT) (ta tb : TE) : TE := fun σ H Q => t σ H fun c H1 => if c = true then ta σ H1 Q else tb σ H1 Q
theorem pe_ifExp {c : Expr} (hc : PT X c tA) (ha : PE X a ta) (hb : PE X b tb) : PE X (.IfExp c a b pos) (tIf tA ta tb) := by
  intro pins s σ H Q I h
  refine wpAny_IfExp (thn (hc pins s σ H _ I h) fun d s1 ⟨H1, I1, q1⟩ => ?_)
  cases d with
  | true => exact ha pins s1 σ H1 Q I1 q1
  | false => exact hb pins s1 σ H1 Q I1 q1
end
end L2
namespace L2
open PySem PySem.Spec PyProof.Rows
noncomputable def SqL (K : PySem.W.Frag) (H : Hp) (a : Addr) (xs : List V) : Prop :=
  Rd H a (.lst xs) ∨
    ∃ (o : Obj) (its : Array Value) (n : Nat), K.lookup a = some o ∧ o.cls = .type "list" ∧ o.dict = none ∧ o.data = .seq its n ∧ its.size ≤ sizeLine ∧ Vals xs its.toList
noncomputable def SqT (K : PySem.W.Frag) (H : Hp) (a : Addr) (xs : List V) : Prop :=
  Rd H a (.tup xs) ∨
    ∃ (o : Obj) (its : Array Value) (n : Nat), K.lookup a = some o ∧ o.cls = .type "tuple" ∧ o.data = .seq its n ∧ its.size ≤ sizeLine ∧ Vals xs its.toList
noncomputable def absV : Value → Option V
  | .none => some .non
  | .bool b => some (.bl b)
  | .int i _ => some (.int i)
  | .str x _ => some (.str x)
  | .bytes b _ => some (.byt b)
  | .float b _ => some (.flt b)
  | .ref a => some (.ref a)
  | .type n => some (.ty n)
  | _ => none
theorem RelV.abs {x : V} {u : Value} (r : RelV x u) : absV u = some x := by
  cases x with
  | non => cases r; rfl
  | bl _ => cases r; rfl
  | int _ => obtain ⟨t, rfl⟩ := r; rfl
  | str _ => obtain ⟨t, rfl⟩ := r; rfl
  | byt _ => obtain ⟨t, rfl⟩ := r; rfl
  | flt _ => obtain ⟨t, rfl⟩ := r; rfl
  | ref _ => cases r; rfl
  | ty _ => cases r; rfl
theorem RelV.inj {x y : V} {u : Value} (r : RelV x u) (q : RelV y u) : x = y := Option.some.inj (r.abs.symm.trans q.abs)
theorem Vals.inj : ∀ {xs ys : List V} {us : List Value}, Vals xs us → Vals ys us → xs = ys
  | _, _, _, .nil, .nil => rfl
  | _, _, _, .cons r t, .cons r' t' => by rw [r.inj r', Vals.inj t t']
section
variable {X : Cx} {pins : List (Addr × Obj)} {σ : St} {H : Hp} {s : Shared} {a : Addr} {xs ys : List V}
theorem SqL.of {K : PySem.W.Frag} (h : H a = some (.lst xs)) : SqL K H a xs := .inl (.inl h)
theorem SqT.of {K : PySem.W.Frag} (h : H a = some (.tup xs)) : SqT K H a xs := .inl (.inl h)
theorem Inv.list (I : Inv X pins σ H s) (h : SqL X.K H a xs) : ∃ its : List Value, Vals xs its ∧ PlainL s.heap a its.toArray ∧ xs.length ≤ sizeLine := by
  rcases h with h | ⟨o, its, n, hk, hc, hd, hs, hz, r⟩
  · obtain ⟨z, its, n, r, e⟩ := h.ok I.hok
    exact ⟨its, r, ⟨_, n, e, rfl, rfl, rfl⟩, z⟩
  · refine ⟨its.toList, r, ⟨o, n, I.kIn a o hk, hc, hd, by simpa using hs⟩, ?_⟩
    have e := r.length
    simp only [Array.length_toList] at e
    omega
theorem Inv.tuple (I : Inv X pins σ H s) (h : SqT X.K H a xs) : ∃ its : List Value, Vals xs its ∧ IsTup s.heap a its.toArray ∧ xs.length ≤ sizeLine := by
  rcases h with h | ⟨o, its, n, hk, hc, hs, hz, r⟩
  · obtain ⟨z, its, r, p⟩ := h.ok I.hok
    exact ⟨its, r, p, z⟩
  · refine ⟨its.toList, r, ⟨o, I.kIn a o hk, hc, n, by simpa using hs⟩, ?_⟩
    have e := r.length
    simp only [Array.length_toList] at e
    omega
theorem Inv.list_inj (I : Inv X pins σ H s) (h : SqL X.K H a xs) (h' : SqL X.K H a ys) : xs = ys := by
  obtain ⟨its, r, ⟨o, n, e, _, _, d⟩, _⟩ := I.list h
  obtain ⟨its', r', ⟨o', n', e', _, _, d'⟩, _⟩ := I.list h'
  rw [e] at e'; cases e'
  rw [d] at d'
  injection d' with d1 _
  have : its = its' := by simpa using congrArg Array.toList d1
  subst this
  exact r.inj r'
theorem Inv.tuple_inj (I : Inv X pins σ H s) (h : SqT X.K H a xs) (h' : SqT X.K H a ys) : xs = ys := by
  obtain ⟨its, r, ⟨o, e, _, n, d⟩, _⟩ := I.tuple h
  obtain ⟨its', r', ⟨o', e', _, n', d'⟩, _⟩ := I.tuple h'
  rw [e] at e'; cases e'
  rw [d] at d'
  injection d' with d1 _
  have : its = its' := by simpa using congrArg Array.toList d1
  subst this
  exact r.inj r'
end
noncomputable abbrev Cx.wish (X : Cx) (E : Value → Shared → Prop) : Cx := { X with xe := E }
noncomputable abbrev Cx.nox (X : Cx) : Cx := X.wish fun _ _ => False
theorem Cx.Ok.wish {X : Cx} (ok : X.Ok) (E : Value → Shared → Prop) : (X.wish E).Ok :=
  ⟨ok.mod, ok.kind, ok.glob, ok.blt, ok.above, ok.inj, ok.has, ok.cab, ok.hd, ok.frames, ok.stk, ok.exf, ok.bs, ok.bsz, ok.noex, ok.exfs, ok.funs, ok.frf⟩
theorem Cx.Ok.unwish {X : Cx} {E : Value → Shared → Prop} (ok : (X.wish E).Ok) : X.Ok :=
  ⟨ok.mod, ok.kind, ok.glob, ok.blt, ok.above, ok.inj, ok.has, ok.cab, ok.hd, ok.frames, ok.stk, ok.exf, ok.bs, ok.bsz, ok.noex, ok.exfs, ok.funs, ok.frf⟩
section
variable {X : Cx} {pins : List (Addr × Obj)} {σ : St} {H : Hp} {s : Shared} {E : Value → Shared → Prop}
theorem Inv.wish (I : Inv X pins σ H s) (E : Value → Shared → Prop) : Inv (X.wish E) pins σ H s := ⟨I.ok.wish E, I.os, I.bare, I.base, I.loc, I.cell, I.free, I.freeC, I.pin, I.hok, I.len⟩
theorem Inv.unwish (I : Inv (X.wish E) pins σ H s) : Inv X pins σ H s := ⟨I.ok.unwish, I.os, I.bare, I.base, I.loc, I.cell, I.free, I.freeC, I.pin, I.hok, I.len⟩
theorem SP.unwish {D : Ends} {f : Flow} {s' : Shared} (h : SP (X.wish E) pins D f s') : SP X pins D f s' := by
  cases f with
  | next => obtain ⟨σ', H', I, q⟩ := h; exact ⟨σ', H', I.unwish, q⟩
  | brk => obtain ⟨σ', H', I, q⟩ := h; exact ⟨σ', H', I.unwish, q⟩
  | cont => obtain ⟨σ', H', I, q⟩ := h; exact ⟨σ', H', I.unwish, q⟩
  | ret u => obtain ⟨v, σ', H', I, r, q⟩ := h; exact ⟨v, σ', H', I.unwish, r, q⟩
theorem PE.nox {e : Expr} {t : TE} (h : PE X.nox e t) : PE X e t := fun pins s σ H Q I hw =>
  wpAny_mono (h pins s σ H Q (I.wish _) hw) (fun _ _ ⟨v, H', I', r, q⟩ => ⟨v, H', I'.unwish, r, q⟩) fun _ _ z => False.elim z
theorem PT.nox {e : Expr} {t : TT} (h : PT X.nox e t) : PT X e t := fun pins s σ H Q I hw =>
  wpAny_mono (h pins s σ H Q (I.wish _) hw) (fun _ _ ⟨H', I', q⟩ => ⟨H', I'.unwish, q⟩) fun _ _ z => False.elim z
theorem PSs.nox {st : List Stmt} {t : TS} (h : PSs X.nox st t) : PSs X st t := fun pins s σ H D I hw =>
  wpAny_mono (h pins s σ H D (I.wish _) hw) (fun _ _ q => q.unwish) fun _ _ z => False.elim z
end
section
variable {X : Cx} {st : Stmt} {rest : List Stmt} {t u : TS} {e : Expr} {te : TE} {pos : Pos}
noncomputable def tNext : TS := fun D σ H => D.nx σ H
noncomputable def tSeq (t u : TS) : TS := fun D σ H => t { D with nx := u D } σ H
theorem pss_nil : PSs X [] tNext := fun _ _ σ H _ I h => wpAny_execs_nil ⟨σ, H, I, h⟩
theorem pss_cons (h1 : PS X st t) (h2 : PSs X rest u) : PSs X (st :: rest) (tSeq t u) := by
  intro pins s σ H D I h
  refine wpAny_execs_cons (thn (h1 pins s σ H { D with nx := u D } I h) fun f s1 q => ?_)
  cases f with
  | next =>
    obtain ⟨σ', H', I', q⟩ := q
    exact h2 pins s1 σ' H' D I' q
  | ret v => exact q
  | brk => exact q
  | cont => exact q
theorem pss_one (h1 : PS X st t) : PSs X [st] t := by
  intro pins s σ H D I h
  refine wpAny_execs_cons (thn (h1 pins s σ H D I h) fun f s1 q => ?_)
  cases f with
  | next => exact wpAny_execs_nil q
  | ret v => exact q
  | brk => exact q
  | cont => exact q
noncomputable def tBreak : TS := fun D σ H => D.bk σ H
noncomputable def tCont : TS := fun D σ H => D.ct σ H
theorem Inv.quiet {pins : List (Addr × Obj)} {σ : St} {H : Hp} {s : Shared} (I : Inv X pins σ H s) : interactive X.env = false := by simp [interactive, I.ok.kind]
noncomputable def tDrop (te : TE) : TS := fun D σ H => te σ H fun _ H1 => D.nx σ H1
theorem ps_expr (he : PE X e te) (hs : swapsWith e none pos.line X.env = pure false := by rfl) : PS X (.Expr e pos) (tDrop te) := by
  intro pins s σ H D I h
  exact wpAny_Expr_any (thn (he pins s σ H _ I h) fun v s1 ⟨x, H1, I1, r1, q1⟩ => ⟨σ, H1, I1, q1⟩) I.quiet hs
noncomputable def tRet (te : TE) : TS := fun D σ H => te σ H D.rt
theorem ps_ret (he : PE X e te) : PS X (.Return (some e) pos) (tRet te) := by
  intro pins s σ H D I h
  exact wpAny_Return_some (thn (he pins s σ H _ I h) fun v s1 ⟨x, H1, I1, r1, q1⟩ => ⟨x, σ, H1, I1, r1, q1⟩)
noncomputable def tRetN : TS := fun D _ H => D.rt .non H
noncomputable def tIfS (c : TT) (t u : TS) : TS := fun D σ H => c σ H fun b H1 => if b = true then t D σ H1 else u D σ H1
theorem ps_if {c : Expr} {a b : List Stmt} {tc : TT} (hc : PT X c tc) (ha : PSs X a t) (hb : PSs X b u) : PS X (.If c a b pos) (tIfS tc t u) := by
  intro pins s σ H D I h
  refine wpAny_If (thn (hc pins s σ H _ I h) fun d s1 ⟨H1, I1, q1⟩ => ?_)
  cases d with
  | true => exact ha pins s1 σ H1 D I1 q1
  | false => exact hb pins s1 σ H1 D I1 q1
noncomputable def tNever : TS := fun _ _ _ => False
end
noncomputable abbrev TG := V → St → Hp → (St → Hp → Prop) → Prop
noncomputable abbrev TGs := List V → St → Hp → (St → Hp → Prop) → Prop
noncomputable def PG (X : Cx) (target : Expr) (t : TG) : Prop :=
  ∀ (pins : List (Addr × Obj)) (s : Shared) (σ : St) (H : Hp) (v : V) (u : Value) (Q : St → Hp → Prop), Inv X pins σ H s → RelV v u → t v σ H Q →
    wpAny (model X.prog X.w) X.A (assign target X.env u) (fun _ s' => ∃ σ' H', Inv X pins σ' H' s' ∧ Q σ' H') X.xe s
noncomputable def PGs (X : Cx) (ts : List Expr) (t : TGs) : Prop :=
  ∀ (pins : List (Addr × Obj)) (s : Shared) (σ : St) (H : Hp) (vs : List V) (us : List Value) (Q : St → Hp → Prop), Inv X pins σ H s → Vals vs us → t vs σ H Q →
    wpAny (model X.prog X.w) X.A (assignInOrder ((assignEach ts X.env).map (·.2)) us) (fun _ s' => ∃ σ' H', Inv X pins σ' H' s' ∧ Q σ' H') X.xe s
noncomputable abbrev TSet := V → V → V → Hp → (Hp → Prop) → Prop
noncomputable def PSet (X : Cx) (t : TSet) : Prop :=
  ∀ (pins : List (Addr × Obj)) (s : Shared) (σ : St) (H : Hp) (o i v : V) (ov iv u : Value) (Q : Hp → Prop), Inv X pins σ H s → RelV o ov → RelV i iv → RelV v u → t o i v H Q →
    wpAny (model X.prog X.w) X.A (setItem ov iv u) (fun _ s' => ∃ H', Inv X pins σ H' s' ∧ Q H') X.xe s
noncomputable abbrev TIp := V → V → Hp → VK → Prop
noncomputable def PIp (X : Cx) (op : Operator) (t : TIp) : Prop :=
  ∀ (pins : List (Addr × Obj)) (s : Shared) (σ : St) (H : Hp) (x y : V) (v u : Value) (Q : VK), Inv X pins σ H s → RelV x v → RelV y u → t x y H Q →
    wpAny (model X.prog X.w) X.A (inplaceOp op v u) (EP X pins σ Q) X.xe s
section
variable {X : Cx} {pos : Pos}
noncomputable def gName (i : Nat) : TG := fun v σ H Q => Q (σ.set i (some v)) H
theorem pg_name {i : Nat} {x : Str} (hN : X.N.Nodup) (hi : X.N[i]? = some x) (hx : Loc X.env.scope x) (hf : X.fn x = true ∨ X.env.scope.names.lookup x = some .local := by first | exact .inl rfl | exact .inr rfl | assumption) : PG X (.Name x pos) (gName i) := by
  intro pins s σ H v u Q I r h
  exact wpAny_assign_Name (store_ok I hN hi hx r (fun s' I' => ⟨_, H, I', h⟩) hf)
noncomputable def gNil : TGs := fun vs σ H Q => vs = [] ∧ Q σ H
noncomputable def gCons (t : TG) (u : TGs) : TGs := fun vs σ H Q => ∃ v r, vs = v :: r ∧ t v σ H fun σ' H' => u r σ' H' Q
theorem pgs_nil : PGs X [] gNil := by
  intro pins s σ H vs us Q I r h
  obtain ⟨e, h⟩ := h
  subst e
  cases r
  exact assignInOrder_nil ⟨σ, H, I, h⟩
theorem pgs_cons {e : Expr} {es : List Expr} {t : TG} {u : TGs} (h1 : PG X e t) (h2 : PGs X es u)
    (hs : (assignEach (e :: es) X.env).map (·.2) = assign e X.env :: (assignEach es X.env).map (·.2) := by rfl) : PGs X (e :: es) (gCons t u) := by
  intro pins s σ H vs us Q I r h
  obtain ⟨v, vr, e1, h⟩ := h
  subst e1
  cases r with
  | cons r rr =>
    rw [hs]
    refine assignInOrder_cons (thn (h1 pins s σ H _ _ _ I r h) fun _ s1 ⟨σ1, H1, I1, q1⟩ => ?_)
    exact h2 pins s1 σ1 H1 _ _ Q I1 rr q1
noncomputable def gTup (K : PySem.W.Frag) (n : Nat) (t : TGs) : TG := fun v σ H Q => ∃ a xs, v = .ref a ∧ SqT K H a xs ∧ xs.length = n ∧ t xs σ H Q
theorem pg_tup {es : List Expr} {k : Nat} {t : TGs} {n : Nat} (hc : X.calm = true) (h : PGs X es t)
    (hn : (assignEach es X.env).length = n := by rfl) (hst : (assignEach es X.env).findIdx? (·.1) = none := by rfl) : PG X (.Tuple es k pos) (gTup X.K n t) := by
  intro pins s σ H v u Q I r hw
  obtain ⟨a, xs, e1, hq, hl, hw⟩ := hw
  subst e1
  cases r
  obtain ⟨its, rv, ht, hz⟩ := I.tuple hq
  refine assign_Tuple_tuple (I.ok.hd hc) ht (by simp [hn, ← hl, rv.length]) hst fun h' hx => ?_
  have I1 : Inv X pins σ H { s with heap := h' } := I.kept (t' := s.toks) fun b o e => hx b o (Nat.ne_of_lt (Heap.lt_size e)) e
  exact h pins _ σ H xs _ Q I1 (by simpa using rv) hw
noncomputable def gSub (to ti : TE) (t : TSet) : TG := fun v σ H Q => to σ H fun o H1 => ti σ H1 fun i H2 => t o i v H2 fun H3 => Q σ H3
theorem pg_sub {o i : Expr} {to ti : TE} {t : TSet} (ho : PE X o to) (hi : PE X i ti) (hs : PSet X t)
    (ha : ∀ v, assign (.Subscript o i pos) X.env v = (do
      let ov ← holding [v] (eval o X.env)
      let iv ← holding [v, ov] (eval i X.env)
      standAt pos
      holding [v, ov, iv] (setItem ov iv v)
      release [v, ov, iv] []) := by intro _; rfl) : PG X (.Subscript o i pos) (gSub to ti t) := by
  intro pins s σ H v u Q I r h
  rw [ha]
  refine wpAny_bind (wpAny_holding (thn (ho pins s σ H _ I h) fun ov s1 ⟨x, H1, I1, r1, q1⟩ => ?_))
  refine wpAny_bind (wpAny_holding (thn (hi pins s1 σ H1 _ I1 q1) fun iv s2 ⟨y, H2, I2, r2, q2⟩ => ?_))
  refine wpAny_bind (wpAny_standAt (wpAny_bind (wpAny_holding (thn (hs pins s2 σ H2 x y v ov iv u _ I2 r1 r2 r q2) fun _ s3 ⟨H3, I3, q3⟩ => ?_))))
  exact wpAny_release ⟨σ, H3, I3, q3⟩
noncomputable def tAsg (te : TE) (g : TG) : TS := fun D σ H => te σ H fun x H1 => g x σ H1 D.nx
theorem ps_asg {tg e : Expr} {te : TE} {g : TG} (he : PE X e te) (hg : PG X tg g) (hs : swapsWithSole [tg] e pos.line X.env = pure false := by rfl) (hw : swappedStores [tg] e X.env = pure none := by rfl)
    (h1 : (assignEach [tg] X.env).map (·.2) = [assign tg X.env] := by rfl) : PS X (.Assign [tg] e pos) (tAsg te g) := by
  intro pins s σ H D I h
  refine wpAny_Assign_stores (thn (he pins s σ H _ I h) fun v s1 ⟨x, H1, I1, r1, q1⟩ => ?_) hs hw
  rw [h1]
  exact thn (hg pins s1 σ H1 x v _ I1 r1 q1) fun _ s2 q => q
theorem ps_set {i : Nat} {x : Str} {e : Expr} {te : TE} {pos' : Pos} (hN : X.N.Nodup) (hi : X.N[i]? = some x) (hx : Loc X.env.scope x) (he : PE X e te) (hs : swapsWith e (some (.Name x pos')) pos.line X.env = pure false := by rfl) (hf : X.fn x = true ∨ X.env.scope.names.lookup x = some .local := by first | exact .inl rfl | exact .inr rfl | assumption) :
    PS X (.Assign [.Name x pos'] e pos) (tAsg te (gName i)) := by
  intro pins s σ H D I h
  refine wpAny_Assign_Name (thn (he pins s σ H _ I h) fun v s1 ⟨y, H1, I1, r1, q1⟩ => ?_) hs
  exact store_ok I1 hN hi hx r1 (fun s2 I2 => ⟨_, H1, I2, q1⟩) hf
noncomputable def tPar (i j : Nat) (ta : TA) : TS := fun D σ H => ta σ H fun vs H1 => ∃ v w, vs = [v, w] ∧ D.nx ((σ.set i (some v)).set j (some w)) H1
theorem ps_par {i j : Nat} {x y : Str} {a b : Expr} {ta : TA} {px py pt : Pos} {kt k2 pt2} (hc : X.calm = true) (hN : X.N.Nodup) (hi : X.N[i]? = some x) (hj : X.N[j]? = some y) (hij : i ≠ j)
    (hx : X.env.scope.names.lookup x = some .local) (hy : X.env.scope.names.lookup y = some .local) (ha : PA X [a, b] ta)
    (hw : swappedStores [.Tuple [.Name x px, .Name y py] kt pt] (.Tuple [a, b] k2 pt2) X.env = pure (some [x, y]))
    (hs : swapsWithSole [.Tuple [.Name x px, .Name y py] kt pt] (.Tuple [a, b] k2 pt2) pos.line X.env = pure false := by rfl) :
    PS X (.Assign [.Tuple [.Name x px, .Name y py] kt pt] (.Tuple [a, b] k2 pt2) pos) (tPar i j ta) := by
  intro pins s σ H D I h
  rw [exec_Assign_arm]
  refine wpAny_bind (wpAny_standAt ?_)
  rw [hs]
  refine wpAny_bind (wpAny_pure ?_)
  rw [if_neg (by decide)]
  refine wpAny_bind (Tuple_ (thn (ha _ pins s σ H _ I h) fun us s1 ⟨vs, H1, I1, r1, q1⟩ => ?_))
  obtain ⟨v, w, e1, q1⟩ := q1
  subst e1
  obtain ⟨u1, u2, rfl, rv, rw'⟩ : ∃ u1 u2, us = [u1, u2] ∧ RelV v u1 ∧ RelV w u2 := by
    cases r1 with
    | cons p q =>
      cases q with
      | cons p' q' =>
        cases q'
        exact ⟨_, _, rfl, p, p'⟩
  refine wpAny_newObj_type ?_ (by show 2 ≤ sizeLine; decide)
  have I2 : Inv X pins σ H1 { s1 with heap := s1.heap.push { cls := .type "tuple", data := .seq [u1, u2].toArray } } := I1.kept (t' := s1.toks) fun b o e => Heap.get?_push_of_some _ e
  rw [hw]
  refine wpAny_bind (wpAny_pure ?_)
  show wpAny (model X.prog X.w) X.A (do rule "assign.swapped-stores"; let items ← unpackItems (.ref s1.heap.objs.size) 2 none; assignInOrder [fun v => bindName X.env y v, fun v => bindName X.env x v] items.reverse; pure Flow.next) _ _ _
  refine wpAny_bind (wpAny_rule (wpAny_bind (unpackItems_tuple (items := #[u1, u2]) (I.ok.hd hc) (IsTup.new s1.heap _) fun h' hx' => ?_)))
  have I3 := I2.kept (h' := h') (t' := s1.toks) fun b o e => hx' b o (Nat.ne_of_lt (Heap.lt_size e)) e
  show wpAny _ _ (assignInOrder [fun v => bindName X.env y v, fun v => bindName X.env x v] [u2, u1] >>= fun _ => pure Flow.next) _ _ _
  refine wpAny_bind (assignInOrder_cons (wpAny_bindName (store_ok I3 hN hj (.inl hy) rw' (fun s2 I4 => ?_) (.inr hy))))
  refine assignInOrder_cons (wpAny_bindName (store_ok I4 hN hi (.inl hx) rv (fun s3 I5 => assignInOrder_nil (wpAny_pure ?_)) (.inr hx)))
  rw [List.set_comm _ _ (Ne.symm hij)] at I5
  exact ⟨_, H1, I5, q1⟩
noncomputable def tAug (i : Nat) (te : TE) (ti : TIp) : TS := fun D σ H => ∃ x, σ[i]? = some (some x) ∧ te σ H fun y H1 => ti x y H1 fun z H2 => D.nx (σ.set i (some z)) H2
theorem ps_aug {i : Nat} {x : Str} {e : Expr} {te : TE} {op : Operator} {ti : TIp} {pos' : Pos} (hN : X.N.Nodup) (hi : X.N[i]? = some x) (hx : Loc X.env.scope x) (he : PE X e te) (ho : PIp X op ti) (hf : X.fn x = true ∨ X.env.scope.names.lookup x = some .local := by first | exact .inl rfl | exact .inr rfl | assumption) :
    PS X (.AugAssign (.Name x pos') op e pos) (tAug i te ti) := by
  intro pins s σ H D I h
  obtain ⟨v, e1, h⟩ := h
  obtain ⟨m, hn, hl⟩ := I.loc
  have vis : Vis X.env.scope x := by rcases hx with k | k; exact .inl k; exact .inr (.inl k)
  obtain ⟨u, r, l⟩ := hl i x v hi e1 vis
  refine wpAny_AugAssign_Name ?_
  have go : wpAny (model X.prog X.w) X.A (eval e X.env) (fun w s₂ => wpAny (model X.prog X.w) X.A (inplaceOp op u w) (fun r s₃ => wpAny (model X.prog X.w) X.A (storeName X.env x r) (fun _ => SP X pins D .next) X.xe s₃) X.xe s₂) X.xe s := by
    refine thn (he pins s σ H _ I h) fun w s1 ⟨y, H1, I1, r1, q1⟩ => ?_
    refine thn (ho pins s1 σ H1 v y u w _ I1 r r1 q1) fun z s2 ⟨zv, H2, I2, r2, q2⟩ => ?_
    exact store_ok I2 hN hi hx r2 (fun s3 I3 => ⟨_, H2, I3, q2⟩) hf
  rcases l with ⟨hk, hm⟩ | ⟨hk, c, hc, hcell⟩
  · exact wpAny_loadName_local I.ok.kind hk hn hm go
  · rcases hk with hk | hk
    · exact wpAny_loadName_cell I.ok.kind hk hc hcell go
    · rcases hx with k | k
      · have : X.env.scope.names.lookup x = some .free := hk
        rw [k] at this; cases this
      · have : X.env.scope.names.lookup x = some .free := hk
        rw [k] at this; cases this
noncomputable def tAugS (to ti te : TE) (tget : V → V → Hp → VK → Prop) (tip : TIp) (tset : TSet) : TS := fun D σ H => to σ H fun o H1 => ti σ H1 fun i H2 => tget o i H2 fun x H3 => te σ H3 fun y H4 => tip x y H4 fun z H5 => tset o i z H5 fun H6 => D.nx σ H6
noncomputable def PGet (X : Cx) (t : V → V → Hp → VK → Prop) : Prop :=
  ∀ (pins : List (Addr × Obj)) (s : Shared) (σ : St) (H : Hp) (o i : V) (ov iv : Value) (Q : VK), Inv X pins σ H s → RelV o ov → RelV i iv → t o i H Q →
    wpAny (model X.prog X.w) X.A (getItem ov iv) (EP X pins σ Q) X.xe s
noncomputable def ipI (f : Int → Int → Int) : TIp := fun x y H Q => ∃ i j, x = .int i ∧ y = .int j ∧ Q (.int (f i j)) H
theorem ip_add : PIp X .Add (ipI fun i j => i + j) := by
  intro pins s σ H x y v u Q I r1 r2 h
  obtain ⟨i, j, e1, e2, q⟩ := h
  subst e1; subst e2
  obtain ⟨t, rfl⟩ := r1
  obtain ⟨t', rfl⟩ := r2
  exact iadd_int ⟨.int _, H, I.tok _, ⟨_, rfl⟩, q⟩
end
section
variable {X : Cx} {pos : Pos}
noncomputable def tWhile (c : TT) (tb : TS) : TS := fun D σ H => ∃ W : Nat → St → Hp → Prop, (∃ m, W m σ H) ∧ ∀ m σ H, W m σ H →
  c σ H fun b H1 => if b = true then ∃ N : St → Hp → Prop, (∀ σ' H', N σ' H' → ∃ m', m' < m ∧ W m' σ' H') ∧ tb { D with nx := N, ct := N, bk := D.nx } σ H1 else D.nx σ H1
theorem ps_while {c : Expr} {body : List Stmt} {tc : TT} {tb : TS} (hp : PassesOwn (model X.prog X.w) X.A X.env X.xe) (hc : PT X c tc) (hb : PSs X body tb) : PS X (.While c body [] pos) (tWhile tc tb) := by
  intro pins s σ H D I h
  obtain ⟨W, ⟨m0, w0⟩, turn⟩ := h
  refine wpAny_While (codeAny_whileLoop (fun n s' => ∃ σ' H', Inv X pins σ' H' s' ∧ W n σ' H') ?_ m0 ⟨σ, H, I, w0⟩)
  rintro n s1 ⟨σ1, H1, I1, w1⟩
  refine wpAny_passesOwn hp (thn (hc pins s1 σ1 H1 _ I1 (turn n σ1 H1 w1)) fun b s2 ⟨H2, I2, q2⟩ => ?_)
  cases b with
  | true =>
    obtain ⟨N, hN, q2⟩ := q2
    rw [if_pos rfl]
    refine wpAny_passesOwn hp (thn (hb pins s2 σ1 H2 _ I2 q2) fun f s3 q3 => ?_)
    cases f with
    | next =>
      obtain ⟨σ3, H3, I3, n3⟩ := q3
      obtain ⟨m', hm, w3⟩ := hN σ3 H3 n3
      exact ⟨m', hm, σ3, H3, I3, w3⟩
    | cont =>
      obtain ⟨σ3, H3, I3, n3⟩ := q3
      obtain ⟨m', hm, w3⟩ := hN σ3 H3 n3
      exact ⟨m', hm, σ3, H3, I3, w3⟩
    | brk => exact q3
    | ret v => exact q3
  | false =>
    rw [if_neg Bool.false_ne_true]
    exact wpAny_execs_nil ⟨σ1, H2, I2, q2⟩
end
structure It where
  go : Nat → Hp → Prop
  yld : Nat → Hp → V → Hp → Prop
  stop : Nat → Hp → Prop
noncomputable def FpOk (X : Cx) (pins : List (Addr × Obj)) (H : Hp) (b : Addr) : Prop :=
  H b = none ∧ b ≠ X.env.locals ∧ b ∉ X.fs ∧ (b ∈ X.ex ∨ X.s₀.heap.objs.size ≤ b) ∧ (∀ x c, X.env.cells.lookup x = some c → c ≠ b) ∧ ∀ p ∈ X.pn ++ pins, p.1 ≠ b
theorem Inv.fpOk {X : Cx} {pins : List (Addr × Obj)} {σ : St} {H H' : Hp} {s : Shared} {b : Addr} (I : Inv X pins σ H s) (hb : s.heap.objs.size ≤ b) (hn : H' b = none) : FpOk X pins H' b := by
  refine ⟨hn, Nat.ne_of_gt (Nat.lt_of_lt_of_le I.lt hb), I.nofs hb, .inr (Nat.le_trans I.sz hb), fun x c e z => ?_, fun p hp z => ?_⟩
  · obtain ⟨v, q⟩ := I.cell x c e
    exact absurd (Nat.lt_of_lt_of_le q.lt (by rw [z]; exact hb)) (Nat.lt_irrefl _)
  · exact absurd (Nat.lt_of_lt_of_le (Heap.lt_size (I.pin p hp).1) (by rw [z]; exact hb)) (Nat.lt_irrefl _)
structure Turn (P : Program) (w : World) (K : PySem.W.Frag) (tg : Expr) (J : It) (fp : List Addr) (it : Addr) (tn : Nat → Heap → Prop) : Prop where
  mem : it ∈ fp
  obj : ∀ i h, tn i h → ∀ b ∈ fp, ∃ o, h.get? b = some o ∧ ∀ v, o.data ≠ .cell v
  keep : ∀ i h h', tn i h → (∀ b ∈ fp, ∀ o, h.get? b = some o → h'.get? b = some o) → tn i h'
  item : ∀ (X : Cx), X.prog = P → X.w = w → X.K = K → X.calm = true → ∀ (i : Nat) (pins : List (Addr × Obj)) (s : Shared) (σ : St) (H : Hp) (E : Value → Shared → Prop), Inv X pins σ H s → (∀ b ∈ fp, FpOk X pins H b) → tn i s.heap → J.go i H →
    wpAny (model P w) X.A (pyNext (.ref it)) (fun r s1 => ∃ u, r = some u ∧
      wpAny (model P w) X.A (letOwnedTupleGo tg (.ref it) u) (fun _ s2 => ∃ x H', Inv X pins σ H' s2 ∧ RelV x u ∧ J.yld i H x H' ∧ tn (i + 1) s2.heap ∧ ∀ b ∈ fp, H' b = none) E s1) E s
  done : ∀ (X : Cx), X.prog = P → X.w = w → X.K = K → X.calm = true → ∀ (i : Nat) (pins : List (Addr × Obj)) (s : Shared) (σ : St) (H : Hp) (E : Value → Shared → Prop), Inv X pins σ H s → (∀ b ∈ fp, FpOk X pins H b) → tn i s.heap → J.stop i H →
    wpAny (model P w) X.A (pyNext (.ref it)) (fun r s1 => r = none ∧ Inv X pins σ H s1) E s
  self : ∀ (A : Around) (i : Nat) (s : Shared) (Q : Value → Shared → Prop) (E : Value → Shared → Prop), tn i s.heap → Q (.ref it) s → wpAny (model P w) A (pyIter (.ref it)) Q E s
noncomputable abbrev TI := St → Hp → (It → Hp → Prop) → Prop
noncomputable def PIE (X : Cx) (pins : List (Addr × Obj)) (σ : St) (tg : Expr) (R : It → Hp → Prop) (itv : Value) (s2 : Shared) : Prop :=
  ∃ (it : Addr) (fp : List Addr) (tn : Nat → Heap → Prop) (J : It) (H' : Hp), itv = .ref it ∧ Inv X pins σ H' s2 ∧ Turn X.prog X.w X.K tg J fp it tn ∧ tn 0 s2.heap ∧ (∀ b ∈ fp, FpOk X pins H' b) ∧ R J H'
noncomputable def PI (X : Cx) (tg iter : Expr) (wi : TI) : Prop :=
  ∀ (pins : List (Addr × Obj)) (s : Shared) (σ : St) (H : Hp) (R : It → Hp → Prop), Inv X pins σ H s → wi σ H R →
    wpAny (model X.prog X.w) X.A (eval iter X.env) (fun v s1 => wpAny (model X.prog X.w) X.A (pyIter v) (PIE X pins σ tg R) X.xe s1) X.xe s
theorem go_of {M : Model} {A : Around} {E : Value → Shared → Prop} {s : Shared} {tg : Expr} {it : Addr} {u : Value} {o : Obj} {n : String} {vs : Array Value} {Q : Unit → Shared → Prop} (ho : s.heap.get? it = some o) (hc : o.cls = .type n) (hd : o.data = .fields vs)
    (hn : ["enumerate", "zip", "dict_itemiterator", "dict_reverseitemiterator", "odict_iterator", "itertools.zip_longest", "itertools.pairwise"].contains n = false) (hQ : Q () s) : wpAny M A (letOwnedTupleGo tg (.ref it) u) Q E s := by
  unfold letOwnedTupleGo
  cases tg <;> first
    | exact wpAny_pure hQ
    | (cases u <;> first
        | exact wpAny_pure hQ
        | (refine wpAny_bind (wpAny_load ho ?_)
           rw [hc, hd]
           show wpAny M A (if (["enumerate", "zip", "dict_itemiterator", "dict_reverseitemiterator", "odict_iterator", "itertools.zip_longest", "itertools.pairwise"].contains n && vs[0]? == some (rawInt _)) = true then _ else _) Q E s
           rw [if_neg (by intro h; rw [hn, Bool.false_and] at h; cases h)]
           exact wpAny_pure hQ))
noncomputable def Itl (K : PySem.W.Frag) (a : Addr) : It :=
  ⟨fun i H => ∃ xs x, SqL K H a xs ∧ xs[i]? = some x, fun i H x H' => H' = H ∧ ∀ xs, SqL K H a xs → xs[i]? = some x, fun i H => ∃ xs, SqL K H a xs ∧ xs.length ≤ i⟩
noncomputable def Itt (K : PySem.W.Frag) (a : Addr) : It :=
  ⟨fun i H => ∃ xs x, SqT K H a xs ∧ xs[i]? = some x, fun i H x H' => H' = H ∧ ∀ xs, SqT K H a xs → xs[i]? = some x, fun i H => ∃ xs, SqT K H a xs ∧ xs.length ≤ i⟩
noncomputable def Itr (lo : Int) (n : Nat) : It := ⟨fun i _ => i < n, fun i H x H' => H' = H ∧ x = .int (lo + i), fun i _ => n ≤ i⟩
theorem turn_list {P : Program} {w : World} {K : PySem.W.Frag} {tg : Expr} (a it : Addr) : Turn P w K tg (Itl K a) [it] it (fun i h => h.IsListIter it a i) where
  mem := by simp
  obj := fun i h st b hb => by
    have e : b = it := by simpa using hb
    subst e
    obtain ⟨o, e, c, d⟩ := st
    exact ⟨o, e, fun v z => by rw [d] at z; cases z⟩
  keep := fun i h h' st k => st.at fun o e => k it (by simp) o e
  item := by
    intro X hP hw hK hc i pins s σ H E I hf st hg
    subst hP hw hK
    obtain ⟨xs, x, hq, hx⟩ := hg
    obtain ⟨its, rv, p, hz⟩ := I.list hq
    obtain ⟨u, hu, ru⟩ := rv.get hx
    obtain ⟨f0, f1, f2, f3, f4, f5⟩ := hf it (by simp)
    refine wpAny_pyNext_list_item st p.isList (x := u) (by simpa using hu) fun h' st' sb => ?_
    have I1 : Inv X pins σ H { s with heap := h' } := I.turned (t' := s.toks) (fun b o hb e => (sb.2 b hb).trans e) f0 f1 f3 f4 f5
    obtain ⟨o, e, c, d⟩ := id st'
    exact ⟨u, rfl, go_of (s := { s with heap := h' }) e c d (by decide) ⟨x, H, I1, ru, ⟨rfl, fun ys hy => by rw [I.list_inj hy hq]; exact hx⟩, st', fun b hb => (hf b hb).1⟩⟩
  done := by
    intro X hP hw hK hc i pins s σ H E I hf st hg
    subst hP hw hK
    obtain ⟨xs, hq, hx⟩ := hg
    obtain ⟨its, rv, p, hz⟩ := I.list hq
    obtain ⟨f0, f1, f2, f3, f4, f5⟩ := hf it (by simp)
    have hl := rv.length
    exact wpAny_pyNext_list_end (I.ok.hd hc) st p.isList (by simp; omega) fun h' eb => ⟨rfl, I.turned (t' := s.toks) (fun b o hb e => eb b o hb e) f0 f1 f3 f4 f5⟩
  self := fun _ _ _ _ _ st h => wpAny_pyIter_listiter st h
theorem turn_tuple {P : Program} {w : World} {K : PySem.W.Frag} {tg : Expr} (a it : Addr) : Turn P w K tg (Itt K a) [it] it (fun i h => h.IsTupleIter it a i) where
  mem := by simp
  obj := fun i h st b hb => by
    have e : b = it := by simpa using hb
    subst e
    obtain ⟨o, e, c, d⟩ := st
    exact ⟨o, e, fun v z => by rw [d] at z; cases z⟩
  keep := fun i h h' st k => st.at fun o e => k it (by simp) o e
  item := by
    intro X hP hw hK hc i pins s σ H E I hf st hg
    subst hP hw hK
    obtain ⟨xs, x, hq, hx⟩ := hg
    obtain ⟨its, rv, p, hz⟩ := I.tuple hq
    obtain ⟨u, hu, ru⟩ := rv.get hx
    obtain ⟨f0, f1, f2, f3, f4, f5⟩ := hf it (by simp)
    refine wpAny_pyNext_tuple_item st (show s.heap.IsTuple a its.toArray from p) (x := u) (by simpa using hu) fun h' st' sb => ?_
    have I1 : Inv X pins σ H { s with heap := h' } := I.turned (t' := s.toks) (fun b o hb e => (sb.2 b hb).trans e) f0 f1 f3 f4 f5
    obtain ⟨o, e, c, d⟩ := id st'
    exact ⟨u, rfl, go_of (s := { s with heap := h' }) e c d (by decide) ⟨x, H, I1, ru, ⟨rfl, fun ys hy => by rw [I.tuple_inj hy hq]; exact hx⟩, st', fun b hb => (hf b hb).1⟩⟩
  done := by
    intro X hP hw hK hc i pins s σ H E I hf st hg
    subst hP hw hK
    obtain ⟨xs, hq, hx⟩ := hg
    obtain ⟨its, rv, p, hz⟩ := I.tuple hq
    obtain ⟨f0, f1, f2, f3, f4, f5⟩ := hf it (by simp)
    have hl := rv.length
    exact wpAny_pyNext_tuple_end (I.ok.hd hc) st (show s.heap.IsTuple a its.toArray from p) (by simp; omega) fun h' eb => ⟨rfl, I.turned (t' := s.toks) (fun b o hb e => eb b o hb e) f0 f1 f3 f4 f5⟩
  self := fun _ _ _ _ _ st h => wpAny_pyIter_tupleiter st h
theorem turn_range {P : Program} {w : World} {K : PySem.W.Frag} {tg : Expr} (it : Addr) (lo : Int) (n : Nat) : Turn P w K tg (Itr lo n) [it] it (fun i h => IsRangeIter h it (lo + (i : Nat) * 1) ((n : Int) - (i : Nat)) 1) where
  mem := by simp
  obj := fun i h st b hb => by
    have e : b = it := by simpa using hb
    subst e
    exact ⟨_, st, fun v z => by
      have z' : Data.fields _ = Data.cell v := z
      cases z'⟩
  keep := fun i h h' st k => k it (by simp) _ st
  item := by
    intro X hP hw hK hc i pins s σ H E I hf st hg
    subst hP hw hK
    obtain ⟨f0, f1, f2, f3, f4, f5⟩ := hf it (by simp)
    have W := Walks.range (prog := X.prog) (w := X.w) (I.ok.hd hc) it lo 1 n
    refine W.item i s _ _ hg st fun v h' tk hv st' kk => ?_
    obtain ⟨t, rfl⟩ := hv
    have I1 : Inv X pins σ H { s with heap := h', toks := tk } := I.turned (fun b o hb e => kk b o (by simpa using hb) e) f0 f1 f3 f4 f5
    refine ⟨_, rfl, go_of (s := { s with heap := h', toks := tk }) (n := "range_iterator") st' rfl rfl (by decide) ⟨.int (lo + i), H, I1, ⟨t, ?_⟩, ⟨rfl, rfl⟩, st', fun b hb => (hf b hb).1⟩⟩
    rw [Int.mul_one]
  done := by
    intro X hP hw hK hc i pins s σ H E I hf st hg
    subst hP hw hK
    obtain ⟨f0, f1, f2, f3, f4, f5⟩ := hf it (by simp)
    exact wpAny_pyNext_range_end (I.ok.hd hc) st (by have : n ≤ i := hg; omega) fun h' eb => ⟨rfl, I.turned (t' := s.toks) (fun b o hb e => eb b o hb e) f0 f1 f3 f4 f5⟩
  self := fun _ _ _ _ _ st h => wpAny_pyIter_rangeiter st h
end L2
namespace L2
open PySem PySem.Spec PyProof.Rows
section
variable {X : Cx} {tg : Expr}
noncomputable def iList (K : PySem.W.Frag) (tl : TE) : TI := fun σ H R => tl σ H fun x H1 => ∃ a, x = .ref a ∧ (∃ xs, SqL K H1 a xs) ∧ R (Itl K a) H1
noncomputable def iTup (K : PySem.W.Frag) (tl : TE) : TI := fun σ H R => tl σ H fun x H1 => ∃ a, x = .ref a ∧ (∃ xs, SqT K H1 a xs) ∧ R (Itt K a) H1
theorem pi_list {l : Expr} {tl : TE} (hl : PE X l tl) : PI X tg l (iList X.K tl) := by
  intro pins s σ H R I h
  refine thn (hl pins s σ H _ I h) fun v s1 ⟨x, H1, I1, r1, q1⟩ => ?_
  obtain ⟨a, e, ⟨xs, hq⟩, q⟩ := q1
  subst e
  cases r1
  obtain ⟨its, rv, p, hz⟩ := I1.list hq
  refine wpAny_pyIter_list p.isList ?_
  refine ⟨s1.heap.objs.size, [s1.heap.objs.size], _, _, H1, rfl, I1.kept (t' := s1.toks) fun b o e => Heap.get?_push_of_some _ e, turn_list a _, ⟨_, Heap.get?_push_size _ rfl, rfl, rfl⟩, fun b hb => ?_, q⟩
  have e : b = s1.heap.objs.size := by simpa using hb
  subst e
  exact I1.fpOk (Nat.le_refl _) (I1.hok.fresh (Nat.le_refl _))
theorem pi_tup {l : Expr} {tl : TE} (hl : PE X l tl) : PI X tg l (iTup X.K tl) := by
  intro pins s σ H R I h
  refine thn (hl pins s σ H _ I h) fun v s1 ⟨x, H1, I1, r1, q1⟩ => ?_
  obtain ⟨a, e, ⟨xs, hq⟩, q⟩ := q1
  subst e
  cases r1
  obtain ⟨its, rv, p, hz⟩ := I1.tuple hq
  refine wpAny_pyIter_tuple (show s1.heap.IsTuple a its.toArray from p) ?_
  refine ⟨s1.heap.objs.size, [s1.heap.objs.size], _, _, H1, rfl, I1.kept (t' := s1.toks) fun b o e => Heap.get?_push_of_some _ e, turn_tuple a _, ⟨_, Heap.get?_push_size _ rfl, rfl, rfl⟩, fun b hb => ?_, q⟩
  have e : b = s1.heap.objs.size := by simpa using hb
  subst e
  exact I1.fpOk (Nat.le_refl _) (I1.hok.fresh (Nat.le_refl _))
theorem range_it {pins : List (Addr × Obj)} {σ : St} {H : Hp} {s : Shared} {R : It → Hp → Prop} {E : Value → Shared → Prop} {lo hi : Int} {t u v : Tok} {tk : Nat} (I : Inv X pins σ H s) (h1 : -(2 ^ 62) ≤ lo) (h2 : lo < 2 ^ 62) (h3 : -(2 ^ 62) ≤ hi) (h4 : hi < 2 ^ 62)
    (q : R (Itr lo (hi - lo).toNat) H) : wpAny (model X.prog X.w) X.A (pyIter (.ref s.heap.objs.size)) (PIE X pins σ tg R) E { s with heap := s.heap.push { cls := .type "range", data := .fields #[.int lo t, .int hi u, .int 1 v] }, toks := tk } := by
  refine wpAny_pyIter_range (IsRange.new ..) (small_one h1 h2 h3 h4) ?_
  have I1 : Inv X pins σ H { s with heap := s.heap.push { cls := .type "range", data := .fields #[.int lo t, .int hi u, .int 1 v] }, toks := tk } := I.kept fun b o e => Heap.get?_push_of_some _ e
  refine ⟨(s.heap.push { cls := .type "range", data := .fields #[.int lo t, .int hi u, .int 1 v] }).objs.size, [(s.heap.push { cls := .type "range", data := .fields #[.int lo t, .int hi u, .int 1 v] }).objs.size], _, _, H, rfl,
    I1.kept (t' := tk) fun b o e => Heap.get?_push_of_some _ e, turn_range _ lo (hi - lo).toNat, ?_, fun b hb => ?_, q⟩
  · have e1 : lo + ((0 : Nat) : Int) * 1 = lo := by simp
    have e2 : (((hi - lo).toNat : Nat) : Int) - ((0 : Nat) : Int) = Builtin.Range.rangeSize lo hi 1 := by rw [rangeSize_one]; split <;> omega
    show IsRangeIter _ _ (lo + ((0 : Nat) : Int) * 1) ((((hi - lo).toNat : Nat) : Int) - ((0 : Nat) : Int)) 1
    rw [e1, e2]
    exact Heap.get?_push_size _ rfl
  · have e : b = (s.heap.push { cls := .type "range", data := .fields #[.int lo t, .int hi u, .int 1 v] }).objs.size := by simpa using hb
    subst e
    exact I1.fpOk (Nat.le_refl _) (I1.hok.fresh (Nat.le_refl _))
noncomputable def iRng1 (ta : TA) : TI := fun σ H R => ta σ H fun vs H1 => ∃ j : Int, vs = [.int j] ∧ -(2 ^ 62) ≤ j ∧ j < 2 ^ 62 ∧ R (Itr 0 j.toNat) H1
noncomputable def iRng2 (ta : TA) : TI := fun σ H R => ta σ H fun vs H1 => ∃ i j : Int, vs = [.int i, .int j] ∧ (-(2 ^ 62) ≤ i ∧ i < 2 ^ 62 ∧ -(2 ^ 62) ≤ j ∧ j < 2 ^ 62) ∧ R (Itr i (j - i).toNat) H1
theorem pi_range1 {a : Expr} {ta : TA} {p pos : Pos} (hg : Gl X "range") (hm : X.mg "range" = none) (ha : PA X [a] ta) (hs : starEach [a] X.env = [(false, eval a X.env)] := by rfl) : PI X tg (.Call (.Name "range" p) [a] [] pos) (iRng1 ta) := by
  intro pins s σ H R I h
  refine Call_ (ld_blt I hg hm boot_range (PyProof.Rows.callWith_type1 (thn (ha pos pins s σ H _ I h) fun us s1 ⟨vs, H1, I1, r1, q1⟩ => ?_) hs rfl))
  obtain ⟨j, e, q1, q2, q⟩ := q1
  subst e
  cases r1 with
  | cons r rr =>
    cases rr
    obtain ⟨t, rfl⟩ := r
    exact call_range_1 (range_it I1 (by omega) (by omega) q1 q2 (by simpa using q))
noncomputable def tFor (wi : TI) (g : TG) (tb : TS) : TS := fun D σ H => wi σ H fun J H1 => ∃ W : Nat → Nat → St → Hp → Prop, (∃ m, W 0 m σ H1) ∧ ∀ i m σ H, W i m σ H →
  (J.stop i H ∧ D.nx σ H) ∨ (J.go i H ∧ ∃ N : St → Hp → Prop, (∀ σ' H', N σ' H' → ∃ m', m' < m ∧ W (i + 1) m' σ' H') ∧ ∀ x H', J.yld i H x H' → g x σ H' fun σ2 H2 => tb { D with nx := N, ct := N, bk := D.nx } σ2 H2)
noncomputable def pinsAt (fp : List Addr) (h : Heap) : List (Addr × Obj) := fp.filterMap fun b => (h.get? b).map fun o => (b, o)
theorem mem_pinsAt {fp : List Addr} {h : Heap} {b : Addr} {o : Obj} (hb : b ∈ fp) (e : h.get? b = some o) : (b, o) ∈ pinsAt fp h := List.mem_filterMap.mpr ⟨b, hb, by rw [e]; rfl⟩
theorem of_pinsAt {fp : List Addr} {h : Heap} {p : Addr × Obj} (hp : p ∈ pinsAt fp h) : p.1 ∈ fp ∧ h.get? p.1 = some p.2 := by
  obtain ⟨b, hb, e⟩ := List.mem_filterMap.mp hp
  cases q : h.get? b with
  | none => rw [q] at e; cases e
  | some o =>
    rw [q] at e
    have e' : (b, o) = p := Option.some.inj e
    subst e'
    exact ⟨hb, q⟩
theorem Inv.pinned {pins : List (Addr × Obj)} {σ : St} {H : Hp} {s : Shared} {fp : List Addr} (I : Inv X pins σ H s) (hf : ∀ b ∈ fp, FpOk X pins H b) (ho : ∀ b ∈ fp, ∃ o, s.heap.get? b = some o ∧ ∀ v, o.data ≠ .cell v) : Inv X (pins ++ pinsAt fp s.heap) σ H s :=
  I.pins_of fun p hp => (List.mem_append.mp hp).elim (fun z => I.pin p (List.mem_append_right _ z)) fun z => by
    obtain ⟨hb, e⟩ := of_pinsAt z
    obtain ⟨f0, f1, f2, _⟩ := hf p.1 hb
    obtain ⟨o, e', d⟩ := ho p.1 hb
    rw [e] at e'; cases e'
    exact ⟨e, f0, f1, f2, d⟩
theorem Inv.unpinned {pins pl : List (Addr × Obj)} {σ : St} {H : Hp} {s : Shared} (I : Inv X (pins ++ pl) σ H s) : Inv X pins σ H s := I.pins_of fun p hp => I.pin p (List.mem_append_right _ (List.mem_append_left _ hp))
theorem ps_for {iter : Expr} {body : List Stmt} {wi : TI} {g : TG} {tb : TS} {pos : Pos} (hp : PassesOwn (model X.prog X.w) X.A X.env X.xe) (hc : X.calm = true) (hi : PI X tg iter wi) (hg : PG X tg g) (hb : PSs X body tb)
    (hs : ∀ x, foldedSetIterable iter X.env x = pure x := by intro _; rfl) : PS X (.For tg iter body [] pos) (tFor wi g tb) := by
  intro pins s σ H D I h
  refine wpAny_For (thn (hi pins s σ H _ I h) fun v s1 h1 => thn h1 fun itv s2 h2 => ?_) hs
  obtain ⟨it, fp, tn, J, H2, e, I2, T, st2, f2, W, ⟨m0, w0⟩, turn⟩ := h2
  subst e
  have stat : ∀ {H' : Hp}, (∀ b ∈ fp, H' b = none) → ∀ b ∈ fp, FpOk X pins H' b := fun hn b hb => ⟨hn b hb, (f2 b hb).2⟩
  refine codeAny_forLoop_any (fun n s' => ∃ i σ' H', Inv X pins σ' H' s' ∧ tn i s'.heap ∧ (∀ b ∈ fp, H' b = none) ∧ W i n σ' H') ?_ m0 ⟨0, σ, H2, I2, st2, fun b hb => (f2 b hb).1, w0⟩
  rintro n s3 ⟨i, σ3, H3, I3, st3, fr3, w3⟩
  rcases turn i n σ3 H3 w3 with ⟨stop, qn⟩ | ⟨go, N, hN, step⟩
  · refine wpAny_passesOwn hp (thn (T.done X rfl rfl rfl hc i pins s3 σ3 H3 X.xe I3 (stat fr3) st3 stop) fun r s4 ⟨hr, I4⟩ => ?_)
    subst hr
    exact wpAny_execs_nil ⟨σ3, H3, I4, qn⟩
  · refine wpAny_passesOwn hp (thn (T.item X rfl rfl rfl hc i pins s3 σ3 H3 X.xe I3 (stat fr3) st3 go) fun r s4 ⟨u, hr, h4⟩ => ?_)
    subst hr
    refine wpAny_passesOwn hp (thn h4 fun _ s5 ⟨x, H5, I5, r5, y5, st5, fr5⟩ => ?_)
    have I5' := I5.pinned (stat fr5) (T.obj _ _ st5)
    refine wpAny_passesOwn hp (thn (hg _ s5 σ3 H5 x u _ I5' r5 (step x H5 y5)) fun _ s6 ⟨σ6, H6, I6, q6⟩ => ?_)
    refine wpAny_passesOwn hp (thn (hb _ s6 σ6 H6 _ I6 q6) fun f s7 q7 => ?_)
    have again : ∀ {σ7 : St} {H7 : Hp}, Inv X (pins ++ pinsAt fp s5.heap) σ7 H7 s7 → N σ7 H7 → ∃ m, m < n ∧ ∃ i σ' H', Inv X pins σ' H' s7 ∧ tn i s7.heap ∧ (∀ b ∈ fp, H' b = none) ∧ W i m σ' H' := fun {σ7 H7} I7 n7 => by
      obtain ⟨m', hm, w7⟩ := hN σ7 H7 n7
      refine ⟨m', hm, i + 1, σ7, H7, I7.unpinned, T.keep _ _ _ st5 fun b hb o e => (I7.pin (b, o) (List.mem_append_right _ (List.mem_append_right _ (mem_pinsAt hb e)))).1, fun b hb => ?_, w7⟩
      obtain ⟨o, e, d⟩ := T.obj _ _ st5 b hb
      exact (I7.pin (b, o) (List.mem_append_right _ (List.mem_append_right _ (mem_pinsAt hb e)))).2.1
    cases f with
    | next => obtain ⟨σ7, H7, I7, n7⟩ := q7; exact again I7 n7
    | cont => obtain ⟨σ7, H7, I7, n7⟩ := q7; exact again I7 n7
    | brk => obtain ⟨σ7, H7, I7, q7⟩ := q7; exact ⟨σ7, H7, I7.unpinned, q7⟩
    | ret v => obtain ⟨x7, σ7, H7, I7, r7, q7⟩ := q7; exact ⟨x7, σ7, H7, I7.unpinned, r7, q7⟩
end
theorem for_list {K : PySem.W.Frag} {a : Addr} {xs : List V} {g : TG} {tb : TS} {D : Ends} {σ : St} {H : Hp} (Pv : Nat → St → Hp → Prop) (h0 : Pv 0 σ H) (hl : ∀ i σ H, i ≤ xs.length → Pv i σ H → SqL K H a xs)
    (hs : ∀ i x σ H, xs[i]? = some x → Pv i σ H → g x σ H fun σ2 H2 => tb { D with nx := Pv (i + 1), ct := Pv (i + 1), bk := D.nx } σ2 H2) (hd : ∀ σ H, Pv xs.length σ H → D.nx σ H) :
    ∃ W : Nat → Nat → St → Hp → Prop, (∃ m, W 0 m σ H) ∧ ∀ i m σ H, W i m σ H →
      ((Itl K a).stop i H ∧ D.nx σ H) ∨ ((Itl K a).go i H ∧ ∃ N : St → Hp → Prop, (∀ σ' H', N σ' H' → ∃ m', m' < m ∧ W (i + 1) m' σ' H') ∧ ∀ x H', (Itl K a).yld i H x H' → g x σ H' fun σ2 H2 => tb { D with nx := N, ct := N, bk := D.nx } σ2 H2) := by
  refine ⟨fun i m σ H => m = xs.length - i ∧ i ≤ xs.length ∧ Pv i σ H, ⟨xs.length, by simp, Nat.zero_le _, h0⟩, ?_⟩
  rintro i m σ H ⟨rfl, hi, p⟩
  have q := hl i σ H hi p
  by_cases hlt : i < xs.length
  · refine .inr ⟨⟨xs, xs[i], q, by simp [hlt]⟩, Pv (i + 1), fun σ' H' p' => ⟨xs.length - (i + 1), by omega, rfl, hlt, p'⟩, fun x H' y => ?_⟩
    obtain ⟨e, y⟩ := y
    subst e
    exact hs i x σ _ (y xs q) p
  · have e : i = xs.length := by omega
    subst e
    exact .inl ⟨⟨xs, q, Nat.le_refl _⟩, hd σ H p⟩
theorem for_range {lo : Int} {n : Nat} {g : TG} {tb : TS} {D : Ends} {σ : St} {H : Hp} (Pv : Nat → St → Hp → Prop) (h0 : Pv 0 σ H)
    (hs : ∀ i σ H, i < n → Pv i σ H → g (.int (lo + i)) σ H fun σ2 H2 => tb { D with nx := Pv (i + 1), ct := Pv (i + 1), bk := D.nx } σ2 H2) (hd : ∀ σ H, Pv n σ H → D.nx σ H) :
    ∃ W : Nat → Nat → St → Hp → Prop, (∃ m, W 0 m σ H) ∧ ∀ i m σ H, W i m σ H →
      ((Itr lo n).stop i H ∧ D.nx σ H) ∨ ((Itr lo n).go i H ∧ ∃ N : St → Hp → Prop, (∀ σ' H', N σ' H' → ∃ m', m' < m ∧ W (i + 1) m' σ' H') ∧ ∀ x H', (Itr lo n).yld i H x H' → g x σ H' fun σ2 H2 => tb { D with nx := N, ct := N, bk := D.nx } σ2 H2) := by
  refine ⟨fun i m σ H => m = n - i ∧ i ≤ n ∧ Pv i σ H, ⟨n, by simp, Nat.zero_le _, h0⟩, ?_⟩
  rintro i m σ H ⟨rfl, hi, p⟩
  by_cases hlt : i < n
  · refine .inr ⟨hlt, Pv (i + 1), fun σ' H' p' => ⟨n - (i + 1), by omega, rfl, hlt, p'⟩, fun x H' y => ?_⟩
    obtain ⟨e, y⟩ := y
    subst e y
    exact hs i σ _ hlt p
  · have e : i = n := by omega
    subst e
    exact .inl ⟨Nat.le_refl _, hd σ H p⟩
end L2
namespace L2
open PySem PySem.Spec PyProof.Rows
noncomputable abbrev R2 := V → V → Hp → VK → Prop
noncomputable def OpR (X : Cx) (f : Value → Value → Sem Value) (r : R2) : Prop :=
  ∀ (pins : List (Addr × Obj)) (s : Shared) (σ : St) (H : Hp) (x y : V) (v u : Value) (Q : VK), Inv X pins σ H s → RelV x v → RelV y u → r x y H Q →
    wpAny (model X.prog X.w) X.A (f v u) (EP X pins σ Q) X.xe s
noncomputable def UnR (X : Cx) (f : Value → Sem Value) (r : V → Hp → VK → Prop) : Prop :=
  ∀ (pins : List (Addr × Obj)) (s : Shared) (σ : St) (H : Hp) (x : V) (v : Value) (Q : VK), Inv X pins σ H s → RelV x v → r x H Q →
    wpAny (model X.prog X.w) X.A (f v) (EP X pins σ Q) X.xe s
noncomputable def CallR (X : Cx) (f : Value) (r : List V → Hp → VK → Prop) : Prop :=
  ∀ (pins : List (Addr × Obj)) (s : Shared) (σ : St) (H : Hp) (xs : List V) (us : List Value) (Q : VK), Inv X pins σ H s → Vals xs us → r xs H Q →
    wpAny (model X.prog X.w) X.A (call f us) (EP X pins σ Q) X.xe s
noncomputable def TruR (X : Cx) (r : V → Hp → (Bool → Hp → Prop) → Prop) : Prop :=
  ∀ (pins : List (Addr × Obj)) (s : Shared) (σ : St) (H : Hp) (x : V) (v : Value) (Q : Bool → Hp → Prop), Inv X pins σ H s → RelV x v → r x H Q →
    wpAny (model X.prog X.w) X.A (truthy v) (TP X pins σ Q) X.xe s
noncomputable def tOp (r : R2) (ta tb : TE) : TE := fun σ H Q => ta σ H fun x H1 => tb σ H1 fun y H2 => r x y H2 Q
noncomputable def tUn (r : V → Hp → VK → Prop) (ta : TE) : TE := fun σ H Q => ta σ H fun x H1 => r x H1 Q
noncomputable def rI (C : Int → Int → Prop) (g : Int → Int → V) : R2 := fun x y H Q => ∃ i j, x = .int i ∧ y = .int j ∧ C i j ∧ Q (g i j) H
noncomputable def rI0 (g : Int → Int → V) : R2 := fun x y H Q => ∃ i j, x = .int i ∧ y = .int j ∧ Q (g i j) H
noncomputable def rU (g : Int → V) : V → Hp → VK → Prop := fun x H Q => ∃ i, x = .int i ∧ Q (g i) H
section
variable {X : Cx} {a b c : Expr} {ta tb tc : TE} {pos : Pos}
theorem binT (ha : PE X a ta) (hb : PE X b tb) {pins : List (Addr × Obj)} {s : Shared} {σ : St} {H : Hp} {R : V → V → Hp → Prop} (I : Inv X pins σ H s)
    (h : ta σ H fun x H1 => tb σ H1 fun y H2 => R x y H2) {Q : Value → Shared → Prop} {f : Value → Value → Sem Value}
    (hf : ∀ v u s2 x y H2, Inv X pins σ H2 s2 → RelV x v → RelV y u → R x y H2 → wpAny (model X.prog X.w) X.A (f v u) Q X.xe s2) :
    wpAny (model X.prog X.w) X.A (eval a X.env) (fun v s₁ => wpAny (model X.prog X.w) X.A (eval b X.env) (fun u s₂ => wpAny (model X.prog X.w) X.A (f v u) Q X.xe s₂) X.xe s₁) X.xe s := by
  refine thn (ha pins s σ H _ I h) fun v s1 ⟨x, H1, I1, r1, q1⟩ => ?_
  refine thn (hb pins s1 σ H1 _ I1 q1) fun u s2 ⟨y, H2, I2, r2, q2⟩ => ?_
  exact hf v u s2 x y H2 I2 r1 r2 q2
theorem pe_op {op : Operator} {r : R2} (ho : OpR X (binaryOp op) r) (ha : PE X a ta) (hb : PE X b tb) : PE X (.BinOp a op b pos) (tOp r ta tb) := by
  intro pins s σ H Q I h
  exact wpAny_BinOp (binT ha hb I h fun v u s2 x y H2 I2 rx ry q => ho pins s2 σ H2 x y v u Q I2 rx ry q)
theorem pe_un {op : UnaryOp} {r : V → Hp → VK → Prop} (ho : UnR X (unaryOp op) r) (ha : PE X a ta) : PE X (.UnaryOp op a pos) (tUn r ta) := by
  intro pins s σ H Q I h
  exact UnaryOp_ (thn (ha pins s σ H _ I h) fun v s1 ⟨x, H1, I1, r1, q1⟩ => ho pins s1 σ H1 x v Q I1 r1 q1)
theorem opI {f : Value → Value → Sem Value} {C : Int → Int → Prop} {g : Int → Int → Int}
    (rule : ∀ (i j : Int) (t u : Tok) (s : Shared) (Q : Value → Shared → Prop) (E : Value → Shared → Prop), C i j → Q (.int (g i j) s.toks) { s with toks := s.toks + 1 } → wpAny (model X.prog X.w) X.A (f (.int i t) (.int j u)) Q E s) :
    OpR X f (rI C fun i j => .int (g i j)) := by
  intro pins s σ H x y v u Q I rx ry h
  obtain ⟨i, j, rfl, rfl, hc, q⟩ := h
  obtain ⟨t, rfl⟩ := rx
  obtain ⟨t', rfl⟩ := ry
  exact rule i j t t' s _ _ hc ⟨.int (g i j), H, I.tok _, ⟨_, rfl⟩, q⟩
theorem opI0 {f : Value → Value → Sem Value} {g : Int → Int → Int}
    (rule : ∀ (i j : Int) (t u : Tok) (s : Shared) (Q : Value → Shared → Prop) (E : Value → Shared → Prop), Q (.int (g i j) s.toks) { s with toks := s.toks + 1 } → wpAny (model X.prog X.w) X.A (f (.int i t) (.int j u)) Q E s) :
    OpR X f (rI0 fun i j => .int (g i j)) := by
  intro pins s σ H x y v u Q I rx ry h
  obtain ⟨i, j, rfl, rfl, q⟩ := h
  obtain ⟨t, rfl⟩ := rx
  obtain ⟨t', rfl⟩ := ry
  exact rule i j t t' s _ _ ⟨.int (g i j), H, I.tok _, ⟨_, rfl⟩, q⟩
theorem opB0 {f : Value → Value → Sem Value} {g : Int → Int → Bool}
    (rule : ∀ (i j : Int) (t u : Tok) (s : Shared) (Q : Value → Shared → Prop) (E : Value → Shared → Prop), Q (.bool (g i j)) s → wpAny (model X.prog X.w) X.A (f (.int i t) (.int j u)) Q E s) :
    OpR X f (rI0 fun i j => .bl (g i j)) := by
  intro pins s σ H x y v u Q I rx ry h
  obtain ⟨i, j, rfl, rfl, q⟩ := h
  obtain ⟨t, rfl⟩ := rx
  obtain ⟨t', rfl⟩ := ry
  exact rule i j t t' s _ _ ⟨.bl (g i j), H, I, rfl, q⟩
noncomputable def CDiv (i j : Int) : Prop := 0 < j ∧ j < 1073741824
noncomputable def CDivN (i j : Int) : Prop := j ≠ 0 ∧ j.natAbs < 1073741824
noncomputable def CPow (i j : Int) : Prop := 0 ≤ j ∧ j ≤ 1000000 ∧ i.natAbs < 2 ^ 64
noncomputable def CMul (i j : Int) : Prop := (-(2 ^ 64) < i ∧ i < 2 ^ 64) ∨ (-(2 ^ 64) < j ∧ j < 2 ^ 64)
theorem CMul.ok {i j : Int} (h : CMul i j) : IntMulOk i j := by
  rcases h with ⟨h1, h2⟩ | ⟨h1, h2⟩
  · exact .of_left (intBits_le_64 h1 h2)
  · exact .of_right (intBits_le_64 h1 h2)
theorem op_add : OpR X (binaryOp .Add) (rI0 fun i j => .int (i + j)) := opI0 fun _ _ _ _ _ _ _ q => add_int q
theorem op_sub : OpR X (binaryOp .Sub) (rI0 fun i j => .int (i - j)) := opI0 fun _ _ _ _ _ _ _ q => sub_int q
theorem op_mod : OpR X (binaryOp .Mod) (rI (fun _ j => 0 < j) fun i j => .int (i % j)) := opI fun i j _ _ _ _ _ hc q => by
  have h1 : (0 : Int) < j := hc
  exact mod_int' (by omega) (by rw [Int.fmod_eq_emod_of_nonneg i (by omega)]; exact q)
theorem op_pow : OpR X (binaryOp .Pow) (rI CPow fun i j => .int (i ^ j.toNat)) := opI fun _ _ _ _ _ _ _ hc q => pow_int_small hc.1 hc.2.1 hc.2.2 q
theorem unI {f : Value → Sem Value} {g : Int → Int}
    (rule : ∀ (i : Int) (t : Tok) (s : Shared) (Q : Value → Shared → Prop) (E : Value → Shared → Prop), Q (.int (g i) s.toks) { s with toks := s.toks + 1 } → wpAny (model X.prog X.w) X.A (f (.int i t)) Q E s) :
    UnR X f (rU fun i => .int (g i)) := by
  intro pins s σ H x v Q I rx h
  obtain ⟨i, rfl, q⟩ := h
  obtain ⟨t, rfl⟩ := rx
  exact rule i t s _ _ ⟨.int (g i), H, I.tok _, ⟨_, rfl⟩, q⟩
theorem un_neg : UnR X (unaryOp .USub) (rU fun i => .int (-i)) := unI fun _ _ _ _ _ q => neg_int q
end
noncomputable def scal : V → V → Bool
  | .non, .non => true | .non, .int _ => true | .int _, .non => true | .non, .bl _ => true | .bl _, .non => true | .non, .str _ => true | .str _, .non => true
  | .int _, .int _ => true | .bl _, .bl _ => true | .str _, .str _ => true | .byt _, .byt _ => true
  | .int _, .str _ => true | .str _, .int _ => true | .bl _, .str _ => true | .str _, .bl _ => true
  | _, _ => false
noncomputable def rEq : R2 := fun x y H Q => scal x y = true ∧ Q (.bl (decide (x = y))) H
noncomputable def rNe : R2 := fun x y H Q => scal x y = true ∧ Q (.bl (!decide (x = y))) H
theorem dec_int {i j : Int} : decide (V.int i = V.int j) = (i == j) := by
  rw [Bool.eq_iff_iff]
  simp
theorem dec_bl {i j : Bool} : decide (V.bl i = V.bl j) = (i == j) := by
  rw [Bool.eq_iff_iff]
  simp
theorem dec_str {i j : Str} : decide (V.str i = V.str j) = (i == j) := by
  rw [Bool.eq_iff_iff]
  simp
theorem dec_byt {i j : Array UInt8} : decide (V.byt i = V.byt j) = (i.toList == j.toList) := by
  rw [Bool.eq_iff_iff]
  cases i
  cases j
  simp
section
variable {X : Cx} {a b c : Expr} {ta tb tc : TE} {pos : Pos}
theorem fin_bl {pins : List (Addr × Obj)} {σ : St} {H : Hp} {s : Shared} {Q : VK} {k k' : Bool} (I : Inv X pins σ H s) (q : Q (.bl k) H) (e : k = k') : EP X pins σ Q (.bool k') s := by
  subst e
  exact ⟨.bl k, H, I, rfl, q⟩
theorem op_eq : OpR X (compareOp .Eq) rEq := by
  intro pins s σ H x y v u Q I rx ry h
  obtain ⟨hs, q⟩ := h
  cases x with
  | non =>
    cases rx
    cases y with
    | non => cases ry; exact PySem.EqNone.eq_none_none (fin_bl I q (by simp))
    | bl j => cases ry; exact PySem.EqNone.eq_none_bool (fin_bl I q (by simp))
    | int j => obtain ⟨t', rfl⟩ := ry; exact PySem.EqNone.eq_none_int (fin_bl I q (by simp))
    | str j => obtain ⟨t', rfl⟩ := ry; exact PySem.EqNone.eq_none_str (fin_bl I q (by simp))
    | _ => exact absurd (show false = true from hs) Bool.false_ne_true
  | bl i =>
    cases rx
    cases y with
    | non => cases ry; exact PySem.EqNone.eq_bool_none (fin_bl I q (by simp))
    | bl j => cases ry; exact eq_bool (fin_bl I q dec_bl)
    | str j => obtain ⟨t', rfl⟩ := ry; exact PySem.EqMixed.eq_bool_str (fin_bl I q (by simp))
    | _ => exact absurd (show false = true from hs) Bool.false_ne_true
  | int i =>
    obtain ⟨t, rfl⟩ := rx
    cases y with
    | non => cases ry; exact PySem.EqNone.eq_int_none (fin_bl I q (by simp))
    | int j => obtain ⟨t', rfl⟩ := ry; exact eq_int (fin_bl I q dec_int)
    | str j => obtain ⟨t', rfl⟩ := ry; exact PySem.EqMixed.eq_int_str (fin_bl I q (by simp))
    | _ => exact absurd (show false = true from hs) Bool.false_ne_true
  | str i =>
    obtain ⟨t, rfl⟩ := rx
    cases y with
    | non => cases ry; exact PySem.EqNone.eq_str_none (fin_bl I q (by simp))
    | bl j => cases ry; exact PySem.EqMixed.eq_str_bool (fin_bl I q (by simp))
    | int j => obtain ⟨t', rfl⟩ := ry; exact PySem.EqMixed.eq_str_int (fin_bl I q (by simp))
    | str j => obtain ⟨t', rfl⟩ := ry; exact eq_str (fin_bl I q dec_str)
    | _ => exact absurd (show false = true from hs) Bool.false_ne_true
  | byt i =>
    obtain ⟨t, rfl⟩ := rx
    cases y with
    | byt j => obtain ⟨t', rfl⟩ := ry; exact PySem.W.eq_bytes (fin_bl I q dec_byt)
    | _ => exact absurd (show false = true from hs) Bool.false_ne_true
  | _ => cases y <;> exact absurd (show false = true from hs) Bool.false_ne_true
theorem op_ne : OpR X (compareOp .NotEq) rNe := by
  intro pins s σ H x y v u Q I rx ry h
  obtain ⟨hs, q⟩ := h
  cases x with
  | non =>
    cases rx
    cases y with
    | non => cases ry; exact PySem.EqNone.ne_none_none (fin_bl I q (by simp))
    | bl j => cases ry; exact PySem.EqNone.ne_none_bool (fin_bl I q (by simp))
    | int j => obtain ⟨t', rfl⟩ := ry; exact PySem.EqNone.ne_none_int (fin_bl I q (by simp))
    | str j => obtain ⟨t', rfl⟩ := ry; exact PySem.EqNone.ne_none_str (fin_bl I q (by simp))
    | _ => exact absurd (show false = true from hs) Bool.false_ne_true
  | bl i =>
    cases rx
    cases y with
    | non => cases ry; exact PySem.EqNone.ne_bool_none (fin_bl I q (by simp))
    | bl j => cases ry; exact ne_bool (fin_bl I q (congrArg not dec_bl))
    | str j => obtain ⟨t', rfl⟩ := ry; exact PySem.EqMixed.ne_bool_str (fin_bl I q (by simp))
    | _ => exact absurd (show false = true from hs) Bool.false_ne_true
  | int i =>
    obtain ⟨t, rfl⟩ := rx
    cases y with
    | non => cases ry; exact PySem.EqNone.ne_int_none (fin_bl I q (by simp))
    | int j => obtain ⟨t', rfl⟩ := ry; exact ne_int (fin_bl I q (congrArg not dec_int))
    | str j => obtain ⟨t', rfl⟩ := ry; exact PySem.EqMixed.ne_int_str (fin_bl I q (by simp))
    | _ => exact absurd (show false = true from hs) Bool.false_ne_true
  | str i =>
    obtain ⟨t, rfl⟩ := rx
    cases y with
    | non => cases ry; exact PySem.EqNone.ne_str_none (fin_bl I q (by simp))
    | bl j => cases ry; exact PySem.EqMixed.ne_str_bool (fin_bl I q (by simp))
    | int j => obtain ⟨t', rfl⟩ := ry; exact PySem.EqMixed.ne_str_int (fin_bl I q (by simp))
    | str j => obtain ⟨t', rfl⟩ := ry; exact ne_str (fin_bl I q (congrArg not dec_str))
    | _ => exact absurd (show false = true from hs) Bool.false_ne_true
  | byt i =>
    obtain ⟨t, rfl⟩ := rx
    cases y with
    | byt j => obtain ⟨t', rfl⟩ := ry; exact PySem.W.ne_bytes (fin_bl I q (congrArg not dec_byt))
    | _ => exact absurd (show false = true from hs) Bool.false_ne_true
  | _ => cases y <;> exact absurd (show false = true from hs) Bool.false_ne_true
theorem op_lt : OpR X (compareOp .Lt) (rI0 fun i j => .bl (decide (i < j))) := opB0 fun _ _ _ _ _ _ _ q => lt_int q
theorem op_le : OpR X (compareOp .LtE) (rI0 fun i j => .bl (decide (i ≤ j))) := opB0 fun _ _ _ _ _ _ _ q => le_int q
theorem op_gt : OpR X (compareOp .Gt) (rI0 fun i j => .bl (decide (j < i))) := opB0 fun _ _ _ _ _ _ _ q => gt_int q
theorem op_ge : OpR X (compareOp .GtE) (rI0 fun i j => .bl (decide (j ≤ i))) := opB0 fun _ _ _ _ _ _ _ q => ge_int q
noncomputable def isObj : HO → Bool
  | .lst _ => true
  | .ins _ _ _ => true
  | _ => false
theorem OpR.or {f : Value → Value → Sem Value} {r r' : R2} (h : OpR X f r) (h' : OpR X f r') : OpR X f (fun x y H Q => r x y H Q ∨ r' x y H Q) := by
  intro pins s σ H x y v u Q I rx ry q
  rcases q with q | q
  · exact h pins s σ H x y v u Q I rx ry q
  · exact h' pins s σ H x y v u Q I rx ry q
theorem nomark (b : Expr) {op : CmpOp} (h : op ≠ .In := by decide) (h2 : op ≠ .NotIn := by decide) : behindInMarks op b = false := by
  have e1 : (op == CmpOp.In) = false := by cases op <;> first | rfl | exact absurd rfl h
  have e2 : (op == CmpOp.NotIn) = false := by cases op <;> first | rfl | exact absurd rfl h2
  cases b <;> simp [behindInMarks, e1, e2]
theorem pe_cmpR {op : CmpOp} {r : R2} (ho : OpR X (compareOp op) r) (ha : PE X a ta) (hb : PE X b tb) (hm : behindInMarks op b = false) : PE X (.Compare a [op] [b] pos) (tOp r ta tb) := by
  intro pins s σ H Q I h
  exact wpAny_Compare1 (binT ha hb I h fun v u s2 x y H2 I2 rx ry q => ho pins s2 σ H2 x y v u Q I2 rx ry q) hm
noncomputable def tTest (t : TE) : TT := fun σ H Q => t σ H fun x H' => ∃ k, x = .bl k ∧ Q k H'
theorem pt_cmpR {op : CmpOp} {r : R2} (ho : OpR X (compareOp op) r) (ha : PE X a ta) (hb : PE X b tb) (hm : behindInMarks op b = false) : PT X (.Compare a [op] [b] pos) (tTest (tOp r ta tb)) := by
  intro pins s σ H Q I h
  refine wpAny_isTrue_Compare1 (thn (ha pins s σ H _ I h) fun v s1 ⟨x, H1, I1, r1, q1⟩ => thn (hb pins s1 σ H1 _ I1 q1) fun u s2 ⟨y, H2, I2, r2, q2⟩ =>
    thn (ho pins s2 σ H2 x y v u _ I2 r1 r2 q2) fun c s3 ⟨z, H3, I3, r3, k, e, q3⟩ => ?_) hm
  subst e
  cases r3
  exact wpAny_truthy_bool ⟨H3, I3, q3⟩
noncomputable def tChain (r r' : R2) (ta tb tc : TE) : TE := fun σ H Q => ta σ H fun x H1 => tb σ H1 fun y H2 => r x y H2 fun z H3 => ∃ k, z = .bl k ∧
  (if k = true then tc σ H3 fun w' H4 => r' y w' H4 Q else Q (.bl false) H3)
theorem pe_chain {op op' : CmpOp} {r r' : R2} (ho : OpR X (compareOp op) r) (ho' : OpR X (compareOp op') r') (ha : PE X a ta) (hb : PE X b tb) (hc : PE X c tc)
    (hm : lastMarks [op, op'] [b, c] = false := by with_unfolding_all rfl) : PE X (.Compare a [op, op'] [b, c] pos) (tChain r r' ta tb tc) := by
  intro pins s σ H Q I h
  refine Compare_chain (thn (ha pins s σ H _ I h) fun v s1 ⟨x, H1, I1, r1, q1⟩ => chain_link (thn (hb pins s1 σ H1 _ I1 q1) fun u s2 ⟨y, H2, I2, r2, q2⟩ =>
    thn (ho pins s2 σ H2 x y v u _ I2 r1 r2 q2) fun d s3 ⟨z, H3, I3, r3, k, e, q3⟩ => ?_)) hm
  subst e
  cases r3
  refine wpAny_truthy_bool ?_
  cases k with
  | false => exact ite_ff ⟨.bl false, H3, I3, rfl, q3⟩
  | true => exact ite_tt (chain_last (thn (hc pins s3 σ H3 _ I3 q3) fun w' s4 ⟨z', H4, I4, r4, q4⟩ => ho' pins s4 σ H4 y z' u w' Q I4 r2 r4 q4))
noncomputable def TruV (K : PySem.W.Frag) (x : V) (H : Hp) (k : Bool) : Prop :=
  match x with
  | .non => k = false
  | .bl b => k = b
  | .int i => k = (i != 0)
  | .str y => y.length ≤ sizeLine ∧ k = ((y.length : Int) != 0)
  | .byt y => y.size ≤ sizeLine ∧ k = ((y.size : Int) != 0)
  | .ref p => (∃ xs, SqL K H p xs ∧ k = !xs.isEmpty) ∨ (∃ xs, SqT K H p xs ∧ k = !xs.isEmpty) ∨ ∃ kvs, H p = some (.dK kvs) ∧ k = !kvs.isEmpty
  | _ => False
theorem line63 : (sizeLine : Nat) < 2 ^ 63 := by rw [sizeLine_eq]; decide
noncomputable def PlainIxT (b : Expr) : Prop := ∀ o i, subscripted b false o i = operate [o, i] (getItem o i)
theorem vals1 {x : V} {us : List Value} (r : Vals [x] us) : ∃ u, us = [u] ∧ RelV x u := by
  cases r with
  | cons r1 r2 => cases r2; exact ⟨_, rfl, r1⟩
theorem vals2 {x y : V} {us : List Value} (r : Vals [x, y] us) : ∃ u w', us = [u, w'] ∧ RelV x u ∧ RelV y w' := by
  cases r with
  | cons r1 r2 =>
    cases r2 with
    | cons r3 r4 => cases r4; exact ⟨_, _, rfl, r1, r3⟩
theorem call_max2 (hc : X.calm = true) : CallR X (.builtin "max") (fun xs H Q => ∃ i j, xs = [.int i, .int j] ∧ Q (.int (if j > i then j else i)) H) := by
  intro pins s σ H xs us Q I r h
  obtain ⟨i, j, rfl, q⟩ := h
  obtain ⟨u, w', rfl, ⟨t, rfl⟩, ⟨t', rfl⟩⟩ := vals2 r
  refine max_two_ints (I.ok.hd hc) fun h' tk k => ⟨_, H, I.kept k, ?_, q⟩
  by_cases hj : j > i
  · rw [if_pos hj, if_pos hj]; exact ⟨_, rfl⟩
  · rw [if_neg hj, if_neg hj]; exact ⟨_, rfl⟩
theorem call_min2 (hc : X.calm = true) : CallR X (.builtin "min") (fun xs H Q => ∃ i j, xs = [.int i, .int j] ∧ Q (.int (if j < i then j else i)) H) := by
  intro pins s σ H xs us Q I r h
  obtain ⟨i, j, rfl, q⟩ := h
  obtain ⟨u, w', rfl, ⟨t, rfl⟩, ⟨t', rfl⟩⟩ := vals2 r
  refine min_two_ints (I.ok.hd hc) fun h' tk k => ⟨_, H, I.kept k, ?_, q⟩
  by_cases hj : j < i
  · rw [if_pos hj, if_pos hj]; exact ⟨_, rfl⟩
  · rw [if_neg hj, if_neg hj]; exact ⟨_, rfl⟩
theorem call_str_int : CallR X (.type "str") (fun xs H Q => ∃ i, xs = [.int i] ∧ i.natAbs.log2 < 1920 ∧ Q (.str (toString i)) H) := by
  intro pins s σ H xs us Q I r h
  obtain ⟨i, rfl, hz, q⟩ := h
  obtain ⟨u, rfl, t, rfl⟩ := vals1 r
  exact PySem.P.str_of_int hz ⟨.str _, H, I.tok _, ⟨_, rfl⟩, q⟩
noncomputable def LenV (K : PySem.W.Frag) (x : V) (H : Hp) (n : Nat) : Prop :=
  match x with
  | .str y => y.length ≤ sizeLine ∧ n = y.length
  | .byt y => y.size ≤ sizeLine ∧ n = y.size
  | .ref p => (∃ xs, SqL K H p xs ∧ n = xs.length) ∨ ∃ xs, SqT K H p xs ∧ n = xs.length
  | _ => False
end
end L2
namespace L2
open PySem PySem.Spec PyProof.Rows
structure ObjM (h : Heap) (x dx C : Addr) (mA : Str → Option Value) : Prop where
  obj : h.get? x = some (PySem.W.instObj C dx)
  ns : h.Ns1 dx mA
  ne : dx ≠ x
theorem lookIn_ns {h : Heap} {dx : Addr} {mA : Str → Option Value} (n : h.Ns1 dx mA) : ∃ od, h.get? dx = some od ∧ ∀ name, PySem.W.lookIn name od = some (mA name) := by
  obtain ⟨o, es, ep, ho, hd, hk, _, hm⟩ := n
  refine ⟨o, ho, fun name => ?_⟩
  have e := hm name
  unfold nsFind findBy at e
  rw [← Array.find?_toList] at e
  unfold PySem.W.lookIn
  rw [hd]
  dsimp only
  split
  · rename_i y q
    rw [q] at e
    exact congrArg some e
  · rename_i q
    rw [q] at e
    have a : es.toList.any (·.refKey) = false := by
      rw [List.any_eq_false]
      intro y hy
      obtain ⟨z, t, hkey⟩ := hk y (Array.mem_toList_iff.mp hy)
      simp [DictEntry.refKey, hkey]
    have a' : ¬ es.toList.any (·.refKey) = true := by rw [a]; exact Bool.false_ne_true
    rw [if_neg a']
    exact congrArg some e
theorem ObjM.look {h : Heap} {x dx C : Addr} {mA : Str → Option Value} (I : ObjM h x dx C mA) : ∃ od, PySem.W.InstAt h x (PySem.W.instObj C dx) C (some od) ∧ ∀ name, PySem.W.lookIn name od = some (mA name) :=
  let ⟨od, ho, hl⟩ := lookIn_ns I.ns
  ⟨od, ⟨I.obj, rfl, rfl, ho⟩, hl⟩
section
variable {prog : Program} {w : World} {A : Around} {E : Value → Shared → Prop} {s : Shared} {K : PySem.W.Frag} {x dx C f : Addr} {mA : Str → Option Value} {name : Str} {v : Value}
end
noncomputable def putF (f : Str) (v : V) : List (Str × V) → List (Str × V)
  | [] => [(f, v)]
  | (g, x) :: r => if g = f then (g, v) :: r else (g, x) :: putF f v r
section
variable {P : Program} {w : World} {H H' : Hp} {h h' : Heap} {a C dx : Addr} {fs fs' : List (Str × V)}
theorem ins_get (hok : HOk P w H h) (e : H a = some (.ins C dx fs)) : ∃ mA, ObjM h a dx C mA ∧ (∀ f, RelO (fs.lookup f) (mA f)) ∧ PySem.Within mA (fs.map (·.1)) ∧ fs.length ≤ 1000 ∧ H dx = some (.own a) := by
  obtain ⟨d, z, ne, ob, mA, n, r, q⟩ := (show ObjOk P w H h a (.ins C dx fs) from hok a _ e)
  exact ⟨mA, ⟨ob, n, ne⟩, r, q, z, d⟩
end
structure Cls (K : PySem.W.Frag) (C : Addr) : Prop where
  pg : PySem.W.plainGet K C Str.empty = true
  hd : PySem.W.hasDictIn K C = true
  po : PySem.W.plainOver K C = true
  sa : PySem.W.findIn K (.ref C) "__setattr__" = some (some (.builtin "object.__setattr__"))
theorem Cls.get {K : PySem.W.Frag} {C : Addr} (c : Cls K C) (f : Str) : PySem.W.plainGet K C f = true := c.pg
noncomputable def NoAttr (K : PySem.W.Frag) (C : Addr) (f : Str) : Prop := PySem.W.findIn K (.ref C) f = some none
structure Con (K : PySem.W.Frag) (C : Addr) (f : Str) (v : V) (u : Value) : Prop where
  at_ : PySem.W.findIn K (.ref C) f = some (some u)
  rel : RelV v u
  get : PySem.W.specialIn K u "__get__" = some none
  cp : PySem.W.copiedNames.contains f = false
structure Meth (K : PySem.W.Frag) (C : Addr) (m : Str) (f : Addr) : Prop where
  at_ : PySem.W.findIn K (.ref C) m = some (some (.ref f))
  fn : PySem.W.isFn K (.ref f) = true
  kp : PySem.W.keepIn K (.ref f) = true
section
variable {X : Cx} {pins : List (Addr × Obj)} {σ : St} {H : Hp} {s : Shared} {a C dx : Addr} {fs : List (Str × V)} {f : Str} {v : V} {A : Around} {E : Value → Shared → Prop}
theorem Inv.made (I : Inv X pins σ H s) : Inv X pins σ (upd (upd H s.heap.objs.size (.own (s.heap.objs.size + 1))) (s.heap.objs.size + 1) (.ins C s.heap.objs.size []))
    { s with heap := (s.heap.push PySem.W.emptyDict).push (PySem.W.instObj C s.heap.objs.size) } := by
  have e1 : (s.heap.push PySem.W.emptyDict).get? s.heap.objs.size = some PySem.W.emptyDict := Heap.get?_push_size s.heap rfl
  have e2 : ((s.heap.push PySem.W.emptyDict).push (PySem.W.instObj C s.heap.objs.size)).get? (s.heap.objs.size + 1) = some (PySem.W.instObj C s.heap.objs.size) := by
    have := Heap.get?_push_size (s.heap.push PySem.W.emptyDict) (o := PySem.W.instObj C s.heap.objs.size) rfl
    rwa [Heap.size_push] at this
  have e3 : (s.heap.push PySem.W.emptyDict).Ns s.heap.objs.size (fun _ => none) := ⟨PySem.W.emptyDict, #[], _, e1, rfl, (fun e he => absurd he (by simp)), fun _ => rfl⟩
  have I1 := I.laid (a := s.heap.objs.size) (o := .own (s.heap.objs.size + 1)) (h' := s.heap.push PySem.W.emptyDict) (t' := s.toks) (fun b u q => Heap.get?_push_of_some _ q) (Nat.le_refl _) ⟨_, e1⟩
  refine I1.laid (a := s.heap.objs.size + 1) (o := .ins C s.heap.objs.size []) (t' := s.toks) (fun b u q => Heap.get?_push_of_some _ q) (Nat.le_of_eq (Heap.size_push _ _)) ?_
  have ne : s.heap.objs.size ≠ s.heap.objs.size + 1 := Nat.ne_of_lt (Nat.lt_succ_self _)
  refine ⟨by rw [upd_ne ne, upd_same], Nat.zero_le _, ne, e2, fun _ => none, (Heap.Ns1.of_empty e3).at fun o q => Heap.get?_push_of_some _ q, fun _ => True.intro, fun y hy => absurd rfl hy⟩
end
noncomputable def tFld (K : PySem.W.Frag) (ta : TE) (f : Str) : TE := fun σ H Q => ta σ H fun x H1 => ∃ a C dx fs v, x = .ref a ∧ H1 a = some (.ins C dx fs) ∧ Cls K C ∧ NoAttr K C f ∧ fs.lookup f = some v ∧ Q v H1
noncomputable def tCon (K : PySem.W.Frag) (ta : TE) (f : Str) : TE := fun σ H Q => ta σ H fun x H1 => ∃ a C dx fs v u, x = .ref a ∧ H1 a = some (.ins C dx fs) ∧ Cls K C ∧ Con K C f v u ∧ fs.lookup f = none ∧ Q v H1
noncomputable def sFld (K : PySem.W.Frag) (ta tv : TE) (f : Str) : TS := fun D σ H => tv σ H fun y H1 => ta σ H1 fun x H2 => ∃ a C dx fs, x = .ref a ∧ H2 a = some (.ins C dx fs) ∧ Cls K C ∧ NoAttr K C f ∧ fs.length < 1000 ∧
  D.nx σ (upd H2 a (.ins C dx (putF f y fs)))
noncomputable def InOp (X : Cx) (op : Operator) (rd : V → V → Hp → VK → Prop) : Prop :=
  ∀ (pins : List (Addr × Obj)) (s : Shared) (σ : St) (H : Hp) (x y : V) (u v : Value) (Q : VK), Inv X pins σ H s → RelV x u → RelV y v → rd x y H Q → wpAny (model X.prog X.w) X.A (inplaceOp op u v) (EP X pins σ Q) X.xe s
noncomputable def sFldAug (K : PySem.W.Frag) (ta tv : TE) (rd : V → V → Hp → VK → Prop) (f : Str) : TS := fun D σ H => ta σ H fun x H1 => ∃ a C dx fs v, x = .ref a ∧ H1 a = some (.ins C dx fs) ∧ Cls K C ∧ NoAttr K C f ∧ fs.lookup f = some v ∧
  tv σ H1 fun y H2 => rd v y H2 fun z H3 => ∃ dx' fs', H3 a = some (.ins C dx' fs') ∧ fs'.length < 1000 ∧ D.nx σ (upd H3 a (.ins C dx' (putF f z fs')))
section
variable {X : Cx} {o e value : Expr} {f : Str} {pos pos' tpos : Pos} {ta tv : TE}
noncomputable def rAdd : V → V → Hp → VK → Prop := fun x y H Q => ∃ i j, x = .int i ∧ y = .int j ∧ Q (.int (i + j)) H
noncomputable def rSub : V → V → Hp → VK → Prop := fun x y H Q => ∃ i j, x = .int i ∧ y = .int j ∧ Q (.int (i - j)) H
end
section
variable {X : Cx} {pins : List (Addr × Obj)} {σ : St} {H : Hp} {s : Shared} {A : Around} {E : Value → Shared → Prop} {Q : Value → Shared → Prop} {c : Value} {b : Bool}
inductive TyOf (K : PySem.W.Frag) (H : Hp) : V → Value → Prop where
  | non : TyOf K H .non (.type "NoneType")
  | bl (x : Bool) : TyOf K H (.bl x) (.type "bool")
  | int (i : Int) : TyOf K H (.int i) (.type "int")
  | str (x : Str) : TyOf K H (.str x) (.type "str")
  | flt (x : UInt64) : TyOf K H (.flt x) (.type "float")
  | lst {a : Addr} {xs : List V} (e : H a = some (.lst xs)) : TyOf K H (.ref a) (.type "list")
  | frz {a : Addr} {o : Obj} {xs : List V} (e : H a = some (.frz o (.lst xs))) : TyOf K H (.ref a) (.type "list")
  | tup {a : Addr} {xs : List V} (e : H a = some (.tup xs)) : TyOf K H (.ref a) (.type "tuple")
  | dK {a : Addr} {kvs : List (Key × V)} (e : H a = some (.dK kvs)) : TyOf K H (.ref a) (.type "dict")
  | dT {a : Addr} {kvs : List (List Key × V)} (e : H a = some (.dT kvs)) : TyOf K H (.ref a) (.type "dict")
  | ins {a C dx : Addr} {fs : List (Str × V)} (e : H a = some (.ins C dx fs)) (cl : Cls K C) (ha : PySem.W.findIn K (.ref C) "__class__" = some (some (.builtin "object.__class__")))
      (hn : PySem.W.specialIn K (.builtin "object.__class__") "__get__" = some (some (.builtin "getset_descriptor.__get__"))) (htk : PySem.W.takesIn K (.builtin "object.__class__") = some true)
      (hm : PySem.W.mroIn K C (.type "object") = some true) : TyOf K H (.ref a) (.ref C)
end
end L2
namespace L2
open PySem PySem.Spec PyProof.Rows
structure Room (k : Nat) (A : Around) : Prop where
  hd : A.handled = none
  dp : A.depth + 3 * k + 5 < recursionLimit
  un : A.units + 16 * k + 200 < cLine
  gd : A.guards = some []
theorem Room.mono {j k : Nat} {A : Around} (r : Room k A) (h : j ≤ k) : Room j A := ⟨r.hd, by have := r.dp; omega, by have := r.un; omega, r.gd⟩
theorem Room.deeper {k : Nat} {A : Around} (r : Room (k + 1) A) (env : Env) : Room k (A.deeper env) :=
  ⟨r.hd, by have := r.dp; show A.depth + 1 + 3 * k + 5 < _; omega, by have := r.un; show A.units + 3 + 16 * k + 200 < _; omega, r.gd⟩
theorem Room.in1 {k : Nat} {A : Around} (r : Room (k + 1) A) : Room k A.in1 :=
  ⟨r.hd, by have := r.dp; show A.depth + 3 * k + 5 < _; omega, by have := r.un; show A.units + 1 + 16 * k + 200 < _; omega, r.gd⟩
theorem Room.depth {k : Nat} {A : Around} (r : Room k A) : A.depth < recursionLimit := by have := r.dp; omega
theorem Room.units {k : Nat} {A : Around} (r : Room k A) : A.units + 64 < cLine := by have := r.un; omega
noncomputable def tNil : TA := fun _ H Q => Q [] H
noncomputable def tCons (ta : TE) (tr : TA) : TA := fun σ H Q => ta σ H fun x H1 => tr σ H1 fun xs H2 => Q (x :: xs) H2
section
variable {X : Cx} {e : Expr} {es : List Expr} {te : TE} {t : TA} {pos : Pos}
theorem pa_nil : PA X [] tNil := fun _ _ _ _ H Q I h => Calls.spliced_nil ⟨[], H, I, .nil, h⟩
theorem pa_cons (ha : PE X e te) (hr : PA X es t) (hs : starEach (e :: es) X.env = (false, eval e X.env) :: starEach es X.env := by rfl) : PA X (e :: es) (tCons te t) := by
  intro pos pins s σ H Q I h
  rw [hs]
  show wpAny _ _ (spliced ((false, eval e X.env) :: backTo pos (starEach es X.env))) _ _ s
  refine Calls.spliced_cons (thn (ha pins s σ H _ I h) fun u s1 ⟨x, H1, I1, r1, q1⟩ => ?_)
  exact thn (hr pos pins s1 σ H1 _ I1 q1) fun us s2 ⟨xs, H2, I2, r2, q2⟩ => ⟨x :: xs, H2, I2, .cons r1 r2, q2⟩
noncomputable def tTup (t : TA) : TE := fun σ H Q => t σ H fun xs H1 => xs.length ≤ sizeLine ∧ ∀ p, H1 p = none → Q (.ref p) (upd H1 p (.tup xs))
noncomputable def tLst (t : TA) : TE := fun σ H Q => t σ H fun xs H1 => xs.length ≤ sizeLine ∧ ∀ p, H1 p = none → Q (.ref p) (upd H1 p (.lst xs))
theorem pe_tup {x1} (h : PA X es t) : PE X (.Tuple es x1 pos) (tTup t) := by
  intro pins s σ H Q I hq
  refine wpAny_Tuple_spliced (thn (h pos pins s σ H _ I hq) fun us s1 ⟨xs, H1, I1, r, z, q⟩ => ⟨by rw [← r.length]; exact z, ?_⟩)
  have hf : H1 s1.heap.objs.size = none := I1.hok.fresh (Nat.le_refl _)
  refine ⟨.ref s1.heap.objs.size, upd H1 s1.heap.objs.size (.tup xs), I1.laid (t' := s1.toks) (fun b u e => Heap.get?_push_of_some _ e) (Nat.le_refl _) ?_, rfl, q _ hf⟩
  exact ⟨z, us, r, ⟨_, Heap.get?_push_size _ rfl, rfl, _, rfl⟩⟩
theorem pe_lst (h : PA X es t) : PE X (.List es pos) (tLst t) := by
  intro pins s σ H Q I hq
  refine wpAny_List_spliced (thn (h pos pins s σ H _ I hq) fun us s1 ⟨xs, H1, I1, r, z, q⟩ => ⟨by rw [← r.length]; exact z, ?_⟩)
  have hf : H1 s1.heap.objs.size = none := I1.hok.fresh (Nat.le_refl _)
  refine ⟨.ref s1.heap.objs.size, upd H1 s1.heap.objs.size (.lst xs), I1.laid (t' := s1.toks) (fun b u e => Heap.get?_push_of_some _ e) (Nat.le_refl _) ?_, rfl, q _ hf⟩
  exact ⟨z, us, 0, r, Heap.get?_push_size _ rfl⟩
end
noncomputable abbrev Sp := List V → Hp → VK → XK → Prop
noncomputable abbrev CXT := List Env → Hp → Shared → XK → Value → Shared → Prop
structure Env0 (P : Program) (w : World) (K : PySem.W.Frag) (mg : Str → Option Value) (base : Heap) (A : Around) (outer : List Env) (s : Shared) (H : Hp) : Prop where
  frames : A.frames = some outer
  mod : Mod K mg base
  bs : ∀ b o, base.get? b = some o → s.heap.get? b = some o ∧ H b = none
  bsz : base.objs.size ≤ s.heap.objs.size
  funs : s.heap.FunFrames base outer
  frf : ∀ b ∈ frs outer, H b = none
  hok : HOk P w H s.heap
  bare : AllBare s.gens
noncomputable def CE (outer : List Env) (P : Program) (w : World) (H : Hp) (s : Shared) (Q : VK) (u : Value) (s' : Shared) : Prop :=
  ∃ v H', s'.os = s.os ∧ AllBare s'.gens ∧ Un (frs outer) [] H H' s.heap s'.heap ∧ HOk P w H' s'.heap ∧ RelV v u ∧ Q v H'
noncomputable def CR (CX : CXT) (outer : List Env) (P : Program) (w : World) (H : Hp) (s : Shared) (Q : VK) (E : XK) (r : Result) (s' : Shared) : Prop :=
  match r with
  | .ok (.ret u) => CE outer P w H s Q u s'
  | .ok _ => False
  | .error e => CX outer H s E e s'
structure FnOk (P : Program) (w : World) (K : PySem.W.Frag) (mg : Str → Option Value) (base : Heap) (CX : CXT) (k : Nat) (f : Addr) (fd : FuncData) (ps : List Str) (sp : Sp) : Prop where
  len : ∀ vs H Q E, sp vs H Q E → vs.length = ps.length
  run : ∀ (A : Around) (outer : List Env) (s : Shared) (H : Hp) (args : Args) (us : List Value) (vs : List V) (Q : VK) (E : XK), Room k A → Env0 P w K mg base A outer s H → BindsTo s fd args (ps.zip us) → Vals vs us → sp vs H Q E →
    codeAny (model P w) A (.call (.ref f) args) (CR CX outer P w H s Q E) s
theorem FnOk.mono {P : Program} {w : World} {K : PySem.W.Frag} {mg : Str → Option Value} {base : Heap} {CX : CXT} {j k : Nat} {f : Addr} {fd : FuncData} {ps : List Str} {sp : Sp} (F : FnOk P w K mg base CX j f fd ps sp) (h : j ≤ k) :
    FnOk P w K mg base CX k f fd ps sp := ⟨F.len, fun A outer s H args us vs Q E hr => F.run A outer s H args us vs Q E (hr.mono h)⟩
theorem Env0.in1 {P : Program} {w : World} {K : PySem.W.Frag} {mg : Str → Option Value} {base : Heap} {A : Around} {outer : List Env} {s : Shared} {H : Hp} (e : Env0 P w K mg base A outer s H) :
    Env0 P w K mg base A.in1 outer s H := ⟨e.frames, e.mod, e.bs, e.bsz, e.funs, e.frf, e.hok, e.bare⟩
section
variable {X : Cx} {pins : List (Addr × Obj)} {σ : St} {H : Hp} {s s' : Shared}
theorem Inv.env0 (I : Inv X pins σ H s) : Env0 X.prog X.w X.K X.mg X.base X.A X.stack s H :=
  ⟨I.ok.frames, I.ok.mod, I.bs, Nat.le_trans I.ok.bsz I.sz, I.stack, I.stkFree, I.hok, I.bare⟩
theorem Inv.after {Q : VK} {u : Value} (I : Inv X pins σ H s) (h : CE X.stack X.prog X.w H s Q u s') : EP X pins σ Q u s' := by
  obtain ⟨v, H', os, bare, un, hok, r, q⟩ := h
  obtain ⟨hh, g, d, t, os'⟩ := s'
  obtain rfl : os' = s.os := os
  exact ⟨v, H', I.call (h' := hh) (g' := g) (d' := d) (t' := t) (ch := []) un hok bare (fun b z => absurd z (by simp)), r, q⟩
end
noncomputable def tCall (sp : Sp) (dvs : List V) (E : XK) (t : TA) : TE := fun σ H Q => t σ H fun vs H1 => sp (vs ++ dvs) H1 Q E
noncomputable def tMeth (C : Addr) (m : Str) (sp : Sp) (dvs : List V) (E : XK) (ta : TE) (t : TA) : TE := fun σ H Q => ta σ H fun x H1 => ∃ a dx fs, x = .ref a ∧ H1 a = some (.ins C dx fs) ∧ fs.lookup m = none ∧
  t σ H1 fun vs H2 => sp (x :: (vs ++ dvs)) H2 Q E
noncomputable def tMake (C : Addr) (sp : Sp) (dvs : List V) (E : XK) (t : TA) : TE := fun σ H Q => t σ H fun vs H1 => ∀ x dx, H1 x = none → H1 dx = none → dx ≠ x →
  sp (.ref x :: (vs ++ dvs)) (upd (upd H1 dx (.own x)) x (.ins C dx [])) (fun v H2 => v = .non ∧ Q (.ref x) H2) E
noncomputable def Binds (K : PySem.W.Frag) (fd : FuncData) (ps : List Str) (ds : List Value) : Prop :=
  ∀ (s : Shared) (us : List Value), K.In s.heap → (us ++ ds).length = ps.length → BindsTo s fd ⟨us, []⟩ (ps.zip (us ++ ds))
theorem Binds.all {K : PySem.W.Frag} {fd : FuncData} {ps : List Str} (h : ∀ us : List Value, us.length = ps.length → bindArgs fd ⟨us, []⟩ = pure (ps.zip us)) : Binds K fd ps [] := fun s us _ hl => by
  rw [List.append_nil] at hl ⊢
  exact .of_eq (h us hl)
noncomputable def Passes (CX : CXT) (X : Cx) (E : XK) : Prop := ∀ (pins : List (Addr × Obj)) (σ : St) (H : Hp) (s : Shared) (e : Value) (s' : Shared), Inv X pins σ H s → CX X.stack H s E e s' → X.xe e s'
section
variable {X : Cx} {CX : CXT} {k : Nat} {f C : Addr} {fd : FuncData} {ps : List Str} {sp : Sp} {dvs : List V} {ds : List Value} {E : XK} {x m : Str} {p pos apos : Pos} {e o : Expr} {es : List Expr} {ta : TE} {t : TA}
theorem run_fn {pins : List (Addr × Obj)} {σ : St} {H : Hp} {s : Shared} {Q : VK} {us : List Value} {vs : List V} (F : FnOk X.prog X.w X.K X.mg X.base CX k f fd ps sp) (hr : Room k X.A) (hb : Binds X.K fd ps ds) (hd : Vals dvs ds) (hx : Passes CX X E)
    (I : Inv X pins σ H s) (r : Vals vs us) (h : sp (vs ++ dvs) H Q E) : wpAny (model X.prog X.w) X.A (call (.ref f) us) (EP X pins σ Q) X.xe s := by
  have r2 : Vals (vs ++ dvs) (us ++ ds) := r.append hd
  have hl : (us ++ ds).length = ps.length := by rw [← r2.length]; exact F.len _ _ _ _ h
  refine wpAny_call (codeAny_mono (F.run X.A X.stack s H ⟨us, []⟩ (us ++ ds) (vs ++ dvs) Q E hr I.env0 (hb s us I.kIn hl) r2 h) fun r s' hq => ?_)
  cases r with
  | error e => exact hx pins σ H s e s' I hq
  | ok fl =>
    cases fl with
    | ret u => exact I.after hq
    | next => exact False.elim hq
    | brk => exact False.elim hq
    | cont => exact False.elim hq
theorem pe_call (F : FnOk X.prog X.w X.K X.mg X.base CX k f fd ps sp) (hr : Room k X.A) (hg : Gl X x) (hm : X.mg x = some (.ref f)) (hk : PySem.W.keepIn X.K (.ref f) = true) (hb : Binds X.K fd ps ds) (hd : Vals dvs ds) (hx : Passes CX X E)
    (ha : PA X (e :: es) t) (hdb : (x == ("__debug__" : Str)) = false := by decide) (he : starEach (e :: es) X.env = (false, eval e X.env) :: starEach es X.env := by rfl) (hpl : (backTo pos (starEach es X.env)).any (·.1) = false := by rfl) :
    PE X (.Call (.Name x p) (e :: es) [] pos) (tCall sp dvs E t) := by
  intro pins s σ H Q I h
  refine wpAny_Call_Name_kw (ld_glob I hg hm ?_ hdb)
  refine PySem.W.callWith_K (h₀ := X.base) I.ok.mod.kin hk (thn (ha pos pins s σ H _ I h) fun us s1 ⟨vs, H1, I1, r, q⟩ => ⟨I1.kIn, ?_⟩) he hpl
  exact run_fn F hr hb hd hx I1 r q
structure Mk (K : PySem.W.Frag) (C f : Addr) : Prop where
  makes : PySem.W.makesIn K C = true
  init : PySem.W.findIn K (.ref C) "__init__" = some (some (.ref f))
  fn : PySem.W.isFn K (.ref f) = true
  kp : PySem.W.keepIn K (.ref C) = true
end
noncomputable def PK (X : Cx) (kws : List Keyword) (t : TA) : Prop :=
  ∀ (pos : Pos) (pins : List (Addr × Obj)) (s : Shared) (σ : St) (H : Hp) (Q : List V → Hp → Prop), Inv X pins σ H s → t σ H Q → wpAny (model X.prog X.w) X.A (evalAll ((backToKw pos (keywordEach kws X.env)).map (·.2))) (AP X pins σ Q) X.xe s
section
variable {X : Cx} {CX : CXT} {k : Nat} {f C : Addr} {fd : FuncData} {ps ks : List Str} {sp : Sp} {E : XK} {x m : Str} {p pos apos kpos : Pos} {e o : Expr} {es : List Expr} {kws : List Keyword} {te ta : TE} {t tk : TA} {nm : Option Str}
structure KBinds (K : PySem.W.Frag) (fd : FuncData) (ps ks : List Str) (g : List Value → List Value → List Value) (gV : List V → List V → List V) : Prop where
  to : ∀ (s : Shared) (us ws : List Value), K.In s.heap → (g us ws).length = ps.length → BindsTo s fd ⟨us, ks.zip ws⟩ (ps.zip (g us ws))
  rel : ∀ {vs : List V} {us : List Value} {zs : List V} {ws : List Value}, Vals vs us → Vals zs ws → Vals (gV vs zs) (g us ws)
noncomputable def tCallK (sp : Sp) (gV : List V → List V → List V) (E : XK) (t tk : TA) : TE := fun σ H Q => t σ H fun vs H1 => tk σ H1 fun zs H2 => sp (gV vs zs) H2 Q E
variable {g : List Value → List Value → List Value} {gV : List V → List V → List V}
end
structure FnScope (N P : List Str) (sc : Scope) : Prop where
  kind : sc.kind = .function
  co : sc.isCoroutine = false
  gen : sc.isGenerator = false
  nd : N.Nodup
  pre : N.take P.length = P
  par : ∀ x ∈ P, sc.names.lookup x = some .local ∨ sc.names.lookup x = some .cell
  nofree : ∀ y ∈ sc.names, y.2 ≠ .free
theorem bindL_out {kindOf : Str → Option NameKind} {x : Str} : ∀ {binds : List (Str × Value)} {m : Str → Option Value}, (∀ v, (x, v) ∉ binds) → bindL kindOf binds m x = m x
  | [], _, _ => rfl
  | (n, v) :: r, m, h => by
    unfold bindL
    rw [bindL_out fun w hw => h w (List.mem_cons_of_mem _ hw)]
    split
    · have : x ≠ n := by rintro rfl; exact h v List.mem_cons_self
      simp [this]
    · rfl
theorem bindC_out {kindOf : Str → Option NameKind} {x : Str} : ∀ {binds : List (Str × Value)} {m : Str → Option Value}, (∀ v, (x, v) ∉ binds) → bindC kindOf binds m x = m x
  | [], _, _ => rfl
  | (n, v) :: r, m, h => by
    unfold bindC
    rw [bindC_out fun w hw => h w (List.mem_cons_of_mem _ hw)]
    split
    · rfl
    · have : x ≠ n := by rintro rfl; exact h v List.mem_cons_self
      simp [this]
theorem bindL_get {kindOf : Str → Option NameKind} {x : Str} {v : Value} : ∀ {P : List Str} {vs : List Value} {i : Nat} {m : Str → Option Value}, P.Nodup → P[i]? = some x → vs[i]? = some v → kindOf x = some .local →
    bindL kindOf (P.zip vs) m x = some v
  | [], _, _, _, _, h, _, _ => by simp at h
  | _ :: _, [], _, _, _, _, h, _ => by simp at h
  | p :: P, w :: vs, 0, m, nd, h1, h2, hk => by
    simp at h1 h2; subst h1; subst h2
    show bindL kindOf ((p, w) :: P.zip vs) m p = _
    unfold bindL
    rw [bindL_out fun v hv => (List.nodup_cons.mp nd).1 (List.of_mem_zip hv).1, if_pos hk]
    simp
  | p :: P, w :: vs, i + 1, m, nd, h1, h2, hk => by
    show bindL kindOf ((p, w) :: P.zip vs) m x = _
    unfold bindL
    exact bindL_get (i := i) (List.nodup_cons.mp nd).2 (by simpa using h1) (by simpa using h2) hk
theorem bindC_get {kindOf : Str → Option NameKind} {x : Str} {v : Value} : ∀ {P : List Str} {vs : List Value} {i : Nat} {m : Str → Option Value}, P.Nodup → P[i]? = some x → vs[i]? = some v → kindOf x ≠ some .local →
    bindC kindOf (P.zip vs) m x = some v
  | [], _, _, _, _, h, _, _ => by simp at h
  | _ :: _, [], _, _, _, _, h, _ => by simp at h
  | p :: P, w :: vs, 0, m, nd, h1, h2, hk => by
    simp at h1 h2; subst h1; subst h2
    show bindC kindOf ((p, w) :: P.zip vs) m p = _
    unfold bindC
    rw [bindC_out fun v hv => (List.nodup_cons.mp nd).1 (List.of_mem_zip hv).1, if_neg hk]
    simp
  | p :: P, w :: vs, i + 1, m, nd, h1, h2, hk => by
    show bindC kindOf ((p, w) :: P.zip vs) m x = _
    unfold bindC
    exact bindC_get (i := i) (List.nodup_cons.mp nd).2 (by simpa using h1) (by simpa using h2) hk
noncomputable def start (N : List Str) (vs : List V) : St := vs.map some ++ List.replicate (N.length - vs.length) none
noncomputable def cxOf (CX : CXT) (P : Program) (w : World) (K : PySem.W.Frag) (mg : Str → Option Value) (base : Heap) (N : List Str) (qual : Str) (scope : Scope) (f : Addr) (cd : Value) (A : Around) (outer : List Env) (s : Shared) (H : Hp) (E : XK) : Cx where
  prog := P
  w := w
  K := K
  mg := mg
  base := base
  A := A.deeper (envOfC qual scope s.heap.objs.size f cd)
  N := N
  s₀ := s
  H₀ := H
  env := envOfC qual scope s.heap.objs.size f cd
  outer := outer
  stack := envOfC qual scope s.heap.objs.size f cd :: outer
  ex := []
  calm := true
  fn := fun _ => true
  pn := []
  xe := fun e s' => wpAny (model P w) (A.deeper (envOfC qual scope s.heap.objs.size f cd)) (leaving (envOfC qual scope s.heap.objs.size f cd) e) (fun _ s'' => CX outer H s E e s'') (fun e' s'' => CX outer H s E e' s'') s'
theorem cell_has {sc : Scope} {n : Nat} {x : Str} (h : sc.names.lookup x = some .cell) : ∃ c, (cellsFrom n sc.names []).lookup x = some c := by
  have q := PySem.W.cellsFrom_some sc.names n [] (.inl h)
  exact Option.isSome_iff_exists.mp q
theorem inv_start {CX : CXT} {P : Program} {w : World} {K : PySem.W.Frag} {mg : Str → Option Value} {base : Heap} {N ps : List Str} {qual : Str} {scope : Scope} {f : Addr} {cd : Value} {A : Around} {outer : List Env} {s s1 : Shared} {H : Hp} {E : XK} {us : List Value} {vs : List V}
    (S : FnScope N ps scope) (hd : A.handled = none) (e0 : Env0 P w K mg base A outer s H) (hl : vs.length = ps.length) (r : Vals vs us)
    (x : InCallC s s.heap.objs.size (bindL (envOfC qual scope s.heap.objs.size f cd).kindOf (ps.zip us) fun _ => none) (cellsFrom (s.heap.objs.size + 1) scope.names []) (bindC (envOfC qual scope s.heap.objs.size f cd).kindOf (ps.zip us) fun _ => none) s1) :
    Inv (cxOf CX P w K mg base N qual scope f cd A outer s H E) [] (start N vs) H s1 := by
  have hpl : ps.length ≤ N.length := by have := congrArg List.length S.pre; rw [List.length_take] at this; omega
  obtain ⟨h1, tk, rfl, hk⟩ := x.done
  have noA : ∀ b : Addr, b ∉ (cxOf CX P w K mg base N qual scope f cd A outer s H E).ex := fun b z => absurd (show b ∈ ([] : List Addr) from z) (by simp)
  refine ⟨⟨e0.mod, S.kind, rfl, rfl, Nat.le_refl _, fun y z c h1 h2 => ?_, fun y hy => ?_, fun y c _ h => ?_, fun _ => hd, Around.frames_deeper e0.frames, .inr ⟨rfl, rfl⟩, fun b z => absurd z (noA b), e0.bs, e0.bsz, fun b _ _ => noA b, fun b z => absurd z (noA b), e0.funs, e0.frf⟩,
    rfl, e0.bare, Un.kept hk, ⟨_, x.toInCall.ns, fun i y v h1 h2 h3 => ?_⟩, fun y c h => ⟨_, x.cell y c h⟩, e0.hok.fresh (Nat.le_refl _), fun y c h => ?_, fun p hp => absurd (show p ∈ ([] : List (Addr × Obj)) from hp) (by simp), e0.hok.kept hk, ?_⟩
  · exact name_of_addr x.apart (PySem.mem_of_lookup h1) (PySem.mem_of_lookup h2)
  · have hy : scope.names.lookup y = some .cell ∨ scope.names.lookup y = some .free := hy
    rcases hy with hy | hy
    · exact cell_has hy
    · exact absurd rfl (S.nofree _ (PySem.mem_of_lookup hy))
  · exact Nat.le_of_lt (x.above y c (PySem.mem_of_lookup h))
  · have hi : i < vs.length := by
      unfold start at h2
      by_cases hi : i < vs.length
      · exact hi
      · rw [List.getElem?_append_right (by simpa using hi)] at h2
        rw [List.getElem?_replicate] at h2
        split at h2 <;> cases h2
    have ha : vs[i]? = some v := by
      unfold start at h2
      rw [List.getElem?_append_left (by simpa using hi), List.getElem?_map] at h2
      cases e : vs[i]? with
      | none => rw [e] at h2; cases h2
      | some a => rw [e] at h2; cases h2; rfl
    obtain ⟨u, hu, rv⟩ := r.get ha
    have hp : ps[i]? = some y := by
      rw [← S.pre, List.getElem?_take_of_lt (by omega)]; exact h1
    have ndP : ps.Nodup := by rw [← S.pre]; exact S.nd.sublist (List.take_sublist _ _)
    refine ⟨u, rv, ?_⟩
    rcases S.par y (List.mem_of_getElem? hp) with k | k
    · exact .inl ⟨k, bindL_get ndP hp hu k⟩
    · obtain ⟨c, e⟩ := cell_has (n := s.heap.objs.size + 1) k
      refine .inr ⟨.inl k, c, e, ?_⟩
      have q := x.cell y c e
      rw [bindC_get ndP hp hu (by show scope.names.lookup y ≠ _; rw [k]; decide)] at q
      exact q
  · exact e0.hok.fresh (Nat.le_of_lt (x.above y c (PySem.mem_of_lookup h)))
  · unfold start
    show _ = N.length
    rw [List.length_append, List.length_map, List.length_replicate]
    omega
theorem fn_of {CX : CXT} {P : Program} {w : World} {K : PySem.W.Frag} {mg : Str → Option Value} {base : Heap} {k : Nat} {f : Addr} {name qual : Str} {params : Arguments} {body : List Stmt} {scope : Scope} {dV kV doc pm cdv ct oc : Value} {an od : Option Addr}
    {osl : Array (Option Value)} {N ps : List Str} {sp : Sp} (lk : K.lookup f = some ⟨oc, od, .func (PySem.W.fnOf name qual params body scope dV kV doc pm an cdv ct), osl⟩) (hcd : PySem.W.codeIn K cdv qual = true) (S : FnScope N ps scope)
    (len : ∀ vs H Q E, sp vs H Q E → vs.length = ps.length)
    (hbody : ∀ (A : Around) (outer : List Env) (s : Shared) (H : Hp) (vs : List V) (Q : VK) (E : XK), Room k (A.deeper (envOfC qual scope s.heap.objs.size f cdv)) → sp vs H Q E →
      ∃ t, PSs (cxOf CX P w K mg base N qual scope f cdv A outer s H E) body t ∧ t { nx := fun _ H' => Q .non H', rt := Q } (start N vs) H) :
    FnOk P w K mg base CX (k + 1) f (PySem.W.fnOf name qual params body scope dV kV doc pm an cdv ct) ps sp := by
  refine ⟨len, fun A outer s H args us vs Q E hr e0 hb r hsp => ?_⟩
  have hl := len _ _ _ _ hsp
  have KX : K.In s.heap := e0.mod.kin.keeps fun b o e => (e0.bs b o e).1
  have lim : s.heap.NoLimit := e0.mod.nolimit.keeps fun b o e => (e0.bs b o e).1
  have hkind : ∀ y ∈ ps.zip us, scope.names.lookup y.1 = some .local ∨ (scope.names.lookup y.1 = some .cell ∧ ((cellsFrom (s.heap.objs.size + 1) scope.names []).lookup y.1).isSome = true) := fun ⟨n, v⟩ hy => by
    rcases S.par n (List.of_mem_zip hy).1 with q | q
    · exact .inl q
    · exact .inr ⟨q, PySem.W.cellsFrom_some _ _ _ (.inl q)⟩
  refine codeAny_call_function hr.depth (KX _ _ lk) rfl S.co S.gen rfl (PySem.W.codeRec_of KX hcd) (hb _ _ _ _ ?_)
  refine wpAny_newFunctionEnv_cells S.kind hkind fun env he s1 x => ?_
  subst he
  refine ⟨lim.keeps x.toInCall.keep, codeAny_func ?_⟩
  obtain ⟨t, ht, hq⟩ := hbody A outer s H vs Q E (hr.deeper _) hsp
  have I : Inv (cxOf CX P w K mg base N qual scope f cdv A outer s H E) [] (start N vs) H s1 := inv_start S hr.hd e0 hl r x
  refine wpAny_mono (ht [] s1 (start N vs) H _ I hq) (fun fl s' hs => ?_) fun e s' hs => hs
  have fin : ∀ {σ' : St} {H' : Hp} {v : V} {u : Value}, Inv (cxOf CX P w K mg base N qual scope f cdv A outer s H E) [] σ' H' s' → RelV v u → Q v H' → CE outer P w H s Q u s' :=
    fun {σ' H' v u} J rv q => ⟨v, H', J.os, J.bare, J.base, J.hok, rv, q⟩
  cases fl with
  | ret u =>
    obtain ⟨v, σ', H', J, rv, q⟩ := hs
    exact fin J rv q
  | next =>
    obtain ⟨σ', H', J, q⟩ := hs
    exact fin (v := V.non) (u := Value.none) J rfl q
  | brk =>
    obtain ⟨_, _, _, q⟩ := hs
    exact False.elim q
  | cont =>
    obtain ⟨_, _, _, q⟩ := hs
    exact False.elim q
end L2
namespace L2
open PySem PySem.Spec PyProof.Rows
section
variable {X : Cx} {x : Str} {p pos : Pos} {e : Expr} {es : List Expr} {t : TA} {id T : String} {r : List V → Hp → VK → Prop}
noncomputable def tCB (r : List V → Hp → VK → Prop) (t : TA) : TE := fun σ H Q => t σ H fun vs H1 => r vs H1 Q
theorem pe_callB (hc : CallR X (.builtin id) r) (hg : Gl X x) (hm : X.mg x = none) (hv : bootBuiltins x = some (.builtin id)) (ha : PA X (e :: es) t) (hn : x ≠ "__name__" := by decide) (hdb : (x == ("__debug__" : Str)) = false := by decide)
    (he : starEach (e :: es) X.env = (false, eval e X.env) :: starEach es X.env := by rfl) (hpl : (backTo pos (starEach es X.env)).any (·.1) = false := by rfl) : PE X (.Call (.Name x p) (e :: es) [] pos) (tCB r t) := by
  intro pins s σ H Q I h
  refine wpAny_Call_Name_kw (ld_blt I hg hm hv ?_ hn hdb)
  exact PyProof.Rows.callWith_builtin1 (thn (ha pos pins s σ H _ I h) fun us s1 ⟨vs, H1, I1, r1, q1⟩ => hc pins s1 σ H1 vs us Q I1 r1 q1) he hpl
theorem pe_callTy (hc : CallR X (.type T) r) (hg : Gl X x) (hm : X.mg x = none) (hv : bootBuiltins x = some (.type T)) (ha : PA X (e :: es) t) (hn : x ≠ "__name__" := by decide) (hdb : (x == ("__debug__" : Str)) = false := by decide)
    (he : starEach (e :: es) X.env = (false, eval e X.env) :: starEach es X.env := by rfl) (hpl : (backTo pos (starEach es X.env)).any (·.1) = false := by rfl) : PE X (.Call (.Name x p) (e :: es) [] pos) (tCB r t) := by
  intro pins s σ H Q I h
  refine wpAny_Call_Name_kw (ld_blt I hg hm hv ?_ hn hdb)
  exact PyProof.Rows.callWith_type1 (thn (ha pos pins s σ H _ I h) fun us s1 ⟨vs, H1, I1, r1, q1⟩ => hc pins s1 σ H1 vs us Q I1 r1 q1) he hpl
end
end L2
namespace HT
open PySem PyProof.Rows
noncomputable def lexLt : List Int → List Int → Bool
  | [], [] => false
  | [], _ :: _ => true
  | _ :: _, [] => false
  | x :: xs, y :: ys => if x = y then lexLt xs ys else decide (x < y)
section
open PySem.SeqAt
open PySem.AutoSeq1 (wpAny_loadPart')
open PySem.MeetsSeq PySem.MeetsSeq2 PySem.MeetsSeq3
end
section
variable {prog : Program} {w : World} {A : Around} {E : Value → Shared → Prop} {s : Shared}
noncomputable def sIx (n d : Nat) : Option Int → Nat
  | none => d
  | some v => if v < 0 then (v + (n : Int)).toNat else min v.toNat n
end
end HT
namespace L2
open PySem PySem.Spec PyProof.Rows
noncomputable abbrev TO := St → Hp → (Option Int → Hp → Prop) → Prop
noncomputable def PO (X : Cx) (e : Option Expr) (t : TO) : Prop :=
  ∀ (pins : List (Addr × Obj)) (s : Shared) (σ : St) (H : Hp) (Q : Option Int → Hp → Prop), Inv X pins σ H s → t σ H Q →
    wpAny (model X.prog X.w) X.A (evalPart e X.env) (fun u s' => ∃ o H', Inv X pins σ H' s' ∧ IsPart u o ∧ Q o H') X.xe s
noncomputable def tNoPart : TO := fun _ H Q => Q none H
noncomputable def tPart (t : TE) : TO := fun σ H Q => t σ H fun x H1 => ∃ i, x = .int i ∧ Q (some i) H1
section
variable {X : Cx} {e : Expr} {te : TE} {lo hi : Option Expr} {tl th : TO} {pos p2 : Pos}
noncomputable def SlR (X : Cx) (r : V → Option Int → Option Int → Hp → VK → Prop) : Prop :=
  ∀ (pins : List (Addr × Obj)) (s : Shared) (σ : St) (H : Hp) (x : V) (v vl vu : Value) (lo hi : Option Int) (sl : Addr) (Q : VK), Inv X pins σ H s → RelV x v → s.heap.IsSliceOf sl vl vu .none → IsPart vl lo → IsPart vu hi → r x lo hi H Q →
    ∃ T id, typeLookup (.type T) "__getitem__" = pure (some (.builtin id)) ∧ s.TypeIs v T ∧ wpAny (model X.prog X.w) X.A (getItem v (.ref sl)) (EP X pins σ Q) X.xe s
theorem SlR.or {r r' : V → Option Int → Option Int → Hp → VK → Prop} (h : SlR X r) (h' : SlR X r') : SlR X (fun x lo hi H Q => r x lo hi H Q ∨ r' x lo hi H Q) := by
  intro pins s σ H x v vl vu lo hi sl Q I rx hs pl pu q
  rcases q with q | q
  · exact h pins s σ H x v vl vu lo hi sl Q I rx hs pl pu q
  · exact h' pins s σ H x v vl vu lo hi sl Q I rx hs pl pu q
noncomputable def tSl (r : V → Option Int → Option Int → Hp → VK → Prop) (te : TE) (tl th : TO) : TE := fun σ H Q => te σ H fun x H1 => tl σ H1 fun l H2 => th σ H2 fun u H3 => r x l u H3 Q
noncomputable def cutV (xs : List V) (lo hi : Option Int) : List V := (xs.drop (HT.sIx xs.length 0 lo)).take (HT.sIx xs.length xs.length hi - HT.sIx xs.length 0 lo)
noncomputable def rSlT (K : PySem.W.Frag) : V → Option Int → Option Int → Hp → VK → Prop := fun x lo hi H Q => ∃ a xs, x = .ref a ∧ SqT K H a xs ∧
  ¬ (HT.sIx xs.length 0 lo = 0 ∧ HT.sIx xs.length xs.length hi = xs.length) ∧ ∀ p, H p = none → Q (.ref p) (upd H p (.tup (cutV xs lo hi)))
noncomputable def rLtT (K : PySem.W.Frag) : R2 := fun x y H Q => ∃ a b ns ms, x = .ref a ∧ y = .ref b ∧ SqT K H a (ns.map V.int) ∧ SqT K H b (ms.map V.int) ∧ Q (.bl (HT.lexLt ns ms)) H
noncomputable def rCatT (K : PySem.W.Frag) : R2 := fun x y H Q => ∃ a b xs ys, x = .ref a ∧ y = .ref b ∧ SqT K H a xs ∧ SqT K H b ys ∧ xs ≠ [] ∧ xs.length + ys.length ≤ sizeLine ∧
  (ys = [] → Q (.ref a) H) ∧ (ys ≠ [] → ∀ p, H p = none → Q (.ref p) (upd H p (.tup (xs ++ ys))))
end
end L2
namespace L2
open PySem PySem.Spec PyProof.Rows
noncomputable def ixN (n : Nat) (i : Int) : Option Nat := if 0 ≤ i then (if i < n then some i.toNat else none) else if -(n : Int) ≤ i then some (i + n).toNat else none
noncomputable def atI {α : Type} (xs : List α) (i : Int) : Option α := (ixN xs.length i).bind fun j => xs[j]?
theorem ixN_seq {n : Nat} {i : Int} {j : Nat} (h : ixN n i = some j) : seqIndex? i n = some j ∧ j < n ∧ -(n : Int) ≤ i ∧ i < n := by
  unfold ixN at h
  by_cases h0 : 0 ≤ i
  · rw [if_pos h0] at h
    by_cases h1 : i < n
    · rw [if_pos h1] at h
      have e : i.toNat = j := Option.some.inj h
      exact ⟨by rw [seqIndex_of h0 h1, e], by omega, by omega, h1⟩
    · rw [if_neg h1] at h; cases h
  · rw [if_neg h0] at h
    by_cases h1 : -(n : Int) ≤ i
    · rw [if_pos h1] at h
      have e : (i + n).toNat = j := Option.some.inj h
      exact ⟨by rw [seqIndex_neg (by omega) h1, e], by omega, h1, by omega⟩
    · rw [if_neg h1] at h; cases h
theorem atI_get {α : Type} {xs : List α} {i : Int} {v : α} (h : atI xs i = some v) : ∃ j, seqIndex? i xs.length = some j ∧ xs[j]? = some v ∧ j < xs.length ∧ -(xs.length : Int) ≤ i ∧ i < xs.length := by
  unfold atI at h
  cases e : ixN xs.length i with
  | none => rw [e] at h; cases h
  | some j =>
    rw [e] at h
    obtain ⟨h1, h2, h3, h4⟩ := ixN_seq e
    exact ⟨j, h1, h, h2, h3, h4⟩
theorem atI_nat {α : Type} {xs : List α} {j : Nat} {v : α} (h : xs[j]? = some v) : atI xs (j : Int) = some v := by
  have hj : j < xs.length := (List.getElem?_eq_some_iff.mp h).1
  have e : ixN xs.length (j : Int) = some j := by
    unfold ixN
    rw [if_pos (by omega), if_pos (by omega)]; simp
  unfold atI; rw [e]; exact h
noncomputable def PlainIx (b : Expr) : Prop := ∀ o i, subscripted b false o i = operate [o, i] (getItem o i)
noncomputable def IxR (X : Cx) (r : R2) : Prop :=
  ∀ (value slice : Expr) (pins : List (Addr × Obj)) (s : Shared) (σ : St) (H : Hp) (x y : V) (v u : Value) (Q : VK), Inv X pins σ H s → RelV x v → RelV y u → r x y H Q →
    subscripted slice false v u = operate [v, u] (getItem v u) → wpAny (model X.prog X.w) X.A (subscriptTail value slice v u) (EP X pins σ Q) X.xe s
noncomputable def MtR (X : Cx) (id : String) (r : V → List V → Hp → VK → Prop) : Prop :=
  ∀ (pins : List (Addr × Obj)) (s : Shared) (σ : St) (H : Hp) (x : V) (xs : List V) (v : Value) (us : List Value) (Q : VK), Inv X pins σ H s → RelV x v → Vals xs us → r x xs H Q →
    wpAny (model X.prog X.w) X.A (call (.builtin id) (v :: us)) (EP X pins σ Q) X.xe s
section
variable {X : Cx} {a b : Expr} {ta tb : TE} {pos : Pos}
theorem IxR.or {r r' : R2} (h : IxR X r) (h' : IxR X r') : IxR X (fun x y H Q => r x y H Q ∨ r' x y H Q) := by
  intro value slice pins s σ H x y v u Q I rx ry q hs
  rcases q with q | q
  · exact h value slice pins s σ H x y v u Q I rx ry q hs
  · exact h' value slice pins s σ H x y v u Q I rx ry q hs
theorem MtR.or {id : String} {r r' : V → List V → Hp → VK → Prop} (h : MtR X id r) (h' : MtR X id r') : MtR X id (fun x xs H Q => r x xs H Q ∨ r' x xs H Q) := by
  intro pins s σ H x xs v us Q I rx rs q
  rcases q with q | q
  · exact h pins s σ H x xs v us Q I rx rs q
  · exact h' pins s σ H x xs v us Q I rx rs q
theorem pe_ix {r : R2} (hr : IxR X r) (ha : PE X a ta) (hb : PE X b tb) (hs : PlainIx b) : PE X (.Subscript a b pos) (tOp r ta tb) := by
  intro pins s σ H Q I h
  exact Subscript_ (binT ha hb I h fun v u s2 x y H2 I2 rx ry q => hr a b pins s2 σ H2 x y v u Q I2 rx ry q (hs _ _))
noncomputable def rIxL (K : PySem.W.Frag) : R2 := fun x y H Q => ∃ p xs i v, x = .ref p ∧ y = .int i ∧ SqL K H p xs ∧ atI xs i = some v ∧ Q v H
noncomputable def rIxT (K : PySem.W.Frag) : R2 := fun x y H Q => ∃ p xs i v, x = .ref p ∧ y = .int i ∧ SqT K H p xs ∧ atI xs i = some v ∧ Q v H
noncomputable def rIxS : R2 := fun x y H Q => ∃ z i c, x = .str z ∧ y = .int i ∧ z.length ≤ sizeLine ∧ atI z.cps.toList i = some c ∧ Q (.str ⟨#[c]⟩) H
theorem ix_list : IxR X (rIxL X.K) := by
  intro value slice pins s σ H x y v u Q I rx ry h hs
  obtain ⟨p, xs, i, z, rfl, rfl, hq, he, q⟩ := h
  cases rx
  obtain ⟨t, rfl⟩ := ry
  obtain ⟨its, r, pl, hz⟩ := I.list hq
  obtain ⟨j, h1, h2, h3, h4, h5⟩ := atI_get he
  obtain ⟨w, ew, rw'⟩ := r.get h2
  have hl := r.length
  have hn := line63
  have fin : EP X pins σ Q w s := ⟨z, H, I, rw', q⟩
  by_cases h0 : 0 ≤ i
  · have hj : i.toNat = j := by
      rw [seqIndex_of h0 h5] at h1
      exact Option.some.inj h1
    exact item_listR pl.isList h0 (by omega) (by rw [hj]; simpa using ew) fin hs
  · have hj : (i + (its.toArray.size : Int)).toNat = j := by
      rw [seqIndex_neg (by omega) h4] at h1
      rw [List.size_toArray, ← hl]
      exact Option.some.inj h1
    exact subscriptTail_builtinR (x := w) pl.isList.typeIs slot_list_getitem.lookup
      (wpAny_getItem_list_neg (Q := fun r s' => r = w ∧ EP X pins σ Q r s') pl.isList (by omega) (by rw [List.size_toArray] <;> omega) (by omega) (by rw [hj]; simpa using ew) ⟨rfl, fin⟩) hs
theorem ix_tup : IxR X (rIxT X.K) := by
  intro value slice pins s σ H x y v u Q I rx ry h hs
  obtain ⟨p, xs, i, z, rfl, rfl, hq, he, q⟩ := h
  cases rx
  obtain ⟨t, rfl⟩ := ry
  obtain ⟨its, r, pl, hz⟩ := I.tuple hq
  obtain ⟨j, h1, h2, h3, h4, h5⟩ := atI_get he
  obtain ⟨w, ew, rw'⟩ := r.get h2
  have hl := r.length
  have hn := line63
  have fin : EP X pins σ Q w s := ⟨z, H, I, rw', q⟩
  exact subscriptTail_builtinR (x := w) pl.typeIs slot_tuple_getitem.lookup
    (getItem_tuple (j := j) (Q := fun r s' => r = w ∧ EP X pins σ Q r s') pl (by omega) (by omega) (by rw [List.size_toArray, ← hl]; exact h1) (by simpa using ew) ⟨rfl, fin⟩) hs
noncomputable def rIx (K : PySem.W.Frag) : R2 := fun x y H Q => rIxL K x y H Q ∨ rIxT K x y H Q ∨ rIxS x y H Q
theorem mapSeq_set (its : List Value) (n j : Nat) (u : Value) : Obj.mapSeq (·.setIfInBounds j u) { cls := .type "list", data := .seq its.toArray n } = { cls := .type "list", data := .seq (its.set j u).toArray n } := by
  simp [Obj.mapSeq]
theorem Inv.lst {pins : List (Addr × Obj)} {σ : St} {H : Hp} {s : Shared} {p : Addr} {xs : List V} (I : Inv X pins σ H s) (h : H p = some (.lst xs)) :
    ∃ (its : List Value) (n : Nat), Vals xs its ∧ s.heap.get? p = some { cls := .type "list", data := .seq its.toArray n } ∧ xs.length ≤ sizeLine := by
  obtain ⟨z, its, n, r, e⟩ := I.hok p _ h
  exact ⟨its, n, r, e, z⟩
theorem Inv.lstUpd {pins : List (Addr × Obj)} {σ : St} {H : Hp} {s : Shared} {p : Addr} {xs ys : List V} {its its' : List Value} {n n' : Nat} {f : Obj → Obj} (I : Inv X pins σ H s) (h : H p = some (.lst xs))
    (ho : s.heap.get? p = some { cls := .type "list", data := .seq its.toArray n }) (hf : f { cls := .type "list", data := .seq its.toArray n } = { cls := .type "list", data := .seq its'.toArray n' }) (r : Vals ys its') (hz : ys.length ≤ sizeLine) (t : Nat) :
    Inv X pins σ (upd H p (.lst ys)) { s with heap := s.heap.update p f, toks := t } := by
  have e : (s.heap.update p f).get? p = some { cls := .type "list", data := .seq its'.toArray n' } := by
    rw [Heap.get?_update_self f ho (by rw [hf] <;> rfl), hf]
  refine I.write (x := p) (e := p) (by rw [h]; trivial) (.inl rfl) (fun b u hb q => (Heap.get?_update_other _ _ (Ne.symm hb)).trans q) ⟨_, e⟩ ?_
  exact ⟨hz, its', n', r, e⟩
noncomputable def rSetL : V → V → V → Hp → (Hp → Prop) → Prop := fun o i v H Q => ∃ p xs k j, o = .ref p ∧ i = .int k ∧ H p = some (.lst xs) ∧ ixN xs.length k = some j ∧ Q (upd H p (.lst (xs.set j v)))
theorem set_list : PSet X rSetL := by
  intro pins s σ H o i v ov iv u Q I ro ri rv h
  obtain ⟨p, xs, k, j, rfl, rfl, hp, hj, q⟩ := h
  cases ro
  obtain ⟨t, rfl⟩ := ri
  obtain ⟨its, n, r, ho, hz⟩ := I.lst hp
  obtain ⟨h1, h2, h3, h4⟩ := ixN_seq hj
  have hl := r.length
  have hn := line63
  have I' : Inv X pins σ (upd H p (.lst (xs.set j v))) { s with heap := s.heap.update p (Obj.mapSeq (·.setIfInBounds j u)) } :=
    I.lstUpd hp ho (mapSeq_set its n j u) (r.set rv j) (by rw [List.length_set]; exact hz) s.toks
  by_cases h0 : 0 ≤ k
  · have hk : k.toNat = j := by
      rw [seqIndex_of h0 h4] at h1
      exact Option.some.inj h1
    exact PySem.W.ki_setAt ho h0 (by omega) (by rw [List.size_toArray, ← hl]; exact h4) (by rw [hk]; exact ⟨_, I', q⟩)
  · have hk : (k + (its.toArray.size : Int)).toNat = j := by
      rw [seqIndex_neg (by omega) h3] at h1
      rw [List.size_toArray, ← hl]
      exact Option.some.inj h1
    exact PySem.W.ki_setBack ho (by omega) (by rw [List.size_toArray, ← hl]; exact h3) (by omega) (by rw [hk]; exact ⟨_, I', q⟩)
noncomputable def rSlL (K : PySem.W.Frag) : V → Option Int → Option Int → Hp → VK → Prop := fun x lo hi H Q => ∃ a xs, x = .ref a ∧ SqL K H a xs ∧ ∀ p, H p = none → Q (.ref p) (upd H p (.lst (cutV xs lo hi)))
noncomputable def flatV : V → Bool
  | .non => true
  | .bl _ => true
  | .int _ => true
  | .str _ => true
  | _ => false
noncomputable def eqV : V → V → Bool
  | .non, .non => true
  | .bl a, .bl b => a == b
  | .bl a, .int b => (if a then 1 else 0) == b
  | .int a, .bl b => a == (if b then 1 else 0)
  | .int a, .int b => a == b
  | .str a, .str b => a == b
  | _, _ => false
noncomputable def eqU (x : V) (u : Value) : Bool := match u with
  | .none => eqV .non x
  | .bool b => eqV (.bl b) x
  | .int i _ => eqV (.int i) x
  | .str z _ => eqV (.str z) x
  | _ => false
noncomputable def inV (x : V) (xs : List V) : Bool := xs.any fun y => eqV y x
noncomputable def rIn (K : PySem.W.Frag) (neg : Bool) : R2 := fun x y H Q => ∃ p xs, y = .ref p ∧ (SqL K H p xs ∨ SqT K H p xs) ∧ flatV x = true ∧ xs.all flatV = true ∧ Q (.bl (if neg then !inV x xs else inV x xs)) H
theorem call_len_seq : CallR X (.builtin "len") (fun xs H Q => ∃ p ys, xs = [.ref p] ∧ (SqL X.K H p ys ∨ SqT X.K H p ys) ∧ Q (.int ys.length) H) := by
  intro pins s σ H xs us Q I r h
  obtain ⟨p, ys, rfl, hq, q⟩ := h
  obtain ⟨u, rfl, rx⟩ := vals1 r
  cases rx
  have hn := line63
  rcases hq with hq | hq
  · obtain ⟨its, r', pl, hz⟩ := I.list hq
    have hlen := r'.length
    exact Calls.call_len_list pl.isList (by simp only [List.size_toArray] <;> omega) ⟨.int ys.length, H, I.tok _, ⟨s.toks + 1, by rw [List.size_toArray, hlen]⟩, q⟩
  · obtain ⟨its, r', pl, hz⟩ := I.tuple hq
    have hlen := r'.length
    exact len_tuple pl (by simp only [List.size_toArray] <;> omega) ⟨.int ys.length, H, I.tok _, ⟨s.toks + 1, by rw [List.size_toArray, hlen]⟩, q⟩
theorem CallR.or {f : Value} {r r' : List V → Hp → VK → Prop} (h : CallR X f r) (h' : CallR X f r') : CallR X f (fun xs H Q => r xs H Q ∨ r' xs H Q) := by
  intro pins s σ H xs us Q I rs q
  rcases q with q | q
  · exact h pins s σ H xs us Q I rs q
  · exact h' pins s σ H xs us Q I rs q
theorem call_tuple_of : CallR X (.type "tuple") (fun xs H Q => ∃ p ys, xs = [.ref p] ∧ ((SqL X.K H p ys ∧ ∀ l, H l = none → Q (.ref l) (upd H l (.tup ys))) ∨ (SqT X.K H p ys ∧ Q (.ref p) H))) := by
  intro pins s σ H xs us Q I r h
  obtain ⟨p, ys, rfl, h⟩ := h
  obtain ⟨u, rfl, rx⟩ := vals1 r
  cases rx
  rcases h with ⟨hq, q⟩ | ⟨hq, q⟩
  · obtain ⟨its, r', pl, hz⟩ := I.list hq
    have hlen := r'.length
    refine call_tuple_list pl.isList (fun h' kp => ?_) (by simp only [List.size_toArray] <;> omega)
    have I1 : Inv X pins σ H { s with heap := h' } := I.kept (t' := s.toks) kp
    have I2 : Inv X pins σ (upd H h'.objs.size (.tup ys)) { s with heap := h'.push { cls := .type "tuple", data := .seq its.toArray } } :=
      I1.laid (t' := s.toks) (fun b o e => Heap.get?_push_of_some _ e) (Nat.le_refl _) (show ObjOk X.prog X.w _ _ _ (.tup ys) from ⟨hz, its, r', IsTup.new _ _⟩)
    exact ⟨.ref h'.objs.size, _, I2, rfl, q _ (I1.hok.fresh (Nat.le_refl _))⟩
  · obtain ⟨its, r', pl, hz⟩ := I.tuple hq
    exact call_tuple_same pl ⟨.ref p, H, I, rfl, q⟩
noncomputable def tyV (K : PySem.W.Frag) (T : String) (x : V) (H : Hp) : Prop := match x with
  | .str _ => T = "str"
  | .int _ => T = "int"
  | .ref p => (T = "list" ∧ ∃ xs, SqL K H p xs) ∨ (T = "tuple" ∧ ∃ o, K.lookup p = some o ∧ o.cls = .type "tuple" ∧ o.dict = none) ∨
      (T = "dict" ∧ ((∃ kvs, H p = some (.dK kvs)) ∨ ∃ kvs, H p = some (.dT kvs))) ∨ (T = "set" ∧ ∃ S n, H p = some (.set S n))
  | _ => False
theorem tyV_is {pins : List (Addr × Obj)} {σ : St} {H : Hp} {s : Shared} {T : String} {x : V} {v : Value} (I : Inv X pins σ H s) (r : RelV x v) (ty : tyV X.K T x H) :
    s.TypeIs v T ∧ ∀ a, v = .ref a → ∃ ob, s.heap.get? a = some ob ∧ ob.dict = none := by
  cases x with
  | str z =>
    obtain ⟨t, rfl⟩ := r
    cases (show T = "str" from ty)
    exact ⟨typeIs_str s z t, fun _ e => nomatch e⟩
  | int i =>
    obtain ⟨t, rfl⟩ := r
    cases (show T = "int" from ty)
    exact ⟨typeIs_int s i t, fun _ e => nomatch e⟩
  | ref p =>
    cases r
    rcases ty with ⟨rfl, xs, hq⟩ | ⟨rfl, o, hk, hc, hd⟩ | ⟨rfl, hk⟩ | ⟨rfl, S, n, hk⟩
    · obtain ⟨its, _, pl, _⟩ := I.list hq
      refine ⟨pl.isList.typeIs, fun a e => ?_⟩
      cases e
      obtain ⟨o, n, e, c, hd, _⟩ := pl
      exact ⟨o, e, hd⟩
    · refine ⟨⟨o, I.kIn p o hk, hc⟩, fun a e => ?_⟩
      cases e
      exact ⟨o, I.kIn _ o hk, hd⟩
    · have z : ∃ o, s.heap.get? p = some o ∧ o.ExactDict := by
        rcases hk with ⟨kvs, hk⟩ | ⟨kvs, hk⟩
        · obtain ⟨_, _, _, _, o, _, _, e, ex, _⟩ := I.hok p _ hk
          exact ⟨o, e, ex⟩
        · obtain ⟨_, _, _, _, o, _, _, e, ex, _⟩ := I.hok p _ hk
          exact ⟨o, e, ex⟩
      obtain ⟨o, e, ex⟩ := z
      refine ⟨⟨o, e, ex.1⟩, fun a e2 => ?_⟩
      cases e2
      exact ⟨o, e, ex.2.1⟩
    · obtain ⟨o, _, _, _, e, ex, _⟩ := I.hok p _ hk
      refine ⟨⟨o, e, ex.1⟩, fun a e2 => ?_⟩
      cases e2
      exact ⟨o, e, ex.2.1⟩
  | _ => exact False.elim ty
noncomputable def tBM0 (K : PySem.W.Frag) (T : String) (r : V → List V → Hp → VK → Prop) (to : TE) : TE := fun σ H Q => to σ H fun x H1 => tyV K T x H1 ∧ r x [] H1 Q
noncomputable def tBM (K : PySem.W.Frag) (T : String) (r : V → List V → Hp → VK → Prop) (to : TE) (t : TA) : TE := fun σ H Q => to σ H fun x H1 => tyV K T x H1 ∧ t σ H1 fun xs H2 => r x xs H2 Q
variable {o e : Expr} {es : List Expr} {to : TE} {t : TA} {name : Str} {apos cpos : Pos} {T id : String} {r : V → List V → Hp → VK → Prop}
theorem pe_bm (pa : PlainAttrs T) (slot : Slot T name id) (hty : typeOf (.builtin id) = pure (.type "method_descriptor")) (hm : MtR X id r) (ho : PE X o to) (ha : PA X (e :: es) t)
    (hbase : attributeBase o name X.env (eval o X.env) = eval o X.env := by rfl)
    (hfew : ((backTo cpos (starEach (e :: es) X.env)).all (fun x => !x.1) && (backToKw cpos (keywordEach [] X.env)).all (fun x => x.1.isSome)
      && decide ((e :: es).length + ([] : List Keyword).length + (if ([] : List Keyword).isEmpty then 0 else 1) < 30)) = true := by rfl)
    (hline : (apos.endLine == cpos.line) = true := by rfl) (hs : starEach (e :: es) X.env = (false, eval e X.env) :: starEach es X.env := by rfl) (hplain : (backTo cpos (starEach es X.env)).any (·.1) = false := by rfl) :
    PE X (.Call (.Attribute o name apos) (e :: es) [] cpos) (tBM X.K T r to t) := by
  intro pins s σ H Q I h
  refine wpAny_Call_method_late hbase hfew hline rfl (thn (ho pins s σ H _ I h) fun v s1 ⟨x, H1, I1, r1, ty, q1⟩ => ?_)
  obtain ⟨h1, h2⟩ := tyV_is I1 r1 ty
  refine ⟨T, id, pa, slot, hty, h1, h2, ?_⟩
  have hA := ha cpos pins s1 σ H1 _ I1 q1
  rw [hs] at hA ⊢
  refine Calls.callWith_builtin (by show (false || (backTo cpos (starEach es X.env)).any (·.1)) = false; rw [hplain] <;> rfl) (Calls.evalArgs_plain ?_)
  exact thn hA fun us s2 ⟨vs, H2, I2, r2, q2⟩ => hm pins s2 σ H2 x vs v us Q I2 r1 r2 q2
end
end L2
namespace L2
open PySem PySem.Spec PyProof.Rows
noncomputable def MtM (X : Cx) (id : String) (r : V → List V → Hp → VK → Prop) : Prop :=
  ∀ (pins : List (Addr × Obj)) (s : Shared) (σ : St) (H : Hp) (x : V) (xs : List V) (v : Value) (us : List Value) (Q : VK), Inv X pins σ H s → RelV x v → Vals xs us → r x xs H Q →
    wpAny (model X.prog X.w) X.A (call (.builtin id) (v :: us)) (EP X pins σ Q) X.xe s
theorem Vals.one {x : V} {us : List Value} (h : Vals [x] us) : ∃ u, us = [u] ∧ RelV x u := by
  cases h with
  | cons r t => cases t; exact ⟨_, rfl, r⟩
theorem Vals.two {x y : V} {us : List Value} (h : Vals [x, y] us) : ∃ u v, us = [u, v] ∧ RelV x u ∧ RelV y v := by
  cases h with
  | cons r t =>
    obtain ⟨v, rfl, q⟩ := Vals.one t
    exact ⟨_, _, rfl, r, q⟩
theorem Vals.zero : ∀ {us : List Value}, Vals [] us → us = []
  | _, .nil => rfl
theorem Vals.dropLast {xs : List V} {us : List Value} (h : Vals xs us) : Vals xs.dropLast us.dropLast := by
  induction h with
  | nil => exact .nil
  | cons r t ih =>
    cases t with
    | nil => exact .nil
    | cons q t' => exact .cons r ih
theorem Vals.eraseIdx : ∀ {xs : List V} {us : List Value} (i : Nat), Vals xs us → Vals (xs.eraseIdx i) (us.eraseIdx i)
  | _, _, _, .nil => .nil
  | _, _, 0, .cons _ t => t
  | _, _, i + 1, .cons r t => .cons r (Vals.eraseIdx i t)
theorem Vals.reverse {xs : List V} {us : List Value} (h : Vals xs us) : Vals xs.reverse us.reverse := by
  induction h with
  | nil => exact .nil
  | cons r t ih => rw [List.reverse_cons, List.reverse_cons]; exact Vals.append ih (.cons r .nil)
section
variable {X : Cx} {pins : List (Addr × Obj)} {σ : St} {H : Hp} {s : Shared} {l b : Addr} {xs ys zs : List V}
theorem Inv.lset {its its' : List Value} {n : Nat} {f : Array Value → Array Value} {t' : Nat} (I : Inv X pins σ H s) (hH : H l = some (.lst xs))
    (e : s.heap.get? l = some { cls := .type "list", data := .seq its.toArray n }) (hf : f its.toArray = its'.toArray) (hv : Vals ys its') (hz : ys.length ≤ sizeLine) :
    Inv X pins σ (upd H l (.lst ys)) { s with heap := s.heap.update l (Obj.mapSeq f), toks := t' } := by
  have q := PySem.IsL.update e f
  rw [hf] at q
  refine I.write (x := l) (e := l) (by rw [hH]; exact trivial) (.inl rfl) (fun b' u hb hu => (Heap.get?_update_other s.heap (Obj.mapSeq f) (Ne.symm hb)).trans hu) ⟨_, q⟩ ?_
  exact ⟨hz, its', _, hv, q⟩
theorem Inv.lnew {its : List Value} {t' : Nat} (I : Inv X pins σ H s) (hv : Vals ys its) (hz : ys.length ≤ sizeLine) :
    Inv X pins σ (upd H s.heap.objs.size (.lst ys)) { s with heap := s.heap.push { cls := .type "list", data := .seq its.toArray }, toks := t' } :=
  I.laid (fun _ _ q => Heap.get?_push_of_some _ q) (Nat.le_refl _) ⟨hz, its, 0, hv, Heap.get?_push_size _ rfl⟩
theorem Inv.fresh (I : Inv X pins σ H s) : H s.heap.objs.size = none := I.hok.fresh (Nat.le_refl _)
theorem Inv.lstM (I : Inv X pins σ H s) (hH : H l = some (.lst xs)) : xs.length ≤ sizeLine ∧ ∃ (its : List Value) (n : Nat), Vals xs its ∧ xs.length = its.length ∧ s.heap.get? l = some { cls := .type "list", data := .seq its.toArray n } := by
  obtain ⟨z, its, n, r, e⟩ := I.hok l _ hH
  exact ⟨z, its, n, r, r.length, e⟩
end
section
variable {X : Cx}
noncomputable def rAppend : V → List V → Hp → VK → Prop := fun x vs H Q => ∃ l xs y, x = .ref l ∧ vs = [y] ∧ H l = some (.lst xs) ∧ xs.length < sizeLine ∧ Q .non (upd H l (.lst (xs ++ [y])))
theorem mt_append : MtM X "list.append" rAppend := by
  intro pins s σ H x vs v us Q I rx rv h
  obtain ⟨l, xs, y, rfl, rfl, hH, hz, q⟩ := h
  cases rx
  obtain ⟨u, rfl, ru⟩ := rv.one
  obtain ⟨z, its, n, r, hl, e⟩ := I.lstM hH
  refine call_meets F.slot_list_append ⟨_, e, rfl⟩ F.entry_list_append (F.args_list_append_2 _ _) (PySem.list_append l its.toArray n u (by rw [List.size_toArray]; omega)) ⟨e, ?_⟩
  refine ⟨.non, _, I.lset (its' := its ++ [u]) hH e (by simp) (r.append (.cons ru .nil)) ?_, rfl, q⟩
  rw [List.length_append, List.length_singleton]
  omega
noncomputable def rExtend : V → List V → Hp → VK → Prop := fun x vs H Q => ∃ l b xs zs, x = .ref l ∧ vs = [.ref b] ∧ H l = some (.lst xs) ∧ H b = some (.lst zs) ∧ xs.length + zs.length ≤ sizeLine ∧ Q .non (upd H l (.lst (xs ++ zs)))
noncomputable def rPop : V → List V → Hp → VK → Prop := fun x vs H Q => ∃ l xs y, x = .ref l ∧ vs = [] ∧ H l = some (.lst xs) ∧ xs[xs.length - 1]? = some y ∧ Q y (upd H l (.lst xs.dropLast))
noncomputable def rPopAt : V → List V → Hp → VK → Prop := fun x vs H Q => ∃ l xs i k y, x = .ref l ∧ vs = [.int i] ∧ H l = some (.lst xs) ∧ -(2 ^ 63) ≤ i ∧ i < 2 ^ 63 ∧ seqIndex? i xs.length = some k ∧ xs[k]? = some y ∧ Q y (upd H l (.lst (xs.eraseIdx k)))
noncomputable def rReverse : V → List V → Hp → VK → Prop := fun x vs H Q => ∃ l xs, x = .ref l ∧ vs = [] ∧ H l = some (.lst xs) ∧ Q .non (upd H l (.lst xs.reverse))
noncomputable def rClear : V → List V → Hp → VK → Prop := fun x vs H Q => ∃ l xs, x = .ref l ∧ vs = [] ∧ H l = some (.lst xs) ∧ Q .non (upd H l (.lst []))
noncomputable def rCat : R2 := fun x y H Q => ∃ l b xs zs, x = .ref l ∧ y = .ref b ∧ H l = some (.lst xs) ∧ H b = some (.lst zs) ∧ xs.length + zs.length ≤ sizeLine ∧ ∀ p, H p = none → Q (.ref p) (upd H p (.lst (xs ++ zs)))
theorem op_cat : OpR X (binaryOp .Add) rCat := by
  intro pins s σ H x y v u Q I rx ry h
  obtain ⟨l, b, xs, zs, rfl, rfl, hH, hB, hz, q⟩ := h
  cases rx
  cases ry
  obtain ⟨z, its, n, r, hl, e⟩ := I.lstM hH
  obtain ⟨z2, its2, n2, r2, hl2, e2⟩ := I.lstM hB
  refine PySem.P.add_list e e2 ?_ (by rw [List.size_toArray, List.size_toArray]; omega)
  have ea : its.toArray ++ its2.toArray = (its ++ its2).toArray := by simp
  rw [ea]
  exact ⟨.ref _, _, I.lnew (t' := s.toks) (r.append r2) (by rw [List.length_append]; omega), rfl, q _ I.fresh⟩
noncomputable def rRep : R2 := fun x y H Q => ∃ l k xs, x = .ref l ∧ y = .int k ∧ H l = some (.lst xs) ∧ -(2 ^ 63) ≤ k ∧ k < 2 ^ 63 ∧ xs.length * k.toNat ≤ sizeLine ∧
  ∀ p, H p = none → Q (.ref p) (upd H p (.lst (List.replicate k.toNat xs).flatten))
end
section
variable {prog : Program} {w : World} {A : Around} {E : Value → Shared → Prop} {s : Shared}
set_option maxRecDepth 100000 in
end
section
variable {X : Cx}
end
end L2
namespace Att
open PySem PySem.W PySem.Calls PyProof.Rows
theorem ints_of_wellAll {P : Params} {h : Heap} : ∀ (ns : List Int) (vs : List Value), WellAll P h vs (ns.map WData.int) → IntsAre vs ns := by
  intro ns
  induction ns with
  | nil =>
    intro vs w
    rw [List.map_nil] at w
    cases w
    exact .nil
  | cons n ns ih =>
    intro vs w
    rw [List.map_cons] at w
    cases w with
    | cons a b =>
      cases a
      exact .cons _ _ (ih _ b)
theorem script_of {l : OpenLaw} {n : Nat} (hn : l.most = some n) {P : Params} {h : Heap} {args : List WData} {vals : List Value}
    (hpre : l.row.toRowW.claim.pre args = true) (hwl : WellAll P h vals args) :
    ∃ a vs ns, vals = [Value.ref a] ∧ args = [WData.list (ns.map WData.int)] ∧ h.get? a = some { cls := .type "list", data := .seq vs.toArray } ∧ IntsAre vs ns ∧ ns.length ≤ n := by
  have hsh : WShape.hasAll [] args [.list .int] = true := (pre_splitW hpre).1
  have hc : l.pre.holds [] { args := args } = true := (pre_splitW hpre).2
  obtain ⟨d, r, rfl, h1, h2⟩ := hasAllW_cons hsh
  obtain rfl := hasAllW_nil h2
  obtain ⟨xs, rfl, h3⟩ := hasW_list h1
  obtain ⟨ns, rfl⟩ := items_int h3
  have hlen : ns.length ≤ n := by
    unfold OpenLaw.pre at hc
    have h4 : (WTm.not (.lt (.lit (.int (n : Int))) (.len (.arg 0)))).holds [] { args := [.list (ns.map .int)] } = true := by
      have h4 := (holds_andW hc).1
      rw [hn] at h4
      exact h4
    have h5 := condW_of h4 (w_not (w_lt w_lit (w_len_list (w_arg rfl))))
    rw [List.length_map] at h5
    refine Nat.le_of_not_lt fun q => ?_
    have q' : (n : Int) < ((ns.length : Nat) : Int) := by omega
    first
      | (rw [decide_eq_true q'] at h5; exact absurd h5 (by decide))
      | (simp at h5; omega)
  cases hwl with
  | cons w1 w2 =>
    cases w2
    cases w1 with
    | list ho hall => exact ⟨_, _, ns, rfl, rfl, ho, ints_of_wellAll ns _ hall, hlen⟩
theorem post_true (l : OpenLaw) (args : List WData) : l.row.toRowW.claim.post args (.bool true) args = true :=
  postW_of (r := l.row.toRowW) (X := (true == true))
    (show WShape.has [] (.bool true) .bool = true by first | rfl | decide | simp [WShape.has, WShape.arms, WShape.armsAll])
    (show (WTm.eq .res (.lit (.bool true))).value [] { args := args, res := some (.bool true), after := args } = some (.bool (true == true)) from w_eq_bool (w_res rfl) w_lit) rfl
theorem attach_call {l : OpenLaw} {n : Nat} {q : Program} {loose : List Str} {XP : (Str → Option Value) → Heap → Prop} {YP : World → Heap → Prop} {d : DefRec}
    (hn : l.most = some n) (hdf : d.params.defaults = [])
    (call : ∀ (w : World) (s₀ s₁ : Shared) (mg mb : Str → Option Value) (fa : Addr) (o : Obj) (pm cd doc : Value) (a : Addr) (vs : List Value) (ns : List Int),
      Ground q loose [] XP w s₀ mg mb s₁.heap → YP w s₁.heap →
      s₁.heap.get? fa = some o → o.data = .func (docDef d.name d.params d.body d.scope pm cd doc) → s₁.heap.CodeRec cd d.name → mg d.name = some (.ref fa) →
      s₁.heap.get? a = some { cls := .type "list", data := .seq vs.toArray } → IntsAre vs ns → ns.length ≤ n → s₁.gens = #[] →
      codeAny (model l.prog w) callerA (.call (.ref fa) ⟨[.ref a], []⟩) (fun r s' => r = .ok (.ret (.bool true)) ∧ OldK s₁.heap s'.heap ∧ s'.os = s₁.os ∧ AllBare s'.gens) s₁) :
    WalkO q loose XP YP l.row.toRowW d [] (fun f vs => PySem.call f vs) := by
  intro w s₀ s₁ mg mb G Y fa o pm cd doc dV kV ho hd hcd hD hmg hg args vals as hpre hlay hrd hwl hlo
  obtain rfl : dV = .none := Dflts.none hD hdf
  obtain rfl : kV = .none := Dflts.noKw hD
  obtain ⟨a, vs, ns, rfl, rfl, hobj, hints, hlen⟩ := script_of hn hpre hwl
  refine enter_call (codeAny_mono (call w s₀ s₁ mg mb fa o pm cd doc a vs ns G Y ho (fd_plain hd) hcd hmg hobj hints hlen hg) fun r s' hq => ?_)
  obtain ⟨rfl, h2, h3, h4⟩ := hq
  exact ⟨.inl ⟨.bool true, .bool true, [], rfl, fun _ => rfl, .bool true, post_true l _, fun _ => ⟨List.Pairwise.nil, fun _ hm => (nomatch hm)⟩⟩, h2, h3, h4⟩
section
variable {prog : Program} {w : World} {A : Around} {E : Value → Shared → Prop} {s : Shared} {K : Frag}
noncomputable def noObjs (h : Heap) : Heap := { h with objs := #[] }
noncomputable def ledger (h : Heap) (L d : Addr) : List (Addr × Obj) := (List.range h.objs.size).filterMap fun a => if a = L ∨ a = d then none else (h.get? a).map fun o => (a, o)
end
end Att
namespace L2
open PySem PySem.Spec PyProof.Rows
theorem vals_ints : ∀ {vs : List Value} {ns : List Int}, IntsAre vs ns → Vals (ns.map V.int) vs
  | _, _, .nil => .nil
  | _, _, .cons n t h => .cons ⟨t, rfl⟩ (vals_ints h)
noncomputable def Only (H : Hp) : Prop := ∀ b, H b = none ∨ ∃ o xs, H b = some (.frz o (.lst xs))
theorem law_call {P : Program} {w : World} {K : PySem.W.Frag} {mg mb : Str → Option Value} {CX : CXT} {k : Nat} {fa a : Addr} {fd : FuncData} {x : Str} {sp : Sp} {s₁ : Shared} {vs : List Value} {ns : List Int}
    (KX : K.In s₁.heap) (hns : s₁.heap.Ns mainGlobals mg) (hb : s₁.heap.Ns builtinsNs mb) (hbb : ∀ x : Str, x ≠ "__name__" → mb x = bootBuiltins x) (hlim : s₁.heap.NoLimit) (hg : s₁.gens = #[])
    (ha : s₁.heap.get? a = some { cls := .type "list", data := .seq vs.toArray }) (hi : IntsAre vs ns) (hl : ns.length ≤ sizeLine) (hr : Room k callerA)
    (F : ∀ base : Heap, K.In base → base.Ns mainGlobals mg → FnOk P w K mg base CX k fa fd [x] sp) (hbind : ∀ (s : Shared) (u : Value), BindsTo s fd ⟨[u], []⟩ [(x, u)])
    (hsp : ∀ H : Hp, Only H → SqL K H a (ns.map V.int) → sp [.ref a] H (fun v _ => v = .bl true) fun _ _ _ => False)
    (hCX : ∀ H e s', CX [] H s₁ (fun _ _ _ => False) e s' → False) :
    codeAny (model P w) callerA (.call (.ref fa) ⟨[.ref a], []⟩) (fun r s' => r = .ok (.ret (.bool true)) ∧ OldK s₁.heap s'.heap ∧ s'.os = s₁.os ∧ AllBare s'.gens) s₁ := by
  have rv := vals_ints hi
  have lenV := hi.length
  have core : ∀ H : Hp, Only H → SqL K H a (ns.map V.int) → HOk P w H s₁.heap → (∀ b, H b ≠ none → b = a) → (H a ≠ none → K.lookup a = none) →
      codeAny (model P w) callerA (.call (.ref fa) ⟨[.ref a], []⟩) (fun r s' => r = .ok (.ret (.bool true)) ∧ OldK s₁.heap s'.heap ∧ s'.os = s₁.os ∧ AllBare s'.gens) s₁ := by
    intro H hO hS hok hA hK
    have base_of : ∀ {b : Addr} {o : Obj}, s₁.heap.get? b = some o → H b = none → (hidT s₁.heap H).get? b = some o := fun e n => hidT_get e n
    have noA : ∀ {b : Addr} {o : Obj} {es : Array DictEntry} {ep : Nat}, s₁.heap.get? b = some o → o.data = .dict es ep → H b = none := fun {b o es ep} e d => by
      cases q : H b with
      | none => rfl
      | some u =>
        have e' : b = a := hA b (by rw [q]; simp)
        subst e'
        rw [ha] at e; cases e
        have d' : Data.seq vs.toArray _ = Data.dict es ep := d
        cases d'
    have nsK : ∀ {b : Addr} {m : Str → Option Value}, s₁.heap.Ns b m → (hidT s₁.heap H).Ns b m := fun {b m} ⟨o, es, ep, e, d, r⟩ => ⟨o, es, ep, base_of e (noA e d), d, r⟩
    have hKb : K.In (hidT s₁.heap H) := fun b o e => base_of (KX b o e) (by
      cases q : H b with
      | none => rfl
      | some u =>
        have e' : b = a := hA b (by rw [q]; simp)
        subst e'
        rw [hK (by rw [q]; simp)] at e; cases e)
    have hM : Mod K mg (hidT s₁.heap H) := ⟨hKb, nsK hns, ⟨mb, nsK hb, hbb⟩, let ⟨mc, h1, h2⟩ := hlim; ⟨mc, nsK h1, h2⟩⟩
    have e0 : Env0 P w K mg (hidT s₁.heap H) callerA [] s₁ H := ⟨rfl, hM, fun b o e => of_hidT e, Nat.le_of_eq (hidT_size _ _), trivial, fun b hb => absurd (show b ∈ ([] : List Addr) from hb) (by simp), hok, .of_eq hg⟩
    refine codeAny_mono ((F _ hKb (nsK hns)).run callerA [] s₁ H ⟨[.ref a], []⟩ [.ref a] [.ref a] _ _ hr e0 (hbind s₁ (.ref a)) (.cons rfl .nil) (hsp H hO hS)) fun r s' h => ?_
    cases r with
    | error e => exact (hCX H e s' h).elim
    | ok fl =>
      cases fl with
      | next => exact False.elim h
      | brk => exact False.elim h
      | cont => exact False.elim h
      | ret u =>
        obtain ⟨v, H', os, bare, un, hok', r', q⟩ := h
        have q' : v = .bl true := q
        subst q'
        obtain rfl : u = Value.bool true := r'
        refine ⟨rfl, OldK.of_keep fun b o e => ?_, os, bare⟩
        cases q : H b with
        | none => exact un.keep b o e q (by intro z; exact absurd (show b ∈ ([] : List Addr) from z) (by simp)) (by simp)
        | some u =>
          rcases hO b with z | ⟨ob, xs, z⟩
          · rw [q] at z; cases z
          · have z2 := un.frzs b ob _ z
            obtain ⟨e1, _⟩ := hok b _ z
            obtain ⟨e2, _⟩ := hok' b _ z2
            rw [e] at e1; cases e1
            exact e2
  cases hk : K.lookup a with
  | some o =>
    have e := KX a o hk
    rw [ha] at e
    cases e
    refine core (fun _ => none) (fun _ => .inl rfl) (.inr ⟨_, vs.toArray, _, hk, rfl, rfl, rfl, by rw [List.size_toArray, lenV]; exact hl, by simpa using rv⟩) (fun b u z => by have z' : (none : Option HO) = some u := z; cases z') (fun b z => absurd rfl z) fun z => absurd rfl z
  | none =>
    refine core (fun b => if b = a then some (.frz { cls := .type "list", data := .seq vs.toArray } (.lst (ns.map V.int))) else none) (fun b => ?_) (.inl (.inr ⟨{ cls := .type "list", data := .seq vs.toArray }, if_pos rfl⟩)) (fun b u z => ?_) (fun b z => ?_) fun _ => hk
    · by_cases hb : b = a
      · exact .inr ⟨_, _, if_pos hb⟩
      · exact .inl (if_neg hb)
    · by_cases hb : b = a
      · have z' := (if_pos hb).symm.trans z
        cases z'
        subst hb
        exact ⟨ha, by rw [List.length_map]; exact hl, vs, _, rv, ha⟩
      · have z' := (if_neg hb).symm.trans z
        cases z'
    · by_cases hb : b = a
      · exact hb
      · exact absurd (if_neg hb) z
end L2
namespace L2
open PySem PySem.Spec PyProof.Rows
noncomputable abbrev KOf {K : PySem.W.Frag} {h : Heap} (_ : K.In h) : PySem.W.Frag := K
theorem walk_of {l : PySem.W.OpenLaw} {n k : Nat} {q : Program} {loose : List Str} {XP : (Str → Option Value) → Heap → Prop} {YP : World → Heap → Prop} {d : DefRec} {K : Params → PySem.W.Frag} {CX : World → CXT} {sp : World → Sp} {x : Str}
    (hn : l.most = some n) (hn2 : n ≤ sizeLine) (hdf : d.params.defaults = []) (hr : Room k callerA)
    (hY : ∀ (w : World) (h : Heap), YP w h → (K w.params).In h)
    (F : ∀ (w : World) (mg : Str → Option Value) (fa : Addr) (h : Heap), (K w.params).In h → h.Ns mainGlobals mg → mg d.name = some (.ref fa) →
      ∃ fd : FuncData, (∀ (s : Shared) (u : Value), BindsTo s fd ⟨[u], []⟩ [(x, u)]) ∧
        ∀ base : Heap, (K w.params).In base → base.Ns mainGlobals mg → FnOk l.prog w (K w.params) mg base (CX w) k fa fd [x] (sp w))
    (hsp : ∀ (w : World) (H : Hp) (a : Addr) (ns : List Int), ns.length ≤ n → Only H → SqL (K w.params) H a (ns.map V.int) → sp w [.ref a] H (fun v _ => v = .bl true) fun _ _ _ => False)
    (hCX : ∀ (w : World) (H : Hp) (s : Shared) (e : Value) (s' : Shared), CX w [] H s (fun _ _ _ => False) e s' → False) :
    PySem.W.WalkO q loose XP YP l.row.toRowW d [] (fun f vs => PySem.call f vs) := by
  refine Att.attach_call hn hdf fun w s₀ s₁ mg mb fa o pm cd doc a vs ns G Y ho hd hcd hmg hobj hints hlen hg => ?_
  have KX := hY w _ Y
  obtain ⟨fd, hb, hF⟩ := F w mg fa _ KX G.T.g hmg
  exact law_call KX G.T.g G.T.b G.T.builtins G.T.nolimit hg hobj hints (Nat.le_trans hlen hn2) hr hF hb (fun H hO hS => hsp w H a ns hlen hO hS) fun H e s' => hCX w H s₁ e s'
end L2
namespace L2
open PySem PySem.Spec PyProof.Rows
noncomputable def inClass (s : Stmt) (j : Nat) : Stmt := match s with
  | .ClassDef _ _ _ body _ _ _ _ _ _ _ => body.getD j (.Pass ⟨0, 0, 0, 0⟩)
  | _ => .Pass ⟨0, 0, 0, 0⟩
noncomputable def defArgs (s : Stmt) : Arguments := match s with
  | .FunctionDef _ a _ _ _ _ _ _ _ _ => a
  | _ => { posonlyargs := [], args := [], vararg := none, kwonlyargs := [], kw_defaults := [], kwarg := none, defaults := [] }
noncomputable def defBody (s : Stmt) : List Stmt := match s with
  | .FunctionDef _ _ b _ _ _ _ _ _ _ => b
  | _ => []
noncomputable def defScope (s : Stmt) : Scope := match s with
  | .FunctionDef _ _ _ _ _ _ sc _ _ _ => sc
  | _ => { kind := .function, names := [], isGenerator := false, isCoroutine := false }
noncomputable abbrev CX0 : CXT := fun _ _ _ _ _ _ => False
noncomputable abbrev E0 : XK := fun _ _ _ => False
theorem pass0 {X : Cx} : Passes CX0 X E0 := fun _ _ _ _ _ _ _ h => h.elim
structure Fun (K : PySem.W.Frag) (x qual : Str) (st : Stmt) (f : Addr) (fd : FuncData) : Prop where
  ex : ∃ (oc : Value) (od : Option Addr) (kV doc pm : Value) (an : Option Addr) (cdv ct : Value) (osl : Array (Option Value)),
    fd = PySem.W.fnOf x qual (defArgs st) (defBody st) (defScope st) .none kV doc pm an cdv ct ∧ K.lookup f = some ⟨oc, od, .func fd, osl⟩ ∧ PySem.W.codeIn K cdv qual = true
  kp : PySem.W.keepIn K (.ref f) = true
section
variable {P : Program} {w : World} {K : PySem.W.Frag} {mg : Str → Option Value} {base : Heap}
theorem Fun.ok {x qual : Str} {st : Stmt} {f : Addr} {fd : FuncData} {N ps : List Str} {k : Nat} {sp : Sp} (F : Fun K x qual st f fd) (S : FnScope N ps (defScope st)) (len : ∀ vs H Q E, sp vs H Q E → vs.length = ps.length)
    (hbody : ∀ (cdv : Value) (A : Around) (outer : List Env) (s : Shared) (H : Hp) (vs : List V) (Q : VK) (E : XK), Room k (A.deeper (envOfC qual (defScope st) s.heap.objs.size f cdv)) → sp vs H Q E →
      ∃ t, PSs (cxOf CX0 P w K mg base N qual (defScope st) f cdv A outer s H E).nox (defBody st) t ∧ t { nx := fun _ H' => Q .non H', rt := Q } (start N vs) H) : FnOk P w K mg base CX0 (k + 1) f fd ps sp := by
  obtain ⟨oc, od, kV, doc, pm, an, cdv, ct, osl, rfl, lk, hcd⟩ := F.ex
  refine fn_of lk hcd S len fun A outer s H vs Q E hr hsp => ?_
  obtain ⟨t, h, q⟩ := hbody cdv A outer s H vs Q E hr hsp
  exact ⟨t, h.nox, q⟩
theorem Fun.binds {x qual : Str} {st : Stmt} {f : Addr} {fd : FuncData} {ps : List Str} (F : Fun K x qual st f fd)
    (h : ∀ (kV doc pm : Value) (an : Option Addr) (cdv ct : Value) (us : List Value), us.length = ps.length → bindArgs (PySem.W.fnOf x qual (defArgs st) (defBody st) (defScope st) .none kV doc pm an cdv ct) ⟨us, []⟩ = pure (ps.zip us)) : Binds K fd ps [] := by
  obtain ⟨oc, od, kV, doc, pm, an, cdv, ct, osl, rfl, lk, hcd⟩ := F.ex
  exact .all (h kV doc pm an cdv ct)
theorem fun_mk {x qual : Str} {st : Stmt} {f : Addr} {oc : Value} {od an : Option Addr} {osl : Array (Option Value)} {kV doc pm cdv ct : Value} (l : K.lookup f = some ⟨oc, od, .func (PySem.W.fnOf x qual (defArgs st) (defBody st) (defScope st) .none kV doc pm an cdv ct), osl⟩)
    (c : PySem.W.codeIn K cdv qual = true) (k : PySem.W.keepIn K (.ref f) = true) : Fun K x qual st f (PySem.W.fnOf x qual (defArgs st) (defBody st) (defScope st) .none kV doc pm an cdv ct) := ⟨⟨oc, od, kV, doc, pm, an, cdv, ct, osl, rfl, l, c⟩, k⟩
end
theorem small1000 {n : Nat} (h : n ≤ 1000) : n < sizeLine := Nat.lt_of_le_of_lt h (by decide)
section
variable {X : Cx}
theorem pv (i : Nat) {x : Str} {pos : Pos} (hN : X.N[i]? = some x := by rfl) (hv : Vis X.env.scope x := by first | exact Or.inl rfl | exact Or.inr (Or.inl rfl) | exact Or.inr (Or.inr rfl)) (hd : (x == ("__debug__" : Str)) = false := by decide)
    (hcd : (x == ("__classdict__" : Str)) = false := by decide) : PE X (.Name x pos) (tVar i) := pe_var hN hv hd hcd
end
theorem iteF {A B : Prop} (h : B) : if false = true then A else B := by
  rw [if_neg Bool.false_ne_true]
  exact h
theorem iteT {A B : Prop} (h : A) : if true = true then A else B := by
  rw [if_pos rfl]
  exact h
theorem ite2 {c A B : Prop} [Decidable c] (h1 : c → A) (h2 : ¬ c → B) : if c then A else B := by
  by_cases h : c
  · rw [if_pos h]
    exact h1 h
  · rw [if_neg h]
    exact h2 h
noncomputable def Same (H H' : Hp) : Prop := ∀ b o, H b = some o → H' b = some o
theorem Same.refl (H : Hp) : Same H H := fun _ _ h => h
theorem Same.trans {H H1 H2 : Hp} (a : Same H H1) (b : Same H1 H2) : Same H H2 := fun c o h => b c o (a c o h)
theorem Same.free {H H' : Hp} (e : Same H H') {l : Addr} (h : H' l = Option.none) : H l = Option.none := by
  cases q : H l with
  | none => rfl
  | some o =>
    rw [e l o q] at h
    cases h
theorem Same.seq {K : PySem.W.Frag} {H H' : Hp} {a : Addr} {xs : List V} (e : Same H H') (h : SqL K H a xs) : SqL K H' a xs := by
  rcases h with (h | ⟨o, h⟩) | h
  · exact .inl (.inl (e _ _ h))
  · exact .inl (.inr ⟨o, e _ _ h⟩)
  · exact .inr h
end L2
set_option Elab.async false
set_option linter.all false
set_option maxRecDepth 100000
set_option maxHeartbeats 4000000
namespace L2
open PySem PySem.Spec PyProof.Rows
theorem scal_ii (i j : Int) : scal (.int i) (.int j) = true := rfl
theorem scal_bb (i j : Bool) : scal (.bl i) (.bl j) = true := rfl
theorem scal_ss (i j : Str) : scal (.str i) (.str j) = true := rfl
theorem scal_ni (i : Int) : scal .non (.int i) = true := rfl
theorem scal_in (i : Int) : scal (.int i) .non = true := rfl
theorem log2_small {i : Int} (h : i.natAbs < 10 ^ 100) : i.natAbs.log2 < 400 := by
  by_cases h0 : i.natAbs = 0
  · rw [h0]; decide
  · exact (Nat.log2_lt h0).mpr (Nat.lt_of_lt_of_le h (by decide +kernel))
theorem bits_small {i : Int} (h : i.natAbs < 10 ^ 100) : Builtin.Int.intBits i ≤ 2 ^ 20 := by
  unfold Builtin.Int.intBits
  split
  · exact Nat.zero_le _
  · have := log2_small h
    have e : (2 : Nat) ^ 20 = 1048576 := by decide
    omega
noncomputable def CMulB (i j : Int) : Prop := CMul i j ∨ (i.natAbs < 10 ^ 100 ∧ j.natAbs < 10 ^ 100)
theorem CMulB.ok {i j : Int} (h : CMulB i j) : IntMulOk i j := by
  rcases h with h | h
  · exact h.ok
  · exact .of_bits (bits_small h.1) (bits_small h.2)
noncomputable def CDivB (i j : Int) : Prop := 0 < j ∧ j.natAbs < 10 ^ 100
section
variable {X : Cx}
theorem op_mulB : OpR X (binaryOp .Mult) (rI CMulB fun i j => .int (i * j)) := opI fun _ _ _ _ _ _ _ hc q => mul_int q hc.ok
theorem op_fdivB : OpR X (binaryOp .FloorDiv) (rI CDivB fun i j => .int (i / j)) := opI fun i j _ _ _ _ _ hc q => by
  have e : i.fdiv j = i / j := Int.fdiv_eq_ediv_of_nonneg i (Int.le_of_lt hc.1)
  refine floordiv_int (by have := hc.1; omega) ?_ (.inl (PyProof.noPylong_of_log2 (Nat.lt_trans (log2_small hc.2) (by decide))))
  rw [e]
  exact q
noncomputable def KitV (X : Cx) (pins : List (Addr × Obj)) (σ : St) (H : Hp) (s : Shared) (u t : Value) : Prop := ∃ Hh : Heap → Prop, PySem.W.KitX X.K u t Hh ∧ Hh s.heap ∧ u ≠ .builtin "__main__.__loader__#opaque"
theorem TyOf.kit {pins : List (Addr × Obj)} {σ : St} {H : Hp} {s : Shared} {x : V} {u t : Value} (ty : TyOf X.K H x t) (I : Inv X pins σ H s) (rx : RelV x u) : KitV X pins σ H s u t := by
  cases ty with
  | non => cases (show u = Value.none from rx); exact ⟨_, PySem.W.kitx_none, True.intro, fun z => nomatch z⟩
  | bl y => cases (show u = Value.bool y from rx); exact ⟨_, PySem.W.kitx_bool, True.intro, fun z => nomatch z⟩
  | int i => obtain ⟨t, q⟩ := (show ∃ t, u = Value.int i t from rx); cases q; exact ⟨_, PySem.W.kitx_int, True.intro, fun z => nomatch z⟩
  | str y => obtain ⟨t, q⟩ := (show ∃ t, u = Value.str y t from rx); cases q; exact ⟨_, PySem.W.kitx_str, True.intro, fun z => nomatch z⟩
  | flt y => obtain ⟨t, q⟩ := (show ∃ t, u = Value.float y t from rx); cases q; exact ⟨_, PySem.W.kitx_float, True.intro, fun z => nomatch z⟩
  | @lst a xs ea =>
    cases (show u = Value.ref a from rx)
    obtain ⟨_, _, n, _, h1⟩ := (show ObjOk X.prog X.w H s.heap a (.lst xs) from I.hok a _ ea)
    exact ⟨_, PySem.W.kitx_list, ⟨_, h1, rfl⟩, fun z => nomatch z⟩
  | @frz a ob xs ea =>
    cases (show u = Value.ref a from rx)
    obtain ⟨_, _, _, n, _, h1⟩ := (show ObjOk X.prog X.w H s.heap a (.frz ob (.lst xs)) from I.hok a _ ea)
    exact ⟨_, PySem.W.kitx_list, ⟨_, h1, rfl⟩, fun z => nomatch z⟩
  | @tup a xs ea =>
    cases (show u = Value.ref a from rx)
    obtain ⟨_, _, _, p⟩ := (show ObjOk X.prog X.w H s.heap a (.tup xs) from I.hok a _ ea)
    obtain ⟨o, h1, h2, _⟩ := p
    exact ⟨_, PySem.W.kitx_tuple, ⟨o, h1, h2⟩, fun z => nomatch z⟩
  | @dK a kvs ea =>
    cases (show u = Value.ref a from rx)
    obtain ⟨_, _, vs, _, p⟩ := (show ObjOk X.prog X.w H s.heap a (.dK kvs) from I.hok a _ ea)
    obtain ⟨o, es, ep, h1, h2, _⟩ := p
    exact ⟨_, PySem.W.kitx_dict, ⟨o, h1, h2.1⟩, fun z => nomatch z⟩
  | @dT a kvs ea =>
    cases (show u = Value.ref a from rx)
    obtain ⟨_, _, xs, _, o, es, ep, h1, h2, _⟩ := (show ObjOk X.prog X.w H s.heap a (.dT kvs) from I.hok a _ ea)
    exact ⟨_, PySem.W.kitx_dict, ⟨o, h1, h2.1⟩, fun z => nomatch z⟩
  | @ins a C dx fs ea cl ha hn htk hm =>
    cases (show u = Value.ref a from rx)
    obtain ⟨mA, O, _⟩ := ins_get I.hok ea
    obtain ⟨od, J, _⟩ := O.look
    exact ⟨_, PySem.W.kitx_own (cl.get _) cl.hd ha hn htk hm, J, fun z => nomatch z⟩
noncomputable def clsV : V → Option Value
  | .ty n => some (.type n)
  | .ref a => some (.ref a)
  | _ => none
theorem clsV_rel {c : V} {u u' : Value} (h : clsV c = some u) (r : RelV c u') : u' = u := by
  cases c with
  | ty n => cases h; exact r
  | ref a => cases h; exact r
  | _ => cases h
noncomputable def rIsi (K : PySem.W.Frag) : List V → Hp → VK → Prop := fun xs H Q => ∃ x t c u b, xs = [x, c] ∧ TyOf K H x t ∧ clsV c = some u ∧ PySem.W.kitOne K t u = some b ∧ Q (.bl b) H
theorem call_isinst : CallR X (.builtin "isinstance") (rIsi X.K) := by
  intro pins s σ H xs us Q I r h
  obtain ⟨x, t, c, u', b, rfl, ty, ec, e, q⟩ := h
  obtain ⟨u, w', rfl, rx, rc⟩ := vals2 r
  obtain rfl := clsV_rel ec rc
  obtain ⟨Hh, Z, p, hx⟩ := ty.kit I rx
  exact PySem.W.kia_one Z I.kIn p e hx fun tk => ⟨.bl b, H, I.tok tk, rfl, q⟩
noncomputable def rIsi2 (K : PySem.W.Frag) : List V → Hp → VK → Prop := fun xs H Q => ∃ x t p c1 c2 u1 u2 b, xs = [x, .ref p] ∧ H p = some (.tup [c1, c2]) ∧ TyOf K H x t ∧ clsV c1 = some u1 ∧ clsV c2 = some u2 ∧ PySem.W.kitAny K t [u1, u2] = some b ∧ Q (.bl b) H
theorem kit_NoneType_int (K : PySem.W.Frag) : PySem.W.kitOne K (.type "NoneType") (.type "int") = some false := by kernel_rfl
theorem kit_NoneType_bool (K : PySem.W.Frag) : PySem.W.kitOne K (.type "NoneType") (.type "bool") = some false := by kernel_rfl
theorem kit_NoneType_tuple (K : PySem.W.Frag) : PySem.W.kitOne K (.type "NoneType") (.type "tuple") = some false := by kernel_rfl
theorem kit_NoneType_list (K : PySem.W.Frag) : PySem.W.kitOne K (.type "NoneType") (.type "list") = some false := by kernel_rfl
theorem kit_NoneType_str (K : PySem.W.Frag) : PySem.W.kitOne K (.type "NoneType") (.type "str") = some false := by kernel_rfl
theorem kit_NoneType_dict (K : PySem.W.Frag) : PySem.W.kitOne K (.type "NoneType") (.type "dict") = some false := by kernel_rfl
theorem kit_bool_int (K : PySem.W.Frag) : PySem.W.kitOne K (.type "bool") (.type "int") = some true := by kernel_rfl
theorem kit_bool_bool (K : PySem.W.Frag) : PySem.W.kitOne K (.type "bool") (.type "bool") = some true := by kernel_rfl
theorem kit_bool_tuple (K : PySem.W.Frag) : PySem.W.kitOne K (.type "bool") (.type "tuple") = some false := by kernel_rfl
theorem kit_bool_list (K : PySem.W.Frag) : PySem.W.kitOne K (.type "bool") (.type "list") = some false := by kernel_rfl
theorem kit_bool_str (K : PySem.W.Frag) : PySem.W.kitOne K (.type "bool") (.type "str") = some false := by kernel_rfl
theorem kit_bool_dict (K : PySem.W.Frag) : PySem.W.kitOne K (.type "bool") (.type "dict") = some false := by kernel_rfl
theorem kit_int_int (K : PySem.W.Frag) : PySem.W.kitOne K (.type "int") (.type "int") = some true := by kernel_rfl
theorem kit_int_bool (K : PySem.W.Frag) : PySem.W.kitOne K (.type "int") (.type "bool") = some false := by kernel_rfl
theorem kit_int_tuple (K : PySem.W.Frag) : PySem.W.kitOne K (.type "int") (.type "tuple") = some false := by kernel_rfl
theorem kit_int_list (K : PySem.W.Frag) : PySem.W.kitOne K (.type "int") (.type "list") = some false := by kernel_rfl
theorem kit_int_str (K : PySem.W.Frag) : PySem.W.kitOne K (.type "int") (.type "str") = some false := by kernel_rfl
theorem kit_int_dict (K : PySem.W.Frag) : PySem.W.kitOne K (.type "int") (.type "dict") = some false := by kernel_rfl
theorem kit_str_int (K : PySem.W.Frag) : PySem.W.kitOne K (.type "str") (.type "int") = some false := by kernel_rfl
theorem kit_str_bool (K : PySem.W.Frag) : PySem.W.kitOne K (.type "str") (.type "bool") = some false := by kernel_rfl
theorem kit_str_tuple (K : PySem.W.Frag) : PySem.W.kitOne K (.type "str") (.type "tuple") = some false := by kernel_rfl
theorem kit_str_list (K : PySem.W.Frag) : PySem.W.kitOne K (.type "str") (.type "list") = some false := by kernel_rfl
theorem kit_str_str (K : PySem.W.Frag) : PySem.W.kitOne K (.type "str") (.type "str") = some true := by kernel_rfl
theorem kit_str_dict (K : PySem.W.Frag) : PySem.W.kitOne K (.type "str") (.type "dict") = some false := by kernel_rfl
theorem kit_float_int (K : PySem.W.Frag) : PySem.W.kitOne K (.type "float") (.type "int") = some false := by kernel_rfl
theorem kit_float_bool (K : PySem.W.Frag) : PySem.W.kitOne K (.type "float") (.type "bool") = some false := by kernel_rfl
theorem kit_float_tuple (K : PySem.W.Frag) : PySem.W.kitOne K (.type "float") (.type "tuple") = some false := by kernel_rfl
theorem kit_float_list (K : PySem.W.Frag) : PySem.W.kitOne K (.type "float") (.type "list") = some false := by kernel_rfl
theorem kit_float_str (K : PySem.W.Frag) : PySem.W.kitOne K (.type "float") (.type "str") = some false := by kernel_rfl
theorem kit_float_dict (K : PySem.W.Frag) : PySem.W.kitOne K (.type "float") (.type "dict") = some false := by kernel_rfl
theorem kit_list_int (K : PySem.W.Frag) : PySem.W.kitOne K (.type "list") (.type "int") = some false := by kernel_rfl
theorem kit_list_bool (K : PySem.W.Frag) : PySem.W.kitOne K (.type "list") (.type "bool") = some false := by kernel_rfl
theorem kit_list_tuple (K : PySem.W.Frag) : PySem.W.kitOne K (.type "list") (.type "tuple") = some false := by kernel_rfl
theorem kit_list_list (K : PySem.W.Frag) : PySem.W.kitOne K (.type "list") (.type "list") = some true := by kernel_rfl
theorem kit_list_str (K : PySem.W.Frag) : PySem.W.kitOne K (.type "list") (.type "str") = some false := by kernel_rfl
theorem kit_list_dict (K : PySem.W.Frag) : PySem.W.kitOne K (.type "list") (.type "dict") = some false := by kernel_rfl
theorem kit_tuple_int (K : PySem.W.Frag) : PySem.W.kitOne K (.type "tuple") (.type "int") = some false := by kernel_rfl
theorem kit_tuple_bool (K : PySem.W.Frag) : PySem.W.kitOne K (.type "tuple") (.type "bool") = some false := by kernel_rfl
theorem kit_tuple_tuple (K : PySem.W.Frag) : PySem.W.kitOne K (.type "tuple") (.type "tuple") = some true := by kernel_rfl
theorem kit_tuple_list (K : PySem.W.Frag) : PySem.W.kitOne K (.type "tuple") (.type "list") = some false := by kernel_rfl
theorem kit_tuple_str (K : PySem.W.Frag) : PySem.W.kitOne K (.type "tuple") (.type "str") = some false := by kernel_rfl
theorem kit_tuple_dict (K : PySem.W.Frag) : PySem.W.kitOne K (.type "tuple") (.type "dict") = some false := by kernel_rfl
theorem kit_dict_int (K : PySem.W.Frag) : PySem.W.kitOne K (.type "dict") (.type "int") = some false := by kernel_rfl
theorem kit_dict_bool (K : PySem.W.Frag) : PySem.W.kitOne K (.type "dict") (.type "bool") = some false := by kernel_rfl
theorem kit_dict_tuple (K : PySem.W.Frag) : PySem.W.kitOne K (.type "dict") (.type "tuple") = some false := by kernel_rfl
theorem kit_dict_list (K : PySem.W.Frag) : PySem.W.kitOne K (.type "dict") (.type "list") = some false := by kernel_rfl
theorem kit_dict_str (K : PySem.W.Frag) : PySem.W.kitOne K (.type "dict") (.type "str") = some false := by kernel_rfl
theorem kit_dict_dict (K : PySem.W.Frag) : PySem.W.kitOne K (.type "dict") (.type "dict") = some true := by kernel_rfl
noncomputable def isaB (n c : String) : Bool := n == c || (n == "bool" && c == "int")
theorem TyOf.name {K : PySem.W.Frag} {H : Hp} {x : V} {n : String} (ty : TyOf K H x (.type n)) : n = "NoneType" ∨ n = "bool" ∨ n = "int" ∨ n = "str" ∨ n = "float" ∨ n = "list" ∨ n = "tuple" ∨ n = "dict" := by
  cases ty <;> simp
theorem kit_ty {K : PySem.W.Frag} {n c : String} (hn : n = "NoneType" ∨ n = "bool" ∨ n = "int" ∨ n = "str" ∨ n = "float" ∨ n = "list" ∨ n = "tuple" ∨ n = "dict") (hc : c = "int" ∨ c = "bool" ∨ c = "tuple" ∨ c = "list" ∨ c = "str" ∨ c = "dict") :
    PySem.W.kitOne K (.type n) (.type c) = some (isaB n c) := by
  rcases hn with rfl | rfl | rfl | rfl | rfl | rfl | rfl | rfl <;> rcases hc with rfl | rfl | rfl | rfl | rfl | rfl
  · exact kit_NoneType_int K
  · exact kit_NoneType_bool K
  · exact kit_NoneType_tuple K
  · exact kit_NoneType_list K
  · exact kit_NoneType_str K
  · exact kit_NoneType_dict K
  · exact kit_bool_int K
  · exact kit_bool_bool K
  · exact kit_bool_tuple K
  · exact kit_bool_list K
  · exact kit_bool_str K
  · exact kit_bool_dict K
  · exact kit_int_int K
  · exact kit_int_bool K
  · exact kit_int_tuple K
  · exact kit_int_list K
  · exact kit_int_str K
  · exact kit_int_dict K
  · exact kit_str_int K
  · exact kit_str_bool K
  · exact kit_str_tuple K
  · exact kit_str_list K
  · exact kit_str_str K
  · exact kit_str_dict K
  · exact kit_float_int K
  · exact kit_float_bool K
  · exact kit_float_tuple K
  · exact kit_float_list K
  · exact kit_float_str K
  · exact kit_float_dict K
  · exact kit_list_int K
  · exact kit_list_bool K
  · exact kit_list_tuple K
  · exact kit_list_list K
  · exact kit_list_str K
  · exact kit_list_dict K
  · exact kit_tuple_int K
  · exact kit_tuple_bool K
  · exact kit_tuple_tuple K
  · exact kit_tuple_list K
  · exact kit_tuple_str K
  · exact kit_tuple_dict K
  · exact kit_dict_int K
  · exact kit_dict_bool K
  · exact kit_dict_tuple K
  · exact kit_dict_list K
  · exact kit_dict_str K
  · exact kit_dict_dict K
theorem isi {K : PySem.W.Frag} {H : Hp} {x : V} {n c : String} {Q : VK} (ty : TyOf K H x (.type n)) (q : Q (.bl (isaB n c)) H) (hc : c = "int" ∨ c = "bool" ∨ c = "tuple" ∨ c = "list" ∨ c = "str" ∨ c = "dict" := by decide) : rIsi K [x, .ty c] H Q :=
  ⟨x, _, _, _, _, rfl, ty, rfl, kit_ty ty.name hc, q⟩
theorem isi2 {K : PySem.W.Frag} {H : Hp} {x : V} {n c d : String} {p : Addr} {Q : VK} (ty : TyOf K H x (.type n)) (hp : H p = some (.tup [.ty c, .ty d])) (q : Q (.bl (isaB n c || isaB n d)) H) (hc : c = "int" ∨ c = "bool" ∨ c = "tuple" ∨ c = "list" ∨ c = "str" ∨ c = "dict" := by decide)
    (hd : d = "int" ∨ d = "bool" ∨ d = "tuple" ∨ d = "list" ∨ d = "str" ∨ d = "dict" := by decide) : rIsi2 K [x, .ref p] H Q := by
  refine ⟨x, _, p, _, _, _, _, _, rfl, hp, ty, rfl, rfl, ?_, q⟩
  show (match PySem.W.kitOne K (.type n) (.type c) with | some true => some true | some false => (match PySem.W.kitOne K (.type n) (.type d) with | some true => some true | some false => some false | none => none) | none => none) = _
  rw [kit_ty ty.name hc, kit_ty ty.name hd]
  cases isaB n c <;> cases isaB n d <;> rfl
theorem call_isinst2 : CallR X (.builtin "isinstance") (rIsi2 X.K) := by
  intro pins s σ H xs us Q I r h
  obtain ⟨x, t, a, c1, c2, u1, u2, b, rfl, ha, ty, e1, e2, e, q⟩ := h
  obtain ⟨u, w', rfl, rx, rc⟩ := vals2 r
  cases (show w' = Value.ref a from rc)
  obtain ⟨Hh, Z, p, hx⟩ := ty.kit I rx
  obtain ⟨_, its, r', o, h1, h2, n, h3⟩ := (show ObjOk X.prog X.w H s.heap a (.tup [c1, c2]) from I.hok a _ ha)
  obtain ⟨v1, v2, rfl, r1, r2⟩ := vals2 r'
  obtain rfl := clsV_rel e1 r1
  obtain rfl := clsV_rel e2 r2
  obtain ⟨oc, od, odt, osl⟩ := o
  cases h2; cases h3
  exact PySem.W.kia_tup Z I.kIn p h1 e hx fun tk => ⟨.bl b, H, I.tok tk, rfl, q⟩
end
noncomputable def tPar3 (i j l : Nat) (ta : TA) : TS := fun D σ H => ta σ H fun vs H1 => ∃ v w u, vs = [v, w, u] ∧ D.nx (((σ.set i (some v)).set j (some w)).set l (some u)) H1
theorem vals3 {x y z : V} {us : List Value} (r : Vals [x, y, z] us) : ∃ u v w, us = [u, v, w] ∧ RelV x u ∧ RelV y v ∧ RelV z w := by
  cases r with
  | cons p q =>
    cases q with
    | cons p' q' =>
      cases q' with
      | cons p2 q2 =>
        cases q2
        exact ⟨_, _, _, rfl, p, p', p2⟩
section
variable {X : Cx} {pos : Pos}
theorem ps_par3 {i j l : Nat} {x y z : Str} {a b c : Expr} {ta : TA} {px py pz pt : Pos} {kt k2 pt2} (hc : X.calm = true) (hN : X.N.Nodup) (hi : X.N[i]? = some x) (hj : X.N[j]? = some y) (hl : X.N[l]? = some z) (hij : i ≠ j) (hil : i ≠ l) (hjl : j ≠ l)
    (hx : X.env.scope.names.lookup x = some .local) (hy : X.env.scope.names.lookup y = some .local) (hz : X.env.scope.names.lookup z = some .local) (ha : PA X [a, b, c] ta)
    (hw : swappedStores [.Tuple [.Name x px, .Name y py, .Name z pz] kt pt] (.Tuple [a, b, c] k2 pt2) X.env = pure (some [x, y, z]))
    (hs : swapsWithSole [.Tuple [.Name x px, .Name y py, .Name z pz] kt pt] (.Tuple [a, b, c] k2 pt2) pos.line X.env = pure false := by rfl) :
    PS X (.Assign [.Tuple [.Name x px, .Name y py, .Name z pz] kt pt] (.Tuple [a, b, c] k2 pt2) pos) (tPar3 i j l ta) := by
  intro pins s σ H D I h
  rw [exec_Assign_arm]
  refine wpAny_bind (wpAny_standAt ?_)
  rw [hs]
  refine wpAny_bind (wpAny_pure ?_)
  rw [if_neg (by decide)]
  refine wpAny_bind (Tuple_ (thn (ha _ pins s σ H _ I h) fun us s1 ⟨vs, H1, I1, r1, q1⟩ => ?_))
  obtain ⟨v, w, m, e1, q1⟩ := q1
  subst e1
  obtain ⟨u1, u2, u3, rfl, rv, rw', rm⟩ := vals3 r1
  refine wpAny_newObj_type ?_ (by show 3 ≤ sizeLine; decide)
  have I2 : Inv X pins σ H1 { s1 with heap := s1.heap.push { cls := .type "tuple", data := .seq [u1, u2, u3].toArray } } := I1.kept (t' := s1.toks) fun b o e => Heap.get?_push_of_some _ e
  rw [hw]
  refine wpAny_bind (wpAny_pure ?_)
  show wpAny (model X.prog X.w) X.A (do rule "assign.swapped-stores"; let items ← unpackItems (.ref s1.heap.objs.size) 3 none; assignInOrder [fun v => bindName X.env z v, fun v => bindName X.env y v, fun v => bindName X.env x v] items.reverse; pure Flow.next) _ _ _
  refine wpAny_bind (wpAny_rule (wpAny_bind (unpackItems_tuple (items := #[u1, u2, u3]) (I.ok.hd hc) (IsTup.new s1.heap _) fun h' hx' => ?_)))
  have I3 := I2.kept (h' := h') (t' := s1.toks) fun b o e => hx' b o (Nat.ne_of_lt (Heap.lt_size e)) e
  show wpAny _ _ (assignInOrder [fun v => bindName X.env z v, fun v => bindName X.env y v, fun v => bindName X.env x v] [u3, u2, u1] >>= fun _ => pure Flow.next) _ _ _
  refine wpAny_bind (assignInOrder_cons (wpAny_bindName (store_ok I3 hN hl (.inl hz) rm (fun s2 I4 => ?_) (.inr hz))))
  refine assignInOrder_cons (wpAny_bindName (store_ok I4 hN hj (.inl hy) rw' (fun s2 I4 => ?_) (.inr hy)))
  refine assignInOrder_cons (wpAny_bindName (store_ok I4 hN hi (.inl hx) rv (fun s3 I5 => assignInOrder_nil (wpAny_pure ?_)) (.inr hx)))
  rw [List.set_comm _ _ hjl.symm, List.set_comm _ _ hil.symm, List.set_comm _ _ hij.symm] at I5
  exact ⟨_, H1, I5, q1⟩
end
section
variable {X : Cx}
end
structure Def (K : PySem.W.Frag) (mg : Str → Option Value) (x : Str) (st : Stmt) (ps : List Str) (f : Addr) (fd : FuncData) : Prop where
  fn : Fun K x x st f fd
  bd : Binds K fd ps []
  mgx : mg x = some (.ref f)
end L2
set_option Elab.async false
set_option linter.all false
set_option maxRecDepth 100000
set_option maxHeartbeats 4000000
namespace L2
open PySem PySem.Spec PyProof.Rows
inductive Dt where
  | non | bl (b : Bool) | int (i : Int) | str (x : Str) | tup (ds : List Dt) | lst (ds : List Dt)
mutual
noncomputable def Rep (K : PySem.W.Frag) (H : Hp) : Dt → V → Prop
  | .non, v => v = .non
  | .bl b, v => v = .bl b
  | .int i, v => v = .int i
  | .str x, v => v = .str x
  | .tup ds, v => ∃ a xs, v = .ref a ∧ SqT K H a xs ∧ RepL K H ds xs
  | .lst ds, v => ∃ a xs, v = .ref a ∧ SqL K H a xs ∧ RepL K H ds xs
noncomputable def RepL (K : PySem.W.Frag) (H : Hp) : List Dt → List V → Prop
  | [], xs => xs = []
  | d :: ds, xs => ∃ x r, xs = x :: r ∧ Rep K H d x ∧ RepL K H ds r
end
mutual
noncomputable def eqD : Dt → Dt → Bool
  | .non, .non => true
  | .bl a, .bl b => a == b
  | .bl a, .int b => (if a then 1 else 0) == b
  | .int a, .bl b => a == (if b then 1 else 0)
  | .int a, .int b => a == b
  | .str a, .str b => a == b
  | .tup ds, .tup es => eqDL ds es
  | .lst ds, .lst es => eqDL ds es
  | _, _ => false
noncomputable def eqDL : List Dt → List Dt → Bool
  | [], [] => true
  | d :: ds, e :: es => eqD d e && eqDL ds es
  | _, _ => false
end
mutual
noncomputable def dep : Dt → Nat
  | .tup ds => depL ds + 1
  | .lst ds => depL ds + 1
  | _ => 0
noncomputable def depL : List Dt → Nat
  | [] => 0
  | d :: ds => max (dep d) (depL ds)
end
theorem RepL.length {K : PySem.W.Frag} {H : Hp} : ∀ {ds : List Dt} {xs : List V}, RepL K H ds xs → ds.length = xs.length
  | [], xs, h => by cases (show xs = [] from h); rfl
  | d :: ds, xs, h => by
    obtain ⟨x, r, rfl, _, h2⟩ := (show ∃ x r, xs = x :: r ∧ Rep K H d x ∧ RepL K H ds r from h)
    rw [List.length_cons, List.length_cons, h2.length]
mutual
theorem eqD_self : ∀ d : Dt, eqD d d = true
  | .non => rfl
  | .bl a => by show (a == a) = true; simp
  | .int a => by show (a == a) = true; simp
  | .str a => by show (a == a) = true; simp
  | .tup ds => eqDL_self ds
  | .lst ds => eqDL_self ds
theorem eqDL_self : ∀ ds : List Dt, eqDL ds ds = true
  | [] => rfl
  | d :: ds => by show (eqD d d && eqDL ds ds) = true; rw [eqD_self d, eqDL_self ds]; rfl
end
theorem eqDL_range : ∀ ds es : List Dt, eqDL ds es = ((List.range (min ds.length es.length)).all (fun j => eqD (ds.getD j .non) (es.getD j .non)) && ds.length == es.length)
  | [], [] => rfl
  | [], e :: es => rfl
  | d :: ds, [] => rfl
  | d :: ds, e :: es => by
    show (eqD d e && eqDL ds es) = _
    rw [eqDL_range ds es, List.length_cons, List.length_cons, Nat.succ_min_succ, List.range_succ_eq_map, List.all_cons, List.all_map, Bool.and_assoc]
    congr 1
    congr 1
    by_cases h : ds.length = es.length
    · simp [h]
    · simp [h]
section
variable {X : Cx} {pins : List (Addr × Obj)} {σ : St} {H : Hp} {s : Shared}
mutual
theorem Rep.inj (I : Inv X pins σ H s) : ∀ (d e : Dt) {v : V}, Rep X.K H d v → Rep X.K H e v → d = e
  | .non, e, v, h, g => by
    cases (show v = .non from h)
    cases e with
    | non => rfl
    | tup ds => obtain ⟨_, _, z, _⟩ := (show ∃ a xs, V.non = .ref a ∧ _ from g); cases z
    | lst ds => obtain ⟨_, _, z, _⟩ := (show ∃ a xs, V.non = .ref a ∧ _ from g); cases z
    | _ => cases g
  | .bl b, e, v, h, g => by
    cases (show v = .bl b from h)
    cases e with
    | bl c => cases g; rfl
    | tup ds => obtain ⟨_, _, z, _⟩ := (show ∃ a xs, V.bl b = .ref a ∧ _ from g); cases z
    | lst ds => obtain ⟨_, _, z, _⟩ := (show ∃ a xs, V.bl b = .ref a ∧ _ from g); cases z
    | _ => cases g
  | .int b, e, v, h, g => by
    cases (show v = .int b from h)
    cases e with
    | int c => cases g; rfl
    | tup ds => obtain ⟨_, _, z, _⟩ := (show ∃ a xs, V.int b = .ref a ∧ _ from g); cases z
    | lst ds => obtain ⟨_, _, z, _⟩ := (show ∃ a xs, V.int b = .ref a ∧ _ from g); cases z
    | _ => cases g
  | .str b, e, v, h, g => by
    cases (show v = .str b from h)
    cases e with
    | str c => cases g; rfl
    | tup ds => obtain ⟨_, _, z, _⟩ := (show ∃ a xs, V.str b = .ref a ∧ _ from g); cases z
    | lst ds => obtain ⟨_, _, z, _⟩ := (show ∃ a xs, V.str b = .ref a ∧ _ from g); cases z
    | _ => cases g
  | .tup ds, e, v, h, g => by
    obtain ⟨a, xs, rfl, h1, h2⟩ := (show ∃ a xs, v = .ref a ∧ SqT X.K H a xs ∧ RepL X.K H ds xs from h)
    cases e with
    | tup es =>
      obtain ⟨a', ys, z, g1, g2⟩ := (show ∃ a' xs, V.ref a = .ref a' ∧ SqT X.K H a' xs ∧ RepL X.K H es xs from g)
      cases z
      cases I.tuple_inj h1 g1
      rw [RepL.inj I ds es h2 g2]
    | lst es =>
      obtain ⟨a', ys, z, g1, g2⟩ := (show ∃ a' xs, V.ref a = .ref a' ∧ SqL X.K H a' xs ∧ RepL X.K H es xs from g)
      cases z
      obtain ⟨_, _, p1, _⟩ := I.tuple h1
      obtain ⟨_, _, p2, _⟩ := I.list g1
      exact absurd rfl (SeqAt.ne_of_list_tuple p2.isList p1)
    | _ => cases g
  | .lst ds, e, v, h, g => by
    obtain ⟨a, xs, rfl, h1, h2⟩ := (show ∃ a xs, v = .ref a ∧ SqL X.K H a xs ∧ RepL X.K H ds xs from h)
    cases e with
    | lst es =>
      obtain ⟨a', ys, z, g1, g2⟩ := (show ∃ a' xs, V.ref a = .ref a' ∧ SqL X.K H a' xs ∧ RepL X.K H es xs from g)
      cases z
      cases I.list_inj h1 g1
      rw [RepL.inj I ds es h2 g2]
    | tup es =>
      obtain ⟨a', ys, z, g1, g2⟩ := (show ∃ a' xs, V.ref a = .ref a' ∧ SqT X.K H a' xs ∧ RepL X.K H es xs from g)
      cases z
      obtain ⟨_, _, p1, _⟩ := I.tuple g1
      obtain ⟨_, _, p2, _⟩ := I.list h1
      exact absurd rfl (SeqAt.ne_of_list_tuple p2.isList p1)
    | _ => cases g
theorem RepL.inj (I : Inv X pins σ H s) : ∀ (ds es : List Dt) {xs : List V}, RepL X.K H ds xs → RepL X.K H es xs → ds = es
  | [], es, xs, h, g => by
    cases (show xs = [] from h)
    cases es with
    | nil => rfl
    | cons e es => obtain ⟨_, _, z, _⟩ := (show ∃ x r, [] = x :: r ∧ _ from g); cases z
  | d :: ds, es, xs, h, g => by
    obtain ⟨x, r, rfl, h1, h2⟩ := (show ∃ x r, xs = x :: r ∧ Rep X.K H d x ∧ RepL X.K H ds r from h)
    cases es with
    | nil => cases (show x :: r = [] from g)
    | cons e es =>
      obtain ⟨_, _, z, g1, g2⟩ := (show ∃ y q, x :: r = y :: q ∧ Rep X.K H e y ∧ RepL X.K H es q from g)
      cases z
      rw [Rep.inj I d e h1 g1, RepL.inj I ds es h2 g2]
end
theorem in1_units (A : Around) : A.in1.units = A.units + 1 := rfl
mutual
theorem eqAt_D (I : Inv X pins σ H s) : ∀ (d e : Dt) {v u : V} {vv uu : Value} {A : Around}, Rep X.K H d v → Rep X.K H e u → RelV v vv → RelV u uu → A.units + dep d < cLine → SeqAt.EqAt A s vv uu (eqD d e)
  | .tup ds, e, v, u, vv, uu, A, h, g, rv, ru, hu => by
    obtain ⟨a, xs, rfl, h1, h2⟩ := (show ∃ a xs, v = .ref a ∧ SqT X.K H a xs ∧ RepL X.K H ds xs from h)
    cases rv
    have hu0 : A.units < cLine := Nat.lt_of_le_of_lt (Nat.le_add_right _ _) hu
    obtain ⟨j1, _, p0, _⟩ := I.tuple h1
    cases e with
    | non => cases (show u = .non from g); cases ru; exact .tuple_none p0 hu0
    | bl b => cases (show u = .bl b from g); cases ru; exact .tuple_bool _ p0 hu0
    | int b => cases (show u = .int b from g); obtain ⟨t, rfl⟩ := ru; exact .tuple_int _ _ p0 hu0
    | str b => cases (show u = .str b from g); obtain ⟨t, rfl⟩ := ru; exact .tuple_str _ _ p0 hu0
    | tup es =>
        obtain ⟨b, ys, rfl, g1, g2⟩ := (show ∃ a xs, u = .ref a ∧ SqT X.K H a xs ∧ RepL X.K H es xs from g)
        cases ru
        by_cases e : a = b
        · subst e
          cases I.tuple_inj h1 g1
          rw [RepL.inj I ds es h2 g2, show eqD (.tup es) (.tup es) = true from eqD_self _]
          exact .same _
        · obtain ⟨i1, r1, p1, _⟩ := I.tuple h1
          obtain ⟨i2, r2, p2, _⟩ := I.tuple g1
          have hu' : A.units + (depL ds + 1) < cLine := hu
          have l1 := h2.length.trans r1.length
          have l2 := g2.length.trans r2.length
          refine .of_refs e ?_
          rw [show eqD (.tup ds) (.tup es) = eqDL ds es from rfl, eqDL_range]
          have := SeqAt.RcAt.tuples (A := A) p1 p2 (by omega) (e := fun j => eqD (ds.getD j .non) (es.getD j .non)) fun j a1 a2 => by
            have a1' : j < i1.length := by simpa using a1
            have a2' : j < i2.length := by simpa using a2
            have := eqAt_DL I ds es h2 g2 r1 r2 (A := A.in1) (by rw [in1_units]; omega) j a1' a2'
            simpa using this
          rw [List.size_toArray, List.size_toArray, ← l1, ← l2] at this
          exact this
    | lst es =>
        obtain ⟨b, ys, rfl, g1, g2⟩ := (show ∃ a xs, u = .ref a ∧ SqL X.K H a xs ∧ RepL X.K H es xs from g)
        cases ru
        obtain ⟨i2, r2, p2, _⟩ := I.list g1
        exact .tuple_list p0 p2.isList hu0
  | .lst ds, e, v, u, vv, uu, A, h, g, rv, ru, hu => by
    obtain ⟨a, xs, rfl, h1, h2⟩ := (show ∃ a xs, v = .ref a ∧ SqL X.K H a xs ∧ RepL X.K H ds xs from h)
    cases rv
    have hu0 : A.units < cLine := Nat.lt_of_le_of_lt (Nat.le_add_right _ _) hu
    obtain ⟨j1, _, p0, _⟩ := I.list h1
    cases e with
    | non => cases (show u = .non from g); cases ru; exact .list_none p0.isList hu0
    | bl b => cases (show u = .bl b from g); cases ru; exact .list_bool _ p0.isList hu0
    | int b => cases (show u = .int b from g); obtain ⟨t, rfl⟩ := ru; exact .list_int _ _ p0.isList hu0
    | str b => cases (show u = .str b from g); obtain ⟨t, rfl⟩ := ru; exact .list_str _ _ p0.isList hu0
    | lst es =>
        obtain ⟨b, ys, rfl, g1, g2⟩ := (show ∃ a xs, u = .ref a ∧ SqL X.K H a xs ∧ RepL X.K H es xs from g)
        cases ru
        by_cases e : a = b
        · subst e
          cases I.list_inj h1 g1
          rw [RepL.inj I ds es h2 g2, show eqD (.lst es) (.lst es) = true from eqD_self _]
          exact .same _
        · obtain ⟨i1, r1, p1, _⟩ := I.list h1
          obtain ⟨i2, r2, p2, _⟩ := I.list g1
          have hu' : A.units + (depL ds + 1) < cLine := hu
          have l1 := h2.length.trans r1.length
          have l2 := g2.length.trans r2.length
          refine .of_refs e ?_
          rw [show eqD (.lst ds) (.lst es) = eqDL ds es from rfl, eqDL_range]
          by_cases hz : ds.length = es.length
          · have := SeqAt.RcAt.lists (A := A) p1.isList p2.isList (by simp only [List.size_toArray]; omega) (by omega) (e := fun j => eqD (ds.getD j .non) (es.getD j .non)) fun j a1 a2 => by
              have a1' : j < i1.length := by simpa using a1
              have a2' : j < i2.length := by simpa using a2
              have := eqAt_DL I ds es h2 g2 r1 r2 (A := A.in1) (by rw [in1_units]; omega) j a1' a2'
              simpa using this
            rw [List.size_toArray, ← l1] at this
            rw [← hz, Nat.min_self, beq_self_eq_true, Bool.and_true]
            exact this
          · have := SeqAt.RcAt.lists_lengths (A := A) p1.isList p2.isList (by simp only [List.size_toArray, bne_iff_ne]; omega) (by omega)
            rw [show (ds.length == es.length) = false by simpa using hz, Bool.and_false]
            exact this
    | tup es =>
        obtain ⟨b, ys, rfl, g1, g2⟩ := (show ∃ a xs, u = .ref a ∧ SqT X.K H a xs ∧ RepL X.K H es xs from g)
        cases ru
        obtain ⟨i2, r2, p2, _⟩ := I.tuple g1
        exact .list_tuple p0.isList p2 hu0
  | .non, e, v, u, vv, uu, A, h, g, rv, ru, hu => by
    cases (show v = .non from h); cases rv
    have hu0 : A.units < cLine := Nat.lt_of_le_of_lt (Nat.le_add_right _ _) hu
    cases e with
    | non => cases (show u = .non from g); cases ru; exact .same _
    | bl b => cases (show u = .bl b from g); cases ru; exact .none_bool _
    | int b => cases (show u = .int b from g); obtain ⟨t, rfl⟩ := ru; exact .none_int _ _
    | str b => cases (show u = .str b from g); obtain ⟨t, rfl⟩ := ru; exact .none_str _ _
    | tup es =>
        obtain ⟨b, ys, rfl, g1, g2⟩ := (show ∃ a xs, u = .ref a ∧ SqT X.K H a xs ∧ RepL X.K H es xs from g)
        cases ru
        obtain ⟨i2, r2, p2, _⟩ := I.tuple g1
        exact .none_tuple p2 hu0
    | lst es =>
        obtain ⟨b, ys, rfl, g1, g2⟩ := (show ∃ a xs, u = .ref a ∧ SqL X.K H a xs ∧ RepL X.K H es xs from g)
        cases ru
        obtain ⟨i2, r2, p2, _⟩ := I.list g1
        exact .none_list p2.isList hu0
  | .bl a, e, v, u, vv, uu, A, h, g, rv, ru, hu => by
    cases (show v = .bl a from h); cases rv
    have hu0 : A.units < cLine := Nat.lt_of_le_of_lt (Nat.le_add_right _ _) hu
    cases e with
    | non => cases (show u = .non from g); cases ru; exact .bool_none _
    | bl b => cases (show u = .bl b from g); cases ru; exact .bool_bool _ _
    | int b => cases (show u = .int b from g); obtain ⟨t, rfl⟩ := ru; exact .bool_int _ _ _
    | str b => cases (show u = .str b from g); obtain ⟨t, rfl⟩ := ru; exact .bool_str _ _ _
    | tup es =>
        obtain ⟨b, ys, rfl, g1, g2⟩ := (show ∃ a xs, u = .ref a ∧ SqT X.K H a xs ∧ RepL X.K H es xs from g)
        cases ru
        obtain ⟨i2, r2, p2, _⟩ := I.tuple g1
        exact .bool_tuple _ p2 hu0
    | lst es =>
        obtain ⟨b, ys, rfl, g1, g2⟩ := (show ∃ a xs, u = .ref a ∧ SqL X.K H a xs ∧ RepL X.K H es xs from g)
        cases ru
        obtain ⟨i2, r2, p2, _⟩ := I.list g1
        exact .bool_list _ p2.isList hu0
  | .int a, e, v, u, vv, uu, A, h, g, rv, ru, hu => by
    cases (show v = .int a from h); obtain ⟨t', rfl⟩ := rv
    have hu0 : A.units < cLine := Nat.lt_of_le_of_lt (Nat.le_add_right _ _) hu
    cases e with
    | non => cases (show u = .non from g); cases ru; exact .int_none _ _
    | bl b => cases (show u = .bl b from g); cases ru; exact .int_bool _ _ _
    | int b => cases (show u = .int b from g); obtain ⟨t, rfl⟩ := ru; exact .int_int _ _ _ _
    | str b => cases (show u = .str b from g); obtain ⟨t, rfl⟩ := ru; exact .int_str _ _ _ _
    | tup es =>
        obtain ⟨b, ys, rfl, g1, g2⟩ := (show ∃ a xs, u = .ref a ∧ SqT X.K H a xs ∧ RepL X.K H es xs from g)
        cases ru
        obtain ⟨i2, r2, p2, _⟩ := I.tuple g1
        exact .int_tuple _ _ p2 hu0
    | lst es =>
        obtain ⟨b, ys, rfl, g1, g2⟩ := (show ∃ a xs, u = .ref a ∧ SqL X.K H a xs ∧ RepL X.K H es xs from g)
        cases ru
        obtain ⟨i2, r2, p2, _⟩ := I.list g1
        exact .int_list _ _ p2.isList hu0
  | .str a, e, v, u, vv, uu, A, h, g, rv, ru, hu => by
    cases (show v = .str a from h); obtain ⟨t', rfl⟩ := rv
    have hu0 : A.units < cLine := Nat.lt_of_le_of_lt (Nat.le_add_right _ _) hu
    cases e with
    | non => cases (show u = .non from g); cases ru; exact .str_none _ _
    | bl b => cases (show u = .bl b from g); cases ru; exact .str_bool _ _ _
    | int b => cases (show u = .int b from g); obtain ⟨t, rfl⟩ := ru; exact .str_int _ _ _ _
    | str b => cases (show u = .str b from g); obtain ⟨t, rfl⟩ := ru; exact .str_str _ _ _ _
    | tup es =>
        obtain ⟨b, ys, rfl, g1, g2⟩ := (show ∃ a xs, u = .ref a ∧ SqT X.K H a xs ∧ RepL X.K H es xs from g)
        cases ru
        obtain ⟨i2, r2, p2, _⟩ := I.tuple g1
        exact .str_tuple _ _ p2 hu0
    | lst es =>
        obtain ⟨b, ys, rfl, g1, g2⟩ := (show ∃ a xs, u = .ref a ∧ SqL X.K H a xs ∧ RepL X.K H es xs from g)
        cases ru
        obtain ⟨i2, r2, p2, _⟩ := I.list g1
        exact .str_list _ _ p2.isList hu0
theorem eqAt_DL (I : Inv X pins σ H s) : ∀ (ds es : List Dt) {xs ys : List V} {us ws : List Value} {A : Around}, RepL X.K H ds xs → RepL X.K H es ys → Vals xs us → Vals ys ws → A.units + depL ds < cLine →
    ∀ (j : Nat) (h1 : j < us.length) (h2 : j < ws.length), SeqAt.EqAt A s us[j] ws[j] (eqD (ds.getD j .non) (es.getD j .non))
  | [], es, xs, ys, us, ws, A, h, g, rv, ru, hu => fun j h1 h2 => by
    cases (show xs = [] from h)
    cases rv
    exact absurd h1 (Nat.not_lt_zero _)
  | d :: ds, es, xs, ys, us, ws, A, h, g, rv, ru, hu => fun j h1 h2 => by
    obtain ⟨x, r, rfl, hd, hr⟩ := (show ∃ x r, xs = x :: r ∧ Rep X.K H d x ∧ RepL X.K H ds r from h)
    cases es with
    | nil =>
      cases (show ys = [] from g)
      cases ru
      exact absurd h2 (Nat.not_lt_zero _)
    | cons e es =>
      obtain ⟨y, q, rfl, gd, gr⟩ := (show ∃ x r, ys = x :: r ∧ Rep X.K H e x ∧ RepL X.K H es r from g)
      cases rv with
      | cons rv1 rv2 =>
        cases ru with
        | cons ru1 ru2 =>
          have hu' : A.units + max (dep d) (depL ds) < cLine := hu
          cases j with
          | zero => exact eqAt_D I d e hd gd rv1 ru1 (by omega)
          | succ j => exact eqAt_DL I ds es hr gr rv2 ru2 (by omega) j (by simpa using h1) (by simpa using h2)
end
noncomputable def rEqS (K : PySem.W.Frag) : R2 := fun x y H Q => ∃ ds es, ((Rep K H (.tup ds) x ∧ Rep K H (.tup es) y) ∨ (Rep K H (.lst ds) x ∧ Rep K H (.lst es) y)) ∧ depL ds ≤ 100 ∧ Q (.bl (eqDL ds es)) H
noncomputable def rNeS (K : PySem.W.Frag) : R2 := fun x y H Q => ∃ ds es, ((Rep K H (.tup ds) x ∧ Rep K H (.tup es) y) ∨ (Rep K H (.lst ds) x ∧ Rep K H (.lst es) y)) ∧ depL ds ≤ 100 ∧ Q (.bl (!eqDL ds es)) H
theorem op_eqS (hu : X.A.units + 150 < cLine) : OpR X (compareOp .Eq) (rEqS X.K) := by
  intro pins s σ H x y v u Q I rv ru h
  obtain ⟨ds, es, h, hd, q⟩ := h
  rcases h with ⟨h, g⟩ | ⟨h, g⟩
  · obtain ⟨a, xs, rfl, h1, h2⟩ := (show ∃ a xs, x = .ref a ∧ SqT X.K H a xs ∧ RepL X.K H ds xs from h)
    obtain ⟨b, ys, rfl, g1, g2⟩ := (show ∃ a xs, y = .ref a ∧ SqT X.K H a xs ∧ RepL X.K H es xs from g)
    cases rv; cases ru
    obtain ⟨i1, r1, p1, _⟩ := I.tuple h1
    obtain ⟨i2, r2, p2, _⟩ := I.tuple g1
    have l1 := h2.length.trans r1.length
    have l2 := g2.length.trans r2.length
    refine SeqAt.eq_tupleAt p1 p2 (by omega) (e := fun j => eqD (ds.getD j .non) (es.getD j .non)) (fun j a1 a2 => ?_) ⟨.bl _, H, I, rfl, ?_⟩
    · have a1' : j < i1.length := by simpa using a1
      have a2' : j < i2.length := by simpa using a2
      have := eqAt_DL I ds es h2 g2 r1 r2 (A := X.A.in1) (by rw [in1_units]; omega) j a1' a2'
      simpa using this
    · rw [List.size_toArray, List.size_toArray, ← l1, ← l2, ← eqDL_range]
      exact q
  · obtain ⟨a, xs, rfl, h1, h2⟩ := (show ∃ a xs, x = .ref a ∧ SqL X.K H a xs ∧ RepL X.K H ds xs from h)
    obtain ⟨b, ys, rfl, g1, g2⟩ := (show ∃ a xs, y = .ref a ∧ SqL X.K H a xs ∧ RepL X.K H es xs from g)
    cases rv; cases ru
    obtain ⟨i1, r1, p1, _⟩ := I.list h1
    obtain ⟨i2, r2, p2, _⟩ := I.list g1
    have l1 := h2.length.trans r1.length
    have l2 := g2.length.trans r2.length
    rw [eqDL_range] at q
    by_cases hz : ds.length = es.length
    · refine SeqAt.eq_listAt p1.isList p2.isList (by simp only [List.size_toArray]; omega) (by omega) (e := fun j => eqD (ds.getD j .non) (es.getD j .non)) (fun j a1 a2 => ?_) ⟨.bl _, H, I, rfl, ?_⟩
      · have a1' : j < i1.length := by simpa using a1
        have a2' : j < i2.length := by simpa using a2
        have := eqAt_DL I ds es h2 g2 r1 r2 (A := X.A.in1) (by rw [in1_units]; omega) j a1' a2'
        simpa using this
      · rw [← hz, Nat.min_self, beq_self_eq_true, Bool.and_true] at q
        rw [List.size_toArray, ← l1]
        exact q
    · refine SeqAt.eq_list_lengthsAt p1.isList p2.isList (by simp only [List.size_toArray, bne_iff_ne]; omega) (by omega) ⟨.bl _, H, I, rfl, ?_⟩
      rw [show (ds.length == es.length) = false by simpa using hz, Bool.and_false] at q
      exact q
theorem hu150 {A : Around} {k : Nat} (hr : Room k A) : A.units + 150 < cLine := by have := hr.un; omega
end
mutual
noncomputable def noL : Dt → Bool
  | .tup ds => noLL ds
  | .lst _ => false
  | _ => true
noncomputable def noLL : List Dt → Bool
  | [] => true
  | d :: ds => noL d && noLL ds
end
noncomputable def TK (H H' : Hp) : Prop := ∀ a xs, Rd H a (.tup xs) → Rd H' a (.tup xs)
theorem TK.sq {K : PySem.W.Frag} {H H' : Hp} (t : TK H H') {a : Addr} {xs : List V} (h : SqT K H a xs) : SqT K H' a xs := by
  rcases h with h | h
  · exact .inl (t a xs h)
  · exact .inr h
theorem TK.refl (H : Hp) : TK H H := fun _ _ h => h
theorem TK.trans {H H1 H2 : Hp} (a : TK H H1) (b : TK H1 H2) : TK H H2 := fun x xs h => b x xs (a x xs h)
theorem Same.tk {H H' : Hp} (s : Same H H') : TK H H' := fun a xs h => by
  rcases h with h | ⟨o, h⟩
  · exact .inl (s a _ h)
  · exact .inr ⟨o, s a _ h⟩
theorem TK.new {H : Hp} {p : Addr} {o : HO} (hp : H p = none) : TK H (upd H p o) := fun a xs h => by
  rcases h with h | ⟨u, h⟩
  · exact .inl (by rw [upd_ne (ne_of_none h hp)]; exact h)
  · exact .inr ⟨u, by rw [upd_ne (ne_of_none h hp)]; exact h⟩
theorem TK.lst {H : Hp} {p : Addr} {xs : List V} {o : HO} (hp : H p = some (.lst xs)) : TK H (upd H p o) := fun a ys h => by
  have ne : ∀ u, H a = some u → u ≠ .lst xs → a ≠ p := fun u e n z => by rw [z, hp] at e; cases e; exact n rfl
  rcases h with h | ⟨u, h⟩
  · exact .inl (by rw [upd_ne (ne _ h (by intro z; cases z))]; exact h)
  · exact .inr ⟨u, by rw [upd_ne (ne _ h (by intro z; cases z))]; exact h⟩
mutual
theorem Rep.mono {K : PySem.W.Frag} {H H' : Hp} (t : TK H H') : ∀ (d : Dt) {v : V}, noL d = true → Rep K H d v → Rep K H' d v
  | .non, v, _, h => h
  | .bl b, v, _, h => h
  | .int i, v, _, h => h
  | .str x, v, _, h => h
  | .lst ds, v, n, h => by cases n
  | .tup ds, v, n, h => by
    obtain ⟨a, xs, e, h1, h2⟩ := (show ∃ a xs, v = .ref a ∧ SqT K H a xs ∧ RepL K H ds xs from h)
    exact ⟨a, xs, e, t.sq h1, RepL.mono t ds n h2⟩
theorem RepL.mono {K : PySem.W.Frag} {H H' : Hp} (t : TK H H') : ∀ (ds : List Dt) {xs : List V}, noLL ds = true → RepL K H ds xs → RepL K H' ds xs
  | [], xs, _, h => h
  | d :: ds, xs, n, h => by
    obtain ⟨x, r, e, h1, h2⟩ := (show ∃ x r, xs = x :: r ∧ Rep K H d x ∧ RepL K H ds r from h)
    have n' : (noL d && noLL ds) = true := n
    rw [Bool.and_eq_true] at n'
    exact ⟨x, r, e, Rep.mono t d n'.1 h1, RepL.mono t ds n'.2 h2⟩
end
theorem RepL.append {K : PySem.W.Frag} {H : Hp} : ∀ {ds es : List Dt} {xs ys : List V}, RepL K H ds xs → RepL K H es ys → RepL K H (ds ++ es) (xs ++ ys)
  | [], es, xs, ys, h, g => by cases (show xs = [] from h); exact g
  | d :: ds, es, xs, ys, h, g => by
    obtain ⟨x, r, rfl, h1, h2⟩ := (show ∃ x r, xs = x :: r ∧ Rep K H d x ∧ RepL K H ds r from h)
    exact ⟨x, r ++ ys, rfl, h1, h2.append g⟩
noncomputable def pD (q : Int × Int) : Dt := .tup [.int q.1, .int q.2]
theorem noLL_pD : ∀ l : List (Int × Int), noLL (l.map pD) = true
  | [] => rfl
  | q :: l => by show (noL (pD q) && noLL (l.map pD)) = true; rw [noLL_pD l]; rfl
theorem depL_pD : ∀ l : List (Int × Int), depL (l.map pD) ≤ 1
  | [] => Nat.zero_le _
  | q :: l => by
    show max (dep (pD q)) (depL (l.map pD)) ≤ 1
    have := depL_pD l
    have e : dep (pD q) = 1 := rfl
    omega
theorem rep_pair {K : PySem.W.Frag} {H : Hp} {a : Addr} {x y : Int} (h : H a = some (.tup [.int x, .int y])) : Rep K H (pD (x, y)) (.ref a) := ⟨a, _, rfl, SqT.of h, _, _, rfl, rfl, _, _, rfl, rfl, rfl⟩
theorem eqDL_pD : ∀ l m : List (Int × Int), eqDL (l.map pD) (m.map pD) = decide (l = m)
  | [], [] => by simp [eqDL]
  | [], q :: m => by simp [eqDL]
  | q :: l, [] => by simp [eqDL]
  | q :: l, r :: m => by
    show (eqD (pD q) (pD r) && eqDL (l.map pD) (m.map pD)) = _
    rw [eqDL_pD l m]
    show ((q.1 == r.1 && (q.2 == r.2 && true)) && decide (l = m)) = _
    obtain ⟨a, b⟩ := q
    obtain ⟨c, d⟩ := r
    by_cases h1 : a = c <;> by_cases h2 : b = d <;> by_cases h3 : l = m <;> simp [h1, h2, h3]
theorem repL_pD_get {K : PySem.W.Frag} {H : Hp} : ∀ {l : List (Int × Int)} {xs : List V} {i : Nat} {x : V}, RepL K H (l.map pD) xs → xs[i]? = some x → ∃ q b, l[i]? = some q ∧ x = .ref b ∧ SqT K H b [.int q.1, .int q.2]
  | [], xs, i, x, h, e => by cases (show xs = [] from h); cases e
  | q :: l, xs, i, x, h, e => by
    obtain ⟨y, r, rfl, h1, h2⟩ := (show ∃ y r, xs = y :: r ∧ Rep K H (pD q) y ∧ RepL K H (l.map pD) r from h)
    cases i with
    | zero =>
      have e' : y = x := by simpa using e
      subst e'
      obtain ⟨b, ys, e1, g1, g2⟩ := (show ∃ a xs, y = .ref a ∧ SqT K H a xs ∧ RepL K H [.int q.1, .int q.2] xs from h1)
      obtain ⟨z, r1, rfl, z1, g3⟩ := (show ∃ z r', ys = z :: r' ∧ z = .int q.1 ∧ RepL K H [.int q.2] r' from g2)
      obtain ⟨z', r2, rfl, z2, g4⟩ := (show ∃ z r', r1 = z :: r' ∧ z = V.int q.2 ∧ r' = [] from g3)
      cases z1; cases z2; cases g4
      exact ⟨q, b, by simp, e1, g1⟩
    | succ i =>
      obtain ⟨q', b, h3, h4, h5⟩ := repL_pD_get (l := l) h2 (by simpa using e)
      exact ⟨q', b, by simpa using h3, h4, h5⟩
end L2
set_option Elab.async false
set_option linter.all false
set_option maxRecDepth 100000
set_option maxHeartbeats 4000000
namespace L2
open PySem PySem.Spec PyProof.Rows
noncomputable def EO (C : Value) (vs : Array Value) (sl : Array (Option Value)) : Obj := { cls := C, dict := none, data := .fields vs, slots := sl }
structure Flying (h : Heap) (e T : Addr) (C fl : Value) : Prop where
  ex : ∃ vs sl, h.get? e = some (EO C vs sl) ∧ vs[1]? = some (.ref T)
  tr : ∃ oT ts, h.get? T = some oT ∧ oT.data = .fields ts ∧ ts[3]? = some fl
  ne : T ≠ e
section
variable {M : Model} {A : Around} {E : Value → Shared → Prop} {s : Shared} {base : Heap} {env : Env} {outer : List Env} {L e : Addr} {C : Value} {vs : Array Value} {sl : Array (Option Value)} {Q : Unit → Shared → Prop}
theorem nofr_of (hl : s.heap.FunFrames base (env :: outer)) (he : s.heap.get? e = some (EO C vs sl)) : e ∉ frs (env :: outer) := fun hm => by
  obtain ⟨_, o, ho, hnf⟩ := hl.mem hm
  rw [he] at ho
  cases ho
  exact hnf vs rfl
theorem entry_ {head : Value} {hn : Bool} (hfr : A.frames = some (env :: outer)) (hl : s.heap.FunFrames base (env :: outer)) (hf : env.frame = some L) (he : s.heap.get? e = some (EO C vs sl)) (hsz : 1 < vs.size)
    (h : ∀ h' T, s.heap.objs.size ≤ T → Flying h' e T C (rawInt L) → (∀ b o, b ∉ frs (env :: outer) → b ≠ e → s.heap.get? b = some o → h'.get? b = some o) →
      (∀ b o, b ∈ frs (env :: outer) → s.heap.get? b = some o → ∃ sl, h'.get? b = some { o with slots := sl }) → Q () { s with heap := h' }) :
    wpAny M A (do let a ← frameOf env; let pl ← entryPlaceOf L hn; let b ← EntryCells.newEntry head a .none (rawInt L) .none pl; setField (.ref e) 1 b) Q E s := by
  have hef := nofr_of hl he
  refine wpAny_bind (wpAny_frameOf_fun hfr hl hf fun h1 S => ?_)
  refine wpAny_bind (wpAny_entryPlaceOf fun pl hpl => ?_)
  unfold EntryCells.newEntry newFields
  refine wpAny_bind (wpAny_newObj_type ?_ (hpl.sizeOk5 _ _ _ _ _))
  generalize hO : ({ cls := .type "traceback", dict := none, data := .fields ([head, .ref L, .none, rawInt L, .none] ++ (if pl.isEmpty then List.replicate 6 Value.none else pl)).toArray } : Obj) = O
  have he1 : h1.get? e = some (EO C vs sl) := (S.2.1 e hef).trans he
  have hTe : h1.objs.size ≠ e := Nat.ne_of_gt (Heap.lt_size he1)
  have he2 : (h1.push O).get? e = some (EO C vs sl) := Heap.get?_push_of_some O he1
  have hT2 : (h1.push O).get? h1.objs.size = some O := Heap.get?_push_size h1 (by rw [← hO]; rfl)
  refine wpAny_setField he2 rfl hsz (h _ h1.objs.size (Nat.le_of_eq S.1.symm) ⟨⟨vs.setIfInBounds 1 (.ref h1.objs.size), sl, ?_, by simp [hsz]⟩, ⟨O, _, (Heap.get?_update_other _ _ (Ne.symm hTe)).trans hT2, by rw [← hO], ?_⟩, hTe⟩ (fun b o hb hbe q => ?_) fun b o hb q => ?_)
  · exact Heap.get?_update_self _ he2 rfl
  · rcases hpl with rfl | ⟨_, _, _, _, _, _, _, rfl⟩ <;> simp
  · rw [Heap.get?_update_other _ _ (Ne.symm hbe)]
    exact Heap.get?_push_of_some _ ((S.2.1 b hb).trans q)
  · obtain ⟨sl', z⟩ := S.2.2 b o q
    have hbe : b ≠ e := fun w => hef (w ▸ hb)
    exact ⟨sl', by rw [Heap.get?_update_other _ _ (Ne.symm hbe)]; exact Heap.get?_push_of_some _ z⟩
structure Noted (fs : List Addr) (h h' : Heap) (e : Addr) (T0 : Option Addr) : Prop where
  keep : ∀ b o, b ∉ fs → b ≠ e → some b ≠ T0 → h.get? b = some o → h'.get? b = some o
  slot : ∀ b o, b ∈ fs → h.get? b = some o → ∃ sl, h'.get? b = some { o with slots := sl }
theorem note_made (hfr : A.frames = some (env :: outer)) (hl : s.heap.FunFrames base (env :: outer)) (hf : env.frame = some L) (he : s.heap.get? e = some (EO C vs sl)) (h1 : vs[1]? = some .none)
    (h : ∀ h' T, s.heap.objs.size ≤ T → Flying h' e T C (rawInt L) → Noted (frs (env :: outer)) s.heap h' e none → Q () { s with heap := h' }) : wpAny M A (noteFrame (.ref e) env) Q E s := by
  unfold noteFrame
  simp only [hf]
  refine wpAny_bind (wpAny_field he rfl h1 ?_)
  rw [if_neg (by decide)]
  exact entry_ hfr hl hf he (Array.getElem?_eq_some_iff.mp h1).1 fun h' T a b c d => h h' T a b ⟨fun b' o x y _ z => c b' o x y z, d⟩
theorem note_on {T0 : Addr} (hfr : A.frames = some (env :: outer)) (hl : s.heap.FunFrames base (env :: outer)) (hf : env.frame = some L) (F : Flying s.heap e T0 C .none)
    (h : ∀ h' T, s.heap.objs.size ≤ T → Flying h' e T C (rawInt L) → Noted (frs (env :: outer)) s.heap h' e (some T0) → Q () { s with heap := h' }) : wpAny M A (noteFrame (.ref e) env) Q E s := by
  obtain ⟨⟨vs, sl, he, h1⟩, ⟨oT, ts, hT, hdT, h3⟩, ne⟩ := F
  have hTf : T0 ∉ frs (env :: outer) := fun hm => by
    obtain ⟨_, o, ho, hnf⟩ := hl.mem hm
    rw [hT] at ho
    cases ho
    exact hnf ts hdT
  unfold noteFrame
  simp only [hf]
  refine wpAny_bind (wpAny_field he rfl h1 ?_)
  rw [if_pos (show (Value.ref T0 != Value.none) = true by simp)]
  refine wpAny_bind (wpAny_field hT hdT h3 ?_)
  rw [if_neg (show ¬ ((Value.none == rawInt L) = true) by simp [rawInt])]
  refine wpAny_bind (wpAny_setField hT hdT (Array.getElem?_eq_some_iff.mp h3).1 ?_)
  have other : ∀ b, b ≠ T0 → (s.heap.update T0 (Obj.mapFields (·.setIfInBounds 3 Value.none))).get? b = s.heap.get? b := fun b hb => Heap.get?_update_other _ _ (Ne.symm hb)
  have hl' : (s.heap.update T0 (Obj.mapFields (·.setIfInBounds 3 Value.none))).FunFrames base (env :: outer) := hl.of_keeps fun b o hb hnf => ⟨o, (other b fun q => by rw [q, hT] at hb; cases hb; exact hnf ts hdT).trans hb, rfl⟩
  refine entry_ hfr hl' hf ((other e (Ne.symm ne)).trans he) (Array.getElem?_eq_some_iff.mp h1).1 fun h' T a b c d => h h' T ?_ b ⟨fun b' o x y w z => c b' o x y ((other b' fun q => w (by rw [q])).trans z), fun b' o x z => d b' o x ((other b' fun q => hTf (q ▸ x)).trans z)⟩
  rwa [Heap.size_update] at a
theorem flight_none {T : Addr} {fl : Value} (F : Flying s.heap e T C fl) (h : ∀ h', Flying h' e T C .none → (∀ b o, b ≠ T → s.heap.get? b = some o → h'.get? b = some o) → h'.objs.size = s.heap.objs.size → Q () { s with heap := h' }) :
    wpAny M A (setFlight (.ref e) none) Q E s := by
  obtain ⟨⟨vs, sl, he, h1⟩, ⟨oT, ts, hT, hdT, h3⟩, ne⟩ := F
  have h3s : 3 < ts.size := (Array.getElem?_eq_some_iff.mp h3).1
  unfold setFlight
  refine wpAny_bind (wpAny_field he rfl h1 ?_)
  rw [if_pos (show (Value.ref T != Value.none) = true by simp)]
  refine wpAny_setField hT hdT h3s (h _ ⟨⟨vs, sl, (Heap.get?_update_other _ _ ne).trans he, h1⟩, ⟨_, _, Heap.get?_update_self _ hT (Obj.isFreed_of_fields (Obj.data_mapFields hdT _)), Obj.data_mapFields hdT _, by simp [h3s]⟩, ne⟩ (fun b o hb z => (Heap.get?_update_other _ _ (Ne.symm hb)).trans z) (Heap.size_update ..))
theorem leave_made (hfr : A.frames = some (env :: outer)) (hl : s.heap.FunFrames base (env :: outer)) (hf : env.frame = some L) (he : s.heap.get? e = some (EO C vs sl)) (h1 : vs[1]? = some .none)
    (h : ∀ h' T, s.heap.objs.size ≤ T → Flying h' e T C .none → Noted (frs (env :: outer)) s.heap h' e none → Q () { s with heap := h' }) : wpAny M A (leaving env (.ref e)) Q E s := by
  have hef := nofr_of hl he
  refine wpAny_bind (note_made hfr hl hf he h1 fun h' T a F N => flight_none F fun h2 F2 k _ => h h2 T a F2 ⟨fun b o x y w z => k b o (fun q => ?_) (N.keep b o x y w z), fun b o x z => ?_⟩)
  · exact absurd (Heap.lt_size z) (by rw [q]; exact Nat.not_lt.mpr a)
  · obtain ⟨sl', z'⟩ := N.slot b o x z
    exact ⟨sl', k b _ (fun q => absurd (Heap.lt_size z) (by rw [q]; exact Nat.not_lt.mpr a)) z'⟩
theorem leave_on {T0 : Addr} (hfr : A.frames = some (env :: outer)) (hl : s.heap.FunFrames base (env :: outer)) (hf : env.frame = some L) (F : Flying s.heap e T0 C .none)
    (h : ∀ h' T, s.heap.objs.size ≤ T → Flying h' e T C .none → Noted (frs (env :: outer)) s.heap h' e (some T0) → Q () { s with heap := h' }) : wpAny M A (leaving env (.ref e)) Q E s := by
  refine wpAny_bind (note_on hfr hl hf F fun h' T a F N => flight_none F fun h2 F2 k _ => h h2 T a F2 ⟨fun b o x y w z => k b o (fun q => ?_) (N.keep b o x y w z), fun b o x z => ?_⟩)
  · exact absurd (Heap.lt_size z) (by rw [q]; exact Nat.not_lt.mpr a)
  · obtain ⟨sl', z'⟩ := N.slot b o x z
    exact ⟨sl', k b _ (fun q => absurd (Heap.lt_size z) (by rw [q]; exact Nat.not_lt.mpr a)) z'⟩
end
noncomputable def Fly (g : Heap) (H : Hp) (a : Addr) (C : Value) (h : Heap) : Prop := ∃ T, Flying h a T C .none ∧ g.get? a = none ∧ g.get? T = none ∧ H a = none ∧ H T = none
theorem HOk.there {P : Program} {w : World} {H : Hp} {h : Heap} (x : HOk P w H h) {e : Addr} {u : HO} (q : H e = some u) : ∃ o, h.get? e = some o := by
  have ok := x e u q
  cases u with
  | lst xs => obtain ⟨_, _, _, _, z⟩ := ok; exact ⟨_, z⟩
  | tup xs => obtain ⟨_, _, _, o, z, _⟩ := ok; exact ⟨_, z⟩
  | dK kvs => obtain ⟨_, _, _, _, o, _, _, z, _⟩ := ok; exact ⟨_, z⟩
  | dT kvs => obtain ⟨_, _, _, _, o, _, _, z, _⟩ := ok; exact ⟨_, z⟩
  | set S n => obtain ⟨o, _, _, _, z, _⟩ := ok; exact ⟨_, z⟩
  | ins C dx fs => obtain ⟨_, _, _, z, _⟩ := ok; exact ⟨_, z⟩
  | own x => exact ok
  | xd fs => obtain ⟨_, ⟨o, _, _, z, _⟩, _⟩ := ok; exact ⟨_, z⟩
  | rng lo hi => obtain ⟨_, _, _, z⟩ := ok; exact ⟨_, z⟩
  | frz o u => exact ⟨_, ok.1⟩
  | tbl ps => exact ⟨_, ok⟩
  | met f x => exact ⟨_, ok⟩
  | ext φ => exact ok.2.1
theorem HOk.free_of {P : Program} {w : World} {H : Hp} {h : Heap} (x : HOk P w H h) {e : Addr} (q : h.get? e = none) : H e = none := by
  cases z : H e with
  | none => rfl
  | some u =>
    obtain ⟨o, y⟩ := x.there z
    rw [q] at y; cases y
noncomputable def CXE (P : Program) (w : World) : CXT := fun outer H s E e s' => ∃ a C H', e = .ref a ∧ Fly s.heap H' a C s'.heap ∧ s'.os = s.os ∧ AllBare s'.gens ∧ Un (frs outer) [] H H' s.heap s'.heap ∧ HOk P w H' s'.heap ∧ E C none H'
section
variable {X : Cx} {pins : List (Addr × Obj)} {σ : St} {H : Hp} {s : Shared}
theorem Inv.noted (I : Inv X pins σ H s) {h' : Heap} {e : Addr} {T0 : Option Addr} (N : Noted (frs X.stack) s.heap h' e T0) (he : H e = none) (h0 : X.s₀.heap.get? e = none) (hT : ∀ t, T0 = some t → H t = none ∧ X.s₀.heap.get? t = none) (hx : X.ex = []) :
    Un X.fs [] X.H₀ H X.s₀.heap h' ∧ HOk X.prog X.w H h' := by
  have neS : ∀ b o, X.s₀.heap.get? b = some o → b ≠ e ∧ some b ≠ T0 ∧ b ≠ X.env.locals := fun b o q => by
    have l := Heap.lt_size q
    refine ⟨fun z => ?_, fun z => ?_, fun z => ?_⟩
    · rw [z, h0] at q; cases q
    · rw [(hT b z.symm).2] at q; cases q
    · rw [z] at l; exact absurd l (Nat.not_lt.mpr I.ok.above)
  have st : ∀ b, b ∉ X.fs → b ≠ X.env.locals → b ∉ frs X.stack := fun b h1 h2 h3 => by
    rcases List.mem_cons.mp (I.stkSub b h3) with z | z
    · exact h2 z
    · exact h1 z
  have base := I.base
  rw [hx] at base
  refine ⟨⟨fun b o q n hb _ => ?_, fun b o q n hb _ => ?_, fun b o q n _ => base.free b o q n (by simp), fun b o q _ => ?_, base.tups, base.frzs, base.tbls⟩, fun a o q => ?_⟩
  · obtain ⟨z1, z2, z3⟩ := neS b o q
    exact N.keep b o (st b hb z3) z1 z2 (base.keep b o q n hb (by simp))
  · obtain ⟨z1, z2, z3⟩ := neS b o q
    obtain ⟨sl, q1⟩ := base.slot b o q n hb (by simp)
    by_cases hs : b ∈ frs X.stack
    · obtain ⟨sl', q2⟩ := N.slot b _ hs q1
      exact ⟨sl', q2⟩
    · exact ⟨sl, N.keep b _ hs z1 z2 q1⟩
  · obtain ⟨z1, z2, z3⟩ := neS b o q
    obtain ⟨o', q1⟩ := base.there b o q (by simp)
    by_cases hs : b ∈ frs X.stack
    · obtain ⟨sl', q2⟩ := N.slot b _ hs q1
      exact ⟨_, q2⟩
    · exact ⟨o', N.keep b _ hs z1 z2 q1⟩
  · have keep : ∀ b u, H b = some u → ∀ ob, s.heap.get? b = some ob → h'.get? b = some ob := fun b u z ob q' => by
      refine N.keep b ob (fun hm => ?_) (fun w => ?_) (fun w => ?_) q'
      · rw [I.stkFree b hm] at z; cases z
      · rw [w, he] at z; cases z
      · rw [(hT b w.symm).1] at z; cases z
    refine (I.hok a o q).stay (fun b u hb q' => ?_) (fun _ z => z) fun _ _ z => z
    rcases hb with z | z
    · exact keep b o (z ▸ q) u q'
    · exact keep b _ z u q'
theorem there_of (I : Inv X pins σ H s) (hx : X.ex = []) {b : Addr} (h : s.heap.get? b = none) : X.s₀.heap.get? b = none := by
  cases q : X.s₀.heap.get? b with
  | none => rfl
  | some o =>
    obtain ⟨o', z⟩ := I.base.there b o q (by rw [hx]; simp)
    rw [h] at z; cases z
end
section
variable {P : Program} {w : World} {K : PySem.W.Frag} {mg : Str → Option Value} {base : Heap} {N : List Str} {qual : Str} {scope : Scope} {f : Addr} {cd : Value} {A : Around} {outer : List Env} {s₀ : Shared} {H₀ : Hp} {E : XK}
noncomputable def Raises (X : Cx) (E : XK) : Prop := ∀ (pins : List (Addr × Obj)) (σ : St) (H : Hp) (s : Shared) (C e : Addr) (vs : List Value) (h' : Heap), Inv X pins σ H s → Heap.MadeExcOf s.heap h' e (.ref C) vs → E (.ref C) none H → X.xe (.ref e) { s with heap := h' }
theorem raises_cx : Raises (cxOf (CXE P w) P w K mg base N qual scope f cd A outer s₀ H₀ E) E := by
  intro pins σ H s C e vs h' I hx hE
  have J := I.kept (h' := h') (t' := s.toks) hx.keeps
  obtain ⟨t, he, htn, ht⟩ := hx.there
  have heH : H e = none := I.hok.free_of hx.new
  show wpAny (model P w) (A.deeper (envOfC qual scope s₀.heap.objs.size f cd)) (leaving (envOfC qual scope s₀.heap.objs.size f cd) (.ref e)) _ _ _
  refine leave_made (s := { s with heap := h' }) (base := base) J.ok.frames J.stack rfl he rfl fun h2 T a F Nt => ?_
  have hT : h'.get? T = none := Heap.get?_none_of_le a
  obtain ⟨U, ok⟩ := J.noted Nt heH (there_of I rfl hx.new) (fun _ z => nomatch z) rfl
  exact ⟨e, .ref C, H, rfl, ⟨T, F, there_of I rfl hx.new, there_of J rfl hT, heH, J.hok.free_of hT⟩, J.os, J.bare, U, ok, hE⟩
theorem passes_cx {E' : XK} (hE : ∀ C d H, E' C d H → E C d H) : Passes (CXE P w) (cxOf (CXE P w) P w K mg base N qual scope f cd A outer s₀ H₀ E) E' := by
  intro pins σ H s e s' I h
  obtain ⟨a, C, H', rfl, ⟨T, F, a1, a2, a3, a4⟩, ho, hg, U, ok, hE'⟩ := h
  have J := I.call' (s' := s') (ch := []) ho U ok hg (fun _ z => nomatch z)
  show wpAny (model P w) (A.deeper (envOfC qual scope s₀.heap.objs.size f cd)) (leaving (envOfC qual scope s₀.heap.objs.size f cd) (.ref a)) _ _ _
  refine leave_on (base := base) J.ok.frames J.stack rfl F fun h2 T2 b F2 Nt => ?_
  have hT : s'.heap.get? T2 = none := Heap.get?_none_of_le b
  obtain ⟨U2, ok2⟩ := J.noted Nt a3 (there_of I rfl a1) (fun t z => by cases z; exact ⟨a4, there_of I rfl a2⟩) rfl
  exact ⟨a, C, H', rfl, ⟨T2, F2, there_of I rfl a1, there_of J rfl hT, a3, J.hok.free_of hT⟩, J.os, J.bare, U2, ok2, hE _ _ _ hE'⟩
end
end L2
set_option Elab.async false
set_option linter.all false
set_option maxRecDepth 100000
set_option maxHeartbeats 4000000
namespace L2
open PySem PySem.Spec PyProof.Rows
section
variable {P : Program} {w : World} {K : PySem.W.Frag} {mg : Str → Option Value} {base : Heap}
theorem Fun.okX {x qual : Str} {st : Stmt} {f : Addr} {fd : FuncData} {N ps : List Str} {k : Nat} {sp : Sp} (F : Fun K x qual st f fd) (S : FnScope N ps (defScope st)) (len : ∀ vs H Q E, sp vs H Q E → vs.length = ps.length)
    (hbody : ∀ (cdv : Value) (A : Around) (outer : List Env) (s : Shared) (H : Hp) (vs : List V) (Q : VK) (E : XK), Room k (A.deeper (envOfC qual (defScope st) s.heap.objs.size f cdv)) → sp vs H Q E →
      ∃ t, PSs (cxOf (CXE P w) P w K mg base N qual (defScope st) f cdv A outer s H E) (defBody st) t ∧ t { nx := fun _ H' => Q .non H', rt := Q } (L2.start N vs) H) : FnOk P w K mg base (CXE P w) (k + 1) f fd ps sp := by
  obtain ⟨oc, od, kV, doc, pm, an, cdv, ct, osl, rfl, lk, hcd⟩ := F.ex
  exact fn_of lk hcd S len fun A outer s H vs Q E hr hsp => hbody cdv A outer s H vs Q E hr hsp
theorem passE0 {X : Cx} : Passes (CXE P w) X E0 := fun _ _ _ _ _ _ _ ⟨_, _, _, _, _, _, _, _, _, z⟩ => z.elim
end
section
variable {X : Cx} {st : Stmt} {t : TS}
theorem PS.nox (h : PS X.nox st t) : PS X st t := fun pins s σ H D I hw =>
  wpAny_mono (h pins s σ H D (I.wish _) hw) (fun _ _ q => SP.unwish q) fun _ _ q => q.elim
end
theorem toStr_len {i : Int} (h : i.natAbs < 10 ^ 100) : (toString i : Str).length ≤ 101 := by
  have e := PySem.int_text_length_le10 (k := 100) (by decide) h
  show (Str.ofString (toString i)).length ≤ 101
  rw [PySem.ofString_length]
  omega
section
variable {X : Cx} {e : Expr} {es : List Expr} {te : TE} {pos : Pos}
noncomputable def tFmt (te : TE) : TE := fun σ H Q => te σ H fun x H1 => (∃ y, x = .str y ∧ y.length ≤ sizeLine ∧ Q (.str y) H1) ∨ (∃ i : Int, x = .int i ∧ i.natAbs < 10 ^ 100 ∧ Q (.str (toString i)) H1)
theorem pe_fmt (he : PE X e te) : PE X (.FormattedValue e (-1) none pos) (tFmt te) := by
  intro pins s σ H Q I h
  refine FormattedValue_plain (thn (he pins s σ H _ I h) fun v s1 ⟨x, H1, I1, r, q⟩ => ?_)
  rcases q with ⟨y, rfl, hy, q⟩ | ⟨i, rfl, hi, q⟩
  · obtain ⟨t, rfl⟩ := r
    exact formatField_str (fun t' tk => ⟨.str y, H1, I1.tok tk, ⟨t', rfl⟩, q⟩) hy
  · obtain ⟨t, rfl⟩ := r
    exact formatField_int_small (Nat.lt_trans (log2_small hi) (by decide)) ⟨.str (toString i), H1, I1.tok _, ⟨_, rfl⟩, q⟩
noncomputable def PJ (X : Cx) (es : List Expr) (t : Str → TE) : Prop :=
  ∀ (acc : Str) (pins : List (Addr × Obj)) (s : Shared) (σ : St) (H : Hp) (Q : VK), Inv X pins σ H s → t acc σ H Q → wpAny (model X.prog X.w) X.A (joinParts acc (evalEach es X.env)) (EP X pins σ Q) X.xe s
noncomputable def jNil : Str → TE := fun acc _ H Q => acc.length ≤ sizeLine ∧ Q (.str acc) H
noncomputable def jCons (te : TE) (t : Str → TE) : Str → TE := fun acc σ H Q => te σ H fun x H1 => ∃ y, x = .str y ∧ (acc ++ y).length ≤ sizeLine ∧ t (acc ++ y) σ H1 Q
theorem pj_nil : PJ X [] jNil := fun acc _ _ _ H Q I h => joinParts_nil ⟨.str acc, H, I.tok _, ⟨_, rfl⟩, h.2⟩ h.1
theorem pj_cons {t : Str → TE} (he : PE X e te) (hr : PJ X es t) (hs : evalEach (e :: es) X.env = eval e X.env :: evalEach es X.env := by rfl) : PJ X (e :: es) (jCons te t) := by
  intro acc pins s σ H Q I h
  rw [hs]
  refine joinParts_cons (thn (he pins s σ H _ I h) fun v s1 ⟨x, H1, I1, r, y, e1, hz, q⟩ => ?_)
  subst e1
  obtain ⟨t', rfl⟩ := r
  exact ⟨hz, hr (acc ++ y) pins s1 σ H1 Q I1 q⟩
theorem pe_joined {e2 : Expr} {t : Str → TE} (h : PJ X (e :: e2 :: es) t) : PE X (.JoinedStr (e :: e2 :: es) pos) (t Str.empty) := fun pins s σ H Q I hw => JoinedStr_many (h Str.empty pins s σ H Q I hw)
end
noncomputable abbrev veMro : List Value := [.type "ValueError", .type "Exception", .type "BaseException", .type "object"]
noncomputable abbrev ExcC (K : PySem.W.Frag) (C : Addr) : Prop := PySem.W.excIn K C veMro "ValueError.__new__" = true
theorem exc_obj {K : PySem.W.Frag} {h : Heap} {C : Addr} (X : K.In h) (q : ExcC K C) : ∃ tl M nm qn bs hd sn sub ab col dd k0 k1 k2 k3 k5 mN,
    h.get? C = some (excClassObj nm qn C M bs tl hd sn sub ab col dd k0 k1 k2 k3 k5 "ValueError.__new__") ∧ h.Ns M mN ∧ mN "__init__" = none ∧ OwnTail h veMro tl := by
  unfold ExcC PySem.W.excIn at q
  split at q
  · rename_i dd cd sl ho
    split at q
    · rename_i C' tl k0 k1 k2 k3 nid k5 hm hs
      simp only [Bool.and_eq_true, beq_iff_eq, Bool.not_eq_true'] at q
      obtain ⟨⟨⟨⟨⟨rfl, rfl⟩, q1⟩, q2⟩, q3⟩, q4⟩ := q
      obtain ⟨nm, bs, mr, M, qn, hd, sn, sub, ab, col, dl⟩ := cd
      dsimp only at hm q1 q3 q4
      subst hm q1
      obtain ⟨ls⟩ := sl
      have hs' : ls = [k0, k1, k2, k3, some (.builtin "ValueError.__new__"), k5] := hs
      subst hs'
      exact ⟨tl, M, nm, qn, bs, hd, sn, sub, ab, col, dd, k0, k1, k2, k3, k5, _, X _ _ ho, .of_isNs (PySem.W.isNs_of_in X q3), PySem.W.nsMap_none_of_in X q3 q4, PySem.W.tail_of_in X q2⟩
    · cases q
  · cases q
section
variable {X : Cx} {x : Str} {C : Addr} {e : Expr} {te : TE} {np cpos pos : Pos} {E : XK}
noncomputable def tRaise (C : Addr) (E : XK) (te : TE) : TS := fun _ σ H => te σ H fun _ H1 => E (.ref C) none H1
theorem ps_raise (hX : Raises X E) (hc : X.calm = true) (hg : Gl X x) (hm : X.mg x = some (.ref C)) (q : ExcC X.K C) (he : PE X e te) (hd : (x == ("__debug__" : Str)) = false := by decide)
    (hs : starEach [e] X.env = [(false, eval e X.env)] := by rfl) : PS X (.Raise (some (.Call (.Name x np) [e] [] cpos)) none pos) (tRaise C E te) := by
  intro pins s σ H D I h
  obtain ⟨tl, M, nm, qn, bs, hd', sn, sub, ab, col, dd, k0, k1, k2, k3, k5, mN, hC, hN, hni, hT⟩ := exc_obj I.mod.kin q
  refine wpAny_Raise_call_subT (C := C) (nm := nm) (q := qn) (N := M) (bs := bs) (bm := tl) (hdct := hd') (sn := sn) (sub := sub) (ab := ab) (col := col) (dd := dd) (k0 := k0) (k1 := k1) (k2 := k2) (k3 := k3) (k5 := k5)
    PySem.F.excBase_ValueError (mN := mN) (hT.hasType (by decide)) (I.ok.hd hc) (by rw [hs]; rfl) hni (ld_glob I hg hm ⟨rfl, ?_⟩ hd)
  rw [hs]
  refine Calls.evalArgs_plain (Calls.spliced_cons (thn (he pins s σ H _ I h) fun u s1 ⟨v, H1, I1, r, z⟩ => Calls.spliced_nil ?_))
  exact ⟨rfl, by show 1 ≤ sizeLine; decide, I1.bk _ _ hC, hN.keeps I1.bk, hT.keeps I1.bk, fun h' a hm => hX pins σ H1 s1 C a _ h' I1 hm z⟩
end
end L2
set_option Elab.async false
set_option linter.all false
set_option maxRecDepth 100000
set_option maxHeartbeats 4000000
namespace L2
open PySem PySem.Spec PyProof.Rows
section
variable {X : Cx} {pins : List (Addr × Obj)} {σ σ' : St} {H : Hp} {s : Shared}
theorem Inv.frame {h' : Heap} {m' : Str → Option Value} {t : Nat} (I : Inv X pins σ H s) (sb : ∀ b, b ≠ X.env.locals → h'.get? b = s.heap.get? b) (hn : h'.Ns X.env.locals m')
    (hl : ∀ (i : Nat) (x : Str) (v : V), X.N[i]? = some x → σ'[i]? = some (some v) → Vis X.env.scope x → ∃ u, RelV v u ∧ Look X.env h' m' x u) (len : σ'.length = σ.length) : Inv X pins σ' H { s with heap := h', toks := t } := by
  have neL : ∀ b o, X.s₀.heap.get? b = some o → b ≠ X.env.locals := fun b o e => Nat.ne_of_lt (Nat.lt_of_lt_of_le (Heap.lt_size e) I.ok.above)
  refine ⟨I.ok, I.os, I.bare, ⟨fun b o e n hb hx => ?_, fun b o e n hb hx => ?_, I.base.free, fun b o e hx => ?_, I.base.tups, I.base.frzs, I.base.tbls⟩, ⟨m', hn, hl⟩, fun x c e => ?_, I.free, I.freeC, fun p hp => ?_, fun a o e => ?_, len.trans I.len⟩
  · exact (sb b (neL b o e)).trans (I.base.keep b o e n hb hx)
  · obtain ⟨sl, q⟩ := I.base.slot b o e n hb hx
    exact ⟨sl, (sb b (neL b o e)).trans q⟩
  · obtain ⟨o', q⟩ := I.base.there b o e hx
    exact ⟨o', (sb b (neL b o e)).trans q⟩
  · obtain ⟨v, o, ho, hd⟩ := I.cell x c e
    exact ⟨v, o, (sb c (I.cne x c e)).trans ho, hd⟩
  · obtain ⟨e, n, ne, r⟩ := I.pin p hp
    exact ⟨(sb p.1 ne).trans e, n, ne, r⟩
  · have ne : ∀ b u, H b = some u → b ≠ X.env.locals := fun b u q z => by rw [z, I.free] at q; cases q
    refine (I.hok a o e).stay (fun b u hb q => ?_) (fun _ z => z) fun _ _ z => z
    rcases hb with z | z
    · exact (sb b (ne b o (z ▸ e))).trans q
    · exact (sb b (ne b _ z)).trans q
theorem Inv.after_note {h' : Heap} {e : Addr} {T0 : Option Addr} (I : Inv X pins σ H s) (N : Noted (frs X.stack) s.heap h' e T0) (hx : X.ex = []) (he : H e = none) (h0 : X.s₀.heap.get? e = none) (hT : ∀ t, T0 = some t → H t = none ∧ X.s₀.heap.get? t = none)
    (hp : ∀ p ∈ X.pn ++ pins, p.1 ≠ e ∧ some p.1 ≠ T0) (hc : ∀ x c, X.env.cells.lookup x = some c → c ≠ e ∧ some c ≠ T0) (hcf : ∀ x c, X.env.cells.lookup x = some c → c ∉ frs X.stack) (hL : X.env.locals ≠ e ∧ some X.env.locals ≠ T0) : Inv X pins σ H { s with heap := h' } := by
  obtain ⟨U, ok⟩ := I.noted N he h0 hT hx
  rw [← hx] at U
  obtain ⟨m, hn, hl⟩ := I.loc
  have cellK : ∀ x c, X.env.cells.lookup x = some c → ∀ v, s.heap.IsCell c v → h'.IsCell c v := fun x c e v ⟨o, ho, hd⟩ =>
    ⟨o, N.keep c o (hcf x c e) (hc x c e).1 (hc x c e).2 ho, hd⟩
  refine ⟨I.ok, I.os, I.bare, U, ⟨m, ?_, fun i x v e1 e2 e3 => ?_⟩, fun x c q => ?_, I.free, I.freeC, fun p hpp => ?_, ok, I.len⟩
  · obtain ⟨o, es, ep, ho, r⟩ := hn
    by_cases hs : X.env.locals ∈ frs X.stack
    · obtain ⟨sl, q⟩ := N.slot _ o hs ho
      exact ⟨_, es, ep, q, r⟩
    · exact ⟨o, es, ep, N.keep _ o hs hL.1 hL.2 ho, r⟩
  · obtain ⟨u, r, l⟩ := hl i x v e1 e2 e3
    refine ⟨u, r, ?_⟩
    rcases l with l | ⟨k, c, q, z⟩
    · exact .inl l
    · exact .inr ⟨k, c, q, cellK x c q _ z⟩
  · obtain ⟨v, z⟩ := I.cell x c q
    exact ⟨v, cellK x c q v z⟩
  · obtain ⟨q, n, ne, nf, d⟩ := I.pin p hpp
    refine ⟨N.keep p.1 p.2 (fun hm => ?_) (hp p hpp).1 (hp p hpp).2 q, n, ne, nf, d⟩
    rcases List.mem_cons.mp (I.stkSub p.1 hm) with z | z
    · exact ne z
    · exact nf z
noncomputable abbrev Cx.marked (X : Cx) (v : Option Value) : Cx := { X with A := X.A.mark v, calm := false, xe := fun _ _ => False }
theorem Inv.mark (I : Inv X pins σ H s) (v : Option Value) : Inv (X.marked v) pins σ H s :=
  ⟨⟨I.ok.mod, I.ok.kind, I.ok.glob, I.ok.blt, I.ok.above, I.ok.inj, I.ok.has, I.ok.cab, (fun z => nomatch z), I.ok.frames, I.ok.stk, I.ok.exf, I.ok.bs, I.ok.bsz, I.ok.noex, I.ok.exfs, I.ok.funs, I.ok.frf⟩, I.os, I.bare, I.base, I.loc, I.cell, I.free, I.freeC, I.pin, I.hok, I.len⟩
theorem Inv.unmark {v : Option Value} (J : X.Ok) (I : Inv (X.marked v) pins σ H s) : Inv X pins σ H s := ⟨J, I.os, I.bare, I.base, I.loc, I.cell, I.free, I.freeC, I.pin, I.hok, I.len⟩
noncomputable def excH (a : Addr) (C : Value) : HO := .ext fun h => ∃ vs sl, h.get? a = some (EO C vs sl)
theorem excH_ok {P : Program} {w : World} {h : Heap} {a : Addr} {C : Value} (e : ∃ vs sl, h.get? a = some (EO C vs sl)) : ObjOk P w H h a (excH a C) :=
  ⟨e, let ⟨_, _, q⟩ := e; ⟨_, q⟩, fun h1 h2 ⟨vs, sl, q⟩ k => ⟨vs, sl, k _ q⟩⟩
theorem Inv.track {a : Addr} {o : HO} (I : Inv X pins σ H s) (hf : H a = none) (h0 : X.s₀.heap.get? a = none) (ok : ∀ H', ObjOk X.prog X.w H' s.heap a o) (hL : a ≠ X.env.locals) (hfs : ∀ x c, X.env.cells.lookup x = some c → c ≠ a) (hp : ∀ p ∈ X.pn ++ pins, p.1 ≠ a) (hx : X.ex = []) (ho : ∀ ob u, o ≠ .frz ob u) :
    Inv X pins σ (upd H a o) s := by
  have ne : ∀ b u, H b = some u → b ≠ a := fun b u q z => by rw [z, hf] at q; cases q
  have base := I.base
  refine ⟨I.ok, I.os, I.bare, ⟨base.keep, base.slot, fun b u q n hb => ?_, base.there, fun b xs q => ?_, fun b u v q => ?_, fun b ps q => ?_⟩, I.loc, I.cell, ?_, fun x c q => ?_, fun p hpp => ?_, fun b u q => ?_, I.len⟩
  · rw [upd_ne (fun z => by rw [z, h0] at q; cases q)]; exact base.free b u q n hb
  · have := base.tups b xs q
    rw [upd_ne (ne _ _ this)]; exact this
  · have := base.frzs b u v q
    rw [upd_ne (ne _ _ this)]; exact this
  · obtain ⟨more, this⟩ := base.tbls b ps q
    exact ⟨more, by rw [upd_ne (ne _ _ this)]; exact this⟩
  · rw [upd_ne hL.symm]; exact I.free
  · rw [upd_ne (hfs x c q)]; exact I.freeC x c q
  · obtain ⟨e, n, r⟩ := I.pin p hpp
    exact ⟨e, by rw [upd_ne (hp p hpp)]; exact n, r⟩
  · by_cases z : b = a
    · subst z
      rw [upd_same] at q
      cases q
      exact ok _
    · rw [upd_ne z] at q
      refine (I.hok b u q).stay (fun c v hc q' => q') (fun c hc => ?_) fun c xs hc => ?_
      · rw [upd_ne (ne _ _ hc)]; exact hc
      · rw [upd_ne (ne _ _ hc)]; exact hc
end
theorem eo_type {M : Model} {h : Heap} {a : Addr} {C : Value} {vs : Array Value} {sl : Array (Option Value)} (e : h.get? a = some (EO C vs sl)) : PySem.W.Looks M h (typeOf (.ref a)) C := by
  intro A Q E s k q
  unfold typeOf
  exact wpAny_bind (wpAny_loadPart (k _ _ e) (wpAny_pure q))
section
variable {X : Cx}
noncomputable abbrev TX := St → Hp → (Value → Hp → Prop) → Prop
noncomputable def PX (X : Cx) (body : List Stmt) (tb : TX) : Prop := ∀ (pins : List (Addr × Obj)) (s : Shared) (σ : St) (H : Hp) (R : Value → Hp → Prop), Inv X pins σ H s → tb σ H R →
  wpAny (model X.prog X.w) X.A (execs body X.env) (fun _ _ => False) (fun e s' => ∃ a C H', e = .ref a ∧ Inv X pins σ H' s' ∧ Fly s.heap H' a C s'.heap ∧ R C H') s
noncomputable def tTryX (K : PySem.W.Frag) (CP : Addr) (ie : Nat) (tb : TX) (ts : TS) : TS := fun D σ H => tb σ H fun C H' => PySem.W.exmOne K C (.ref CP) = some true ∧
  ∀ a, H' a = none → ts { nx := fun σ2 H2 => D.nx (σ2.set ie none) H2, rt := fun _ _ => False } (σ.set ie (some (.ref a))) (upd H' a (excH a C))
theorem ps_tryX {body suite : List Stmt} {b0 : Stmt} {cx n : Str} {CP : Addr} {ie : Nat} {tb : TX} {ts : TS} {np pos pos' : Pos} (hN : X.N.Nodup) (hi : X.N[ie]? = some n) (hn : X.env.scope.names.lookup n = some .local) (hx : X.ex = []) (hst : X.stack = X.env :: X.outer) (hfr : X.env.frame = some X.env.locals) (hcl : X.env.cells = [])
    (hg : Gl X cx) (hm : X.mg cx = some (.ref CP)) (hb : PX X body tb) (hs : ∀ v, PSs (X.marked v) (b0 :: suite) ts) (hd : (cx == ("__debug__" : Str)) = false := by decide) :
    PS X (.Try body [.ExceptHandler (some (.Name cx np)) (some n) (b0 :: suite) pos] [] [] pos') (tTryX X.K CP ie tb ts) := by
  intro pins s σ H D I h
  refine wpAny_Try_except (wpAny_mono (hb pins s σ H _ I h) (fun _ _ z => z.elim) fun e s1 ⟨a, C, H', ee, J, F, hmat, hR⟩ => ?_)
  subst ee
  obtain ⟨T, Fl, g1, g2, f1, f2⟩ := F
  have fr1 : X.A.frames = some (X.env :: X.outer) := by rw [← hst]; exact J.ok.frames
  have ff1 : s1.heap.FunFrames X.base (X.env :: X.outer) := by rw [← hst]; exact J.stack
  refine note_on (base := X.base) fr1 ff1 hfr Fl fun h2 T2 a2 Fl2 N => ?_
  refine flight_none (s := { s1 with heap := h2 }) Fl2 fun h3 Fl3 k3 _ => ?_
  have neT2 : ∀ b o, s1.heap.get? b = some o → b ≠ T2 := fun b o q z => absurd (Heap.lt_size q) (by rw [z]; exact Nat.not_lt.mpr a2)
  have N3 : Noted (frs X.stack) s1.heap h3 a (some T) := by
    rw [hst]
    refine ⟨fun b o x y z q => k3 b o (neT2 b o q) (N.keep b o x y z q), fun b o x q => ?_⟩
    obtain ⟨sl, q'⟩ := N.slot b o x q
    exact ⟨sl, k3 b _ (neT2 b o q) q'⟩
  have a0 := there_of I hx g1
  have t0 := there_of I hx g2
  have locs : ∃ o, s.heap.get? X.env.locals = some o := let ⟨_, ⟨o, _, _, q, _⟩, _⟩ := I.loc; ⟨o, q⟩
  have ne_a : ∀ b o, s.heap.get? b = some o → b ≠ a := fun b o q z => by rw [z, g1] at q; cases q
  have ne_T : ∀ b o, s.heap.get? b = some o → b ≠ T := fun b o q z => by rw [z, g2] at q; cases q
  have La : X.env.locals ≠ a := let ⟨o, q⟩ := locs; ne_a _ o q
  have nocell : ∀ x c, X.env.cells.lookup x = some c → False := fun x c q => by rw [hcl] at q; cases q
  have J3 : Inv X pins σ H' { s1 with heap := h3 } := by
    refine J.after_note N3 hx f1 a0 (fun t z => by cases z; exact ⟨f2, t0⟩) (fun p hp => ⟨ne_a _ _ (I.pin p hp).1, fun z => ne_T _ _ (I.pin p hp).1 (Option.some.inj z)⟩) (fun x c q => (nocell x c q).elim) (fun x c q => (nocell x c q).elim) ⟨La, fun z => ?_⟩
    obtain ⟨o, q⟩ := locs
    exact ne_T _ o q (Option.some.inj z)
  obtain ⟨⟨vs, sl, hea, _⟩, _, _⟩ := id Fl3
  refine wpAny_handleBy_cons (codeAny_handlers_test ?_) (by intro q; cases q)
  refine ld_glob (X := X.marked (some (.ref a))) (J3.mark _) hg hm ?_ hd
  have LM := PySem.W.exm_one (M := model X.prog X.w) J3.kIn (eo_type hea) hmat
  refine LM _ _ _ { s1 with heap := h3 } (fun _ _ q => q) ?_
  refine codeAny_handlers_suite_as (flight_none (s := { s1 with heap := h3 }) Fl3 fun h4 Fl4 k4 _ => ?_)
  have N4 : Noted (frs X.stack) h3 h4 a (some T2) := ⟨fun b o _ _ z q => k4 b o (fun w => z (by rw [w])) q, fun b o x q => ⟨o.slots, k4 b o (fun w => ?_) q⟩⟩
  rotate_left
  · have := J3.stack
    obtain ⟨_, o', q', hnf⟩ := this.mem x
    obtain ⟨oT, ts', q2, q3, _⟩ := Fl3.tr
    rw [w] at q'
    rw [show ({ s1 with heap := h3 } : Shared).heap.get? T2 = some oT from q2] at q'
    cases q'
    exact hnf ts' q3
  have T2free : H' T2 = none := J.hok.free_of (Heap.get?_none_of_le a2)
  have T2new : X.s₀.heap.get? T2 = none := there_of J hx (Heap.get?_none_of_le a2)
  have J4 : Inv X pins σ H' { s1 with heap := h4 } := by
    refine J3.after_note N4 hx f1 a0 (fun t z => by cases z; exact ⟨T2free, T2new⟩) (fun p hp => ⟨ne_a _ _ (I.pin p hp).1, fun z => neT2 _ _ (J.pin p hp).1 (Option.some.inj z)⟩) (fun x c q => (nocell x c q).elim) (fun x c q => (nocell x c q).elim) ⟨La, fun z => ?_⟩
    obtain ⟨_, ⟨o, _, _, q, _⟩, _⟩ := J.loc
    exact neT2 _ o q (Option.some.inj z)
  have J5 : Inv X pins σ (upd H' a (excH a C)) { s1 with heap := h4 } := by
    refine J4.track f1 a0 (fun H2 => excH_ok ?_) La.symm (fun x c q => (nocell x c q).elim) (fun p hp => ne_a _ _ (I.pin p hp).1) hx (fun _ _ z => by cases z)
    obtain ⟨⟨vs', sl', q, _⟩, _, _⟩ := Fl4
    exact ⟨vs', sl', q⟩
  refine store_ok (X := X.marked (some (.ref a))) (J5.mark _) hN hi (.inl hn) (v := .ref a) rfl (fun s5 J6 => ?_) (.inr hn)
  refine wpAny_mono (hs (some (.ref a)) pins s5 _ _ _ J6 (hR a f1)) (fun fl s6 q => ?_) (fun _ _ z => z.elim)
  cases fl with
  | next =>
    obtain ⟨σ6, H6, J7, q⟩ := q
    have J8 : Inv X pins σ6 H6 s6 := J7.unmark I.ok
    obtain ⟨m, hns, hl⟩ := id J8.loc
    refine wpAny_nameGoes_keeps (show X.env.kindOf n = some .local from hn) hns (by rw [I.ok.kind]; rfl) fun h' v hn' sb => ?_
    refine ⟨σ6.set ie none, H6, J8.frame (σ' := σ6.set ie none) (m' := fun x => if x = n then v else m x) (fun b hb => sb.2 b hb) hn' (fun i x u e1 e2 e3 => ?_) (by rw [List.length_set]), q⟩
    have ne : i ≠ ie := fun z => by
      subst z
      have hlt : i < σ6.length := by rw [J8.len]; exact (List.getElem?_eq_some_iff.mp e1).1
      rw [List.getElem?_set_self hlt] at e2
      cases e2
    have nx : x ≠ n := fun z => ne (nodup_ix hN e1 (z ▸ hi))
    rw [List.getElem?_set_ne ne.symm] at e2
    obtain ⟨u', r, l⟩ := hl i x u e1 e2 e3
    refine ⟨u', r, ?_⟩
    rcases l with ⟨l1, l2⟩ | ⟨_, c, e, _⟩
    · exact .inl ⟨l1, by show (if x = n then v else m x) = some u'; rw [if_neg nx]; exact l2⟩
    · exact (nocell x c e).elim
  | brk => obtain ⟨_, _, _, z⟩ := q; exact z.elim
  | cont => obtain ⟨_, _, _, z⟩ := q; exact z.elim
  | ret u => obtain ⟨_, _, _, _, _, z⟩ := q; exact z.elim
end
end L2
set_option Elab.async false
set_option linter.all false
set_option maxRecDepth 100000
set_option maxHeartbeats 4000000
namespace L2
open PySem PySem.Spec PyProof.Rows PySem.W
structure XCls (K : PySem.W.Frag) (C : Addr) : Prop where
  ga : PySem.W.findIn K (.ref C) "__getattribute__" = some (some (.builtin "BaseException.__getattribute__"))
  gt : PySem.W.findIn K (.ref C) "__getattr__" = some none
  hd : PySem.W.hasDictIn K C = true
  cl : PySem.W.findIn K (.ref C) "__class__" = some (some (.builtin "object.__class__"))
  sp : PySem.W.specialIn K (.builtin "object.__class__") "__get__" = some (some (.builtin "getset_descriptor.__get__"))
  tk : PySem.W.takesIn K (.builtin "object.__class__") = some true
  mr : PySem.W.mroIn K C (.type "object") = some true
  sb : PySem.W.subIn K (.ref C) (.type "BaseException") = some true
theorem eo_inst {h : Heap} {a C : Addr} {vs : Array Value} {sl : Array (Option Value)} (e : h.get? a = some (EO (.ref C) vs sl)) : PySem.W.InstAt h a (EO (.ref C) vs sl) C none := ⟨e, rfl, rfl, trivial⟩
theorem exc_class {prog : Program} {w : World} {A : Around} {E : Value → Shared → Prop} {Q : Option Value → Shared → Prop} {s : Shared} {K : PySem.W.Frag} {a C : Addr} {vs : Array Value} {sl : Array (Option Value)} (c : XCls K C) (X : K.In s.heap) (e : s.heap.get? a = some (EO (.ref C) vs sl))
    (q : Q (some (.ref C)) { s with toks := s.toks + 1 }) : wpAny (model prog w) A (getAttr? (.ref a) "__class__") Q E s := by
  have I := eo_inst e
  have hf : findObj K C none "__class__" = some (.bind (.builtin "getset_descriptor.__get__") (.builtin "object.__class__")) := by
    obtain ⟨cd, hc, _⟩ := any_some c.hd
    unfold findObj
    rw [hc, Option.bind_some, c.cl, Option.bind_some]
    simp only [c.sp, c.tk, Option.bind_some]
  obtain ⟨hh, g, d, t, os⟩ := s
  have L0 := I.type (M := model prog w)
  have L1 := looks_findIn (M := model prog w) X c.ga
  have L2 := looks_findIn (M := model prog w) X c.gt
  have L3 := looks_find (M := model prog w) X I hf
  unfold getAttr? getAttrBy? getAttrBy
  refine wpAny_bind (wpAny_mkText (wpAny_bind (wpAny_attempt (wpAny_holding (wpAny_bind (L0.at (wpAny_bind (L1.at ?_))))))))
  show wpAny _ _ (getAttrByItsOwn _ _ _ _ _ _) _ _ _
  unfold getAttrByItsOwn
  refine wpAny_bind (L2.at (wpAny_bind (wpAny_attempt (wpAny_holding ?_))))
  show wpAny _ _ (boundAndCalled _ _ _) _ _ _
  unfold boundAndCalled
  have hbs : bindSpecial (.builtin "BaseException.__getattribute__") (.ref a) = pure (.builtin "BaseException.__getattribute__", [.ref a]) := by
    have hop : withoutEnding? "BaseException.__getattribute__" "#opaque" = none := by decide +kernel
    have hdat : withoutEnding? "BaseException.__getattribute__" "#data" = none := by decide +kernel
    have hk : builtinKind "BaseException.__getattribute__" = some .slot := by decide +kernel
    simp only [bindSpecial, typeOf, builtinType, hop, hdat, hk]; rfl
  rw [hbs]
  refine wpAny_bind (wpAny_pure ?_)
  have L4 := looks_subIn (M := model prog w) X c.sb
  refine wpAny_call (codeAny_call_builtin (by decide +kernel) F.entry_bexc_ga ?_)
  have hk : builtinKind "BaseException.__getattribute__" = some .slot := by decide +kernel
  have hsplit : splitId "BaseException.__getattribute__" = some ("BaseException", "__getattribute__") := by decide +kernel
  have ha := F.args_bexc_ga (.ref a) (.str (Str.ofString "__class__") t)
  simp only [checkBuiltinCall, hk, hsplit]
  have LI : Looks (model prog w) hh (isInstance (.ref a) (.type "BaseException")) true := L0.andThen L4
  refine wpAny_bind (LI.at ?_)
  rw [if_neg (by decide)]
  refine wpAny_mono (Q := fun _ s' => s' = (⟨hh, g, d, t + 1, os⟩ : Shared)) (E := fun _ _ => False) ?_ (fun _ s' z => ?_) (fun _ _ z => z.elim)
  · repeat (first | assumption | rfl | wp_step)
  · subst z
    unfold Builtin.«object.__getattribute__»
    refine wpAny_bind (wpAny_pure ?_)
    refine wpAny_bind (wpAny_pure ?_)
    refine wpAny_bind (L0.at (wpAny_bind (L3.at ?_)))
    show wpAny _ _ (Builtin.ObjectAttr.bindTo _ _ _ _) _ _ _
    show wpAny _ _ (do let r ← holding [Value.builtin "object.__class__"] (call (.builtin "getset_descriptor.__get__") [.builtin "object.__class__", .ref a, .ref C]); ret r) _ _ _
    refine wpAny_bind (wpAny_holding (wpAny_call (class_get (s := ⟨hh, g, d, t + 1, os⟩) (ox := EO (.ref C) vs sl) (od := none) X I c.mr ?_)))
    refine wpAny_pure ?_
    show wpAny _ _ (handedOut (.ref C)) _ _ _
    exact wpAny_pure (wpAny_pure q)
theorem kitx_exc {K : PySem.W.Frag} {a C : Addr} (c : XCls K C) : PySem.W.KitX K (.ref a) (.ref C) (fun h => ∃ vs sl, h.get? a = some (EO (.ref C) vs sl)) where
  ty := fun _ _ _ ⟨_, _, e⟩ => eo_type e
  it := fun _ _ X _ => by
    obtain ⟨cd, hc, _⟩ := any_some c.hd
    unfold clsIn at hc
    split at hc
    · rename_i ho
      intro A' Q' E' s' k q
      unfold isType loadHead
      exact wpAny_bind (wpAny_loadPart (k _ _ (X _ _ ho)) (wpAny_pure q))
    · cases hc
  ne := fun h tp dd its n sl X htp => by
    obtain ⟨cd, hc, _⟩ := any_some c.hd
    refine Bool.eq_false_iff.mpr fun q => ?_
    obtain rfl : C = tp := Value.ref.inj (beq_iff_eq.mp q)
    unfold clsIn at hc
    split at hc
    · rename_i ho
      have z := (X _ _ ho).symm.trans htp
      cases z
    · cases hc
  ca := fun X ⟨_, _, e⟩ k => exc_class c X e k
section
variable {X : Cx}
noncomputable def rIsiX (K : PySem.W.Frag) : List V → Hp → VK → Prop := fun xs H Q => ∃ a C c u b, xs = [.ref a, c] ∧ H a = some (excH a (.ref C)) ∧ XCls K C ∧ clsV c = some u ∧ PySem.W.kitOne K (.ref C) u = some b ∧ Q (.bl b) H
theorem call_isinstX : CallR X (.builtin "isinstance") (rIsiX X.K) := by
  intro pins s σ H xs us Q I r h
  obtain ⟨a, C, c, u', b, rfl, ha, xc, ec, e, q⟩ := h
  obtain ⟨u, w', rfl, rx, rc⟩ := vals2 r
  obtain rfl := clsV_rel ec rc
  cases (show u = Value.ref a from rx)
  obtain ⟨p, _, _⟩ := (show ObjOk X.prog X.w H s.heap a (excH a (.ref C)) from I.hok a _ ha)
  exact PySem.W.kia_one (kitx_exc xc) I.kIn p e (fun z => nomatch z) fun tk => ⟨.bl b, H, I.tok tk, rfl, q⟩
end
end L2
set_option Elab.async false
set_option linter.all false
set_option maxRecDepth 100000
set_option maxHeartbeats 4000000
namespace L2
open PySem PySem.Spec PyProof.Rows
noncomputable def hidS (h : Heap) (H : Hp) (fs : List Addr) : Heap := PySem.W.hideAll h (trk h H ++ fs)
theorem hidS_get {h : Heap} {H : Hp} {fs : List Addr} {b : Addr} {o : Obj} (e : h.get? b = some o) (n : H b = none) (hf : b ∉ fs) : (hidS h H fs).get? b = some o :=
  PySem.W.hideAll_get _ e fun hm => by
    rcases List.mem_append.mp hm with hm | hm
    · have q : (H b).isSome = true := (List.mem_filter.mp hm).2
      rw [n] at q; simp at q
    · exact hf hm
theorem of_hidS {h : Heap} {H : Hp} {fs : List Addr} {b : Addr} {o : Obj} (e : (hidS h H fs).get? b = some o) : h.get? b = some o ∧ H b = none := by
  have e' : h.get? b = some o := PySem.W.of_hideAll _ e
  refine ⟨e', ?_⟩
  cases q : H b with
  | none => rfl
  | some x =>
    have hm : b ∈ trk h H ++ fs := List.mem_append_left _ (List.mem_filter.mpr ⟨List.mem_range.mpr (Heap.lt_size e'), by simp [q]⟩)
    have z : (hidS h H fs).get? b = none := PySem.W.hideAll_none _ hm
    rw [z] at e; cases e
theorem Mod.keeps {K : PySem.W.Frag} {mg : Str → Option Value} {b b' : Heap} (m : Mod K mg b) (k : ∀ a o, b.get? a = some o → b'.get? a = some o) : Mod K mg b' :=
  ⟨m.kin.keeps k, m.glob.keeps k, let ⟨mb, h1, h2⟩ := m.blt; ⟨mb, h1.keeps k, h2⟩, m.nolimit.keeps k⟩
noncomputable def CellsIn (X : Cx) (σ : St) (b : Heap) : Prop := ∀ (i : Nat) (x : Str) (v : V) (c : Addr), X.N[i]? = some x → σ[i]? = some (some v) → X.env.scope.names.lookup x = some .cell → X.env.cells.lookup x = some c → ∃ u, RelV v u ∧ b.IsCell c (some u)
section
variable {X : Cx} {pins : List (Addr × Obj)} {σ : St} {H : Hp} {s : Shared}
theorem Inv.cellsIn (I : Inv X pins σ H s) (hfn : ∀ x, X.fn x = true) : CellsIn X σ (hidS s.heap H (frs X.stack)) := fun i x v c e1 e2 e3 e4 => by
  obtain ⟨m, hn, hl⟩ := I.loc
  obtain ⟨u, r, l⟩ := hl i x v e1 e2 (.inr (.inl e3))
  rcases l with ⟨l, _⟩ | ⟨_, c', e5, o, ho, hd⟩
  · rw [show X.env.kindOf x = X.env.scope.names.lookup x from rfl, e3] at l; cases l
  · rw [e4] at e5
    cases e5
    refine ⟨u, r, o, hidS_get ho (I.freeC x c e4) fun hm => ?_, hd⟩
    rcases List.mem_cons.mp (I.stkSub c hm) with z | z
    · exact I.cne x c e4 z
    · obtain ⟨_, o', ho', _⟩ := I.ok.funs.mem z
      exact absurd (Heap.lt_size ho') (Nat.not_lt.mpr (I.ok.cab x c (hfn x) e4))
end
section
variable {X : Cx} {CX : CXT} {k : Nat} {f C : Addr} {fd : FuncData} {ps : List Str} {dvs : List V} {ds : List Value} {E : XK} {x m : Str} {p pos apos : Pos} {e o : Expr} {es : List Expr} {ta : TE} {t : TA}
noncomputable def tCallW (X : Cx) (sp : Heap → Sp) (dvs : List V) (E : XK) (t : TA) : TE := fun σ H Q => t σ H fun vs H1 => ∀ b, CellsIn X σ b → sp b (vs ++ dvs) H1 Q E
end
noncomputable def LamO (a : Addr) (fd : FuncData) : HO := .ext fun h => h.get? a = some { cls := .type "function", data := .func fd }
noncomputable def CodO (c : Addr) (qual : Str) : HO := .ext fun h => h.CodeRec (.ref c) qual
theorem lamO_ok {P : Program} {w : World} {H : Hp} {h : Heap} {a : Addr} {fd : FuncData} (e : h.get? a = some { cls := .type "function", data := .func fd }) : ObjOk P w H h a (LamO a fd) :=
  ⟨e, ⟨_, e⟩, fun h1 h2 q k => k _ q⟩
theorem codO_ok {P : Program} {w : World} {H : Hp} {h : Heap} {c : Addr} {q : Str} (e : h.CodeRec (.ref c) q) : ObjOk P w H h c (CodO c q) := by
  refine ⟨e, ?_, fun h1 h2 x k => ?_⟩
  · obtain ⟨c', o, vs, t, z, q, _⟩ := e
    cases z
    exact ⟨_, q⟩
  · obtain ⟨c', o, vs, t, z, q, r⟩ := x
    cases z
    exact ⟨c, o, vs, t, rfl, k _ q, r⟩
noncomputable def cxLam (P : Program) (w : World) (K : PySem.W.Frag) (mg : Str → Option Value) (base : Heap) (N : List Str) (qual : Str) (scope : Scope) (f : Addr) (cd : Value) (cl : List (Str × Addr)) (A : Around) (outer : List Env) (s : Shared) (H : Hp) (E : XK) : Cx where
  prog := P
  w := w
  K := K
  mg := mg
  base := base
  A := A.deeper (PySem.W.envX qual scope s.heap.objs.size f cd cl)
  N := N
  s₀ := s
  H₀ := H
  env := PySem.W.envX qual scope s.heap.objs.size f cd cl
  outer := outer
  stack := PySem.W.envX qual scope s.heap.objs.size f cd cl :: outer
  ex := []
  calm := true
  fn := fun _ => false
  pn := []
  xe := fun e s' => wpAny (model P w) (A.deeper (PySem.W.envX qual scope s.heap.objs.size f cd cl)) (leaving (PySem.W.envX qual scope s.heap.objs.size f cd cl) e) (fun _ s'' => CXE P w outer H s E e s'') (fun e' s'' => CXE P w outer H s E e' s'') s'
structure LamScope (N : List Str) (sc : Scope) (cl : List (Str × Addr)) : Prop where
  kind : sc.kind = .function
  co : sc.isCoroutine = false
  gen : sc.isGenerator = false
  nocell : ∀ y ∈ sc.names, y.2 ≠ .cell
  nm : ∀ x ∈ N, sc.names.lookup x = some .free
  has : ∀ x, sc.names.lookup x = some .free → ∃ c, cl.lookup x = some c
  inj : ∀ x y c, cl.lookup x = some c → cl.lookup y = some c → x = y
section
variable {P : Program} {w : World} {K : PySem.W.Frag} {mg : Str → Option Value} {base : Heap} {N : List Str} {name qual : Str} {params : Arguments} {body : Expr} {scope : Scope} {f c' : Addr} {pm ctv : Value} {cl : List (Str × Addr)} {k : Nat}
theorem inv_lam {A : Around} {outer : List Env} {s : Shared} {H : Hp} {E : XK} {h1 : Heap} {tk : Nat} {vs : List V} (S : LamScope N scope cl) (hd : A.handled = none) (e0 : Env0 P w K mg base A outer s H) (hlen : vs.length = N.length)
    (hcl : ∀ x c, cl.lookup x = some c → ∃ v, base.IsCell c v) (hv : ∀ (i : Nat) x v, N[i]? = some x → vs[i]? = some v → ∃ c u, cl.lookup x = some c ∧ RelV v u ∧ base.IsCell c (some u))
    (hns : h1.Ns s.heap.objs.size (fun _ => none)) (hk : ∀ b o, s.heap.get? b = some o → h1.get? b = some o) :
    Inv (cxLam P w K mg base N qual scope f (.ref c') cl A outer s H E) [] (vs.map some) H { s with heap := h1, toks := tk } := by
  have noA : ∀ b : Addr, b ∉ (cxLam P w K mg base N qual scope f (.ref c') cl A outer s H E).ex := fun b z => absurd (show b ∈ ([] : List Addr) from z) (by simp)
  have bk : ∀ c v, base.IsCell c v → h1.IsCell c v ∧ H c = none := fun c v ⟨o, ho, hd⟩ => ⟨⟨o, hk _ _ (e0.bs c o ho).1, hd⟩, (e0.bs c o ho).2⟩
  refine ⟨⟨e0.mod, S.kind, rfl, rfl, Nat.le_refl _, S.inj, fun y hy => ?_, fun y c z _ => (nomatch z), fun _ => hd, Around.frames_deeper e0.frames, .inr ⟨rfl, rfl⟩, fun b z => absurd z (noA b), e0.bs, e0.bsz, fun b _ _ => noA b, fun b z => absurd z (noA b), e0.funs, e0.frf⟩,
    rfl, e0.bare, Un.kept hk, ⟨_, hns, fun i y v h1 h2 h3 => ?_⟩, fun y c h => ?_, e0.hok.fresh (Nat.le_refl _), fun y c h => ?_, fun p hp => absurd (show p ∈ ([] : List (Addr × Obj)) from hp) (by simp), e0.hok.kept hk, ?_⟩
  · have hy : scope.names.lookup y = some .cell ∨ scope.names.lookup y = some .free := hy
    rcases hy with hy | hy
    · exact absurd rfl (S.nocell _ (PySem.mem_of_lookup hy))
    · exact S.has y hy
  · have ha : vs[i]? = some v := by
      rw [List.getElem?_map] at h2
      cases e : vs[i]? with
      | none => rw [e] at h2; cases h2
      | some a => rw [e] at h2; cases h2; rfl
    obtain ⟨c, u, q, r, z⟩ := hv i y v h1 ha
    exact ⟨u, r, .inr ⟨.inr (S.nm y (List.mem_of_getElem? h1)), c, q, (bk c _ z).1⟩⟩
  · obtain ⟨v, z⟩ := hcl y c h
    exact ⟨v, (bk c v z).1⟩
  · obtain ⟨v, z⟩ := hcl y c h
    exact (bk c v z).2
  · show (vs.map some).length = N.length
    rw [List.length_map, hlen]
theorem lam_ok {vs : List V} {sp : Hp → VK → XK → Prop} (S : LamScope N scope cl) (hlen : vs.length = N.length)
    (hcl : ∀ x c, cl.lookup x = some c → ∃ v, base.IsCell c v) (hv : ∀ (i : Nat) x v, N[i]? = some x → vs[i]? = some v → ∃ c u, cl.lookup x = some c ∧ RelV v u ∧ base.IsCell c (some u))
    (hbody : ∀ (A : Around) (outer : List Env) (s : Shared) (H : Hp) (Q : VK) (E : XK), Room k (A.deeper (PySem.W.envX qual scope s.heap.objs.size f (.ref c') cl)) → sp H Q E →
      ∃ t, PE (cxLam P w K mg base N qual scope f (.ref c') cl A outer s H E) body t ∧ t (vs.map some) H Q) :
    FnOk P w K mg base (CXE P w) (k + 1) f (PySem.W.kla_fn name qual params body scope cl pm (.ref c') ctv) []
      (fun us H Q E => us = [] ∧ H f = some (LamO f (PySem.W.kla_fn name qual params body scope cl pm (.ref c') ctv)) ∧ H c' = some (CodO c' qual) ∧ sp H Q E) := by
  refine ⟨fun vs H Q E h => by rw [h.1]; rfl, fun A outer s H args us vs' Q E hr e0 hb r hsp => ?_⟩
  obtain ⟨rfl, hf, hc, hsp⟩ := hsp
  have lim : s.heap.NoLimit := e0.mod.nolimit.keeps fun b o e => (e0.bs b o e).1
  obtain ⟨ho, _, _⟩ := e0.hok f _ hf
  obtain ⟨hcd, _, _⟩ := e0.hok c' _ hc
  refine PySem.W.kla_callFunE hr.depth ho rfl S.co S.gen rfl hcd (hb _ _ _ _ ?_)
  refine wpAny_newFunctionEnv S.nocell (fun y hy => by simp at hy) (fun h₁ hns hsb => ⟨lim.fresh _ hsb, ?_⟩) S.kind
  have hk₁ : ∀ b o, s.heap.get? b = some o → h₁.get? b = some o := fun b o e => hsb.extBut b o (Nat.ne_of_lt (Heap.lt_size e)) (Heap.get?_push_of_some _ e)
  show codeAny _ _ (.expr body (PySem.W.envX qual scope s.heap.objs.size f (.ref c') cl)) _ _
  obtain ⟨t, ht, hq⟩ := hbody A outer s H Q E (hr.deeper _) hsp
  have I := inv_lam (qual := qual) (f := f) (c' := c') (E := E) (tk := s.toks + (([] : List Str).zip us).length) S hr.hd e0 hlen hcl hv hns hk₁
  exact PySem.W.kla_codeExpr (wpAny_mono (ht [] _ _ H _ I hq) (fun u s' ⟨v, H', J, rv, q⟩ => ⟨v, H', J.os, J.bare, J.base, J.hok, rv, q⟩) fun e s' hs => hs)
theorem passes_lam {cd : Value} {A : Around} {outer : List Env} {s₀ : Shared} {H₀ : Hp} {E E' : XK} (hE : ∀ C d H, E' C d H → E C d H) : Passes (CXE P w) (cxLam P w K mg base N qual scope f cd cl A outer s₀ H₀ E) E' := by
  intro pins σ H s e s' I h
  obtain ⟨a, C, H', rfl, ⟨T, F, a1, a2, a3, a4⟩, ho, hg, U, ok, hE'⟩ := h
  have J := I.call' (s' := s') (ch := []) ho U ok hg (fun _ z => nomatch z)
  show wpAny (model P w) (A.deeper (PySem.W.envX qual scope s₀.heap.objs.size f cd cl)) (leaving (PySem.W.envX qual scope s₀.heap.objs.size f cd cl) (.ref a)) _ _ _
  refine leave_on (base := base) J.ok.frames J.stack rfl F fun h2 T2 b F2 Nt => ?_
  have hT : s'.heap.get? T2 = none := Heap.get?_none_of_le b
  obtain ⟨U2, ok2⟩ := J.noted Nt a3 (there_of I rfl a1) (fun t z => by cases z; exact ⟨a4, there_of I rfl a2⟩) rfl
  exact ⟨a, C, H', rfl, ⟨T2, F2, there_of I rfl a1, there_of J rfl hT, a3, J.hok.free_of hT⟩, J.os, J.bare, U2, ok2, hE _ _ _ hE'⟩
end
end L2
set_option Elab.async false
set_option linter.all false
set_option maxRecDepth 100000
set_option maxHeartbeats 4000000
namespace L2
open PySem PySem.Spec PyProof.Rows
section
variable {X : Cx} {k i : Nat} {x : Str} {p pos pos' : Pos}
noncomputable def xCall0 (X : Cx) (k i : Nat) : TX := fun σ H R => ∃ f fd sp, σ[i]? = some (some (.ref f)) ∧ H f = some (LamO f fd) ∧ FnOk X.prog X.w X.K X.mg X.base (CXE X.prog X.w) k f fd [] sp ∧ Binds X.K fd [] [] ∧ sp [] H (fun _ _ => False) (fun C _ H' => R C H')
theorem ld_var {E : Value → Shared → Prop} {pins : List (Addr × Obj)} {s : Shared} {σ : St} {H : Hp} {v : V} {Q : Value → Shared → Prop} (I : Inv X pins σ H s) (hN : X.N[i]? = some x) (hv : Vis X.env.scope x) (e : σ[i]? = some (some v)) (h : ∀ u, RelV v u → Q u s)
    (hd : (x == ("__debug__" : Str)) = false) (hcd : (x == ("__classdict__" : Str)) = false) : wpAny (model X.prog X.w) X.A (eval (.Name x p) X.env) Q E s := by
  obtain ⟨m, hn, hl⟩ := I.loc
  obtain ⟨u, r, l⟩ := hl i x v hN e hv
  have fin := h u r
  rcases l with ⟨hk, hm⟩ | ⟨hk, c, hc, hcell⟩
  · exact wpAny_Name (wpAny_loadName_local I.ok.kind hk hn hm fin) hd
  · rcases hk with hk | hk
    · exact wpAny_Name (wpAny_loadName_cell I.ok.kind hk hc hcell fin) hd
    · exact wpAny_Name (wpAny_loadName_free I.ok.kind hk hc hcell fin hcd) hd
theorem px_call0 (hN : X.N[i]? = some x) (hv : Vis X.env.scope x) (hr : Room k X.A) (hd : (x == ("__debug__" : Str)) = false := by decide) (hcd : (x == ("__classdict__" : Str)) = false := by decide)
    (hs : swapsWith (.Call (.Name x p) [] [] pos) none pos'.line X.env = pure false := by rfl) : PX X [.Expr (.Call (.Name x p) [] [] pos) pos'] (xCall0 X k i) := by
  intro pins s σ H R I h
  obtain ⟨f, fd, sp, e1, hf, F, hb, hsp⟩ := h
  refine wpAny_execs_cons (wpAny_Expr_any (wpAny_Call_Name_kw (ld_var I hN hv e1 (fun u r => ?_) hd hcd)) I.quiet hs)
  cases (show u = Value.ref f from r)
  obtain ⟨ho, _, _⟩ := I.hok f _ hf
  refine PySem.W.callWith_F0 ⟨_, _, _, _, ho⟩ ?_
  refine wpAny_call (codeAny_mono (F.run X.A X.stack s H ⟨[], []⟩ [] [] _ _ hr I.env0 (hb s [] I.kIn rfl) .nil hsp) fun r s' hq => ?_)
  cases r with
  | error e =>
    obtain ⟨a, C, H', rfl, fl, ho, hg, U, ok, hE⟩ := hq
    exact ⟨a, C, H', rfl, I.call' (s' := s') (ch := []) ho U ok hg (fun _ z => nomatch z), fl, hE⟩
  | ok fl =>
    cases fl with
    | ret u =>
      obtain ⟨_, _, _, _, _, _, _, z⟩ := hq
      exact z.elim
    | next => exact False.elim hq
    | brk => exact False.elim hq
    | cont => exact False.elim hq
end
noncomputable def TabOk (H : Hp) (P : Addr) (q : Str) : Prop := ∃ ps : Array Value, H P = some (.tbl ps) ∧ TriplesOk ps.toList ∧ ∀ pos cv, codeAmong pos ps.toList = some cv → ∃ c, cv = .ref c ∧ H c = some (CodO c q)
theorem among_snoc {pos : Pos} {a b : Nat} {c cv : Value} (l : List Value) (h : TriplesOk l) (e : codeAmong pos (l ++ [rawInt a, rawInt b, c]) = some cv) : codeAmong pos l = some cv ∨ cv = c := by
  fun_induction TriplesOk l with
  | case1 =>
    simp only [List.nil_append, codeAmong, rawInt] at e
    split at e
    · exact .inr (Option.some.inj e).symm
    · cases e
  | case2 i t j u d rest ih =>
    simp only [List.cons_append, codeAmong] at e ⊢
    split at e
    · rename_i z
      left; rw [if_pos z]; exact e
    · rename_i z
      rw [if_neg z]
      exact ih h e
  | case3 => exact h.elim
theorem triples_snoc {a b : Nat} {c : Value} (l : List Value) (h : TriplesOk l) : TriplesOk (l ++ [rawInt a, rawInt b, c]) := by
  fun_induction TriplesOk l with
  | case1 => simp [TriplesOk, rawInt]
  | case2 i t j u d rest ih => simp only [List.cons_append, TriplesOk]; exact ih h
  | case3 => exact h.elim
noncomputable def SameX (P : Addr) (H H' : Hp) : Prop := ∀ b o, b ≠ P → H b = some o → H' b = some o
structure LamCx (X : Cx) (c P : Addr) : Prop where
  code : X.env.code = .ref c
  hd : PySem.W.CodeHd X.base c P
  bm : X.base.BuiltinsAt X.mg P
section
variable {X : Cx} {c P : Addr} {params : Arguments} {body : Expr} {scope : Scope} {pos : Pos} {clos : List (Str × Addr)}
noncomputable def tLam (mg : Str → Option Value) (P : Addr) (q : Str) (params : Arguments) (body : Expr) (scope : Scope) (clos : List (Str × Addr)) : TE := fun _ H Q => TabOk H P q ∧
  ∀ f c' ctv H', H f = none → SameX P H H' → TabOk H' P q → H' f = some (LamO f (PySem.W.kla_fn "<lambda>" q params body scope clos ((mg "__name__").getD .none) (.ref c') ctv)) → H' c' = some (CodO c' q) → Q (.ref f) H'
theorem pe_lam (L : LamCx X c P) (hdef : defaultsOf params X.env = ([], [])) (hcl : closureFor scope X.env = pure clos) : PE X (.Lambda params body scope pos) (tLam X.mg P (X.env.qual ++ "<lambda>") params body scope clos) := by
  intro pins s σ H Q I h
  obtain ⟨⟨ps, hP, ht, hcs⟩, h⟩ := h
  have hPo : s.heap.get? P = some (PySem.W.tabObj ps) := I.hok P _ hP
  have hg : s.heap.Ns mainGlobals X.mg := I.mod.glob.keeps I.bk
  have hgP : mainGlobals ≠ P := fun q => by
    obtain ⟨o, es, ep, e, hd, _⟩ := hg
    rw [q, hPo] at e; cases e; cases hd
  have hb : s.heap.BuiltinsAt X.mg P := by
    obtain ⟨bm, o, b1, b2, b3, b4, b5, b6⟩ := L.bm
    exact ⟨bm, o, b1, b2, b3, b4, I.bk _ _ b5, b6⟩
  have fresh : ∀ b, s.heap.objs.size ≤ b → H b = none := fun b hb => I.hok.fresh hb
  refine PySem.W.kla_eval hdef ?_
  cases hA : codeAmong pos ps.toList with
  | some cv =>
    obtain ⟨c', rfl, hc'⟩ := hcs pos cv hA
    refine PySem.W.kla_makeFunctionHit hcl I.ok.glob hg L.code (L.hd.keeps I.bk) hPo ht hA hb fun ctv h' tk hk hsz => ?_
    have hfn : H h'.objs.size = none := fresh _ hsz
    refine ⟨.ref h'.objs.size, upd H h'.objs.size (LamO h'.objs.size (PySem.W.kla_fn "<lambda>" (X.env.qual ++ "<lambda>") params body scope clos ((X.mg "__name__").getD .none) (.ref c') ctv)), I.laid (fun b u q => Heap.get?_push_of_some _ (hk b u q)) hsz (lamO_ok (Heap.get?_push_size _ rfl)), rfl, ?_⟩
    have ne : ∀ b o, H b = some o → b ≠ h'.objs.size := fun b o q z => by rw [z, hfn] at q; cases q
    refine h _ c' ctv _ hfn (fun b o _ q => by rw [upd_ne (ne b o q)]; exact q) ⟨ps, by rw [upd_ne (ne _ _ hP)]; exact hP, ht, fun pos cv e => ?_⟩ upd_same (by rw [upd_ne (ne _ _ hc')]; exact hc')
    obtain ⟨c2, e1, e2⟩ := hcs pos cv e
    exact ⟨c2, e1, by rw [upd_ne (ne _ _ e2)]; exact e2⟩
  | none =>
    refine PySem.W.kla_makeFunction hcl I.ok.glob hg L.code (L.hd.keeps I.bk) hPo ht hA hgP hb fun c' ctv h' tk hx hge hlt hrec htb => ?_
    have hszP : P < s.heap.objs.size := Heap.lt_size hPo
    have hcn : H c' = none := fresh _ hge
    have hfn : H h'.objs.size = none := fresh _ (Nat.le_of_lt (Nat.lt_of_le_of_lt hge hlt))
    have hcf : c' ≠ h'.objs.size := Nat.ne_of_lt hlt
    have hPc : P ≠ c' := Nat.ne_of_lt (Nat.lt_of_lt_of_le hszP hge)
    have hPf : P ≠ h'.objs.size := Nat.ne_of_lt (Nat.lt_of_lt_of_le hszP (Nat.le_of_lt (Nat.lt_of_le_of_lt hge hlt)))
    generalize hfd : PySem.W.kla_fn "<lambda>" (X.env.qual ++ "<lambda>") params body scope clos ((X.mg "__name__").getD .none) (.ref c') ctv = fd
    obtain ⟨H', hH'⟩ : ∃ H', H' = upd (upd (upd H P (.tbl (ps ++ #[rawInt pos.line, rawInt pos.col, .ref c']))) c' (CodO c' (X.env.qual ++ "<lambda>"))) h'.objs.size (LamO h'.objs.size fd) := ⟨_, rfl⟩
    have gF : H' h'.objs.size = some (LamO h'.objs.size fd) := by rw [hH']; exact upd_same
    have gC : H' c' = some (CodO c' (X.env.qual ++ "<lambda>")) := by rw [hH', upd_ne hcf]; exact upd_same
    have gP : H' P = some (.tbl (ps ++ #[rawInt pos.line, rawInt pos.col, .ref c'])) := by rw [hH', upd_ne hPf, upd_ne hPc]; exact upd_same
    have gO : ∀ b, b ≠ h'.objs.size → b ≠ c' → b ≠ P → H' b = H b := fun b x y z => by rw [hH', upd_ne x, upd_ne y, upd_ne z]
    have gS : ∀ b o, b ≠ P → H b = some o → H' b = some o := fun b o z q => by
      rw [gO b (fun w => by rw [w, hfn] at q; cases q) (fun w => by rw [w, hcn] at q; cases q) z]; exact q
    have neP : ∀ b u, H b = some u → (∀ qs, u ≠ .tbl qs) → b ≠ P := fun b u q d w => by
      rw [w, hP] at q; cases q; exact d _ rfl
    have keep : ∀ b o, b ≠ P → s.heap.get? b = some o → (h'.push (PySem.W.kla_obj "<lambda>" (X.env.qual ++ "<lambda>") params body scope clos ((X.mg "__name__").getD .none) c' ctv)).get? b = some o := fun b o hb q => Heap.get?_push_of_some _ (hx b o hb q)
    have nP : ∀ b, H b = none → b ≠ P := fun b n w => by rw [w, hP] at n; cases n
    have U : Un X.fs [] H H' s.heap (h'.push (PySem.W.kla_obj "<lambda>" (X.env.qual ++ "<lambda>") params body scope clos ((X.mg "__name__").getD .none) c' ctv)) := by
      refine ⟨fun b o q n _ _ => keep b o (nP b n) q, fun b o q n _ _ => ⟨o.slots, keep b o (nP b n) q⟩, fun b o q n _ => ?_, fun b o q _ => ?_, fun b xs q => gS b _ (neP b _ q fun _ z => nomatch z) q, fun b o u q => gS b _ (neP b _ q fun _ z => nomatch z) q, fun b qs q => ?_⟩
      · have l := Heap.lt_size q
        rw [gO b (Nat.ne_of_lt (Nat.lt_of_lt_of_le l (Nat.le_of_lt (Nat.lt_of_le_of_lt hge hlt)))) (Nat.ne_of_lt (Nat.lt_of_lt_of_le l hge)) (nP b n)]
        exact n
      · by_cases w : b = P
        · subst w
          exact ⟨_, Heap.get?_push_of_some _ htb⟩
        · exact ⟨o, keep b o w q⟩
      · by_cases w : b = P
        · subst w
          rw [hP] at q
          cases q
          exact ⟨_, gP⟩
        · exact ⟨#[], by rw [Array.append_empty]; exact gS b _ w q⟩
    have ok : HOk X.prog X.w H' (h'.push (PySem.W.kla_obj "<lambda>" (X.env.qual ++ "<lambda>") params body scope clos ((X.mg "__name__").getD .none) c' ctv)) := fun a o q => by
      by_cases w1 : a = h'.objs.size
      · subst w1
        rw [gF] at q
        cases q
        refine lamO_ok ?_
        rw [← hfd]
        exact Heap.get?_push_size _ rfl
      by_cases w2 : a = c'
      · subst w2
        rw [gC] at q
        cases q
        exact codO_ok (hrec.push _)
      by_cases w3 : a = P
      · subst w3
        rw [gP] at q
        cases q
        exact Heap.get?_push_of_some _ htb
      rw [gO a w1 w2 w3] at q
      refine (I.hok a o q).stay (fun b u hb e => keep b u ?_ e) (fun b e => gS b _ (neP b _ e fun _ z => nomatch z) e) fun b xs e => gS b _ (neP b _ e fun _ z => nomatch z) e
      rcases hb with rfl | hb
      · exact w3
      · exact neP b _ hb fun _ z => nomatch z
    refine ⟨.ref h'.objs.size, H', I.un (t' := tk) U ok, rfl, ?_⟩
    refine h _ c' ctv H' hfn gS ⟨_, gP, ?_, fun pos' cv e => ?_⟩ (by rw [hfd]; exact gF) gC
    · rw [Array.toList_append]; exact triples_snoc _ ht
    · rw [Array.toList_append] at e
      rcases among_snoc _ ht e with e | e
      · obtain ⟨c2, e1, e2⟩ := hcs pos' cv e
        exact ⟨c2, e1, gS _ _ (neP _ _ e2 fun _ z => nomatch z) e2⟩
      · exact ⟨c', e, gC⟩
end
end L2
set_option Elab.async false
set_option linter.all false
set_option maxRecDepth 100000
set_option maxHeartbeats 4000000
namespace L2
open PySem PySem.Spec PyProof.Rows
noncomputable def OnlyT (Pt : Addr) (H : Hp) : Prop := ∀ b, H b = none ∨ (∃ o xs, H b = some (.frz o (.lst xs))) ∨ (b = Pt ∧ H b = some (.tbl #[]))
theorem law_callT {P : Program} {w : World} {K : PySem.W.Frag} {mg mb : Str → Option Value} {CX : CXT} {k : Nat} {fa a c Pt : Addr} {fd : FuncData} {x : Str} {sp : Sp} {s₁ : Shared} {vs : List Value} {ns : List Int}
    (KX : K.In s₁.heap) (hns : s₁.heap.Ns mainGlobals mg) (hb : s₁.heap.Ns builtinsNs mb) (hbb : ∀ x : Str, x ≠ "__name__" → mb x = bootBuiltins x) (hlim : s₁.heap.NoLimit) (hg : s₁.gens = #[])
    (hbm : ∃ bm ob, mg "__builtins__" = some (.ref bm) ∧ bm ≠ builtinsNs ∧ s₁.heap.get? bm = some ob ∧ ob.cls = .type "module" ∧ ob.dict = some builtinsNs ∧ ob.data = .plain)
    (hC : PySem.W.CodeHd s₁.heap c Pt) (hP : s₁.heap.get? Pt = some (PySem.W.tabObj #[])) (hPK : K.lookup Pt = none)
    (ha : s₁.heap.get? a = some { cls := .type "list", data := .seq vs.toArray }) (hi : IntsAre vs ns) (hl : ns.length ≤ sizeLine) (hr : Room k callerA)
    (F : ∀ base : Heap, K.In base → base.Ns mainGlobals mg → base.BuiltinsAt mg Pt → FnOk P w K mg base CX k fa fd [x] sp) (hbind : ∀ (s : Shared) (u : Value), BindsTo s fd ⟨[u], []⟩ [(x, u)])
    (hsp : ∀ H : Hp, OnlyT Pt H → SqL K H a (ns.map V.int) → H Pt = some (.tbl #[]) → sp [.ref a] H (fun v _ => v = .bl true) fun _ _ _ => False)
    (hCX : ∀ H e s', CX [] H s₁ (fun _ _ _ => False) e s' → False) :
    codeAny (model P w) callerA (.call (.ref fa) ⟨[.ref a], []⟩) (fun r s' => r = .ok (.ret (.bool true)) ∧ OldK s₁.heap s'.heap ∧ s'.os = s₁.os ∧ AllBare s'.gens) s₁ := by
  have rv := vals_ints hi
  have lenV := hi.length
  have aP : a ≠ Pt := fun z => by rw [z, hP] at ha; cases ha
  have core : ∀ H : Hp, OnlyT Pt H → H Pt = some (.tbl #[]) → SqL K H a (ns.map V.int) → HOk P w H s₁.heap → (∀ b, H b ≠ none → b = a ∨ b = Pt) → (H a ≠ none → K.lookup a = none) →
      codeAny (model P w) callerA (.call (.ref fa) ⟨[.ref a], []⟩) (fun r s' => r = .ok (.ret (.bool true)) ∧ OldK s₁.heap s'.heap ∧ s'.os = s₁.os ∧ AllBare s'.gens) s₁ := by
    intro H hO hT hS hok hA hK
    have base_of : ∀ {b : Addr} {o : Obj}, s₁.heap.get? b = some o → H b = none → (hidT s₁.heap H).get? b = some o := fun e n => hidT_get e n
    have noD : ∀ {b : Addr} {o : Obj}, s₁.heap.get? b = some o → (∀ its n, o.data ≠ .seq its n) → (∀ qs, o.data ≠ .fields qs) → H b = none := fun {b o} e d1 d2 => by
      cases q : H b with
      | none => rfl
      | some u =>
        rcases hA b (by rw [q]; simp) with e' | e'
        · subst e'
          rw [ha] at e; cases e
          exact absurd rfl (d1 _ _)
        · subst e'
          rw [hP] at e; cases e
          exact absurd rfl (d2 _)
    have nsK : ∀ {b : Addr} {m : Str → Option Value}, s₁.heap.Ns b m → (hidT s₁.heap H).Ns b m := fun {b m} ⟨o, es, ep, e, d, r⟩ => ⟨o, es, ep, base_of e (noD e (fun _ _ z => by rw [d] at z; cases z) (fun _ z => by rw [d] at z; cases z)), d, r⟩
    have hKb : K.In (hidT s₁.heap H) := fun b o e => base_of (KX b o e) (by
      cases q : H b with
      | none => rfl
      | some u =>
        rcases hA b (by rw [q]; simp) with e' | e'
        · subst e'
          rw [hK (by rw [q]; simp)] at e; cases e
        · subst e'
          rw [hPK] at e; cases e)
    have hM : Mod K mg (hidT s₁.heap H) := ⟨hKb, nsK hns, ⟨mb, nsK hb, hbb⟩, let ⟨mc, h1, h2⟩ := hlim; ⟨mc, nsK h1, h2⟩⟩
    have hB : (hidT s₁.heap H).BuiltinsAt mg Pt := by
      obtain ⟨bm, ob, b1, b2, b3, b4, b5, b6⟩ := hbm
      refine ⟨bm, ob, b1, b2, fun z => ?_, fun z => ?_, base_of b3 (noD b3 (fun _ _ z => by rw [b6] at z; cases z) (fun _ z => by rw [b6] at z; cases z)), b4, b5, b6⟩
      · obtain ⟨o, es, ep, e, d, _⟩ := hns
        rw [z, e] at b3; cases b3; rw [d] at b6; cases b6
      · rw [z, hP] at b3; cases b3; cases b4
    have e0 : Env0 P w K mg (hidT s₁.heap H) callerA [] s₁ H := ⟨rfl, hM, fun b o e => of_hidT e, Nat.le_of_eq (hidT_size _ _), trivial, fun b hb => absurd (show b ∈ ([] : List Addr) from hb) (by simp), hok, .of_eq hg⟩
    refine codeAny_mono ((F _ hKb (nsK hns) hB).run callerA [] s₁ H ⟨[.ref a], []⟩ [.ref a] [.ref a] _ _ hr e0 (hbind s₁ (.ref a)) (.cons rfl .nil) (hsp H hO hS hT)) fun r s' h => ?_
    cases r with
    | error e => exact (hCX H e s' h).elim
    | ok fl =>
      cases fl with
      | next => exact False.elim h
      | brk => exact False.elim h
      | cont => exact False.elim h
      | ret u =>
        obtain ⟨v, H', os, bare, un, hok', r', q⟩ := h
        have q' : v = .bl true := q
        subst q'
        obtain rfl : u = Value.bool true := r'
        obtain ⟨more, hT'⟩ := un.tbls Pt _ hT
        have hP' : s'.heap.get? Pt = some (PySem.W.tabObj (#[] ++ more)) := hok' Pt _ hT'
        have keep : ∀ b o, b ≠ Pt → s₁.heap.get? b = some o → s'.heap.get? b = some o := fun b o nb e => by
          cases q : H b with
          | none => exact un.keep b o e q (by intro z; exact absurd (show b ∈ ([] : List Addr) from z) (by simp)) (by simp)
          | some u =>
            rcases hO b with z | ⟨ob, xs, z⟩ | ⟨z, _⟩
            · rw [q] at z; cases z
            · have z2 := un.frzs b ob _ z
              obtain ⟨e1, _⟩ := hok b _ z
              obtain ⟨e2, _⟩ := hok' b _ z2
              rw [e] at e1; cases e1
              exact e2
            · exact absurd z nb
        refine ⟨rfl, ⟨fun b o e => ?_, fun b o e => ?_⟩, os, bare⟩
        · by_cases z : b = Pt
          · subst z
            rw [hP] at e
            cases e
            obtain ⟨oc, vsc, _, _, _, _, _, _, _, e1, e2, e3, e4, _⟩ := hC
            exact .inr (.inl ⟨⟨c, oc, vsc, e1, e2, e3, e4⟩, rfl, #[], more, rfl, hP'⟩)
          · exact .inl (keep b o z e)
        · by_cases z : b = Pt
          · subst z
            exact ⟨_, hP'⟩
          · exact ⟨o, keep b o z e⟩
  cases hk : K.lookup a with
  | some o =>
    have e := KX a o hk
    rw [ha] at e
    cases e
    refine core (fun b => if b = Pt then some (.tbl #[]) else none) (fun b => ?_) (if_pos rfl) (.inr ⟨_, vs.toArray, _, hk, rfl, rfl, rfl, by rw [List.size_toArray, lenV]; exact hl, by simpa using rv⟩) (fun b u z => ?_) (fun b z => ?_) (fun z => absurd (if_neg aP) z)
    · by_cases hb : b = Pt
      · exact .inr (.inr ⟨hb, if_pos hb⟩)
      · exact .inl (if_neg hb)
    · by_cases hb : b = Pt
      · have z' := (if_pos hb).symm.trans z
        cases z'
        subst hb
        exact hP
      · have z' := (if_neg hb).symm.trans z
        cases z'
    · by_cases hb : b = Pt
      · exact .inr hb
      · exact absurd (if_neg hb) z
  | none =>
    refine core (fun b => if b = a then some (.frz { cls := .type "list", data := .seq vs.toArray } (.lst (ns.map V.int))) else if b = Pt then some (.tbl #[]) else none) (fun b => ?_) ((if_neg aP.symm).trans (if_pos rfl)) (.inl (.inr ⟨{ cls := .type "list", data := .seq vs.toArray }, if_pos rfl⟩)) (fun b u z => ?_) (fun b z => ?_) fun _ => hk
    · by_cases hb : b = a
      · exact .inr (.inl ⟨_, _, if_pos hb⟩)
      · by_cases hb2 : b = Pt
        · exact .inr (.inr ⟨hb2, (if_neg hb).trans (if_pos hb2)⟩)
        · exact .inl ((if_neg hb).trans (if_neg hb2))
    · by_cases hb : b = a
      · have z' := (if_pos hb).symm.trans z
        cases z'
        subst hb
        exact ⟨ha, by rw [List.length_map]; exact hl, vs, _, rv, ha⟩
      · have z' := (if_neg hb).symm.trans z
        by_cases hb2 : b = Pt
        · have z' := (if_pos hb2).symm.trans z'
          cases z'
          subst hb2
          exact hP
        · have z' := (if_neg hb2).symm.trans z'
          cases z'
    · by_cases hb : b = a
      · exact .inl hb
      · by_cases hb2 : b = Pt
        · exact .inr hb2
        · exact absurd ((if_neg hb).trans (if_neg hb2)) z
theorem walk_ofT {l : PySem.W.OpenLaw} {n k : Nat} {q : Program} {loose : List Str} {XP : (Str → Option Value) → Heap → Prop} {YP : World → Heap → Prop} {d : DefRec} {K : Params → PySem.W.Frag} {CX : World → CXT} {sp : World → PySem.W.Frag → Sp} {x : Str} {Pt : Addr}
    (hn : l.most = some n) (hn2 : n ≤ sizeLine) (hdf : d.params.defaults = []) (hr : Room k callerA)
    (hY : ∀ (w : World) (h : Heap), YP w h → (K w.params).In h ∧ h.get? Pt = some (PySem.W.tabObj #[]))
    (F : ∀ (w : World) (mg : Str → Option Value) (fa : Addr) (h : Heap), (K w.params).In h → h.Ns mainGlobals mg → XP mg h → mg d.name = some (.ref fa) →
      ∃ (fd : FuncData) (c : Addr), PySem.W.codeHdIn (K w.params) c Pt = true ∧ (K w.params).lookup Pt = none ∧ (∀ (s : Shared) (u : Value), BindsTo s fd ⟨[u], []⟩ [(x, u)]) ∧
        ∀ base : Heap, (K w.params).In base → base.Ns mainGlobals mg → base.BuiltinsAt mg Pt → FnOk l.prog w (K w.params) mg base (CX w) k fa fd [x] (sp w (K w.params)))
    (hsp : ∀ (w : World) (K : PySem.W.Frag) (H : Hp) (a : Addr) (ns : List Int), ns.length ≤ n → OnlyT Pt H → SqL K H a (ns.map V.int) → H Pt = some (.tbl #[]) → sp w K [.ref a] H (fun v _ => v = .bl true) fun _ _ _ => False)
    (hCX : ∀ (w : World) (H : Hp) (s : Shared) (e : Value) (s' : Shared), CX w [] H s (fun _ _ _ => False) e s' → False) :
    PySem.W.WalkO q loose XP YP l.row.toRowW d [] (fun f vs => PySem.call f vs) := by
  refine Att.attach_call hn hdf fun w s₀ s₁ mg mb fa o pm cd doc a vs ns G Y ho hd hcd hmg hobj hints hlen hg => ?_
  obtain ⟨KX, hP⟩ := hY w _ Y
  obtain ⟨fd, c, hC, hPK, hb, hF⟩ := F w mg fa _ KX G.T.g G.X hmg
  exact law_callT KX G.T.g G.T.b G.T.builtins G.T.nolimit hg G.T.bmain (PySem.W.codeHd_of_K KX hC) hP hPK hobj hints (Nat.le_trans hlen hn2) hr hF hb (fun H hO hS hT => hsp w (K w.params) H a ns hlen hO hS hT) fun H e s' => hCX w H s₁ e s'
end L2
set_option Elab.async false
set_option linter.all false
set_option maxRecDepth 100000
set_option maxHeartbeats 4000000
namespace L2
open PySem PySem.Spec PyProof.Rows
section
variable {prog : Program} {w : World} {A : Around} {s : Shared}
noncomputable def ifsT (prog : Program) (w : World) (A : Around) (env : Env) : List Expr → Shared → (Bool → Shared → Prop) → Prop
  | [], s, Q => Q true s
  | [c], s, Q => wpAny (model prog w) A (PySem.isTrue c env (eval c env)) Q (fun _ _ => False) s
  | _, _, _ => False
theorem wpAny_ifs {env : Env} : ∀ {ifs : List Expr} {s : Shared} {Q : Bool → Shared → Prop}, ifsT prog w A env ifs s Q →
    wpAny (model prog w) A (forIn ifs true fun c r => if r = true then do let ok ← PySem.isTrue c env (eval c env); pure (ForInStep.yield ok) else pure (ForInStep.yield r)) Q (fun _ _ => False) s
  | [], s, Q, h => wpAny_tests_nil h
  | [c], s, Q, h => by
    simp only [List.forIn_cons, List.forIn_nil, if_true]
    refine wpAny_bind (wpAny_bind (wpAny_mono h (fun b s1 q => wpAny_pure (wpAny_pure q)) fun _ _ z => z))
  | _ :: _ :: _, _, _, h => h.elim
theorem compLoop_ifs {elt tg iter : Expr} {ifs : List Expr} {scope : Scope} {pos : Pos} {it acc : Value} {env : Env} {R : Result → Shared → Prop} (I : Nat → Shared → Prop)
    (turn : ∀ n s, I n s → wpAny (model prog w) A (pyNext it) (fun r s₁ => match r with
      | none => R (.ok .next) s₁
      | some v => wpAny (model prog w) A (letOwnedTupleGo tg it v) (fun _ s₁' => wpAny (model prog w) A (assign tg env v) (fun _ s₂ => ifsT prog w A env ifs s₂ fun ok s₃ =>
          if ok = true then wpAny (model prog w) A (eval elt env) (fun x s₄ =>
              wpAny (model prog w) A (call (.builtin "list.append") [acc, x]) (fun _ s₅ => ∃ m, m < n ∧ I m s₅) (fun _ _ => False) s₄) (fun _ _ => False) s₃ else ∃ m, m < n ∧ I m s₃) (fun _ _ => False) s₁') (fun _ _ => False) s₁) (fun _ _ => False) s)
    (n : Nat) (h : I n s) : codeAny (model prog w) A (.compLoop (.ListComp elt [⟨tg, iter, ifs, 0⟩] scope pos) 0 it acc env) R s := by
  refine codeAny_loop rfl I (fun n s hI => ?_) n h
  show wpAny _ A ((compTurn (.ListComp elt [⟨tg, iter, ifs, 0⟩] scope pos) 0 it acc env).onRaise (fun x => do noteFrame x env; theTreesLotGoes x)) _ _ s
  refine wpAny_noted ?_
  rw [compTurn_list]
  refine wpAny_bind (wpAny_standAt (wpAny_bind (wpAny_mono (turn n s hI) (fun r s₁ h₁ => ?_) fun _ _ h' => h'.elim)))
  cases r with
  | none => exact wpAny_pure h₁
  | some v =>
    refine wpAny_bind (wpAny_mono h₁ (fun _ s₁' h₁' => ?_) fun _ _ h' => h'.elim)
    refine wpAny_bind (wpAny_mono h₁' (fun _ s₂ h₂ => wpAny_bind (wpAny_mono (wpAny_ifs h₂) (fun ok s₃ h₃ => ?_) fun _ _ h' => h'.elim)) fun _ _ h' => h'.elim)
    cases ok with
    | true => exact wpAny_bind (wpAny_bind (wpAny_mono h₃ (fun x s₄ h₄ => wpAny_bind (wpAny_mono h₄ (fun _ s₅ h₅ => wpAny_pure (wpAny_pure ⟨rfl, h₅⟩)) fun _ _ h' => h'.elim)) fun _ _ h' => h'.elim))
    | false => exact wpAny_pure ⟨rfl, h₃⟩
end
noncomputable def cxCompC (X : Cx) (b : Heap) (N : List Str) (scope : Scope) (cl : List (Str × Addr)) (C : Addr) (fp : List Addr) (s : Shared) (H : Hp) : Cx where
  prog := X.prog
  w := X.w
  K := X.K
  mg := X.mg
  base := b
  A := X.A
  N := N
  s₀ := s
  H₀ := H
  env := compEnvC scope cl C X.env
  outer := X.stack
  stack := X.stack
  ex := fp
  calm := true
  fn := fun _ => false
  pn := []
  xe := fun _ _ => False
noncomputable def outOf (σ : St) (js : List (Option Nat)) : St := js.map fun o => match o with | none => none | some j => (σ[j]?).getD none
structure CompScopeC (X : Cx) (sc : Scope) (N : List Str) (cl : List (Str × Addr)) (js : List (Option Nat)) : Prop where
  kind : sc.kind = .function
  nocell : ∀ y ∈ sc.names, y.2 ≠ .cell
  nm : ∀ y ∈ sc.names, y.2 = .local → sc.names.lookup y.1 = some .local
  has : ∀ y ∈ sc.names, y.2 = .free → ∃ c, cl.lookup y.1 = some c
  sub : ∀ y ∈ cl, X.env.cells.lookup y.1 = some y.2
  len : js.length = N.length
  js : ∀ p ∈ N.zip js, ∀ j, p.2 = some j → X.N[j]? = some p.1 ∧ X.env.scope.names.lookup p.1 = some .cell ∧ ((relabel sc X.env).names.lookup p.1 = some .cell ∨ (relabel sc X.env).names.lookup p.1 = some .free) ∧ ∃ c, cl.lookup p.1 = some c
section
variable {X : Cx} {pins : List (Addr × Obj)} {σ : St} {H : Hp} {s : Shared}
theorem inv_compC {N : List Str} {scope : Scope} {cl : List (Str × Addr)} {js : List (Option Nat)} {fp : List Addr} {h1 : Heap} {tk : Nat} (S : CompScopeC X scope N cl js) (hc : X.calm = true) (hfn : ∀ x, X.fn x = true) (I : Inv X pins σ H s) (hfp : ∀ b ∈ fp, FpOk X pins H b) (hfo : ∀ b ∈ fp, ∃ o, s.heap.get? b = some o)
    (hns : h1.Ns s.heap.objs.size (fun _ => none)) (hk : ∀ b o, s.heap.get? b = some o → h1.get? b = some o) :
    Inv (cxCompC X (hidS s.heap H (frs X.stack ++ fp)) N scope cl s.heap.objs.size fp s H) [] (outOf σ js) H { s with heap := h1, toks := tk } := by
  have sub : ∀ x c, cl.lookup x = some c → X.env.cells.lookup x = some c := fun x c q => S.sub (x, c) (PySem.mem_of_lookup q)
  have rel : ∀ y k, (relabel scope X.env).names.lookup y = some k → (k = .cell ∨ k = .free) → ∃ c, cl.lookup y = some c := fun y k q hk => by
    have m := PySem.mem_of_lookup q
    obtain ⟨⟨n, k'⟩, hm, e⟩ := List.mem_map.mp (show (y, k) ∈ scope.names.map _ from m)
    have := S.nocell _ hm
    dsimp only at e this
    split at e
    · rename_i z
      simp only [Bool.and_eq_true, beq_iff_eq] at z
      cases e
      exact S.has _ hm z.1.1
    · cases e
      rcases hk with hk | hk
      · exact absurd hk this
      · exact S.has _ hm hk
  have e0 := I.env0
  have nfp : ∀ b o, X.base.get? b = some o → b ∉ fp := fun b o q hm => by
    rcases (hfp b hm).2.2.2.1 with z | z
    · exact I.ok.noex b o q z
    · exact absurd (Heap.lt_size (I.ok.bs b o q).1) (Nat.not_lt.mpr z)
  have nst : ∀ b ∈ fp, b ∉ frs X.stack := fun b hb hm => by
    rcases List.mem_cons.mp (I.stkSub b hm) with z | z
    · exact (hfp b hb).2.1 z
    · exact (hfp b hb).2.2.1 z
  have cells : ∀ y c, cl.lookup y = some c → (∃ v, h1.IsCell c v) ∧ H c = none := fun y c q => by
    obtain ⟨v, o, ho, hd⟩ := I.cell y c (sub y c q)
    exact ⟨⟨v, o, hk _ _ ho, hd⟩, I.freeC y c (sub y c q)⟩
  refine ⟨⟨e0.mod.keeps fun b o q => hidS_get (e0.bs b o q).1 (e0.bs b o q).2 fun hm => ?_, S.kind, I.ok.glob, I.ok.blt, Nat.le_refl _, fun y z c q r => I.ok.inj y z c (sub y c q) (sub z c r), fun y hy => ?_, fun y c z => (nomatch z), fun _ => I.ok.hd hc, I.ok.frames, .inl rfl, fun b hb => ⟨?_, fun y c q => ?_⟩, fun b o q => of_hidS q, Nat.le_of_eq (PySem.W.hideAll_size _ _), fun b o q hb => ?_, nst, ?_, I.stkFree⟩,
    rfl, I.bare, Un.kept hk, ⟨_, hns, fun i y v e1 e2 e3 => ?_⟩, fun y c q => (cells y c q).1, I.hok.fresh (Nat.le_refl _), fun y c q => (cells y c q).2, fun p hp => absurd (show p ∈ ([] : List (Addr × Obj)) from hp) (by simp), I.hok.kept hk, ?_⟩
  · rcases List.mem_append.mp hm with hm | hm
    · have z := (e0.funs.mem hm).1
      rw [q] at z; cases z
    · exact nfp b o q hm
  · have hy : (relabel scope X.env).names.lookup y = some .cell ∨ (relabel scope X.env).names.lookup y = some .free := hy
    rcases hy with hy | hy
    · exact rel y _ hy (.inl rfl)
    · exact rel y _ hy (.inr rfl)
  · obtain ⟨o, q⟩ := hfo b hb
    exact Nat.ne_of_lt (Heap.lt_size q)
  · exact (hfp b hb).2.2.2.2.1 y c (sub y c q)
  · have z : (hidS s.heap H (frs X.stack ++ fp)).get? b = none := PySem.W.hideAll_none _ (List.mem_append_right _ (List.mem_append_right _ hb))
    rw [show (cxCompC X (hidS s.heap H (frs X.stack ++ fp)) N scope cl s.heap.objs.size fp s H).base.get? b = none from z] at q; cases q
  · exact PySem.W.funFrames_hide e0.funs fun env he a ha => List.mem_append_right _ (List.mem_append_left _ (List.mem_filterMap.mpr ⟨env, he, ha⟩))
  · have e1 : N[i]? = some y := e1
    obtain ⟨j, hj, hv⟩ : ∃ j, js[i]? = some (some j) ∧ σ[j]? = some (some v) := by
      unfold outOf at e2
      rw [List.getElem?_map] at e2
      cases q : js[i]? with
      | none => rw [q] at e2; cases e2
      | some o =>
        rw [q] at e2
        cases o with
        | none => simp at e2
        | some j =>
          refine ⟨j, rfl, ?_⟩
          have e2 : some ((σ[j]?).getD none) = some (some v) := e2
          cases w : σ[j]? with
          | none => rw [w] at e2; cases e2
          | some u => rw [w] at e2; cases e2; rfl
    have hz : (y, some j) ∈ N.zip js := List.mem_of_getElem? (i := i) (by rw [List.getElem?_zip_eq_some]; exact ⟨e1, hj⟩)
    obtain ⟨f1, f2, f3, c, f4⟩ := S.js _ hz j rfl
    obtain ⟨m, hn, hl⟩ := I.loc
    obtain ⟨u, r, l⟩ := hl j y v f1 hv (.inr (.inl f2))
    rcases l with ⟨l, _⟩ | ⟨_, c', e5, o, ho, hd⟩
    · rw [show X.env.kindOf y = X.env.scope.names.lookup y from rfl, f2] at l; cases l
    · have : c' = c := by
        have := sub y c f4
        rw [e5] at this; cases this; rfl
      subst this
      exact ⟨u, r, .inr ⟨f3, c', f4, o, hk _ _ ho, hd⟩⟩
  · show (js.map _).length = N.length
    rw [List.length_map, S.len]
end
section
variable {X : Cx} {tg iter elt : Expr} {ifs : List Expr} {scope : Scope} {pos : Pos} {wi : TI} {N : List Str} {cl : List (Str × Addr)} {js : List (Option Nat)} {g : TG} {tt : Heap → TT} {te : Heap → TE}
noncomputable def PIfs (X : Cx) : List Expr → TT → Prop
  | [], t => ∀ σ H Q, t σ H Q → Q true H
  | [c], t => PT X c t
  | _, _ => False
noncomputable def tYes : TT := fun _ H Q => Q true H
theorem pifs_nil {X : Cx} : PIfs X [] tYes := fun _ _ _ h => h
theorem pifs_one {X : Cx} {c : Expr} {t : TT} (h : PT X c t) : PIfs X [c] t := h
noncomputable def tCompC (X : Cx) (js : List (Option Nat)) (wi : TI) (g : TG) (tt : Heap → TT) (te : Heap → TE) : TE := fun σ H Q => wi σ H fun J H1 => ∀ b D, CellsIn X σ b → H1 D = none → ∃ W : Nat → Nat → St → Hp → Prop, (∃ m, W 0 m (outOf σ js) (upd H1 D (.lst []))) ∧
  ∀ i m σ' H', W i m σ' H' → (J.stop i H' ∧ Q (.ref D) H') ∨ (J.go i H' ∧ ∃ Nx : St → Hp → Prop, (∀ σ'' H'', Nx σ'' H'' → ∃ m', m' < m ∧ W (i + 1) m' σ'' H'') ∧ ∀ x H2, J.yld i H' x H2 → g x σ' H2 fun σ3 H3 => tt b σ3 H3 fun ok H3' => if ok = true then te b σ3 H3' fun y H4 => ∃ ys, H4 D = some (.lst ys) ∧ ys.length < sizeLine ∧ Nx σ3 (upd H4 D (.lst (ys ++ [y]))) else Nx σ3 H3')
theorem pe_compC (S : CompScopeC X scope N cl js) (hc : X.calm = true) (hfn : ∀ x, X.fn x = true) (hi : PI X tg iter wi) (hclos : closureFor scope X.env = pure cl) (hg : ∀ b C fp s H, PG (cxCompC X b N scope cl C fp s H) tg g) (hif : ∀ b C fp s H, PIfs (cxCompC X b N scope cl C fp s H) ifs (tt b)) (he : ∀ b C fp s H, PE (cxCompC X b N scope cl C fp s H) elt (te b))
    (hs : ∀ x, foldedSetIterable iter X.env x = pure x := by intro _; rfl) : PE X (.ListComp elt [⟨tg, iter, ifs, 0⟩] scope pos) (tCompC X js wi g tt te) := by
  intro pins s σ H Q I h
  rw [eval_ListComp]
  refine wpAny_comprehension_free (use := none) rfl hs hclos S.kind S.nm (thn (hi pins s σ H _ I h) fun v s1 h1 => thn h1 fun itv s2 h2 => ?_)
  obtain ⟨it, fp, tn, J, H2, e, I2, T, st2, f2, R⟩ := h2
  subst e
  have hD : H2 s2.heap.objs.size = none := I2.fresh
  have old : ∀ b o, s2.heap.get? b = some o → (s2.heap.push { cls := .type "list", data := .seq ([] : List Value).toArray }).get? b = some o := fun b o q => Heap.get?_push_of_some _ q
  have I3 : Inv X pins σ (upd H2 s2.heap.objs.size (.lst [])) { s2 with heap := s2.heap.push { cls := .type "list", data := .seq ([] : List Value).toArray } } := I2.lnew (t' := s2.toks) (ys := []) (its := []) .nil (Nat.zero_le _)
  have fo : ∀ b ∈ fp, ∃ o, (s2.heap.push { cls := .type "list", data := .seq ([] : List Value).toArray }).get? b = some o := fun b hb => by
    obtain ⟨o, q, _⟩ := T.obj _ _ st2 b hb
    exact ⟨o, old b o q⟩
  have fne : ∀ b ∈ fp, b ≠ s2.heap.objs.size := fun b hb => by
    obtain ⟨o, q, _⟩ := T.obj _ _ st2 b hb
    exact Nat.ne_of_lt (Heap.lt_size q)
  have f3 : ∀ b ∈ fp, FpOk X pins (upd H2 s2.heap.objs.size (.lst [])) b := fun b hb => ⟨by rw [upd_ne (fne b hb)]; exact (f2 b hb).1, (f2 b hb).2⟩
  have st3 : tn 0 (s2.heap.push { cls := .type "list", data := .seq ([] : List Value).toArray }) := T.keep _ _ _ st2 fun b _ o q => old b o q
  refine wpAny_newObj_type (wpAny_newFunctionEnv S.nocell (fun y hy => by simp at hy) (fun h₁ hns hsb => ?_) S.kind)
  obtain ⟨s3, hs3⟩ : ∃ s3 : Shared, s3 = { s2 with heap := s2.heap.push { cls := .type "list", data := .seq ([] : List Value).toArray } } := ⟨_, rfl⟩
  obtain ⟨H3, hH3⟩ : ∃ H3, H3 = upd H2 s2.heap.objs.size (.lst []) := ⟨_, rfl⟩
  rw [← hs3, ← hH3] at I3
  rw [← hH3] at f3
  have hh3 : s3.heap = s2.heap.push { cls := .type "list", data := .seq ([] : List Value).toArray } := by rw [hs3]
  have hk₁ : ∀ b o, s3.heap.get? b = some o → h₁.get? b = some o := fun b o q => by
    rw [hh3] at q
    exact hsb.extBut b o (Nat.ne_of_lt (Heap.lt_size q)) (Heap.get?_push_of_some _ q)
  have hns' : h₁.Ns s3.heap.objs.size (fun _ => none) := by rw [hh3]; exact hns
  obtain ⟨W, ⟨m0, w0⟩, turn⟩ := R (hidS s3.heap H3 (frs X.stack ++ fp)) s2.heap.objs.size (fun i x v c e1 e2 e3 e4 => by
    obtain ⟨u, r, o, q, d⟩ := I3.cellsIn hfn i x v c e1 e2 e3 e4
    obtain ⟨q1, q2⟩ := of_hidS q
    refine ⟨u, r, o, hidS_get q1 q2 fun hm => ?_, d⟩
    rcases List.mem_append.mp hm with hm | hm
    · have z : (hidS s3.heap H3 (frs X.stack)).get? c = none := PySem.W.hideAll_none _ (List.mem_append_right _ hm)
      rw [z] at q; cases q
    · exact (f3 c hm).2.2.2.2.1 x c e4 rfl) hD
  rw [← hH3] at w0
  have J0 := inv_compC (js := js) (N := N) (scope := scope) (h1 := h₁) (tk := s2.toks + ([] : List (Str × Value)).length) S hc hfn I3 f3 (fun b hb => by rw [hh3]; exact fo b hb) hns' hk₁
  have st4 : tn 0 h₁ := T.keep _ _ _ st3 fun b hb o q => hk₁ b o (by rw [hh3]; exact q)
  have loop : ∀ s4 : Shared, s4 = { s3 with heap := h₁, toks := s2.toks + ([] : List (Str × Value)).length } →
      codeAny (model X.prog X.w) X.A (.compLoop (.ListComp elt [⟨tg, iter, ifs, 0⟩] scope pos) 0 (.ref it) (.ref s2.heap.objs.size) (compEnvC scope cl s3.heap.objs.size X.env))
        (compPost (model X.prog X.w) X.A X.xe none (EP X pins σ Q) (.ref s2.heap.objs.size) s3.heap.objs.size) s4 := by
    rintro s4 rfl
    have stat : ∀ {H' : Hp}, (∀ b ∈ fp, H' b = none) → ∀ b ∈ fp, FpOk (cxCompC X (hidS s3.heap H3 (frs X.stack ++ fp)) N scope cl s3.heap.objs.size fp s3 H3) [] H' b := fun hn b hb =>
      ⟨hn b hb, by
        obtain ⟨o, q⟩ := fo b hb
        exact Nat.ne_of_lt (Heap.lt_size (by rw [hh3]; exact q)), J0.ok.exfs b hb, .inl hb, fun y c q => (J0.ok.exf b hb).2 y c q, fun p hp => absurd (show p ∈ ([] : List (Addr × Obj)) from hp) (by simp)⟩
    refine compLoop_ifs (fun n s' => ∃ i σ' H', Inv (cxCompC X (hidS s3.heap H3 (frs X.stack ++ fp)) N scope cl s3.heap.objs.size fp s3 H3) [] σ' H' s' ∧ tn i s'.heap ∧ (∀ b ∈ fp, H' b = none) ∧ W i n σ' H') ?_ m0 ⟨0, _, H3, J0, st4, fun b hb => (f3 b hb).1, w0⟩
    rintro n s5 ⟨i, σ5, H5, I5, st5, fr5, w5⟩
    rcases turn i n σ5 H5 w5 with ⟨stop, qn⟩ | ⟨go, Nx, hN, step⟩
    · refine wpAny_mono (T.done (cxCompC X (hidS s3.heap H3 (frs X.stack ++ fp)) N scope cl s3.heap.objs.size fp s3 H3) rfl rfl rfl rfl i [] s5 σ5 H5 (fun _ _ => False) I5 (stat fr5) st5 stop) (fun r s6 ⟨hr, I6⟩ => ?_) fun _ _ z => z
      subst hr
      obtain ⟨m6, n6, _⟩ := id I6.loc
      refine ⟨m6, n6, fun h' hs' => ⟨.ref s2.heap.objs.size, H5, ?_, rfl, qn⟩⟩
      have neC : ∀ b o, s3.heap.get? b = some o → b ≠ s3.heap.objs.size := fun b o q => Nat.ne_of_lt (Heap.lt_size q)
      have B := I6.base
      have kp : ∀ b o, b ≠ s3.heap.objs.size → s6.heap.get? b = some o → h'.get? b = some o := fun b o nb q => hs'.extBut b o nb q
      refine I3.call' (s' := { s6 with heap := h' }) (ch := fp) I6.os ⟨fun b o q n hb hx => kp b o (neC b o q) (B.keep b o q n hb hx), fun b o q n hb hx => ?_, B.free, fun b o q hx => ?_, B.tups, B.frzs, B.tbls⟩ (fun a o q => ?_) I6.bare fun b hb => ⟨(f3 b hb).2.2.2.1, (f3 b hb).2.1, (f3 b hb).2.2.2.2.1, (f3 b hb).2.2.2.2.2⟩
      · obtain ⟨sl, z⟩ := B.slot b o q n hb hx
        exact ⟨sl, kp b _ (neC b o q) z⟩
      · obtain ⟨o', z⟩ := B.there b o q hx
        exact ⟨o', kp b _ (neC b o q) z⟩
      · have ne : ∀ b u, H5 b = some u → b ≠ s3.heap.objs.size := fun b u q z => by
          have fr : H5 s3.heap.objs.size = none := I6.free
          rw [z, fr] at q; cases q
        refine (I6.hok a o q).stay (fun b u hb q' => kp b u ?_ q') (fun _ z => z) fun _ _ z => z
        rcases hb with z | z
        · exact ne b o (z ▸ q)
        · exact ne b _ z
    · refine wpAny_mono (T.item (cxCompC X (hidS s3.heap H3 (frs X.stack ++ fp)) N scope cl s3.heap.objs.size fp s3 H3) rfl rfl rfl rfl i [] s5 σ5 H5 (fun _ _ => False) I5 (stat fr5) st5 go) (fun r s6 ⟨u, hr, h6⟩ => ?_) fun _ _ z => z
      subst hr
      refine wpAny_mono h6 (fun _ s7 ⟨x, H7, I7, r7, y7, st7, fr7⟩ => ?_) fun _ _ z => z
      have I7' := I7.pinned (stat fr7) (T.obj _ _ st7)
      refine wpAny_mono (hg _ _ _ _ _ _ s7 σ5 H7 x u _ I7' r7 (step x H7 y7)) (fun _ s8 ⟨σ8, H8, I8, q8⟩ => ?_) fun _ _ z => z
      have fin : ∀ (s8 : Shared) (H8 : Hp), Inv _ _ σ8 H8 s8 → (∃ m', m' < n ∧ W (i + 1) m' σ8 H8) → ∃ m, m < n ∧ (∃ i σ' H', Inv (cxCompC X (hidS s3.heap H3 (frs X.stack ++ fp)) N scope cl s3.heap.objs.size fp s3 H3) [] σ' H' s8 ∧ tn i s8.heap ∧ (∀ b ∈ fp, H' b = none) ∧ W i m σ' H') := fun s8 H8 I10 ⟨m', hm, w9⟩ => by
        refine ⟨m', hm, i + 1, σ8, _, I10.unpinned, T.keep _ _ _ st7 fun b hb o q => (I10.pin (b, o) (List.mem_append_right _ (List.mem_append_right _ (mem_pinsAt hb q)))).1, fun b hb => ?_, w9⟩
        obtain ⟨o, q, d⟩ := T.obj _ _ st7 b hb
        exact (I10.pin (b, o) (List.mem_append_right _ (List.mem_append_right _ (mem_pinsAt hb q)))).2.1
      have rest : ∀ (ok : Bool) (s8 : Shared) (H8 : Hp), Inv _ _ σ8 H8 s8 → (if ok = true then te (hidS s3.heap H3 (frs X.stack ++ fp)) σ8 H8 fun y H4 => ∃ ys, H4 s2.heap.objs.size = some (.lst ys) ∧ ys.length < sizeLine ∧ Nx σ8 (upd H4 s2.heap.objs.size (.lst (ys ++ [y]))) else Nx σ8 H8) →
          (if ok = true then wpAny (model X.prog X.w) X.A (eval elt (compEnvC scope cl s3.heap.objs.size X.env)) (fun x s₄ =>
              wpAny (model X.prog X.w) X.A (call (.builtin "list.append") [.ref s2.heap.objs.size, x]) (fun _ s₅ => ∃ m, m < n ∧ (∃ i σ' H', Inv (cxCompC X (hidS s3.heap H3 (frs X.stack ++ fp)) N scope cl s3.heap.objs.size fp s3 H3) [] σ' H' s₅ ∧ tn i s₅.heap ∧ (∀ b ∈ fp, H' b = none) ∧ W i m σ' H')) (fun _ _ => False) s₄) (fun _ _ => False) s8
            else ∃ m, m < n ∧ (∃ i σ' H', Inv (cxCompC X (hidS s3.heap H3 (frs X.stack ++ fp)) N scope cl s3.heap.objs.size fp s3 H3) [] σ' H' s8 ∧ tn i s8.heap ∧ (∀ b ∈ fp, H' b = none) ∧ W i m σ' H')) := fun ok s8 H8 I8 q8 => by
        cases ok with
        | false => exact fin s8 H8 I8 (hN _ _ q8)
        | true =>
          refine wpAny_mono (he _ _ _ _ _ _ s8 σ8 H8 _ I8 q8) (fun y s9 ⟨vy, H9, I9, ry, ys, hD9, hz, w9⟩ => ?_) fun _ _ z => z
          obtain ⟨z, its, nn, rr, hl, eo⟩ := I9.lstM hD9
          refine append_at (hsz := by rw [List.size_toArray]; omega) eo fun h10 hs10 hD10 => ?_
          have I10 : Inv _ _ σ8 (upd H9 s2.heap.objs.size (.lst (ys ++ [vy]))) { s9 with heap := h10, toks := s9.toks } := I9.write (x := s2.heap.objs.size) (e := s2.heap.objs.size) (o := .lst (ys ++ [vy])) (by rw [hD9]; exact trivial) (.inl rfl) (fun b o hb q => hs10.extBut b o hb q) ⟨_, hD10⟩
            ⟨by rw [List.length_append, List.length_singleton]; omega, its ++ [y], nn + 1, rr.append (.cons ry .nil), by rw [hD10, List.push_toArray]⟩
          exact fin _ _ I10 (hN _ _ w9)
      have hI := hif (hidS s3.heap H3 (frs X.stack ++ fp)) s3.heap.objs.size fp s3 H3
      match ifs, hI with
      | [], hI => exact rest true s8 H8 I8 (hI _ _ _ q8)
      | [c], hI => exact wpAny_mono (hI _ s8 σ8 H8 _ I8 q8) (fun ok s9 ⟨H9, I9, q9⟩ => rest ok s9 H9 I9 q9) fun _ _ z => z
      | _ :: _ :: _, hI => exact hI.elim
  have e4 : ({ ({ s2 with heap := s2.heap.push { cls := .type "list", data := .seq ([] : List Value).toArray } } : Shared) with heap := h₁, toks := s2.toks + ([] : List (Str × Value)).length } : Shared) = { s3 with heap := h₁, toks := s2.toks + ([] : List (Str × Value)).length } := by rw [hs3]
  have lp := loop _ e4
  have eC : s3.heap.objs.size = (s2.heap.push { cls := .type "list", data := .seq ([] : List Value).toArray }).objs.size := by rw [hh3]
  rw [eC] at lp
  exact codeAny_compStart_list lp (T.self _ 0 _ _ _ st4 lp)
end
section
variable {K : PySem.W.Frag} {a : Addr} {xs : List V} {g : TG} {tt : TT} {te : TE} {Q : VK} {D : Addr} {σ : St} {H : Hp} {J : It}
noncomputable abbrev CT (g : TG) (tt : TT) (te : TE) (D : Addr) (Nx : St → Hp → Prop) (x : V) (σ : St) (H : Hp) : Prop :=
  g x σ H fun σ3 H3 => tt σ3 H3 fun ok H3' => if ok = true then te σ3 H3' fun y H4 => ∃ ys, H4 D = some (.lst ys) ∧ ys.length < sizeLine ∧ Nx σ3 (upd H4 D (.lst (ys ++ [y]))) else Nx σ3 H3'
noncomputable abbrev CW (J : It) (g : TG) (tt : TT) (te : TE) (D : Addr) (Q : VK) (σ : St) (H : Hp) : Prop := ∃ W : Nat → Nat → St → Hp → Prop, (∃ m, W 0 m σ H) ∧
  ∀ i m σ' H', W i m σ' H' → (J.stop i H' ∧ Q (.ref D) H') ∨ (J.go i H' ∧ ∃ Nx : St → Hp → Prop, (∀ σ'' H'', Nx σ'' H'' → ∃ m', m' < m ∧ W (i + 1) m' σ'' H'') ∧ ∀ x H2, J.yld i H' x H2 → CT g tt te D Nx x σ' H2)
theorem comp_tup (Pv : Nat → St → Hp → Prop) (h0 : Pv 0 σ H) (hl : ∀ i σ H, i ≤ xs.length → Pv i σ H → SqT K H a xs)
    (hs : ∀ i x σ H, xs[i]? = some x → Pv i σ H → CT g tt te D (Pv (i + 1)) x σ H) (hd : ∀ σ H, Pv xs.length σ H → Q (.ref D) H) : CW (Itt K a) g tt te D Q σ H := by
  refine ⟨fun i m σ H => m = xs.length - i ∧ i ≤ xs.length ∧ Pv i σ H, ⟨xs.length, by simp, Nat.zero_le _, h0⟩, ?_⟩
  rintro i m σ H ⟨rfl, hi, p⟩
  have q := hl i σ H hi p
  by_cases hlt : i < xs.length
  · refine .inr ⟨⟨xs, xs[i], q, by simp [hlt]⟩, Pv (i + 1), fun σ' H' p' => ⟨xs.length - (i + 1), by omega, rfl, hlt, p'⟩, fun x H' y => ?_⟩
    obtain ⟨e, y⟩ := y
    subst e
    exact hs i x σ _ (y xs q) p
  · have e : i = xs.length := by omega
    subst e
    exact .inl ⟨⟨xs, q, Nat.le_refl _⟩, hd σ H p⟩
theorem comp_list (Pv : Nat → St → Hp → Prop) (h0 : Pv 0 σ H) (hl : ∀ i σ H, i ≤ xs.length → Pv i σ H → SqL K H a xs)
    (hs : ∀ i x σ H, xs[i]? = some x → Pv i σ H → CT g tt te D (Pv (i + 1)) x σ H) (hd : ∀ σ H, Pv xs.length σ H → Q (.ref D) H) : CW (Itl K a) g tt te D Q σ H := by
  refine ⟨fun i m σ H => m = xs.length - i ∧ i ≤ xs.length ∧ Pv i σ H, ⟨xs.length, by simp, Nat.zero_le _, h0⟩, ?_⟩
  rintro i m σ H ⟨rfl, hi, p⟩
  have q := hl i σ H hi p
  by_cases hlt : i < xs.length
  · refine .inr ⟨⟨xs, xs[i], q, by simp [hlt]⟩, Pv (i + 1), fun σ' H' p' => ⟨xs.length - (i + 1), by omega, rfl, hlt, p'⟩, fun x H' y => ?_⟩
    obtain ⟨e, y⟩ := y
    subst e
    exact hs i x σ _ (y xs q) p
  · have e : i = xs.length := by omega
    subst e
    exact .inl ⟨⟨xs, q, Nat.le_refl _⟩, hd σ H p⟩
end
end L2
set_option Elab.async false
set_option linter.all false
set_option maxRecDepth 100000
set_option maxHeartbeats 4000000
namespace L2
open PySem PySem.Spec PyProof.Rows
noncomputable def clOf (sc : Scope) (env : Env) : List (Str × Addr) := (sc.names.filter (·.2 == .free)).reverse.map fun y => (y.1, (env.cells.lookup y.1).getD 0)
theorem closure_go (env : Env) : ∀ (ns : List (Str × NameKind)) (cs : List (Str × Addr)), (∀ y ∈ ns, y.2 = .free → ∃ c, env.cells.lookup y.1 = some c) →
    (forIn ns cs fun (x : Str × NameKind) __s => match x with
        | (name, kind) => if (kind == NameKind.free) = true then do let __do_lift ← cellOf env name; pure (ForInStep.yield ((name, __do_lift) :: __s)) else pure (ForInStep.yield __s)) =
      (pure ((ns.filter (·.2 == .free)).reverse.map (fun y => (y.1, (env.cells.lookup y.1).getD 0)) ++ cs) : Sem (List (Str × Addr)))
  | [], cs, _ => by simp
  | (n, k) :: ns, cs, h => by
    have ih := fun cs => closure_go env ns cs fun y hy => h y (List.mem_cons_of_mem _ hy)
    rw [List.forIn_cons]
    by_cases e : (k == NameKind.free) = true
    · have ek : k = .free := by simpa using e
      obtain ⟨c, hc⟩ := h (n, k) List.mem_cons_self ek
      have e1 : cellOf env n = pure c := by unfold cellOf; simp only at hc; rw [hc]
      dsimp only
      rw [if_pos e, e1, pure_bind, pure_bind]
      dsimp only
      rw [ih, List.filter_cons_of_pos (by simpa using ek)]
      simp only at hc
      simp [hc]
    · dsimp only
      rw [if_neg e, pure_bind]
      dsimp only
      rw [ih, List.filter_cons_of_neg (by simpa using e)]
theorem closure_of {sc : Scope} {env : Env} (h : ∀ y ∈ sc.names, y.2 = .free → ∃ c, env.cells.lookup y.1 = some c) : closureFor sc env = pure (clOf sc env) := by
  unfold closureFor clOf
  have := closure_go env sc.names [] h
  dsimp only
  rw [this]
  simp
noncomputable def compOk (sc out : Scope) (N NX : List Str) (js : List (Option Nat)) : Bool :=
  (sc.kind == .function) && (sc.names.all fun y => y.2 != .cell) && (sc.names.all fun y => y.2 != .local || sc.names.lookup y.1 == some .local) && (sc.names.all fun y => y.2 != .free || out.names.lookup y.1 == some .cell) && (js.length == N.length) &&
  ((N.zip js).all fun p => match p.2 with | none => true | some j => (NX[j]? == some p.1) && (out.names.lookup p.1 == some .cell) && (sc.names.lookup p.1 == some .free))
theorem relabel_free {env : Env} {x : Str} : ∀ (ns : List (Str × NameKind)), ns.lookup x = some .free →
    (ns.map (fun x => match x with | (n, k) => if (k == NameKind.free && env.scope.kind == ScopeKind.function && env.kindOf n == some NameKind.cell) = true then (n, NameKind.cell) else (n, k))).lookup x = some .cell ∨
    (ns.map (fun x => match x with | (n, k) => if (k == NameKind.free && env.scope.kind == ScopeKind.function && env.kindOf n == some NameKind.cell) = true then (n, NameKind.cell) else (n, k))).lookup x = some .free
  | [], h => by cases h
  | (n, k) :: ns, h => by
    rw [List.map_cons]
    dsimp only
    by_cases e : x == n
    · have hk : k = .free := by
        rw [List.lookup_cons, e] at h
        simpa using h
      split
      · left; rw [List.lookup_cons, e]
      · right; rw [List.lookup_cons, e, hk]
    · have e' : (x == n) = false := by simpa using e
      rw [List.lookup_cons, e'] at h
      have ih := relabel_free (env := env) ns h
      split <;> (rw [List.lookup_cons, e']; exact ih)
theorem clOf_has {sc : Scope} {env : Env} {x : Str} (h : (x, NameKind.free) ∈ sc.names) : ∃ c, (clOf sc env).lookup x = some c := by
  have hm : (x, (env.cells.lookup x).getD 0) ∈ clOf sc env := List.mem_map.mpr ⟨(x, .free), by rw [List.mem_reverse, List.mem_filter]; exact ⟨h, by simp⟩, rfl⟩
  cases e : (clOf sc env).lookup x with
  | some c => exact ⟨c, rfl⟩
  | none =>
    have := List.lookup_eq_none_iff.mp e _ hm
    simp at this
section
variable {X : Cx} {tg iter elt : Expr} {ifs : List Expr} {scope : Scope} {pos : Pos} {wi : TI} {N : List Str} {js : List (Option Nat)} {g : TG} {tt : Heap → TT} {te : Heap → TE}
theorem pe_compD (hcb : compOk scope X.env.scope N X.N js = true) (hc : X.calm = true) (hfn : ∀ x, X.fn x = true) (hi : PI X tg iter wi)
    (hg : ∀ b C fp s H, PG (cxCompC X b N scope (clOf scope X.env) C fp s H) tg g) (hif : ∀ b C fp s H, PIfs (cxCompC X b N scope (clOf scope X.env) C fp s H) ifs (tt b)) (he : ∀ b C fp s H, PE (cxCompC X b N scope (clOf scope X.env) C fp s H) elt (te b))
    (hs : ∀ x, foldedSetIterable iter X.env x = pure x := by intro _; rfl) : PE X (.ListComp elt [⟨tg, iter, ifs, 0⟩] scope pos) (tCompC X js wi g tt te) := by
  intro pins s σ H Q I h
  simp only [compOk, Bool.and_eq_true, List.all_eq_true, beq_iff_eq, bne_iff_ne, Bool.or_eq_true] at hcb
  obtain ⟨⟨⟨⟨⟨c1, c2⟩, c3⟩, c4⟩, c5⟩, c6⟩ := hcb
  have env : ∀ y ∈ scope.names, y.2 = .free → ∃ c, X.env.cells.lookup y.1 = some c := fun y hy hf => by
    rcases c4 y hy with z | z
    · exact absurd hf z
    · exact I.ok.has y.1 (.inl z)
  have S : CompScopeC X scope N (clOf scope X.env) js := by
    refine ⟨c1, c2, fun y hy hl => ?_, fun y hy hf => ?_, fun y hy => ?_, c5, fun p hp j hj => ?_⟩
    · rcases c3 y hy with z | z
      · exact absurd hl z
      · exact z
    · exact clOf_has (by obtain ⟨a, b⟩ := y; cases hf; exact hy)
    · obtain ⟨z, hz, rfl⟩ := List.mem_map.mp hy
      rw [List.mem_reverse, List.mem_filter] at hz
      obtain ⟨c, hc⟩ := env z hz.1 (by simpa using hz.2)
      simp only [hc, Option.getD_some]
    · have := c6 p hp
      rw [hj] at this
      simp only [Bool.and_eq_true, beq_iff_eq] at this
      obtain ⟨⟨d1, d2⟩, d3⟩ := this
      refine ⟨d1, d2, ?_, clOf_has (PySem.mem_of_lookup d3)⟩
      exact relabel_free _ d3
  exact pe_compC S hc hfn hi (closure_of env) hg hif he hs pins s σ H Q I h
end
section
variable {X : Cx}
noncomputable def reprV : V → Option Str
  | .int i => some (toString i)
  | .non => some "None"
  | _ => none
end
section
variable {X : Cx} {K : PySem.W.Frag} {pos : Pos}
theorem pg_tupK {es : List Expr} {k : Nat} {t : TGs} {n : Nat} (hK : X.K = K) (hc : X.calm = true) (h : PGs X es t)
    (hn : (assignEach es X.env).length = n := by rfl) (hst : (assignEach es X.env).findIdx? (·.1) = none := by rfl) : PG X (.Tuple es k pos) (gTup K n t) := by
  subst hK
  exact pg_tup hc h hn hst
end
section
variable {X : Cx} {pos : Pos}
end
theorem tCompC_of {X : Cx} {js : List (Option Nat)} {wi : TI} {g : TG} {tt : Heap → TT} {te : Heap → TE} {σ : St} {H : Hp} {Q : VK} (h : wi σ H fun J H1 => ∀ b D, CellsIn X σ b → H1 D = none → CW J g (tt b) (te b) D Q (outOf σ js) (upd H1 D (.lst []))) : tCompC X js wi g tt te σ H Q := h
end L2
set_option Elab.async false
set_option linter.all false
set_option maxRecDepth 100000
set_option maxHeartbeats 4000000
namespace L2
open PySem PySem.Spec PyProof.Rows
section
variable {X : Cx} {pos : Pos}
noncomputable def rNeL (K : PySem.W.Frag) : R2 := fun x y H Q => ∃ ds es, Rep K H (.lst ds) x ∧ Rep K H (.lst es) y ∧ depL ds ≤ 100 ∧ Q (.bl (!eqDL ds es)) H
theorem op_neS (hu : X.A.units + 150 < cLine) : OpR X (compareOp .NotEq) (rNeL X.K) := by
  intro pins s σ H x y v u Q I rv ru h
  obtain ⟨ds, es, h, g, hd, q⟩ := h
  obtain ⟨a, xs, rfl, h1, h2⟩ := (show ∃ a xs, x = .ref a ∧ SqL X.K H a xs ∧ RepL X.K H ds xs from h)
  obtain ⟨b, ys, rfl, g1, g2⟩ := (show ∃ a xs, y = .ref a ∧ SqL X.K H a xs ∧ RepL X.K H es xs from g)
  cases rv; cases ru
  obtain ⟨i1, r1, p1, _⟩ := I.list h1
  obtain ⟨i2, r2, p2, _⟩ := I.list g1
  have l1 := h2.length.trans r1.length
  have l2 := g2.length.trans r2.length
  rw [eqDL_range] at q
  show wpAny (model X.prog X.w) X.A (richCompare .NotEq (.ref a) (.ref b)) _ _ _
  by_cases hz : ds.length = es.length
  · refine SeqAt.RcNeAt.lists p1.isList p2.isList (by simp only [List.size_toArray]; omega) (by omega) (e := fun j => eqD (ds.getD j .non) (es.getD j .non)) (fun j a1 a2 => ?_) _ _ _ _ ⟨.bl _, H, I, rfl, ?_⟩
    · have a1' : j < i1.length := by simpa using a1
      have a2' : j < i2.length := by simpa using a2
      have := eqAt_DL I ds es h2 g2 r1 r2 (A := X.A.in1) (by rw [in1_units]; omega) j a1' a2'
      simpa using this
    · rw [← hz, Nat.min_self, beq_self_eq_true, Bool.and_true] at q
      rw [List.size_toArray, ← l1]
      exact q
  · refine SeqAt.RcNeAt.lists_lengths p1.isList p2.isList (by simp only [List.size_toArray, bne_iff_ne]; omega) (by omega) _ _ _ _ ⟨.bl _, H, I, rfl, ?_⟩
    rw [show (ds.length == es.length) = false by simpa using hz, Bool.and_false] at q
    exact q
noncomputable def tDNew : TE := fun _ H Q => ∀ p, H p = none → Q (.ref p) (upd H p (.dK []))
theorem pe_dnew : PE X (.Dict [] [] pos) tDNew := by
  intro pins s σ H Q I h
  have big : sysModules < s.heap.objs.size := Nat.lt_trans (m := mainGlobals) (by decide) (I.mod.glob.keeps I.bk).lt
  have ok : ObjOk X.prog X.w (upd H s.heap.objs.size (.dK [])) (s.heap.push { cls := .type "dict", data := .dict #[] }) s.heap.objs.size (.dK []) := by
    refine ⟨Nat.zero_le _, ?_, [], .nil, Heap.DictOf.new _⟩
    rw [beq_eq_false_iff_ne]
    exact (Nat.ne_of_lt big).symm
  refine wpAny_Dict_empty ?_
  have J := I.laid (t' := s.toks) (h' := s.heap.push { cls := .type "dict", data := .dict #[] }) (fun _ _ q => Heap.get?_push_of_some _ q) (Nat.le_refl _) ok
  exact ⟨.ref _, _, J, rfl, h _ (I.hok.fresh (Nat.le_refl _))⟩
theorem pe_no {e : Expr} : PE X e (fun _ _ _ => False) := fun _ _ _ _ _ _ h => h.elim
theorem pss_no {b : List Stmt} : PSs X b (fun _ _ _ => False) := fun _ _ _ _ _ _ h => h.elim
noncomputable def boolOf : Value → Bool
  | .bool b => b
  | _ => false
theorem vals_bl : ∀ {bs : List Bool} {us : List Value}, Vals (bs.map V.bl) us → us = bs.map Value.bool
  | [], _, r => by cases r; rfl
  | b :: bs, _, r => by
    cases r with
    | cons p q => rw [vals_bl q]; cases p; rfl
noncomputable def rCount : V → List V → Hp → VK → Prop := fun x vs H Q => ∃ (l : Addr) (bs : List Bool), x = .ref l ∧ vs = [.bl true] ∧ H l = some (.lst (bs.map V.bl)) ∧ Q (.int (bs.countP id : Nat)) H
theorem mt_count : MtM X "list.count" rCount := by
  intro pins s σ H x vs v us Q I rx rv h
  obtain ⟨l, bs, rfl, rfl, hH, q⟩ := h
  cases rx
  obtain ⟨u, rfl, ru⟩ := rv.one
  cases ru
  obtain ⟨z, its, n, r, hl, e⟩ := I.lstM hH
  have ei := vals_bl r
  subst ei
  refine call_meets F.slot_list_count ⟨_, e, rfl⟩ F.entry_list_count (F.args_list_count_2 _ _) (SeqAt.list_countAt l _ n none _ (.bool true) boolOf) ⟨e, fun y hy => ?_, ?_⟩
  · have hy : y ∈ (bs.map Value.bool) := by simpa using hy
    obtain ⟨b, _, rfl⟩ := List.mem_map.mp hy
    have := SeqAt.EqAt.bool_bool (A := X.A.in1) (s := s) b true
    rw [show (b == true) = boolOf (.bool b) by cases b <;> rfl] at this
    exact this
  · have ec : List.countP boolOf (bs.map Value.bool).toArray.toList = bs.countP id := by
      rw [List.countP_map]
      congr 1
    rw [ec]
    exact ⟨.int _, H, I.tok _, ⟨_, rfl⟩, q⟩
noncomputable def rIndex : V → List V → Hp → VK → Prop := fun x vs H Q => ∃ (l : Addr) (bs : List Bool) (j : Nat), x = .ref l ∧ vs = [.bl true] ∧ H l = some (.lst (bs.map V.bl)) ∧ bs[j]? = some true ∧ (∀ m, m < j → bs[m]? = some false) ∧ j < 1000 ∧ Q (.int (j : Nat)) H
theorem mt_index : MtM X "list.index" rIndex := by
  intro pins s σ H x vs v us Q I rx rv h
  obtain ⟨l, bs, j, rfl, rfl, hH, hj, hm, hz, q⟩ := h
  cases rx
  obtain ⟨u, rfl, ru⟩ := rv.one
  cases ru
  obtain ⟨z, its, n, r, hl, e⟩ := I.lstM hH
  have ei := vals_bl r
  subst ei
  have jl : j < bs.length := (List.getElem?_eq_some_iff.mp hj).1
  have gt : ∀ (m : Nat) (h : m < (bs.map Value.bool).toArray.size) b, bs[m]? = some b → boolOf (bs.map Value.bool).toArray[m] = b := fun m h b hb => by
    obtain ⟨h1, h2⟩ := List.getElem?_eq_some_iff.mp hb
    simp [boolOf, h2]
  refine call_meets F.slot_list_index ⟨_, e, rfl⟩ F.entry_list_index (F.args_list_index_2 _ _) (SeqAt.list_indexAt l _ n none _ (.bool true) boolOf j (by simpa using jl) (by omega) (gt j _ _ hj) (fun m h1 h2 => gt m h1 _ (hm m h2))) ⟨e, fun y hy => ?_, ?_⟩
  · have hy : y ∈ (bs.map Value.bool) := by simpa using hy
    obtain ⟨b, _, rfl⟩ := List.mem_map.mp hy
    have := SeqAt.EqAt.bool_bool (A := X.A.in1) (s := s) b true
    rw [show (b == true) = boolOf (.bool b) by cases b <;> rfl] at this
    exact this
  · exact ⟨.int _, H, I.tok _, ⟨_, rfl⟩, q⟩
end
end L2
set_option Elab.async false
set_option linter.all false
set_option maxRecDepth 100000
set_option maxHeartbeats 4000000
namespace L2
open PySem PySem.Spec PyProof.Rows
noncomputable def lamCk (sc out : Scope) (N NX : List Str) (js : List Nat) : Bool :=
  (sc.kind == .function) && (sc.isCoroutine == false) && (sc.isGenerator == false) && (sc.names.all fun y => y.2 != .cell) && (sc.names.all fun y => y.2 != .free || (out.names.lookup y.1 == some .cell && N.contains y.1)) && (js.length == N.length) &&
  ((N.zip js).all fun p => (NX[p.2]? == some p.1) && (out.names.lookup p.1 == some .cell) && (sc.names.lookup p.1 == some .free))
theorem inj_of_nodup : ∀ {l : List (Str × Addr)}, (l.map (·.2)).Nodup → ∀ x y c, l.lookup x = some c → l.lookup y = some c → x = y := by
  intro l
  induction l with
  | nil => intro _ x y c h; cases h
  | cons q l ih =>
    intro h x y c hx hy
    rw [List.map_cons, List.nodup_cons] at h
    have mem : ∀ z, l.lookup z = some c → c ∈ l.map (·.2) := fun z hz => List.mem_map.mpr ⟨(z, c), PySem.mem_of_lookup hz, rfl⟩
    rw [List.lookup_cons] at hx hy
    cases ex : x == q.1 with
    | true =>
      rw [ex] at hx
      cases hx
      cases ey : y == q.1 with
      | true => rw [beq_iff_eq] at ex ey; rw [ex, ey]
      | false => rw [ey] at hy; exact absurd (mem y hy) h.1
    | false =>
      rw [ex] at hx
      cases ey : y == q.1 with
      | true => rw [ey] at hy; cases hy; exact absurd (mem x hx) h.1
      | false => rw [ey] at hy; exact ih h.2 x y c hx hy
section
variable {X : Cx} {sc : Scope} {N : List Str} {js : List Nat} {params : Arguments} {body : Expr} {pos : Pos} {c P : Addr}
theorem clOf_sub {env : Env} (h : ∀ y ∈ sc.names, y.2 = .free → ∃ c, env.cells.lookup y.1 = some c) {x : Str} {a : Addr} (q : (clOf sc env).lookup x = some a) : env.cells.lookup x = some a ∧ (x, NameKind.free) ∈ sc.names := by
  obtain ⟨z, hz, e⟩ := List.mem_map.mp (PySem.mem_of_lookup q)
  rw [List.mem_reverse, List.mem_filter] at hz
  have zf : z.2 = .free := by simpa using hz.2
  obtain ⟨c, hc⟩ := h z hz.1 zf
  have e1 : z.1 = x := congrArg Prod.fst e
  have e2 : (env.cells.lookup z.1).getD 0 = a := congrArg Prod.snd e
  rw [hc] at e2
  have e2 : c = a := e2
  refine ⟨by rw [← e1, hc, e2], ?_⟩
  obtain ⟨z1, z2⟩ := z
  simp only at e1 zf
  rw [← e1, ← zf]
  exact hz.1
theorem pe_lamD (L : LamCx X c P) (hck : lamCk sc X.env.scope N X.N js = true) (hdef : defaultsOf params X.env = ([], [])) : PE X (.Lambda params body sc pos) (tLam X.mg P (X.env.qual ++ "<lambda>") params body sc (clOf sc X.env)) := by
  intro pins s σ H Q I h
  simp only [lamCk, Bool.and_eq_true, List.all_eq_true, beq_iff_eq, bne_iff_ne, Bool.or_eq_true] at hck
  obtain ⟨⟨⟨⟨⟨⟨c1, c2⟩, c3⟩, c4⟩, c5⟩, c6⟩, c7⟩ := hck
  have env : ∀ y ∈ sc.names, y.2 = .free → ∃ c, X.env.cells.lookup y.1 = some c := fun y hy hf => by
    rcases c5 y hy with z | z
    · exact absurd hf z
    · exact I.ok.has y.1 (.inl z.1)
  exact pe_lam L hdef (closure_of env) pins s σ H Q I h
theorem lam_facts {σ : St} {b : Heap} {vs : List V} (hck : lamCk sc X.env.scope N X.N js = true) (hinj : (X.env.cells.map (·.2)).Nodup) (hhas : ∀ x, X.env.scope.names.lookup x = some .cell → ∃ c, X.env.cells.lookup x = some c) (hc : CellsIn X σ b)
    (hv : vs.length = js.length) (hσ : ∀ (i j : Nat) (v : V), js[i]? = some j → vs[i]? = some v → σ[j]? = some (some v)) :
    LamScope N sc (clOf sc X.env) ∧ vs.length = N.length ∧ (∀ x c, (clOf sc X.env).lookup x = some c → ∃ v, b.IsCell c v) ∧ (∀ (i : Nat) x v, N[i]? = some x → vs[i]? = some v → ∃ c u, (clOf sc X.env).lookup x = some c ∧ RelV v u ∧ b.IsCell c (some u)) := by
  simp only [lamCk, Bool.and_eq_true, List.all_eq_true, beq_iff_eq, bne_iff_ne, Bool.or_eq_true] at hck
  obtain ⟨⟨⟨⟨⟨⟨c1, c2⟩, c3⟩, c4⟩, c5⟩, c6⟩, c7⟩ := hck
  have env : ∀ y ∈ sc.names, y.2 = .free → ∃ c, X.env.cells.lookup y.1 = some c := fun y hy hf => by
    rcases c5 y hy with z | z
    · exact absurd hf z
    · exact hhas y.1 z.1
  have key : ∀ (i : Nat) x v, N[i]? = some x → vs[i]? = some v → ∃ c u, (clOf sc X.env).lookup x = some c ∧ RelV v u ∧ b.IsCell c (some u) := fun i x v e1 e2 => by
    have il : i < js.length := by rw [c6]; exact (List.getElem?_eq_some_iff.mp e1).1
    have hz : (x, js[i]) ∈ N.zip js := List.mem_of_getElem? (i := i) (by rw [List.getElem?_zip_eq_some]; exact ⟨e1, List.getElem?_eq_getElem il⟩)
    obtain ⟨⟨d1, d2⟩, d3⟩ := c7 _ hz
    obtain ⟨a, ha⟩ := clOf_has (env := X.env) (PySem.mem_of_lookup d3)
    obtain ⟨u, r, cell⟩ := hc js[i] x v a d1 (hσ i js[i] v (List.getElem?_eq_getElem il) e2) d2 (clOf_sub env ha).1
    exact ⟨a, u, ha, r, cell⟩
  refine ⟨⟨c1, c2, c3, c4, fun x hx => ?_, fun x hx => clOf_has (PySem.mem_of_lookup hx), fun x y a hx hy => inj_of_nodup hinj x y a (clOf_sub env hx).1 (clOf_sub env hy).1⟩, by rw [hv, c6], fun x a hx => ?_, key⟩
  · obtain ⟨i, hi⟩ := List.getElem?_of_mem hx
    have il : i < js.length := by rw [c6]; exact (List.getElem?_eq_some_iff.mp hi).1
    have hz : (x, js[i]) ∈ N.zip js := List.mem_of_getElem? (i := i) (by rw [List.getElem?_zip_eq_some]; exact ⟨hi, List.getElem?_eq_getElem il⟩)
    exact (c7 _ hz).2
  · obtain ⟨_, hm⟩ := clOf_sub env hx
    have hN : x ∈ N := by
      rcases c5 _ hm with z | z
      · exact absurd rfl z
      · simpa using z.2
    obtain ⟨i, hi⟩ := List.getElem?_of_mem hN
    have il : i < vs.length := by rw [hv, c6]; exact (List.getElem?_eq_some_iff.mp hi).1
    obtain ⟨a', u, h1, _, h2⟩ := key i x vs[i] hi (List.getElem?_eq_getElem il)
    rw [hx] at h1
    cases h1
    exact ⟨_, h2⟩
end
theorem fn_okC {Pr : Program} {w : World} {K : PySem.W.Frag} {mg : Str → Option Value} {base : Heap} {x qual : Str} {st : Stmt} {f c : Addr} {oc kV doc pm ct : Value} {od an : Option Addr} {osl : Array (Option Value)} {N ps : List Str} {k : Nat} {sp : Sp}
    (lk : K.lookup f = some ⟨oc, od, .func (PySem.W.fnOf x qual (defArgs st) (defBody st) (defScope st) .none kV doc pm an (.ref c) ct), osl⟩) (hcd : PySem.W.codeIn K (.ref c) qual = true) (S : FnScope N ps (defScope st)) (len : ∀ vs H Q E, sp vs H Q E → vs.length = ps.length)
    (hbody : ∀ (A : Around) (outer : List Env) (s : Shared) (H : Hp) (vs : List V) (Q : VK) (E : XK), Room k (A.deeper (envOfC qual (defScope st) s.heap.objs.size f (.ref c))) → sp vs H Q E →
      ∃ t, PSs (cxOf CX0 Pr w K mg base N qual (defScope st) f (.ref c) A outer s H E).nox (defBody st) t ∧ t { nx := fun _ H' => Q .non H', rt := Q } (start N vs) H) :
    FnOk Pr w K mg base CX0 (k + 1) f (PySem.W.fnOf x qual (defArgs st) (defBody st) (defScope st) .none kV doc pm an (.ref c) ct) ps sp := by
  refine fn_of lk hcd S len fun A outer s H vs Q E hr hsp => ?_
  obtain ⟨t, h, q⟩ := hbody A outer s H vs Q E hr hsp
  exact ⟨t, h.nox, q⟩
theorem lam_binds {K : PySem.W.Frag} {qual : Str} {body : Expr} {scope : Scope} {cl : List (Str × Addr)} {pm cd ctv : Value} {params : Arguments} (hp : ∀ pm cd ctv, bindArgs (PySem.W.kla_fn "<lambda>" qual params body scope cl pm cd ctv) ⟨[], []⟩ = pure []) : Binds K (PySem.W.kla_fn "<lambda>" qual params body scope cl pm cd ctv) [] [] := fun s us _ hl => by
  cases us with
  | nil => exact .of_eq (hp pm cd ctv)
  | cons u us => simp at hl
theorem TabOk.kept {H H' : Hp} {P : Addr} {q : Str} (h : TabOk H P q) (k : ∀ b o, H b = some o → (∀ xs, o ≠ .lst xs) → H' b = some o) : TabOk H' P q := by
  obtain ⟨ps, h1, h2, h3⟩ := h
  refine ⟨ps, k _ _ h1 (fun _ z => nomatch z), h2, fun pos cv e => ?_⟩
  obtain ⟨c, e1, e2⟩ := h3 pos cv e
  exact ⟨c, e1, k _ _ e2 (fun _ z => nomatch z)⟩
theorem TabOk.same {H H' : Hp} {P : Addr} {q : Str} (h : TabOk H P q) (s : Same H H') : TabOk H' P q := h.kept fun b o e _ => s b o e
theorem tabOk_new {H : Hp} {P : Addr} {q : Str} (h : H P = some (.tbl #[])) : TabOk H P q := ⟨#[], h, trivial, fun pos cv e => by simp [codeAmong] at e⟩
theorem SameX.refl (P : Addr) (H : Hp) : SameX P H H := fun _ _ _ e => e
theorem SameX.trans {P : Addr} {H H1 H2 : Hp} (a : SameX P H H1) (b : SameX P H1 H2) : SameX P H H2 := fun c o hc e => b c o hc (a c o hc e)
theorem SameX.of {P : Addr} {H H1 : Hp} (s : Same H H1) : SameX P H H1 := fun c o _ e => s c o e
theorem SameX.seq {K : PySem.W.Frag} {P a : Addr} {H H' : Hp} {ps : Array Value} {xs : List V} (hP : H P = some (.tbl ps)) (s : SameX P H H') (h : SqL K H a xs) : SqL K H' a xs := by
  rcases h with (h | ⟨o, h⟩) | h
  · exact .inl (.inl (s _ _ (fun z => by rw [z, hP] at h; cases h) h))
  · exact .inl (.inr ⟨o, s _ _ (fun z => by rw [z, hP] at h; cases h) h⟩)
  · exact .inr h
theorem cells_nodup : ∀ (ns : List (Str × NameKind)) (n : Nat) (acc : List (Str × Addr)), (acc.map (·.2)).Nodup → (∀ y ∈ acc, y.2 < n) → ((cellsFrom n ns acc).map (·.2)).Nodup
  | [], n, acc, h, _ => by rw [cellsFrom.eq_def]; exact h
  | (x, k) :: r, n, acc, h, hb => by
    rw [cellsFrom.eq_def]
    dsimp only
    split
    · refine cells_nodup r (n + 1) _ ?_ fun y hy => ?_
      · rw [List.map_cons, List.nodup_cons]
        refine ⟨fun hm => ?_, h⟩
        obtain ⟨y, hy, e⟩ := List.mem_map.mp hm
        have := hb y hy
        have e : y.2 = n := e
        rw [e] at this
        exact absurd this (Nat.lt_irrefl _)
      · rcases List.mem_cons.mp hy with rfl | hy
        · exact Nat.lt_succ_self _
        · exact Nat.lt_succ_of_lt (hb y hy)
    · exact cells_nodup r n acc h hb
end L2
set_option Elab.async false
set_option linter.all false
set_option maxRecDepth 100000
set_option maxHeartbeats 4000000
namespace L2
open PySem PySem.Spec PyProof.Rows
section
variable {prog : Program} {w : World} {A : Around} {E : Value → Shared → Prop} {s : Shared}
theorem drawT_item {j t : Addr} {n : Nat} {vs : Array Value} {u : Value} {Q : Value → Shared → Prop} (hj : s.heap.IsTupleIter j t n) (ht : s.heap.IsTuple t vs) (hu : vs[n]? = some u)
    (k : ∀ g, g.IsTupleIter j t (n + 1) → Heap.SameBut j s.heap g → Q u { s with heap := g }) : wpAny (model prog w) A (Builtin.SmallTypes.nextOf (.ref j)) Q E s := by
  obtain ⟨oj, gj, cj, dj⟩ := id hj; obtain ⟨ot, gt, _, m, dt⟩ := ht
  unfold Builtin.SmallTypes.nextOf; refine wpAny_bind ?_
  refine wpAny_callSpecial?_slot (name := Str.ofString "__next__") hj.typeIs F.slot_tuple_iterator_next ?_
  refine wpAny_call_entry F.slot_tuple_iterator_next hj.typeIs F.entry_tuple_iterator_next ?_ (F.args_tuple_iterator_next_1 _)
  show wpAny _ _ (field (.ref j) 0 >>= _) _ _ s; refine wpAny_bind (wpAny_field gj dj (x := .ref t) rfl ?_)
  show wpAny _ _ (if (Value.ref t == Value.none) = true then _ else _) _ _ s; rw [if_neg (by exact Bool.false_ne_true)]
  show wpAny _ _ (field (.ref j) 1 >>= _) _ _ s; refine wpAny_bind (wpAny_field gj dj (x := .int n 0) rfl ?_)
  show wpAny _ _ (seqItems? (.ref t) >>= _) _ _ s; refine wpAny_bind (wpAny_seqItems gt dt ?_); simp only [Int.toNat_natCast, hu]
  refine wpAny_bind (wpAny_setField gj dj (by simp) (wpAny_pure ⟨u, rfl, wpAny_pure (k _ ⟨_, Heap.get?_update_self _ gj (Obj.isFreed_of_fields (Obj.data_mapFields dj _)), (Obj.cls_mapFields ..).trans cj, ?_⟩ (Heap.SameBut.update ..))⟩))
  rw [Obj.data_mapFields dj]; simp [rawInt]
theorem drawT_end {j t : Addr} {n : Nat} {vs : Array Value} {Q : Value → Shared → Prop} (quiet : A.handled = none) (hj : s.heap.IsTupleIter j t n) (ht : s.heap.IsTuple t vs) (hu : vs[n]? = none)
    (k : ∀ g e, Heap.ExtBut j s.heap g → (∃ o, g.get? e = some o ∧ o.cls = .type "StopIteration") → E (.ref e) { s with heap := g }) : wpAny (model prog w) A (Builtin.SmallTypes.nextOf (.ref j)) Q E s := by
  obtain ⟨oj, gj, cj, dj⟩ := id hj; obtain ⟨ot, gt, _, m, dt⟩ := ht
  unfold Builtin.SmallTypes.nextOf; refine wpAny_bind ?_
  refine wpAny_callSpecial?_slot (name := Str.ofString "__next__") hj.typeIs F.slot_tuple_iterator_next ?_
  refine wpAny_call_entry F.slot_tuple_iterator_next hj.typeIs F.entry_tuple_iterator_next ?_ (F.args_tuple_iterator_next_1 _)
  show wpAny _ _ (field (.ref j) 0 >>= _) _ _ s; refine wpAny_bind (wpAny_field gj dj (x := .ref t) rfl ?_)
  show wpAny _ _ (if (Value.ref t == Value.none) = true then _ else _) _ _ s; rw [if_neg (by exact Bool.false_ne_true)]
  show wpAny _ _ (field (.ref j) 1 >>= _) _ _ s; refine wpAny_bind (wpAny_field gj dj (x := .int n 0) rfl ?_)
  show wpAny _ _ (seqItems? (.ref t) >>= _) _ _ s; refine wpAny_bind (wpAny_seqItems gt dt ?_); simp only [Int.toNat_natCast, hu]
  refine wpAny_bind (wpAny_rule (wpAny_bind (wpAny_setField gj dj (by simp) ?_))); show wpAny _ _ (newExc (.type "StopIteration") [] >>= _) _ _ _
  refine wpAny_bind ?_; simp only [newExc, newTuple]; refine wpAny_bind (wpAny_newObj_type ?_ (by size_fits))
  refine wpAny_bind (m := firstArgMember _ _) (wpAny_of_eq (a := Value.none) (by first | rfl | (simp only [firstArgMember]; rfl)) ?_); refine wpAny_newObj_type ?_ (by size_fits)
  simp only [raiseNew]; refine wpAny_bind (wpAny_handled ?_)
  first | rw [show A.in1.handled = none from quiet] | rw [quiet]
  refine wpAny_bind (wpAny_pure (wpAny_throw ?_)); exact k _ _ (((Heap.SameBut.update ..).extBut.push _).push _) ⟨_, Heap.get?_push_size _ rfl, rfl⟩
theorem zipT_item {z TI TO j1 j2 t1 t2 : Addr} {n1 n2 : Nat} {xs ys : Array Value} {x y a b : Value} {Q : Value → Shared → Prop} (D : ZipApart z TI TO j1 j2 t1 t2) (hz : IsZip s.heap z TI TO .none) (hI : IsPair s.heap TI (.ref j1) (.ref j2)) (hO : IsPair s.heap TO a b)
    (q1 : s.heap.IsTupleIter j1 t1 n1) (q2 : s.heap.IsTupleIter j2 t2 n2) (e1 : s.heap.IsTuple t1 xs) (e2 : s.heap.IsTuple t2 ys) (hx : xs[n1]? = some x) (hy : ys[n2]? = some y)
    (k : ∀ g, IsZip g z TI TO (rawInt s.heap.objs.size) → IsPair g TO x y → g.IsTupleIter j1 t1 (n1 + 1) → g.IsTupleIter j2 t2 (n2 + 1) → IsPair g s.heap.objs.size x y → g.objs.size = s.heap.objs.size + 1 →
      (∀ c o, c ≠ z → c ≠ TO → c ≠ j1 → c ≠ j2 → s.heap.get? c = some o → g.get? c = some o) → Q (.ref s.heap.objs.size) { s with heap := g }) :
    wpAny (model prog w) A (Builtin.«zip.__next__» ⟨[.ref z], []⟩) (fun r s' => ∃ v, r = .done (.ret v) ∧ Q v s') E s := by
  show wpAny _ _ (field (.ref z) 2 >>= _) _ _ _; refine wpAny_bind (wpAny_field hz rfl (x := .bool false) rfl ?_); show wpAny _ _ (field (.ref z) 3 >>= _) _ _ _
  refine wpAny_bind (wpAny_field hz rfl (x := .ref TI) rfl (wpAny_bind (wpAny_seqItems hI rfl ?_))); show wpAny _ _ (Builtin.SmallTypes.ownedTupleIsFree (.ref z) >>= _) _ _ _
  refine wpAny_bind ?_; unfold Builtin.SmallTypes.ownedTupleIsFree; refine wpAny_bind (wpAny_field hz rfl (x := .none) rfl (wpAny_pure ?_)); simp only [if_true]
  refine wpAny_bind (wpAny_rule (wpAny_bind (wpAny_field hz rfl (x := .ref TO) rfl (wpAny_bind (wpAny_setField_rec hz (by simp) fun ga za sa => ?_))))); replace za : IsZip ga z TI TO .ellipsis := za
  refine wpAny_bind ?_; simp only [List.zipIdx_cons, List.zipIdx_nil, List.forIn_cons, List.forIn_nil]; refine wpAny_bind (wpAny_bind (wpAny_onRaise ?_))
  show wpAny _ _ (Builtin.SmallTypes.nextOf (.ref j1) >>= _) _ _ _; have ta : ga.IsTuple t1 xs := e1.extBut sa.extBut D.l1z
  refine wpAny_bind (drawT_item (q1.extBut sa.extBut D.i1z) ta hx fun gb qb sb => wpAny_pure ?_); have ob : IsPair gb TO a b := sb.extBut _ _ D.TOi1 (sa.extBut _ _ D.TOz hO)
  refine wpAny_bind (wpAny_seqItems ob rfl (wpAny_bind (wpAny_updateSeq_pair ob fun gc oc sc => ?_))); replace oc : IsPair gc TO x b := oc; refine wpAny_bind (wpAny_letGo (wpAny_pure ?_))
  refine wpAny_bind (wpAny_bind (wpAny_onRaise ?_)); show wpAny _ _ (Builtin.SmallTypes.nextOf (.ref j2) >>= _) _ _ _
  have tc : gc.IsTuple t2 ys := ((e2.extBut sa.extBut D.l2z).extBut sb.extBut D.l2i1).extBut sc.extBut D.l2TO
  have qc : gc.IsTupleIter j2 t2 n2 := ((q2.extBut sa.extBut D.i2z).extBut sb.extBut D.i12.symm).extBut sc.extBut D.TOi2.symm
  refine wpAny_bind (drawT_item qc tc hy fun gd qd sd => wpAny_pure ?_); have od : IsPair gd TO x b := sd.extBut _ _ D.TOi2 oc
  refine wpAny_bind (wpAny_seqItems od rfl (wpAny_bind (wpAny_updateSeq_pair od fun ge oe se => ?_))); replace oe : IsPair ge TO x y := oe; refine wpAny_bind (wpAny_letGo (wpAny_pure (wpAny_pure ?_)))
  refine wpAny_bind (wpAny_seqItems oe rfl (wpAny_bind (wpAny_newTuple ?_))); have sz : ge.objs.size = s.heap.objs.size := by rw [se.1, sd.1, sc.1, sb.1, sa.1]
  have ze : IsZip ge z TI TO .ellipsis := se.extBut _ _ D.TOz.symm (sd.extBut _ _ D.i2z.symm (sc.extBut _ _ D.TOz.symm (sb.extBut _ _ D.i1z.symm za)))
  have old : ∀ c o, c ≠ z → c ≠ TO → c ≠ j1 → c ≠ j2 → s.heap.get? c = some o → ge.get? c = some o := fun c o m1 m2 m3 m4 m5 => se.extBut _ _ m2 (sd.extBut _ _ m4 (sc.extBut _ _ m2 (sb.extBut _ _ m3 (sa.extBut _ _ m1 m5))))
  have r1 : ge.IsTupleIter j1 t1 (n1 + 1) := ((qb.extBut sc.extBut D.TOi1.symm).extBut sd.extBut D.i12).extBut se.extBut D.TOi1.symm
  have r2 : ge.IsTupleIter j2 t2 (n2 + 1) := qd.extBut se.extBut D.TOi2.symm; have zlt : z < ge.objs.size := Heap.lt_size ze
  show wpAny _ _ (Builtin.SmallTypes.ownedTupleHandOut (.ref z) (.ref ge.objs.size) >>= _) _ _ _; refine wpAny_bind ?_; unfold Builtin.SmallTypes.ownedTupleHandOut
  have zf : IsZip (ge.push { cls := .type "tuple", data := .seq #[x, y] }) z TI TO .ellipsis := Heap.get?_push_of_some _ ze
  refine wpAny_bind (wpAny_setField_rec zf (by simp) fun gg zg sg => ?_); replace zg : IsZip gg z TI TO (rawInt ge.objs.size) := zg
  refine wpAny_setField_rec zg (by simp) fun gh zh sh => ?_; replace zh : IsZip gh z TI TO (rawInt ge.objs.size) := zh
  have up : ∀ c o, c ≠ z → ge.get? c = some o → gh.get? c = some o := fun c o m q => sh.extBut _ _ m (sg.extBut _ _ m (Heap.get?_push_of_some _ q))
  have nh : IsPair gh ge.objs.size x y := sh.extBut _ _ (Nat.ne_of_gt zlt) (sg.extBut _ _ (Nat.ne_of_gt zlt) (Heap.get?_push_size _ rfl)); have szh : gh.objs.size = ge.objs.size + 1 := by rw [sh.1, sg.1, Heap.size_push]
  rw [sz] at zh nh szh; refine wpAny_pure ⟨_, rfl, ?_⟩; show Q (.ref ge.objs.size) _; rw [sz]
  exact k gh zh (up _ _ D.TOz oe) (r1.at fun o q => up _ o D.i1z q) (r2.at fun o q => up _ o D.i2z q) nh szh fun c o m1 m2 m3 m4 m5 => up c o m1 (old c o m1 m2 m3 m4 m5)
theorem zipT_end {z TI TO j1 j2 t1 t2 : Addr} {n1 n2 : Nat} {xs ys : Array Value} {a b : Value} {Q : PySem.Fin → Shared → Prop} (quiet : A.handled = none) (D : ZipApart z TI TO j1 j2 t1 t2) (hz : IsZip s.heap z TI TO .none) (hI : IsPair s.heap TI (.ref j1) (.ref j2)) (hO : IsPair s.heap TO a b)
    (q1 : s.heap.IsTupleIter j1 t1 n1) (q2 : s.heap.IsTupleIter j2 t2 n2) (e1 : s.heap.IsTuple t1 xs) (e2 : s.heap.IsTuple t2 ys) (fin : xs[n1]? = none ∨ ys[n2]? = none)
    (k : ∀ g e, (∀ c o, c ≠ z → c ≠ TO → c ≠ j1 → c ≠ j2 → s.heap.get? c = some o → g.get? c = some o) → (∃ o, g.get? e = some o ∧ o.cls = .type "StopIteration") → E (.ref e) { s with heap := g }) :
    wpAny (model prog w) A (Builtin.«zip.__next__» ⟨[.ref z], []⟩) Q E s := by
  show wpAny _ _ (field (.ref z) 2 >>= _) _ _ _; refine wpAny_bind (wpAny_field hz rfl (x := .bool false) rfl ?_); show wpAny _ _ (field (.ref z) 3 >>= _) _ _ _
  refine wpAny_bind (wpAny_field hz rfl (x := .ref TI) rfl (wpAny_bind (wpAny_seqItems hI rfl ?_))); show wpAny _ _ (Builtin.SmallTypes.ownedTupleIsFree (.ref z) >>= _) _ _ _
  refine wpAny_bind ?_; unfold Builtin.SmallTypes.ownedTupleIsFree; refine wpAny_bind (wpAny_field hz rfl (x := .none) rfl (wpAny_pure ?_)); simp only [if_true]
  refine wpAny_bind (wpAny_rule (wpAny_bind (wpAny_field hz rfl (x := .ref TO) rfl (wpAny_bind (wpAny_setField_rec hz (by simp) fun ga za sa => ?_))))); replace za : IsZip ga z TI TO .ellipsis := za
  refine wpAny_bind ?_; simp only [List.zipIdx_cons, List.zipIdx_nil, List.forIn_cons, List.forIn_nil]; refine wpAny_bind (wpAny_bind (wpAny_onRaise ?_))
  show wpAny _ _ (Builtin.SmallTypes.nextOf (.ref j1) >>= _) _ _ _; have ta : ga.IsTuple t1 xs := e1.extBut sa.extBut D.l1z
  cases hx : xs[n1]? with
  | none =>
    refine wpAny_bind (drawT_end quiet (q1.extBut sa.extBut D.i1z) ta hx fun gb e sb ⟨oe, he, ce⟩ => ?_); have zb : IsZip gb z TI TO .ellipsis := sb _ _ D.i1z.symm za
    have ez : e ≠ z := fun q => by subst q; rw [zb] at he; cases he; simp at ce
    exact wpAny_setField_rec zb (by simp) fun gc _ sc => k gc e (fun c o m1 _ m3 _ m5 => sc.extBut _ _ m1 (sb _ _ m3 (sa.extBut _ _ m1 m5))) ⟨oe, sc.extBut _ _ ez he, ce⟩
  | some x =>
    have hy : ys[n2]? = none := fin.resolve_left (by rw [hx]; exact fun q => nomatch q)
    refine wpAny_bind (drawT_item (q1.extBut sa.extBut D.i1z) ta hx fun gb qb sb => wpAny_pure ?_); have ob : IsPair gb TO a b := sb.extBut _ _ D.TOi1 (sa.extBut _ _ D.TOz hO)
    refine wpAny_bind (wpAny_seqItems ob rfl (wpAny_bind (wpAny_updateSeq_pair ob fun gc oc sc => wpAny_bind (wpAny_letGo (wpAny_pure ?_))))); refine wpAny_bind (wpAny_bind (wpAny_onRaise ?_)); show wpAny _ _ (Builtin.SmallTypes.nextOf (.ref j2) >>= _) _ _ _
    have tc : gc.IsTuple t2 ys := ((e2.extBut sa.extBut D.l2z).extBut sb.extBut D.l2i1).extBut sc.extBut D.l2TO; have qc : gc.IsTupleIter j2 t2 n2 := ((q2.extBut sa.extBut D.i2z).extBut sb.extBut D.i12.symm).extBut sc.extBut D.TOi2.symm
    refine wpAny_bind (drawT_end quiet qc tc hy fun gd e sd ⟨oe, he, ce⟩ => ?_); have zd : IsZip gd z TI TO .ellipsis := sd _ _ D.i2z.symm (sc.extBut _ _ D.TOz.symm (sb.extBut _ _ D.i1z.symm za))
    have ez : e ≠ z := fun q => by subst q; rw [zd] at he; cases he; simp at ce
    exact wpAny_setField_rec zd (by simp) fun gf _ sf => k gf e (fun c o m1 m2 m3 m4 m5 => sf.extBut _ _ m1 (sd _ _ m4 (sc.extBut _ _ m2 (sb.extBut _ _ m3 (sa.extBut _ _ m1 m5))))) ⟨oe, sf.extBut _ _ ez he, ce⟩
theorem nextZ_item {z TI TO j1 j2 t1 t2 : Addr} {n1 n2 : Nat} {xs ys : Array Value} {x y a b : Value} {Q : Option Value → Shared → Prop} (D : ZipApart z TI TO j1 j2 t1 t2) (hz : IsZip s.heap z TI TO .none) (hI : IsPair s.heap TI (.ref j1) (.ref j2)) (hO : IsPair s.heap TO a b)
    (q1 : s.heap.IsTupleIter j1 t1 n1) (q2 : s.heap.IsTupleIter j2 t2 n2) (e1 : s.heap.IsTuple t1 xs) (e2 : s.heap.IsTuple t2 ys) (hx : xs[n1]? = some x) (hy : ys[n2]? = some y)
    (k : ∀ g, IsZip g z TI TO (rawInt s.heap.objs.size) → IsPair g TO x y → g.IsTupleIter j1 t1 (n1 + 1) → g.IsTupleIter j2 t2 (n2 + 1) → IsPair g s.heap.objs.size x y → g.objs.size = s.heap.objs.size + 1 →
      (∀ c o, c ≠ z → c ≠ TO → c ≠ j1 → c ≠ j2 → s.heap.get? c = some o → g.get? c = some o) → Q (some (.ref s.heap.objs.size)) { s with heap := g }) : wpAny (model prog w) A (pyNext (.ref z)) Q E s := by
  have ty : s.TypeIs (.ref z) "zip" := ⟨_, hz, rfl⟩; unfold pyNext; refine wpAny_bind (wpAny_attempt (wpAny_callSpecial?_slot (name := Str.ofString "__next__") ty F.slot_zip_next ?_))
  exact wpAny_call_entry F.slot_zip_next ty F.entry_zip_next (zipT_item D hz hI hO q1 q2 e1 e2 hx hy fun g b1 b2 b3 b4 b5 b6 b7 => wpAny_pure (k g b1 b2 b3 b4 b5 b6 b7)) (F.args_zip_next_1 _)
theorem nextZ_end {z TI TO j1 j2 t1 t2 : Addr} {n1 n2 : Nat} {xs ys : Array Value} {a b : Value} {Q : Option Value → Shared → Prop} (quiet : A.handled = none) (D : ZipApart z TI TO j1 j2 t1 t2) (hz : IsZip s.heap z TI TO .none) (hI : IsPair s.heap TI (.ref j1) (.ref j2)) (hO : IsPair s.heap TO a b)
    (q1 : s.heap.IsTupleIter j1 t1 n1) (q2 : s.heap.IsTupleIter j2 t2 n2) (e1 : s.heap.IsTuple t1 xs) (e2 : s.heap.IsTuple t2 ys) (fin : xs[n1]? = none ∨ ys[n2]? = none)
    (k : ∀ g, (∀ c o, c ≠ z → c ≠ TO → c ≠ j1 → c ≠ j2 → s.heap.get? c = some o → g.get? c = some o) → Q none { s with heap := g }) : wpAny (model prog w) A (pyNext (.ref z)) Q E s := by
  have ty : s.TypeIs (.ref z) "zip" := ⟨_, hz, rfl⟩; unfold pyNext; refine wpAny_bind (wpAny_attempt (wpAny_callSpecial?_slot (name := Str.ofString "__next__") ty F.slot_zip_next ?_))
  refine wpAny_call_entry F.slot_zip_next ty F.entry_zip_next (zipT_end quiet D hz hI hO q1 q2 e1 e2 fin fun g e kp ⟨o, ho, hc⟩ => ?_) (F.args_zip_next_1 _)
  exact wpAny_bind (wpAny_isInstance (T := "StopIteration") (b := true) ⟨o, ho, hc⟩ isSubtype_stop (wpAny_pure (k _ kp)))
noncomputable def zHA (g : Heap) (t1 : Addr) : Heap := g.push { cls := .type "tuple_iterator", data := .fields #[.ref t1, .int 0 0] }
noncomputable def zHB (g : Heap) (t1 t2 : Addr) : Heap := (zHA g t1).push { cls := .type "tuple_iterator", data := .fields #[.ref t2, .int 0 0] }
noncomputable def zHC (g : Heap) (t1 t2 : Addr) : Heap := (zHB g t1 t2).push { cls := .type "tuple", data := .seq #[.ref g.objs.size, .ref (zHA g t1).objs.size] }
noncomputable def zHD (g : Heap) (t1 t2 : Addr) : Heap := (zHC g t1 t2).push { cls := .type "tuple", data := .seq #[.none, .none] }
noncomputable def zHE (g : Heap) (t1 t2 : Addr) : Heap := (zHD g t1 t2).push { cls := .type "zip", data := .fields #[.none, .bool false, .bool false, .ref (zHB g t1 t2).objs.size, .ref (zHC g t1 t2).objs.size] }
theorem zipT_new (t1 t2 : Addr) (xs ys : Array Value) : Meets (Builtin.«zip.__new__» ⟨[.type "zip", .ref t1, .ref t2], []⟩) (fun _ R s => s.heap.IsTuple t1 xs ∧ s.heap.IsTuple t2 ys ∧ R (.ok (.ret (.ref (zHD s.heap t1 t2).objs.size))) { s with heap := zHE s.heap t1 t2 }) :=
  .of_wp fun prog w A R s h => by
    obtain ⟨hp, g, d, tk, os⟩ := s; obtain ⟨a1, a2, a3⟩ := h; have sub := sub_zip
    have b1 : Heap.IsTuple (Shared.heap ⟨hp, g, d, tk, os⟩) t1 xs := a1
    have b2 : Heap.IsTuple (Shared.heap ⟨hp.push { cls := .type "tuple_iterator", data := .fields #[.ref t1, .int 0 0] }, g, d, tk, os⟩) t2 ys := by
      obtain ⟨o, e, r⟩ := a2; exact ⟨o, Heap.get?_push_of_some _ e, r⟩
    wp_walk using wpAny_pyIter_tuple b1, wpAny_pyIter_tuple b2
    exact ⟨_, rfl, a3⟩
theorem call_zipT {t1 t2 : Addr} {xs ys : Array Value} {Q : Value → Shared → Prop} (a1 : s.heap.IsTuple t1 xs) (a2 : s.heap.IsTuple t2 ys)
    (k : ∀ g, IsZip g (s.heap.objs.size + 4) (s.heap.objs.size + 2) (s.heap.objs.size + 3) .none → IsPair g (s.heap.objs.size + 2) (.ref s.heap.objs.size) (.ref (s.heap.objs.size + 1)) → IsPair g (s.heap.objs.size + 3) .none .none →
      g.IsTupleIter s.heap.objs.size t1 0 → g.IsTupleIter (s.heap.objs.size + 1) t2 0 → (∀ c o, s.heap.get? c = some o → g.get? c = some o) → Q (.ref (s.heap.objs.size + 4)) { s with heap := g }) :
    wpAny (model prog w) A (call (.type "zip") [.ref t1, .ref t2]) Q E s := by
  refine callType_new F.called_zip (by decide) (F.typeCall_zip_2 _ _) (F.newCall_zip_2 _ _) (fun ob => F.args_object_init_3 ob _ _) F.entry_zip_new (zipT_new t1 t2 xs ys) ⟨a1, a2, ?_⟩
  have zA : (zHA s.heap t1).objs.size = s.heap.objs.size + 1 := Heap.size_push ..
  have zB : (zHB s.heap t1 t2).objs.size = s.heap.objs.size + 2 := by unfold zHB; rw [Heap.size_push, zA]
  have zC : (zHC s.heap t1 t2).objs.size = s.heap.objs.size + 3 := by unfold zHC; rw [Heap.size_push, zB]
  have zD : (zHD s.heap t1 t2).objs.size = s.heap.objs.size + 4 := by unfold zHD; rw [Heap.size_push, zC]
  have gE : (zHE s.heap t1 t2).get? (zHD s.heap t1 t2).objs.size = some { cls := .type "zip", data := .fields #[.none, .bool false, .bool false, .ref (zHB s.heap t1 t2).objs.size, .ref (zHC s.heap t1 t2).objs.size] } := Heap.get?_push_size _ rfl
  have gD : (zHE s.heap t1 t2).get? (zHC s.heap t1 t2).objs.size = some { cls := .type "tuple", data := .seq #[.none, .none] } := Heap.get?_push_of_some _ (Heap.get?_push_size _ rfl)
  have gC : (zHE s.heap t1 t2).get? (zHB s.heap t1 t2).objs.size = some { cls := .type "tuple", data := .seq #[.ref s.heap.objs.size, .ref (zHA s.heap t1).objs.size] } := Heap.get?_push_of_some _ (Heap.get?_push_of_some _ (Heap.get?_push_size _ rfl))
  have gB : (zHE s.heap t1 t2).get? (zHA s.heap t1).objs.size = some { cls := .type "tuple_iterator", data := .fields #[.ref t2, .int 0 0] } := Heap.get?_push_of_some _ (Heap.get?_push_of_some _ (Heap.get?_push_of_some _ (Heap.get?_push_size _ rfl)))
  have gA : (zHE s.heap t1 t2).get? s.heap.objs.size = some { cls := .type "tuple_iterator", data := .fields #[.ref t1, .int 0 0] } := Heap.get?_push_of_some _ (Heap.get?_push_of_some _ (Heap.get?_push_of_some _ (Heap.get?_push_of_some _ (Heap.get?_push_size _ rfl))))
  rw [zB, zC, zD] at gE; rw [zA, zB] at gC; rw [zC] at gD; rw [zA] at gB
  show _ ∧ _; rw [zD]
  exact ⟨⟨_, gE, rfl⟩, k _ gE gC gD ⟨_, gA, rfl, rfl⟩ ⟨_, gB, rfl, rfl⟩ fun c o q => Heap.get?_push_of_some _ (Heap.get?_push_of_some _ (Heap.get?_push_of_some _ (Heap.get?_push_of_some _ (Heap.get?_push_of_some _ q))))⟩
end
section
variable {X : Cx} {pins : List (Addr × Obj)} {σ : St} {H : Hp} {s : Shared} {h' : Heap}
theorem Inv.turnedL {t' : Nat} {ch : List Addr} (I : Inv X pins σ H s) (k : ∀ b o, b ∉ ch → s.heap.get? b = some o → h'.get? b = some o) (hf : ∀ b ∈ ch, FpOk X pins H b) : Inv X pins σ H { s with heap := h', toks := t' } := by
  have nt : ∀ b u, H b = some u → b ∉ ch := fun b u e hb => by have z := (hf b hb).1; rw [e] at z; cases z
  have nL : X.env.locals ∉ ch := fun hb => (hf _ hb).2.1 rfl
  refine I.step (g' := s.gens) (d' := s.drawn) (ch := ch) (fun b hb => ⟨(hf b hb).2.2.2.1, (hf b hb).2.1, (hf b hb).2.2.2.2.1, (hf b hb).2.2.2.2.2⟩) (fun b o _ _ hc e _ => k b o hc e) (fun b o _ _ hc e _ => ⟨o.slots, k b o hc e⟩) (fun _ _ _ _ n => n) (fun b o hc e => ⟨o, k b o hc e⟩) (fun _ _ e => e) (fun _ _ _ e => e) (fun b ps e => ⟨#[], by rw [e]; simp⟩) (fun m hm => ?_) (fun b u e => ?_) I.bare
  · obtain ⟨o, es, ep, ho, r⟩ := hm; exact ⟨o, es, ep, k _ o nL ho, r⟩
  · refine (I.hok b u e).stay (fun c v hc q => k c v (hc.elim (fun z => by rw [z]; exact nt b u e) fun z => nt c _ z) q) (fun _ q => q) fun _ _ q => q
end
noncomputable def Itz (K : PySem.W.Frag) (t1 t2 : Addr) : It :=
  ⟨fun i H => ∃ xs ys x y, SqT K H t1 xs ∧ SqT K H t2 ys ∧ xs[i]? = some x ∧ ys[i]? = some y,
   fun i H v H' => ∃ x y p, H p = none ∧ v = .ref p ∧ H' = upd H p (.tup [x, y]) ∧ (∀ xs, SqT K H t1 xs → xs[i]? = some x) ∧ ∀ ys, SqT K H t2 ys → ys[i]? = some y,
   fun i H => ∃ xs ys, SqT K H t1 xs ∧ SqT K H t2 ys ∧ (xs.length ≤ i ∨ ys.length ≤ i)⟩
theorem turn_zip {P : Program} {w : World} {K : PySem.W.Frag} {elts : List Expr} {kk : Nat} {ps : Pos} (z TI TO j1 j2 t1 t2 : Addr) (D : ZipApart z TI TO j1 j2 t1 t2) :
    Turn P w K (.Tuple elts kk ps) (Itz K t1 t2) [z, TI, TO, j1, j2] z (fun i h => IsZip h z TI TO .none ∧ IsPair h TI (.ref j1) (.ref j2) ∧ (∃ a b, IsPair h TO a b) ∧ h.IsTupleIter j1 t1 i ∧ h.IsTupleIter j2 t2 i) where
  mem := by simp
  obj := fun i h ⟨c1, c2, ⟨a, b, c3⟩, ⟨o4, c4, _, d4⟩, ⟨o5, c5, _, d5⟩⟩ b hb => by
    simp only [List.mem_cons, List.not_mem_nil, or_false] at hb
    rcases hb with rfl | rfl | rfl | rfl | rfl
    · exact ⟨_, c1, fun v q => nomatch q⟩
    · exact ⟨_, c2, fun v q => nomatch q⟩
    · exact ⟨_, c3, fun v q => nomatch q⟩
    · exact ⟨o4, c4, fun v q => by rw [d4] at q; cases q⟩
    · exact ⟨o5, c5, fun v q => by rw [d5] at q; cases q⟩
  keep := fun i h g ⟨c1, c2, ⟨a, b, c3⟩, c4, c5⟩ k => ⟨k z (by simp) _ c1, k TI (by simp) _ c2, ⟨a, b, k TO (by simp) _ c3⟩, c4.at fun o e => k j1 (by simp) o e, c5.at fun o e => k j2 (by simp) o e⟩
  item := by
    intro X hP hw hK hc i pins s σ H E I hf ⟨c1, c2, ⟨a, b, c3⟩, c4, c5⟩ ⟨xs, ys, x, y, hx, hy, gx, gy⟩
    subst hP hw hK
    obtain ⟨us, ru, pu, zu⟩ := I.tuple hx
    obtain ⟨vs, rv, pv, zv⟩ := I.tuple hy
    obtain ⟨u, eu, xu⟩ := ru.get gx
    obtain ⟨v, ev, yv⟩ := rv.get gy
    refine nextZ_item D c1 c2 c3 c4 c5 (show s.heap.IsTuple t1 us.toArray from pu) (show s.heap.IsTuple t2 vs.toArray from pv) (x := u) (y := v) (by simpa using eu) (by simpa using ev) fun g d1 d2 d3 d4 d5 d6 d7 => ⟨_, rfl, ?_⟩
    have fr : H s.heap.objs.size = none := I.hok.fresh (Nat.le_refl _)
    have ne : ∀ q ∈ [z, TI, TO, j1, j2], q ≠ s.heap.objs.size := fun q hq => by
      simp only [List.mem_cons, List.not_mem_nil, or_false] at hq
      rcases hq with rfl | rfl | rfl | rfl | rfl
      · exact Nat.ne_of_lt (Heap.lt_size c1)
      · exact Nat.ne_of_lt (Heap.lt_size c2)
      · exact Nat.ne_of_lt (Heap.lt_size c3)
      · obtain ⟨o, e, _⟩ := c4; exact Nat.ne_of_lt (Heap.lt_size e)
      · obtain ⟨o, e, _⟩ := c5; exact Nat.ne_of_lt (Heap.lt_size e)
    have I1 : Inv X pins σ (upd H s.heap.objs.size (.tup [x, y])) { s with heap := s.heap.push { cls := .type "tuple", data := .seq #[u, v] }, toks := s.toks } := I.laid (fun b o q => Heap.get?_push_of_some _ q) (Nat.le_refl _) ⟨by show 2 ≤ sizeLine; decide, [u, v], .cons xu (.cons yv .nil), IsTup.new _ _⟩
    have fo : ∀ q ∈ [z, TI, TO, j1, j2], FpOk X pins (upd H s.heap.objs.size (.tup [x, y])) q := fun q hq => ⟨by rw [upd_ne (ne q hq)]; exact (hf q hq).1, (hf q hq).2⟩
    have I2 := I1.turnedL (h' := g) (t' := s.toks) (ch := [z, TI, TO, j1, j2]) (fun q o hq e => by
      simp only [List.mem_cons, List.not_mem_nil, or_false, not_or] at hq
      by_cases hn : q = s.heap.objs.size
      · subst hn
        rw [show (s.heap.push { cls := .type "tuple", data := .seq #[u, v] }).get? s.heap.objs.size = some { cls := .type "tuple", data := .seq #[u, v] } from Heap.get?_push_size _ rfl] at e
        cases e; exact d5
      · refine d7 q o hq.1 hq.2.2.1 hq.2.2.2.1 hq.2.2.2.2 ?_
        rwa [Heap.get?_push_ne _ _ _ hn] at e) fo
    refine wpAny_letOwnedTupleGo_zip (T := s.heap.objs.size) d1 fun g2 y1 y2 => ?_
    have I3 := I2.turnedL (h' := g2) (t' := s.toks) (ch := [z, TI, TO, j1, j2]) (fun q o hq e => y2.extBut q o (fun w => hq (by simp [w])) e) fo
    refine ⟨.ref s.heap.objs.size, _, I3, rfl, ⟨x, y, s.heap.objs.size, fr, rfl, rfl, fun zs hz => by rw [I.tuple_inj hz hx]; exact gx, fun zs hz => by rw [I.tuple_inj hz hy]; exact gy⟩, ?_, fun q hq => (fo q hq).1⟩
    exact ⟨y1, y2.extBut _ _ D.TIz (d7 _ _ D.TIz D.TITO D.TIi1 D.TIi2 c2), ⟨_, _, y2.extBut _ _ D.TOz d2⟩, d3.extBut y2.extBut D.i1z, d4.extBut y2.extBut D.i2z⟩
  done := by
    intro X hP hw hK hc i pins s σ H E I hf ⟨c1, c2, ⟨a, b, c3⟩, c4, c5⟩ ⟨xs, ys, hx, hy, fin⟩
    subst hP hw hK
    obtain ⟨us, ru, pu, zu⟩ := I.tuple hx
    obtain ⟨vs, rv, pv, zv⟩ := I.tuple hy
    have lu := ru.length; have lv := rv.length
    refine nextZ_end (I.ok.hd hc) D c1 c2 c3 c4 c5 (show s.heap.IsTuple t1 us.toArray from pu) (show s.heap.IsTuple t2 vs.toArray from pv) (by rcases fin with q | q; (left; simp; omega); (right; simp; omega)) fun g kp => ⟨rfl, I.turnedL (t' := s.toks) (ch := [z, TI, TO, j1, j2]) (fun q o hq e => ?_) hf⟩
    simp only [List.mem_cons, List.not_mem_nil, or_false, not_or] at hq
    exact kp q o hq.1 hq.2.2.1 hq.2.2.2.1 hq.2.2.2.2 e
  self := fun _ _ _ _ _ ⟨c1, _⟩ h => by
    have ty : Shared.TypeIs _ (.ref z) "zip" := ⟨_, c1, rfl⟩
    exact wpAny_pyIter_slot ty F.slot_zip_iter (wpAny_call_entry F.slot_zip_iter ty F.entry_zip_iter (wpAny_pure ⟨_, rfl, "zip", _, ty, F.slot_zip_next.lookup, h⟩) (F.args_zip_iter_1 _))
section
variable {X : Cx} {a b : Expr} {ta : TA} {elts : List Expr} {kk : Nat} {ps p pos : Pos}
noncomputable def iZip (K : PySem.W.Frag) (ta : TA) : TI := fun σ H R => ta σ H fun vs H1 => ∃ t1 t2 xs ys, vs = [.ref t1, .ref t2] ∧ SqT K H1 t1 xs ∧ SqT K H1 t2 ys ∧ R (Itz K t1 t2) H1
theorem pi_zip (hg : Gl X "zip") (hm : X.mg "zip" = none) (ha : PA X [a, b] ta) (hs : starEach [a, b] X.env = [(false, eval a X.env), (false, eval b X.env)] := by rfl) (hs2 : starEach [b] X.env = [(false, eval b X.env)] := by rfl) :
    PI X (.Tuple elts kk ps) (.Call (.Name "zip" p) [a, b] [] pos) (iZip X.K ta) := by
  intro pins s σ H R I h
  have fin : ∀ us s1, (∃ vs H1, Inv X pins σ H1 s1 ∧ Vals vs us ∧ ∃ t1 t2 xs ys, vs = [.ref t1, .ref t2] ∧ SqT X.K H1 t1 xs ∧ SqT X.K H1 t2 ys ∧ R (Itz X.K t1 t2) H1) →
      wpAny (model X.prog X.w) X.A (call (.type "zip") us) (fun v s2 => wpAny (model X.prog X.w) X.A (pyIter v) (PIE X pins σ (.Tuple elts kk ps) R) X.xe s2) X.xe s1 := by
    rintro us s1 ⟨vs, H1, I1, r, t1, t2, xs, ys, rfl, hx, hy, q⟩
    obtain ⟨u1, u2, rfl, e1, e2⟩ := vals2 r
    cases e1; cases e2
    obtain ⟨zs, ru, pu, zu⟩ := I1.tuple hx
    obtain ⟨ws, rv, pv, zv⟩ := I1.tuple hy
    have l1 : t1 < s1.heap.objs.size := by obtain ⟨o, e, _⟩ := pu; exact Heap.lt_size e
    have l2 : t2 < s1.heap.objs.size := by obtain ⟨o, e, _⟩ := pv; exact Heap.lt_size e
    refine call_zipT (show s1.heap.IsTuple t1 zs.toArray from pu) (show s1.heap.IsTuple t2 ws.toArray from pv) fun g c1 c2 c3 c4 c5 kp => ?_
    have I2 : Inv X pins σ H1 { s1 with heap := g, toks := s1.toks } := I1.kept kp
    have T := turn_zip (P := X.prog) (w := X.w) (K := X.K) (elts := elts) (kk := kk) (ps := ps) (s1.heap.objs.size + 4) (s1.heap.objs.size + 2) (s1.heap.objs.size + 3) s1.heap.objs.size (s1.heap.objs.size + 1) t1 t2 (zipApart_new l1 l2)
    refine T.self X.A 0 _ _ _ ⟨c1, c2, ⟨_, _, c3⟩, c4, c5⟩ ⟨_, _, _, _, H1, rfl, I2, T, ⟨c1, c2, ⟨_, _, c3⟩, c4, c5⟩, fun d hd => ?_, q⟩
    have big : s1.heap.objs.size ≤ d := by
      simp only [List.mem_cons, List.not_mem_nil, or_false] at hd
      rcases hd with rfl | rfl | rfl | rfl | rfl
      · exact Nat.le_add_right _ _
      · exact Nat.le_add_right _ _
      · exact Nat.le_add_right _ _
      · exact Nat.le_refl _
      · exact Nat.le_add_right _ _
    exact I1.fpOk big (I1.hok.fresh big)
  exact Call_ (ld_blt I hg hm boot_zip (PyProof.Rows.callWith_type1 (thn (ha pos pins s σ H _ I h) fun us s1 ⟨vs, H1, I1, r1, q1⟩ => fin us s1 ⟨vs, H1, I1, r1, q1⟩) (by rw [hs, hs2]) (by rw [hs2]; rfl)))
end
section
variable {X : Cx}
noncomputable def rAll : List V → Hp → VK → Prop := fun vs H Q => ∃ (l : Addr) (bs : List Bool), vs = [.ref l] ∧ H l = some (.lst (bs.map V.bl)) ∧ Q (.bl (bs.all id)) H
theorem all_range (bs : List Bool) : (List.range bs.length).all (fun i => (bs[i]?).getD false) = bs.all id := by
  rw [Bool.eq_iff_iff, List.all_eq_true, List.all_eq_true]
  constructor
  · intro h b hb
    obtain ⟨i, hi⟩ := List.getElem?_of_mem hb
    have := h i (List.mem_range.mpr (List.getElem?_eq_some_iff.mp hi).1)
    rw [hi] at this
    exact this
  · intro h i hi
    have hi := List.mem_range.mp hi
    rw [List.getElem?_eq_getElem hi]
    exact h _ (List.getElem_mem _)
theorem call_all (hc : X.calm = true) : CallR X (.builtin "all") rAll := by
  intro pins s σ H xs us Q I r h
  obtain ⟨l, bs, rfl, hl, q⟩ := h
  obtain ⟨u, rfl, ru⟩ := vals1 r
  cases ru
  obtain ⟨z, its, n, rr, hn, e⟩ := I.lstM hl
  have ei := vals_bl rr
  subst ei
  have il : s.heap.IsList l (bs.map Value.bool).toArray := ⟨_, e, rfl, n, rfl⟩
  have lt : l < s.heap.objs.size := Heap.lt_size e
  refine call_all_walk (wpAny_pyIter_list il ?_)
  refine ⟨s.heap.objs.size, _, _, _, _, _, fun i => (bs[i]?).getD false, rfl, Walks.list (show X.A.in1.handled = none from I.ok.hd hc) s.heap.objs.size l (Nat.ne_of_lt lt) (bs.map Value.bool).toArray, ⟨⟨_, Heap.get?_push_size _ rfl, rfl, rfl⟩, ?_⟩, fun i v s' Q' E' hv hq => ?_, fun g tk kp => ?_⟩
  · exact ⟨_, Heap.get?_push_of_some _ e, rfl, n, rfl⟩
  · have hv' : (bs[i]?).map Value.bool = some v := by simpa using hv
    cases hb : bs[i]? with
    | none => rw [hb] at hv'; cases hv'
    | some b =>
      have hq : Q' ((bs[i]?).getD false) s' := hq
      rw [hb] at hv' hq
      cases hv'
      exact wpAny_truthy_bool hq
  · have e2 : (bs.map Value.bool).toArray.size = bs.length := by simp
    rw [e2, all_range]
    exact ⟨.bl _, H, I.kept (t' := tk) fun b o q => kp b o (by have := Heap.lt_size q; simp; exact Nat.ne_of_lt this) (Heap.get?_push_of_some _ q), rfl, q⟩
end
end L2
set_option linter.all false
set_option maxHeartbeats 4000000
namespace MM
noncomputable def Cg (n a b : Int) : Prop := n ∣ a - b
theorem Cg.refl (n a : Int) : Cg n a a := ⟨0, by omega⟩
theorem Cg.symm {n a b : Int} (h : Cg n a b) : Cg n b a := by
  obtain ⟨k, h⟩ := h; exact ⟨-k, by grind⟩
theorem Cg.trans {n a b c : Int} (h : Cg n a b) (g : Cg n b c) : Cg n a c := by
  obtain ⟨k, h⟩ := h; obtain ⟨l, g⟩ := g; exact ⟨k + l, by grind⟩
theorem Cg.mul {n a b c d : Int} (h : Cg n a b) (g : Cg n c d) : Cg n (a * c) (b * d) := by
  obtain ⟨k, h⟩ := h; obtain ⟨l, g⟩ := g; exact ⟨a * l + d * k, by grind⟩
theorem Cg.add {n a b c d : Int} (h : Cg n a b) (g : Cg n c d) : Cg n (a + c) (b + d) := by
  obtain ⟨k, h⟩ := h; obtain ⟨l, g⟩ := g; exact ⟨k + l, by grind⟩
theorem Cg.sub {n a b c d : Int} (h : Cg n a b) (g : Cg n c d) : Cg n (a - c) (b - d) := by
  obtain ⟨k, h⟩ := h; obtain ⟨l, g⟩ := g; exact ⟨k - l, by grind⟩
theorem Cg.pow {n a b : Int} (h : Cg n a b) (k : Nat) : Cg n (a ^ k) (b ^ k) := by
  induction k with
  | zero => rw [Int.pow_zero, Int.pow_zero]; exact Cg.refl _ _
  | succ k ih => rw [Int.pow_succ, Int.pow_succ]; exact ih.mul h
theorem cg_mod (n a : Int) : Cg n (a % n) a := ⟨-(a / n), by have := Int.emod_add_mul_ediv a n; grind⟩
theorem cg_eq {n a b : Int} (h : Cg n a b) : a % n = b % n := Int.emod_eq_emod_iff_emod_sub_eq_zero.mpr (Int.emod_eq_zero_of_dvd h)
theorem cg_of {n a b : Int} (h : a % n = b % n) : Cg n a b := Int.dvd_of_emod_eq_zero (Int.emod_eq_emod_iff_emod_sub_eq_zero.mp h)
theorem cg_self {n a b : Int} (h : Cg n a b) (h0 : 0 ≤ a) (h1 : a < n) : a = b % n := by
  have := cg_eq h; rw [Int.emod_eq_of_lt h0 h1] at this; exact this
structure PowInv (base often n done square left : Int) : Prop where
  d0 : 0 ≤ done
  d1 : done < n
  s0 : 0 ≤ square
  s1 : square < n
  l0 : 0 ≤ left
  cg : Cg n (done * square ^ left.toNat) (base ^ often.toNat)
theorem pow_start {base often n : Int} (hn : 0 < n) (ho : 0 ≤ often) : PowInv base often n (1 % n) (base % n) often :=
  ⟨Int.emod_nonneg _ (by omega), Int.emod_lt_of_pos _ hn, Int.emod_nonneg _ (by omega), Int.emod_lt_of_pos _ hn, ho, by
    have := (cg_mod n 1).mul ((cg_mod n base).pow often.toNat)
    rwa [Int.one_mul] at this⟩
theorem sq_pow (a : Int) (k : Nat) : (a * a) ^ k = a ^ (2 * k) := by
  induction k with
  | zero => simp
  | succ k ih => rw [Int.pow_succ, ih, show 2 * (k + 1) = 2 * k + 1 + 1 by omega, Int.pow_succ, Int.pow_succ, Int.mul_assoc]
theorem pow_even {base often n done square left : Int} (hn : 0 < n) (h : PowInv base often n done square left) (hl : left % 2 ≠ 1) : PowInv base often n done (square * square % n) (left / 2) := by
  refine ⟨h.d0, h.d1, Int.emod_nonneg _ (by omega), Int.emod_lt_of_pos _ hn, by have := h.l0; omega, ?_⟩
  have e : left.toNat = 2 * (left / 2).toNat := by have := h.l0; omega
  have := (Cg.refl n done).mul ((cg_mod n (square * square)).pow (left / 2).toNat)
  refine this.trans ?_
  rw [sq_pow, ← e]; exact h.cg
theorem pow_odd {base often n done square left : Int} (hn : 0 < n) (h : PowInv base often n done square left) (hl : left % 2 = 1) : PowInv base often n (done * square % n) (square * square % n) (left / 2) := by
  refine ⟨Int.emod_nonneg _ (by omega), Int.emod_lt_of_pos _ hn, Int.emod_nonneg _ (by omega), Int.emod_lt_of_pos _ hn, by have := h.l0; omega, ?_⟩
  have e : left.toNat = 2 * (left / 2).toNat + 1 := by have := h.l0; omega
  have := (cg_mod n (done * square)).mul ((cg_mod n (square * square)).pow (left / 2).toNat)
  refine this.trans ?_
  have e2 : done * square * (square * square) ^ (left / 2).toNat = done * square ^ left.toNat := by
    rw [e, sq_pow, Int.pow_succ]; grind
  rw [e2]; exact h.cg
theorem pow_end {base often n done square left : Int} (h : PowInv base often n done square left) (hl : ¬ 0 < left) : done = base ^ often.toNat % n := by
  have e : left.toNat = 0 := by omega
  have c := h.cg
  rw [e, Int.pow_zero, Int.mul_one] at c
  exact cg_self c h.d0 h.d1
structure GcdInv (a b great small : Int) : Prop where
  g0 : 0 ≤ great
  s0 : 0 ≤ small
  gb : great ≤ a.natAbs ∨ great ≤ b.natAbs
  sb : small ≤ b.natAbs
  gc : Nat.gcd great.toNat small.toNat = Int.gcd a b
structure UndInv (a n great gt small st : Int) : Prop where
  g0 : 0 < great
  g1 : great ≤ n
  s0 : 0 ≤ small
  s1 : small ≤ n
  cg : Cg n great (gt * a)
  cs : Cg n small (st * a)
  gc : Nat.gcd great.toNat small.toNat = Int.gcd a n
  bd : great * st.natAbs + small * gt.natAbs ≤ n
noncomputable def Undo (a n v : Int) : Prop := 0 ≤ v ∧ v < n ∧ Cg n (v * a) 1
noncomputable def IsPr (n : Int) : Prop := 2 ≤ n ∧ ∀ d, 2 ≤ d → d * d ≤ n → n % d ≠ 0
noncomputable def isPrB (n : Int) : Bool := @decide (IsPr n) (Classical.propDecidable _)
theorem isPrB_iff {n : Int} : isPrB n = true ↔ IsPr n := by unfold isPrB; exact @decide_eq_true_iff _ (Classical.propDecidable _)
theorem isPrB_of {n : Int} (h : IsPr n) : isPrB n = true := isPrB_iff.mpr h
theorem isPrB_not {n : Int} (h : ¬ IsPr n) : isPrB n = false := by
  cases e : isPrB n with
  | false => rfl
  | true => exact absurd (isPrB_iff.mp e) h
theorem sq_mono {a b : Int} (h0 : 0 ≤ a) (h : a ≤ b) : a * a ≤ b * b := Int.mul_le_mul h h h0 (by omega)
theorem pr_all {n : Int} (h : IsPr n) {d : Int} (h2 : 2 ≤ d) (hd : d < n) : n % d ≠ 0 := by
  intro e
  by_cases hs : d * d ≤ n
  · exact h.2 d h2 hs e
  · obtain ⟨k, hk⟩ := Int.dvd_of_emod_eq_zero e
    have n2 := h.1
    have k1 : 0 < k := by
      by_cases hk0 : 0 < k
      · exact hk0
      · have : d * k ≤ 0 := Int.mul_nonpos_of_nonneg_of_nonpos (by omega) (by omega)
        omega
    have k2 : 2 ≤ k := by
      by_cases k2 : 2 ≤ k
      · exact k2
      · have : k = 1 := by omega
        subst this
        omega
    have kd : k < d := by
      by_cases kd : k < d
      · exact kd
      · have := Int.mul_le_mul_of_nonneg_left (show d ≤ k by omega) (show 0 ≤ d by omega)
        omega
    refine h.2 k k2 ?_ ?_
    · have := Int.mul_le_mul_of_nonneg_right (show k ≤ d by omega) (show 0 ≤ k by omega)
      omega
    · rw [hk, Int.mul_emod_left]
theorem pr_dvd {n : Int} (h : IsPr n) {d : Int} (h2 : 2 ≤ d) (hd : d ∣ n) : d = n := by
  have n2 := h.1
  have hle : d ≤ n := Int.le_of_dvd (by omega) hd
  by_cases e : d = n
  · exact e
  · exact absurd (Int.emod_eq_zero_of_dvd hd) (pr_all h h2 (by omega))
theorem pr_coprime {p : Nat} (h : IsPr p) {k : Nat} (hk : ¬ p ∣ k) : Nat.Coprime p k := by
  have hg : Nat.gcd p k = 1 := by
    have hd := Nat.gcd_dvd_left p k
    have p2 := h.1
    by_cases g2 : 2 ≤ Nat.gcd p k
    · have : ((Nat.gcd p k : Nat) : Int) = p := pr_dvd h (by omega) (Int.natCast_dvd_natCast.mpr hd)
      have e : Nat.gcd p k = p := by omega
      exact absurd (e ▸ Nat.gcd_dvd_right p k) hk
    · have : 0 < Nat.gcd p k := Nat.gcd_pos_of_pos_left _ (by omega)
      omega
  exact hg
theorem pr_euclid {p : Nat} (h : IsPr p) {a b : Nat} (hd : p ∣ a * b) (ha : ¬ p ∣ a) : p ∣ b := (pr_coprime h ha).dvd_of_dvd_mul_left hd
noncomputable def ch : Nat → Nat → Nat
  | _, 0 => 1
  | 0, _ + 1 => 0
  | n + 1, k + 1 => ch n k + ch n (k + 1)
theorem ch_zero (n : Nat) : ch n 0 = 1 := by cases n <;> rfl
theorem ch_succ (n k : Nat) : ch (n + 1) (k + 1) = ch n k + ch n (k + 1) := rfl
theorem ch_above : ∀ (n k : Nat), n < k → ch n k = 0
  | 0, k + 1, _ => rfl
  | n + 1, k + 1, h => by rw [ch_succ, ch_above n k (by omega), ch_above n (k + 1) (by omega)]
theorem ch_self : ∀ n, ch n n = 1
  | 0 => rfl
  | n + 1 => by rw [ch_succ, ch_self n, ch_above n (n + 1) (by omega)]
theorem ch_mul (n : Nat) : ∀ k, (k + 1) * ch (n + 1) (k + 1) = (n + 1) * ch n k := by
  induction n with
  | zero =>
    intro k
    cases k with
    | zero => rfl
    | succ k => rw [ch_above 1 (k + 2) (by omega), ch_above 0 (k + 1) (by omega)]; omega
  | succ n ih =>
    intro k
    rw [ch_succ (n + 1) k, Nat.mul_add, ih k]
    cases k with
    | zero => rw [ch_zero, ch_zero]; omega
    | succ j =>
      have := ih j
      have e := ch_succ n j
      rw [e] at this ⊢
      grind
noncomputable def bi (a : Int) (n : Nat) : Nat → Int
  | 0 => 0
  | m + 1 => bi a n m + (ch n m : Int) * a ^ m
theorem bi_step (a : Int) (n : Nat) : ∀ m, bi a (n + 1) (m + 1) = bi a n (m + 1) + a * bi a n m
  | 0 => by simp [bi, ch_zero]
  | m + 1 => by
    rw [show bi a (n + 1) (m + 1 + 1) = bi a (n + 1) (m + 1) + (ch (n + 1) (m + 1) : Int) * a ^ (m + 1) from rfl, bi_step a n m, ch_succ,
      show bi a n (m + 1 + 1) = bi a n (m + 1) + (ch n (m + 1) : Int) * a ^ (m + 1) from rfl, show bi a n (m + 1) = bi a n m + (ch n m : Int) * a ^ m from rfl, Int.pow_succ, Int.natCast_add]
    grind
theorem bi_all (a : Int) : ∀ n : Nat, (a + 1) ^ n = bi a n (n + 1)
  | 0 => by simp [bi, ch_zero]
  | n + 1 => by
    rw [bi_step, show bi a n (n + 1 + 1) = bi a n (n + 1) + (ch n (n + 1) : Int) * a ^ (n + 1) from rfl, ch_above n (n + 1) (by omega), Int.pow_succ, bi_all a n]
    grind
theorem pr_ch {p : Nat} (h : IsPr p) {k : Nat} (h0 : 0 < k) (hk : k < p) : p ∣ ch p k := by
  obtain ⟨n, rfl⟩ : ∃ n, p = n + 1 := ⟨p - 1, by omega⟩
  obtain ⟨j, rfl⟩ : ∃ j, k = j + 1 := ⟨k - 1, by omega⟩
  refine pr_euclid h (a := j + 1) ⟨ch n j, ch_mul n j⟩ fun hd => ?_
  have := Nat.le_of_dvd (by omega) hd
  omega
theorem bi_pr {p : Nat} (h : IsPr p) (a : Int) : ∀ m, m < p → Cg p (bi a p (m + 1)) 1
  | 0, _ => by
    have : bi a p 1 = 1 := by simp [bi, ch_zero]
    rw [this]; exact Cg.refl _ _
  | m + 1, hm => by
    have h1 := bi_pr h a m (by omega)
    obtain ⟨c, hc⟩ := pr_ch h (k := m + 1) (by omega) hm
    have h2 : Cg p ((ch p (m + 1) : Int) * a ^ (m + 1)) 0 := ⟨c * a ^ (m + 1), by rw [hc, Int.natCast_mul]; grind⟩
    have := h1.add h2
    rwa [Int.add_zero] at this
theorem fermat_nat {p : Nat} (h : IsPr p) : ∀ a : Nat, Cg p ((a : Int) ^ p) a
  | 0 => by
    have p2 := h.1
    have : ((0 : Nat) : Int) ^ p = 0 := Int.zero_pow (by omega)
    rw [this]; exact Cg.refl _ _
  | a + 1 => by
    have ih := fermat_nat h a
    have p2 := h.1
    obtain ⟨n, hn⟩ : ∃ n, p = n + 1 := ⟨p - 1, by omega⟩
    have e : ((a + 1 : Nat) : Int) ^ p = bi a p p + (a : Int) ^ p := by
      rw [Int.natCast_add, show ((1 : Nat) : Int) = 1 from rfl, bi_all, show bi (a : Int) p (p + 1) = bi a p p + (ch p p : Int) * (a : Int) ^ p from rfl, ch_self]
      grind
    have e2 := bi_pr h a n (by omega)
    rw [← hn] at e2
    rw [e]
    have := e2.add ih
    rwa [Int.add_comm 1] at this
theorem fermat {p : Int} (h : IsPr p) (a : Int) : Cg p (a ^ p.toNat) a := by
  have p2 := h.1
  obtain ⟨q, rfl⟩ := Int.eq_ofNat_of_zero_le (show 0 ≤ p by omega)
  have h1 := fermat_nat h (a % q).toNat
  have e : (((a % (q : Int)).toNat : Nat) : Int) = a % q := Int.toNat_of_nonneg (Int.emod_nonneg _ (by omega))
  rw [e] at h1
  rw [Int.toNat_natCast]
  exact ((cg_mod (q : Int) a).symm.pow q).trans (h1.trans (cg_mod _ a))
end MM
set_option linter.all false
set_option maxHeartbeats 4000000
namespace MM
noncomputable def prod : List (Int × Int) → Int
  | [] => 1
  | q :: r => q.1 ^ q.2.toNat * prod r
theorem prod_append (l r : List (Int × Int)) : prod (l ++ r) = prod l * prod r := by
  induction l with
  | nil => simp [prod]
  | cons q l ih => rw [List.cons_append, prod, prod, ih, Int.mul_assoc]
structure PartsOk (l : List (Int × Int)) : Prop where
  pr : ∀ q ∈ l, IsPr q.1 ∧ 1 ≤ q.2
  up : l.Pairwise fun a b => a.1 < b.1
noncomputable def Parts (n : Int) (l : List (Int × Int)) : Prop := PartsOk l ∧ prod l = n
theorem pow_pos' {p : Int} (h : 1 ≤ p) (k : Nat) : 1 ≤ p ^ k := by
  induction k with
  | zero => simp
  | succ k ih =>
    rw [Int.pow_succ]
    have := Int.mul_le_mul_of_nonneg_right ih (show 0 ≤ p by omega)
    omega
theorem two_le_pow {p : Int} (h : 2 ≤ p) {k : Nat} (hk : 1 ≤ k) : 2 ≤ p ^ k := by
  obtain ⟨j, rfl⟩ : ∃ j, k = j + 1 := ⟨k - 1, by omega⟩
  rw [Int.pow_succ]
  have h1 := pow_pos' (show 1 ≤ p by omega) j
  have := Int.mul_le_mul_of_nonneg_right h1 (show 0 ≤ p by omega)
  omega
theorem prod_ge {l : List (Int × Int)} (h : ∀ q ∈ l, IsPr q.1 ∧ 1 ≤ q.2) : (2 : Int) ^ l.length ≤ prod l := by
  induction l with
  | nil => simp [prod]
  | cons q l ih =>
    have h1 := ih fun x hx => h x (List.mem_cons_of_mem _ hx)
    have h2 := h q List.mem_cons_self
    have h3 : 2 ≤ q.1 ^ q.2.toNat := two_le_pow h2.1.1 (by omega)
    rw [List.length_cons, Int.pow_succ, prod, Int.mul_comm]
    exact Int.mul_le_mul h3 h1 (Int.pow_nonneg (by decide)) (by omega)
theorem parts_len {l : List (Int × Int)} (h : ∀ q ∈ l, IsPr q.1 ∧ 1 ≤ q.2) (hn : prod l ≤ 10 ^ 9) : l.length < 30 := by
  refine Classical.byContradiction fun hc => ?_
  have h1 := prod_ge h
  have h2 : (2 : Int) ^ 30 ≤ 2 ^ l.length := by
    obtain ⟨k, hk⟩ : ∃ k, l.length = 30 + k := ⟨l.length - 30, by omega⟩
    rw [hk, Int.pow_add]
    have := pow_pos' (show (1 : Int) ≤ 2 by decide) k
    have := Int.mul_le_mul_of_nonneg_left this (show (0 : Int) ≤ 2 ^ 30 by decide)
    omega
  have h3 : (2 : Int) ^ 30 = 1073741824 := by decide
  omega
theorem prod_pos {l : List (Int × Int)} (h : ∀ q ∈ l, IsPr q.1 ∧ 1 ≤ q.2) : 1 ≤ prod l := by
  have := prod_ge h
  have := pow_pos' (show (1 : Int) ≤ 2 by decide) l.length
  omega
structure DivInv (l0 t left o : Int) : Prop where
  l1 : 1 ≤ left
  o0 : 0 ≤ o
  eq : l0 = left * t ^ o.toNat
theorem div_start {l0 t : Int} (h : 1 ≤ l0) : DivInv l0 t l0 0 := ⟨h, Int.le_refl _, by simp⟩
theorem div_turn {l0 t left o : Int} (ht : 2 ≤ t) (h : DivInv l0 t left o) (hd : left % t = 0) : DivInv l0 t (left / t) (o + 1) ∧ left / t < left := by
  have l1 := h.l1
  obtain ⟨k, hk⟩ := Int.dvd_of_emod_eq_zero hd
  have e : left / t = k := by rw [hk, Int.mul_ediv_cancel_left _ (by omega)]
  have k1 : 1 ≤ k := by
    refine Classical.byContradiction fun hc => ?_
    have : t * k ≤ 0 := Int.mul_nonpos_of_nonneg_of_nonpos (by omega) (by omega)
    omega
  rw [e]
  have o0 := h.o0
  refine ⟨⟨k1, by omega, ?_⟩, ?_⟩
  · have e2 : (o + 1).toNat = o.toNat + 1 := by omega
    rw [h.eq, e2, Int.pow_succ, hk]
    grind
  · have := Int.mul_le_mul_of_nonneg_right ht (show 0 ≤ k by omega)
    omega
theorem div_le {l0 t left o : Int} (ht : 2 ≤ t) (h : DivInv l0 t left o) : left ≤ l0 := by
  have := pow_pos' (show 1 ≤ t by omega) o.toNat
  have l1 := h.l1
  have := Int.mul_le_mul_of_nonneg_left this (show 0 ≤ left by omega)
  have e := h.eq
  omega
theorem div_dvd {l0 t left o : Int} (h : DivInv l0 t left o) : left ∣ l0 := ⟨t ^ o.toNat, h.eq⟩
theorem not_dvd_of {a b d : Int} (h : a ∣ b) (hb : b % d ≠ 0) : a % d ≠ 0 := fun e => hb (Int.emod_eq_zero_of_dvd (Int.dvd_trans (Int.dvd_of_emod_eq_zero e) h))
noncomputable def LpEnd (n s r : Int) : Prop := (r = n ∧ ∀ d, s ≤ d → d * d ≤ n → n % d ≠ 0) ∨ (s ≤ r ∧ r * r ≤ n ∧ n % r = 0 ∧ ∀ d, s ≤ d → d < r → n % d ≠ 0)
theorem lp_next {n s r : Int} (hn : 1 < n) (hs : 2 ≤ s) (hb : ∀ d, 2 ≤ d → d < s → n % d ≠ 0) (h : LpEnd n s r) : IsPr r ∧ s ≤ r ∧ r ≤ n ∧ n % r = 0 ∧ ∀ d, 2 ≤ d → d < r → n % d ≠ 0 := by
  have sn : s ≤ n := by
    refine Classical.byContradiction fun hc => hb n (by omega) (by omega) (Int.emod_self ..)
  have pr_of : ∀ r, 2 ≤ r → n % r = 0 → (∀ d, 2 ≤ d → d < r → n % d ≠ 0) → IsPr r := fun r h2 hd ha => ⟨h2, fun d d2 dd e => by
    have dr : d < r := by
      have := Int.mul_le_mul_of_nonneg_right d2 (show 0 ≤ d by omega)
      omega
    exact ha d d2 dr (Int.emod_eq_zero_of_dvd (Int.dvd_trans (Int.dvd_of_emod_eq_zero e) (Int.dvd_of_emod_eq_zero hd)))⟩
  rcases h with ⟨rfl, h⟩ | ⟨h1, h2, h3, h4⟩
  · have p : IsPr r := ⟨by omega, fun d d2 dd => by
      by_cases ds : d < s
      · exact hb d d2 ds
      · exact h d (by omega) dd⟩
    exact ⟨p, sn, Int.le_refl _, Int.emod_self .., fun d d2 dr => pr_all p d2 dr⟩
  · have all : ∀ d, 2 ≤ d → d < r → n % d ≠ 0 := fun d d2 dr => by
      by_cases ds : d < s
      · exact hb d d2 ds
      · exact h4 d (by omega) dr
    refine ⟨pr_of r (by omega) h3 all, h1, ?_, h3, all⟩
    exact Int.le_of_dvd (by omega) (Int.dvd_of_emod_eq_zero h3)
structure PtInv (n : Int) (l : List (Int × Int)) (left t : Int) : Prop where
  l1 : 1 ≤ left
  t2 : 2 ≤ t
  eq : n = prod l * left
  lo : ∀ d, 2 ≤ d → d < t → left % d ≠ 0
  ok : PartsOk l
  le : ∀ q ∈ l, q.1 ≤ t ∧ left % q.1 ≠ 0
theorem pt_start {n : Int} (h : 1 ≤ n) : PtInv n [] n 2 := ⟨h, by omega, by simp [prod], fun d a b => by omega, ⟨fun _ h => (by cases h), List.Pairwise.nil⟩, fun _ h => (by cases h)⟩
theorem pt_le {n : Int} {l : List (Int × Int)} {left t : Int} (h : PtInv n l left t) : left ≤ n := by
  have p := prod_pos h.ok.pr
  have l1 := h.l1
  have := Int.mul_le_mul_of_nonneg_right p (show 0 ≤ left by omega)
  have e := h.eq
  omega
theorem pt_turn {n : Int} {l : List (Int × Int)} {left t r left' o : Int} (h : PtInv n l left t) (pr : IsPr r) (tr : t ≤ r) (rd : left % r = 0) (ra : ∀ d, 2 ≤ d → d < r → left % d ≠ 0) (D : DivInv left r left' o) (hd : left' % r ≠ 0) : PtInv n (l ++ [(r, o)]) left' r ∧ 1 ≤ o ∧ left' < left := by
  have o1 : 1 ≤ o := by
    refine Classical.byContradiction fun hc => ?_
    have o0 := D.o0
    have : o = 0 := by omega
    subst this
    have e := D.eq
    simp at e
    rw [← e] at hd
    exact hd rd
  have lt : left' < left := by
    have h2 := two_le_pow pr.1 (show 1 ≤ o.toNat by omega)
    have l1 := D.l1
    have := Int.mul_le_mul_of_nonneg_left h2 (show 0 ≤ left' by omega)
    have e := D.eq
    omega
  refine ⟨⟨D.l1, pr.1, ?_, fun d a b => not_dvd_of (div_dvd D) (ra d a b), ⟨?_, ?_⟩, ?_⟩, o1, lt⟩
  · rw [prod_append, h.eq, D.eq]; simp only [prod]; grind
  · intro q hq
    rcases List.mem_append.mp hq with hq | hq
    · exact h.ok.pr q hq
    · rw [List.mem_singleton.mp hq]; exact ⟨pr, o1⟩
  · rw [List.pairwise_append]
    refine ⟨h.ok.up, List.pairwise_singleton .., fun a ha b hb => ?_⟩
    rw [List.mem_singleton.mp hb]
    have ⟨a1, a2⟩ := h.le a ha
    refine Classical.byContradiction fun hc => ?_
    have : a.1 = r := by
      show a.1 = r
      have : ¬ a.1 < r := hc
      omega
    rw [this] at a2
    exact a2 rd
  · intro q hq
    rcases List.mem_append.mp hq with hq | hq
    · have ⟨a1, a2⟩ := h.le q hq
      exact ⟨by omega, not_dvd_of (div_dvd D) a2⟩
    · rw [List.mem_singleton.mp hq]; exact ⟨Int.le_refl _, hd⟩
theorem pt_end {n : Int} {l : List (Int × Int)} {left t : Int} (h : PtInv n l left t) (he : ¬ 1 < left) : Parts n l := by
  have l1 := h.l1
  have : left = 1 := by omega
  refine ⟨h.ok, ?_⟩
  rw [h.eq, this, Int.mul_one]
theorem parts_prime {n : Int} {l : List (Int × Int)} (h : Parts n l) : l = [(n, 1)] ↔ IsPr n := by
  constructor
  · intro e
    have := h.1.pr (n, 1) (by rw [e]; simp)
    exact this.1
  · intro hp
    obtain ⟨ok, e⟩ := h
    have n2 := hp.1
    cases l with
    | nil => simp [prod] at e; omega
    | cons q r =>
      have h1 := ok.pr q List.mem_cons_self
      have q2 := h1.1.1
      have hr := prod_pos (l := r) fun x hx => ok.pr x (List.mem_cons_of_mem _ hx)
      have hdv : q.1 ∣ n := by
        obtain ⟨j, hj⟩ : ∃ j, q.2.toNat = j + 1 := ⟨q.2.toNat - 1, by omega⟩
        refine ⟨q.1 ^ j * prod r, ?_⟩
        rw [← e, prod, hj, Int.pow_succ]; grind
      have qn := pr_dvd hp q2 hdv
      obtain ⟨j, hj⟩ : ∃ j, q.2.toNat = j + 1 := ⟨q.2.toNat - 1, by omega⟩
      have e2 : n * (n ^ j * prod r) = n * 1 := by
        rw [Int.mul_one]
        conv => rhs; rw [← e]
        rw [prod, hj, qn, Int.pow_succ]; grind
      have e3 : n ^ j * prod r = 1 := Int.eq_of_mul_eq_mul_left (by omega) e2
      have p1 := pow_pos' (show 1 ≤ n by omega) j
      have hpr : prod r = 1 := by
        have := Int.mul_le_mul_of_nonneg_right p1 (show 0 ≤ prod r by omega)
        omega
      have j0 : j = 0 := by
        refine Classical.byContradiction fun hc => ?_
        have := two_le_pow hp.1 (show 1 ≤ j by omega)
        rw [hpr] at e3
        omega
      have r0 : r = [] := by
        have g := prod_ge (l := r) fun x hx => ok.pr x (List.mem_cons_of_mem _ hx)
        rw [hpr] at g
        cases r with
        | nil => rfl
        | cons y z =>
          rw [List.length_cons, Int.pow_succ] at g
          have := pow_pos' (show (1 : Int) ≤ 2 by decide) z.length
          omega
      have q1 : q.2 = 1 := by omega
      rw [r0]
      obtain ⟨a, b⟩ := q
      simp only at qn q1
      rw [qn, q1]
structure LtInv (n : Int) (l : List (Int × Int)) (left t : Int) : Prop where
  l1 : 1 ≤ left
  t2 : 2 ≤ t
  eq : n = prod l * left
  lo : ∀ d, 2 ≤ d → d < t → left % d ≠ 0
  ok : PartsOk l
  le : ∀ q ∈ l, q.1 < t
  tb : 1 < left → t ≤ left
theorem lt_start {n : Int} (h : 1 ≤ n) : LtInv n [] n 2 := ⟨h, by omega, by simp [prod], fun d a b => by omega, ⟨fun _ h => (by cases h), List.Pairwise.nil⟩, fun _ h => (by cases h), fun h => by omega⟩
theorem lt_le {n : Int} {l : List (Int × Int)} {left t : Int} (h : LtInv n l left t) : left ≤ n := by
  have p := prod_pos h.ok.pr
  have l1 := h.l1
  have := Int.mul_le_mul_of_nonneg_right p (show 0 ≤ left by omega)
  have e := h.eq
  omega
theorem tb_of {left t : Int} (h : ∀ d, 2 ≤ d → d < t → left % d ≠ 0) (h1 : 1 < left) : t ≤ left := by
  refine Classical.byContradiction fun hc => h left (by omega) (by omega) (Int.emod_self ..)
theorem lt_jump {n : Int} {l : List (Int × Int)} {left t : Int} (h : LtInv n l left t) (h1 : 1 < left) (hs : t * t > left) : LtInv n l left left ∧ IsPr left := by
  have p : IsPr left := ⟨by omega, fun d d2 dd => h.lo d d2 (by
    refine Classical.byContradiction fun hc => ?_
    have := sq_mono (show 0 ≤ t by have := h.t2; omega) (show t ≤ d by omega)
    omega)⟩
  have := h.tb h1
  exact ⟨⟨h.l1, by omega, h.eq, fun d a b => pr_all p a b, h.ok, fun q hq => by have := h.le q hq; omega, fun _ => Int.le_refl _⟩, p⟩
theorem lt_turn {n : Int} {l : List (Int × Int)} {left t left' o : Int} (h : LtInv n l left t) (D : DivInv left t left' o) (hd : left' % t ≠ 0) : LtInv n (if 0 < o then l ++ [(t, o)] else l) left' (t + 1) ∧ left' ≤ left := by
  have hle := div_le h.t2 D
  have lo' : ∀ d, 2 ≤ d → d < t + 1 → left' % d ≠ 0 := fun d a b => by
    by_cases e : d = t
    · rw [e]; exact hd
    · exact not_dvd_of (div_dvd D) (h.lo d a (by omega))
  by_cases o0 : 0 < o
  · rw [if_pos o0]
    have td : left % t = 0 := by
      have e := D.eq
      obtain ⟨j, hj⟩ : ∃ j, o.toNat = j + 1 := ⟨o.toNat - 1, by omega⟩
      refine Int.emod_eq_zero_of_dvd ⟨left' * t ^ j, ?_⟩
      rw [e, hj, Int.pow_succ]; grind
    have pr : IsPr t := ⟨h.t2, fun d d2 dd e => by
      have t2 := h.t2
      have dr : d < t := by
        have := Int.mul_le_mul_of_nonneg_right d2 (show 0 ≤ d by omega)
        omega
      exact h.lo d d2 dr (Int.emod_eq_zero_of_dvd (Int.dvd_trans (Int.dvd_of_emod_eq_zero e) (Int.dvd_of_emod_eq_zero td)))⟩
    refine ⟨⟨D.l1, by have := h.t2; omega, ?_, lo', ⟨?_, ?_⟩, ?_, tb_of lo'⟩, hle⟩
    · rw [prod_append, h.eq, D.eq]; simp only [prod]; grind
    · intro q hq
      rcases List.mem_append.mp hq with hq | hq
      · exact h.ok.pr q hq
      · rw [List.mem_singleton.mp hq]; exact ⟨pr, by show 1 ≤ o; omega⟩
    · rw [List.pairwise_append]
      refine ⟨h.ok.up, List.pairwise_singleton .., fun a ha b hb => ?_⟩
      rw [List.mem_singleton.mp hb]
      exact h.le a ha
    · intro q hq
      rcases List.mem_append.mp hq with hq | hq
      · have := h.le q hq; omega
      · rw [List.mem_singleton.mp hq]; show t < t + 1; omega
  · rw [if_neg o0]
    have : o = 0 := by have := D.o0; omega
    subst this
    have e := D.eq
    simp at e
    subst e
    exact ⟨⟨D.l1, by have := h.t2; omega, h.eq, lo', h.ok, fun q hq => by have := h.le q hq; omega, tb_of lo'⟩, hle⟩
theorem lt_end {n : Int} {l : List (Int × Int)} {left t : Int} (h : LtInv n l left t) (he : ¬ 1 < left) : Parts n l := by
  have l1 := h.l1
  have : left = 1 := by omega
  refine ⟨h.ok, ?_⟩
  rw [h.eq, this, Int.mul_one]
noncomputable def tryB (n : Nat) : Nat → Nat → Bool
  | 0, _ => true
  | k + 1, d => decide (n % d ≠ 0) && tryB n k (d + 1)
theorem tryB_ok {n : Nat} : ∀ (k d : Nat), tryB n k d = true → ∀ e, d ≤ e → e < d + k → n % e ≠ 0
  | 0, d, _, e, h1, h2 => by omega
  | k + 1, d, h, e, h1, h2 => by
    simp only [tryB, Bool.and_eq_true, decide_eq_true_eq] at h
    by_cases q : e = d
    · rw [q]; exact h.1
    · exact tryB_ok k (d + 1) h.2 e (by omega) (by omega)
theorem pr_try {n k : Nat} (h2 : 2 ≤ n) (hk : n < (k + 2) * (k + 2)) (h : tryB n k 2 = true) : IsPr n := by
  refine ⟨by omega, fun d d2 dd => ?_⟩
  obtain ⟨e, rfl⟩ := Int.eq_ofNat_of_zero_le (show 0 ≤ d by omega)
  have he : e < 2 + k := by
    refine Classical.byContradiction fun hc => ?_
    have : (k + 2) * (k + 2) ≤ e * e := Nat.mul_le_mul (by omega) (by omega)
    have : e * e ≤ n := by exact_mod_cast dd
    omega
  have := tryB_ok k 2 h e (by omega) he
  intro z
  apply this
  have z' : ((n % e : Nat) : Int) = 0 := by rw [Int.natCast_emod]; exact z
  omega
end MM
set_option linter.all false
set_option maxHeartbeats 4000000
namespace MM
theorem mul_pow' (a b : Int) (k : Nat) : (a * b) ^ k = a ^ k * b ^ k := by
  induction k with
  | zero => simp
  | succ k ih => rw [Int.pow_succ, Int.pow_succ, Int.pow_succ, ih]; grind
theorem pow_pow' (a : Int) (x y : Nat) : (a ^ x) ^ y = (a ^ y) ^ x := by
  rw [← Int.pow_mul, ← Int.pow_mul, Nat.mul_comm]
theorem m1 {a x y n : Int} (hx : 0 ≤ x) (hy : 0 ≤ y) : a ^ x.toNat % n * (a ^ y.toNat % n) % n = a ^ (x + y).toNat % n := by
  have e : (x + y).toNat = x.toNat + y.toNat := by omega
  rw [e, Int.pow_add]
  exact cg_eq ((cg_mod n _).mul (cg_mod n _))
theorem m2 (a b : Int) (x : Nat) (n : Int) : (a * b) ^ x % n = a ^ x % n * (b ^ x % n) % n := by
  rw [mul_pow']
  exact cg_eq ((cg_mod n _).mul (cg_mod n _)).symm
theorem m3 (a : Int) (x y : Nat) (n : Int) : (a ^ x % n) ^ y % n = (a ^ y % n) ^ x % n := by
  have h1 := (cg_mod n (a ^ x)).pow y
  have h2 := (cg_mod n (a ^ y)).pow x
  rw [pow_pow'] at h1
  exact cg_eq (h1.trans h2.symm)
theorem parts_le {n : Int} {l : List (Int × Int)} (h : Parts n l) {q : Int × Int} (hq : q ∈ l) : q.1 ≤ n ∧ q.2 ≤ n := by
  obtain ⟨ok, e⟩ := h
  obtain ⟨a, b, rfl⟩ := List.append_of_mem hq
  have h1 := ok.pr q hq
  have pa := prod_pos (l := a) fun x hx => ok.pr x (List.mem_append_left _ hx)
  have pb := prod_pos (l := b) fun x hx => ok.pr x (List.mem_append_right _ (List.mem_cons_of_mem _ hx))
  rw [prod_append, prod] at e
  have q2 := h1.1.1
  have hp : q.1 ≤ q.1 ^ q.2.toNat ∧ q.2 ≤ q.1 ^ q.2.toNat := by
    obtain ⟨j, hj⟩ : ∃ j, q.2.toNat = j + 1 := ⟨q.2.toNat - 1, by omega⟩
    have hq2 : q.2 = ((j : Nat) : Int) + 1 := by omega
    rw [hj]
    have hj1 : ∀ j : Nat, ((j : Nat) : Int) + 1 ≤ q.1 ^ j := by
      intro j
      induction j with
      | zero => simp
      | succ j ih =>
        rw [Int.pow_succ]
        have := Int.mul_le_mul ih q2 (by decide) (Int.pow_nonneg (by omega))
        omega
    constructor
    · rw [Int.pow_succ]
      have := Int.mul_le_mul_of_nonneg_right (pow_pos' (show 1 ≤ q.1 by omega) j) (show 0 ≤ q.1 by omega)
      omega
    · have := hj1 (j + 1)
      omega
  have h2 : q.1 ^ q.2.toNat ≤ q.1 ^ q.2.toNat * prod b := by
    have := Int.mul_le_mul_of_nonneg_left pb (show 0 ≤ q.1 ^ q.2.toNat by omega)
    omega
  have h3 : q.1 ^ q.2.toNat * prod b ≤ prod a * (q.1 ^ q.2.toNat * prod b) := by
    have := Int.mul_le_mul_of_nonneg_right pa (show 0 ≤ q.1 ^ q.2.toNat * prod b by omega)
    omega
  omega
end MM
set_option linter.all false
set_option maxHeartbeats 4000000
namespace MM
theorem pr_int_euclid {p a b : Int} (h : IsPr p) (hd : p ∣ a * b) : p ∣ a ∨ p ∣ b := by
  have p2 := h.1
  obtain ⟨q, rfl⟩ := Int.eq_ofNat_of_zero_le (show 0 ≤ p by omega)
  have hd' : q ∣ a.natAbs * b.natAbs := by
    have := Int.natAbs_dvd_natAbs.mpr hd
    rwa [Int.natAbs_mul] at this
  by_cases ha : q ∣ a.natAbs
  · left; exact Int.natAbs_dvd_natAbs.mp ha
  · right; exact Int.natAbs_dvd_natAbs.mp (pr_euclid h hd' ha)
theorem pr_dvd_pow {p a : Int} (h : IsPr p) {k : Nat} (hd : p ∣ a ^ k) : p ∣ a := by
  induction k with
  | zero =>
    have := Int.le_of_dvd (by decide) (by simpa using hd : p ∣ 1)
    have := h.1
    omega
  | succ k ih =>
    rw [Int.pow_succ] at hd
    rcases pr_int_euclid h hd with z | z
    · exact ih z
    · exact z
theorem pr_dvd_pr {p q : Int} (hp : IsPr p) (hq : IsPr q) (hd : p ∣ q) : p = q := pr_dvd hq hp.1 hd
theorem pr_dvd_prod {p : Int} (h : IsPr p) : ∀ {l : List (Int × Int)}, (∀ q ∈ l, IsPr q.1 ∧ 1 ≤ q.2) → p ∣ prod l → ∃ q ∈ l, q.1 = p
  | [], _, hd => by
    have := Int.le_of_dvd (by decide) (by simpa [prod] using hd : p ∣ 1)
    have := h.1
    omega
  | q :: r, hl, hd => by
    rw [prod] at hd
    rcases pr_int_euclid h hd with z | z
    · exact ⟨q, List.mem_cons_self, (pr_dvd_pr h (hl q List.mem_cons_self).1 (pr_dvd_pow h z)).symm⟩
    · obtain ⟨x, hx, e⟩ := pr_dvd_prod h (fun x hx => hl x (List.mem_cons_of_mem _ hx)) z
      exact ⟨x, List.mem_cons_of_mem _ hx, e⟩
theorem pow_dvd_self {p : Int} {k : Int} (hk : 1 ≤ k) : p ∣ p ^ k.toNat := by
  obtain ⟨j, hj⟩ : ∃ j, k.toNat = j + 1 := ⟨k.toNat - 1, by omega⟩
  rw [hj, Int.pow_succ]
  exact Int.dvd_mul_left ..
theorem mem_dvd_prod {l : List (Int × Int)} (hl : ∀ q ∈ l, IsPr q.1 ∧ 1 ≤ q.2) {q : Int × Int} (hq : q ∈ l) : q.1 ∣ prod l := by
  induction l with
  | nil => cases hq
  | cons x r ih =>
    rw [prod]
    rcases List.mem_cons.mp hq with rfl | hq
    · exact Int.dvd_trans (pow_dvd_self (hl _ List.mem_cons_self).2) (Int.dvd_mul_right ..)
    · exact Int.dvd_trans (ih (fun x hx => hl x (List.mem_cons_of_mem _ hx)) hq) (Int.dvd_mul_left ..)
theorem PartsOk.tail {q : Int × Int} {r : List (Int × Int)} (h : PartsOk (q :: r)) : PartsOk r := ⟨fun x hx => h.pr x (List.mem_cons_of_mem _ hx), (List.pairwise_cons.mp h.up).2⟩
theorem PartsOk.head_not {q : Int × Int} {r : List (Int × Int)} (h : PartsOk (q :: r)) : ¬ q.1 ∣ prod r := fun hd => by
  obtain ⟨x, hx, e⟩ := pr_dvd_prod (h.pr q List.mem_cons_self).1 h.tail.pr hd
  have := (List.pairwise_cons.mp h.up).1 x hx
  omega
theorem parts_unique : ∀ {l m : List (Int × Int)}, PartsOk l → PartsOk m → prod l = prod m → l = m
  | [], [], _, _, _ => rfl
  | [], q :: r, _, hm, e => by
    have := mem_dvd_prod hm.pr (q := q) List.mem_cons_self
    rw [← e] at this
    have := Int.le_of_dvd (by decide) (by simpa [prod] using this : q.1 ∣ 1)
    have := (hm.pr q List.mem_cons_self).1.1
    omega
  | q :: r, [], hl, _, e => by
    have := mem_dvd_prod hl.pr (q := q) List.mem_cons_self
    rw [e] at this
    have := Int.le_of_dvd (by decide) (by simpa [prod] using this : q.1 ∣ 1)
    have := (hl.pr q List.mem_cons_self).1.1
    omega
  | q :: r, x :: y, hl, hm, e => by
    have hq := hl.pr q List.mem_cons_self
    have hx := hm.pr x List.mem_cons_self
    have le1 : x.1 ≤ q.1 := by
      obtain ⟨z, hz, ez⟩ := pr_dvd_prod hq.1 hm.pr (e ▸ mem_dvd_prod hl.pr List.mem_cons_self)
      rcases List.mem_cons.mp hz with rfl | hz
      · omega
      · have := (List.pairwise_cons.mp hm.up).1 z hz
        omega
    have le2 : q.1 ≤ x.1 := by
      obtain ⟨z, hz, ez⟩ := pr_dvd_prod hx.1 hl.pr (e ▸ mem_dvd_prod hm.pr List.mem_cons_self)
      rcases List.mem_cons.mp hz with rfl | hz
      · omega
      · have := (List.pairwise_cons.mp hl.up).1 z hz
        omega
    have e1 : q.1 = x.1 := by omega
    have q2 := hq.1.1
    have n1 := hl.head_not
    have n2 := hm.head_not
    rw [prod, prod, ← e1] at e
    rw [← e1] at n2
    have key : ∀ (a b : Nat) (u v : Int), ¬ q.1 ∣ u → a ≤ b → q.1 ^ a * u = q.1 ^ b * v → a = b ∧ u = v := fun a b u v nu hab hh => by
      obtain ⟨c, rfl⟩ : ∃ c, b = a + c := ⟨b - a, by omega⟩
      rw [Int.pow_add, Int.mul_assoc] at hh
      have pz : q.1 ^ a ≠ 0 := by
        have := pow_pos' (show 1 ≤ q.1 by omega) a
        omega
      have hh := Int.eq_of_mul_eq_mul_left pz hh
      cases c with
      | zero => simpa using hh
      | succ c =>
        exfalso
        apply nu
        rw [hh, Int.pow_succ]
        exact ⟨q.1 ^ c * v, by grind⟩
    have both : q.2.toNat = x.2.toNat ∧ prod r = prod y := by
      rcases Nat.le_total q.2.toNat x.2.toNat with hh | hh
      · exact key _ _ _ _ n1 hh e
      · obtain ⟨a, b⟩ := key _ _ _ _ n2 hh e.symm
        exact ⟨a.symm, b.symm⟩
    have e2 : q.2 = x.2 := by
      have := hq.2; have := hx.2; omega
    rw [parts_unique hl.tail hm.tail both.2]
    obtain ⟨a, b⟩ := q
    obtain ⟨c, d⟩ := x
    simp only at e1 e2
    rw [e1, e2]
theorem Parts.unique {n : Int} {l m : List (Int × Int)} (h : Parts n l) (g : Parts n m) : l = m := parts_unique h.1 g.1 (h.2.trans g.2.symm)
noncomputable def tot : List (Int × Int) → Int
  | [] => 1
  | q :: r => (q.1 - 1) * tot r
noncomputable def red : List (Int × Int) → Int
  | [] => 1
  | q :: r => q.1 ^ (q.2.toNat - 1) * red r
noncomputable def phi (l : List (Int × Int)) : Int := tot l * red l
noncomputable def geo (x : Int) : Nat → Int
  | 0 => 0
  | n + 1 => geo x n + x ^ n
theorem fermat1 {p a : Int} (h : IsPr p) (ha : ¬ p ∣ a) : Cg p (a ^ (p - 1).toNat) 1 := by
  have f := fermat h a
  have p2 := h.1
  obtain ⟨j, hj⟩ : ∃ j, p.toNat = j + 1 := ⟨p.toNat - 1, by omega⟩
  have e : (p - 1).toNat = j := by omega
  rw [hj, Int.pow_succ] at f
  rw [e]
  have f' : p ∣ a * (a ^ j - 1) := by
    have e2 : a * (a ^ j - 1) = a ^ j * a - a := by grind
    rw [e2]; exact f
  rcases pr_int_euclid h f' with z | z
  · exact absurd z ha
  · exact z
theorem cg_pow_dvd {n a : Int} {e f : Nat} (h : Cg n (a ^ e) 1) (hd : e ∣ f) : Cg n (a ^ f) 1 := by
  obtain ⟨c, rfl⟩ := hd
  rw [Int.pow_mul]
  have := h.pow c
  rwa [Int.one_pow] at this
theorem toNat_pow {p : Int} (h : 0 ≤ p) (k : Nat) : (p ^ k).toNat = p.toNat ^ k := by
  obtain ⟨q, rfl⟩ := Int.eq_ofNat_of_zero_le h
  rw [← Int.natCast_pow]
  rfl
structure Ord (a n o : Int) : Prop where
  pos : 1 ≤ o
  cg : Cg n (a ^ o.toNat) 1
  least : ∀ e, 1 ≤ e → e < o → ¬ Cg n (a ^ e.toNat) 1
theorem Ord.unique {a n o p : Int} (h : Ord a n o) (g : Ord a n p) : o = p := by
  rcases Int.lt_trichotomy o p with z | z | z
  · exact absurd h.cg (g.least o h.pos z)
  · exact z
  · exact absurd g.cg (h.least p g.pos z)
theorem has_least {Pr : Nat → Prop} : ∀ n, Pr n → ∃ d, Pr d ∧ d ≤ n ∧ ∀ e, e < d → ¬ Pr e := by
  intro n
  induction n using Nat.strongRecOn with
  | _ n ih =>
    intro h
    by_cases q : ∃ m, m < n ∧ Pr m
    · obtain ⟨m, hm, pm⟩ := q
      obtain ⟨d, h1, h2, h3⟩ := ih m hm pm
      exact ⟨d, h1, by omega, h3⟩
    · exact ⟨n, h, Nat.le_refl _, fun e he z => q ⟨e, he, z⟩⟩
theorem has_prime {m : Int} (hm : 2 ≤ m) : ∃ p, IsPr p ∧ p ∣ m := by
  obtain ⟨d, ⟨d2, dd⟩, _, dl⟩ := has_least (Pr := fun d => 2 ≤ d ∧ (d : Int) ∣ m) m.toNat ⟨by omega, by rw [show ((m.toNat : Nat) : Int) = m by omega]; exact Int.dvd_refl _⟩
  refine ⟨d, ⟨by omega, fun e e2 ee z => ?_⟩, dd⟩
  obtain ⟨f, rfl⟩ := Int.eq_ofNat_of_zero_le (show 0 ≤ e by omega)
  have lt : f < d := by
    have : f * f ≤ d := by exact_mod_cast ee
    have : 2 * f ≤ f * f := Nat.mul_le_mul_right f (by omega)
    omega
  exact dl f lt ⟨by omega, Int.dvd_trans (Int.dvd_of_emod_eq_zero z) dd⟩
theorem ord_of {a n o : Int} (ho : 1 ≤ o) (hc : Cg n (a ^ o.toNat) 1) (hq : ∀ q, IsPr q → q ∣ o → ¬ Cg n (a ^ (o / q).toNat) 1) : Ord a n o := by
  refine ⟨ho, hc, ?_⟩
  obtain ⟨d, ⟨d1, dc⟩, dle, dl⟩ := has_least (Pr := fun d => 1 ≤ d ∧ Cg n (a ^ d) 1) o.toNat ⟨by omega, hc⟩
  have dd : d ∣ o.toNat := by
    by_cases z : o.toNat % d = 0
    · exact Nat.dvd_of_mod_eq_zero z
    · exfalso
      have lt : o.toNat % d < d := Nat.mod_lt _ (by omega)
      refine dl _ lt ⟨by omega, ?_⟩
      have e : o.toNat = d * (o.toNat / d) + o.toNat % d := (Nat.div_add_mod _ _).symm
      rw [e, Int.pow_add, Int.pow_mul] at hc
      have h1 := dc.pow (o.toNat / d)
      rw [Int.one_pow] at h1
      have h2 := h1.mul (Cg.refl n (a ^ (o.toNat % d)))
      rw [Int.one_mul] at h2
      exact h2.symm.trans hc
  obtain ⟨m, hm⟩ := dd
  have m1 : 1 ≤ m := by
    cases m with
    | zero => simp at hm; omega
    | succ m => omega
  by_cases m2 : m = 1
  · intro e e1 e2
    refine fun z => dl e.toNat ?_ ⟨by omega, z⟩
    rw [m2] at hm
    omega
  · exfalso
    obtain ⟨p, hp, hpm⟩ := has_prime (show (2 : Int) ≤ (m : Nat) by omega)
    have p2 := hp.1
    obtain ⟨c, hc'⟩ := hpm
    have eo : o = p * (d * c) := by
      have : (o : Int) = ((d * m : Nat) : Int) := by omega
      rw [this, Int.natCast_mul, hc']; grind
    refine hq p hp ⟨d * c, eo⟩ ?_
    rw [eo, Int.mul_ediv_cancel_left _ (by omega)]
    have c0 : 0 ≤ c := by
      refine Classical.byContradiction fun z => ?_
      have := Int.mul_le_mul_of_nonneg_left (show c ≤ -1 by omega) (show 0 ≤ p by omega)
      omega
    refine cg_pow_dvd dc ?_
    obtain ⟨c', rfl⟩ := Int.eq_ofNat_of_zero_le c0
    rw [← Int.natCast_mul]
    exact ⟨c', rfl⟩
structure OrdInv (a n F o : Int) (done : List (Int × Int)) : Prop where
  pos : 1 ≤ o
  dvd : o ∣ F
  cg : Cg n (a ^ o.toNat) 1
  no : ∀ q ∈ done, q.1 ∣ o → ¬ Cg n (a ^ (o / q.1).toNat) 1
theorem div_pos {o p : Int} (ho : 1 ≤ o) (hp : 2 ≤ p) (hd : o % p = 0) : 1 ≤ o / p ∧ o / p < o ∧ o = p * (o / p) := by
  have e : o = p * (o / p) := by have := Int.emod_add_mul_ediv o p; omega
  have h1 : 1 ≤ o / p := by
    refine Classical.byContradiction fun z => ?_
    have := Int.mul_le_mul_of_nonneg_left (show o / p ≤ 0 by omega) (show 0 ≤ p by omega)
    omega
  refine ⟨h1, ?_, e⟩
  have := Int.mul_le_mul_of_nonneg_right hp (show 0 ≤ o / p by omega)
  omega
theorem cg_one {n x : Int} : x % n = 1 % n ↔ Cg n x 1 := ⟨cg_of, cg_eq⟩
theorem Ord.no_prime {a n o : Int} (h : Ord a n o) {q : Int} (hq : 2 ≤ q) (hd : q ∣ o) : ¬ Cg n (a ^ (o / q).toNat) 1 := by
  obtain ⟨p1, p2, p3⟩ := div_pos h.pos hq (Int.emod_eq_zero_of_dvd hd)
  exact h.least _ p1 p2
end MM
set_option linter.all false
set_option maxHeartbeats 4000000
namespace MM
theorem div_all {r : Int} (hr : 2 ≤ r) : ∀ (m : Nat) (l0 left o : Int), left.toNat = m → DivInv l0 r left o → ∃ left' o', DivInv l0 r left' o' ∧ left' % r ≠ 0 := by
  intro m
  induction m using Nat.strongRecOn with
  | _ m ih =>
    intro l0 left o e h
    by_cases hd : left % r = 0
    · obtain ⟨h2, lt⟩ := div_turn hr h hd
      have := h2.l1
      exact ih _ (by omega) l0 _ _ rfl h2
    · exact ⟨left, o, h, hd⟩
theorem least_div {n : Int} (hn : 2 ≤ n) : ∃ p, IsPr p ∧ n % p = 0 ∧ ∀ d, 2 ≤ d → d < p → n % d ≠ 0 := by
  obtain ⟨d, ⟨d2, dd⟩, _, dl⟩ := has_least (Pr := fun d => 2 ≤ d ∧ (d : Int) ∣ n) n.toNat ⟨by omega, by rw [show ((n.toNat : Nat) : Int) = n by omega]; exact Int.dvd_refl _⟩
  have lo : ∀ e : Int, 2 ≤ e → e < d → n % e ≠ 0 := fun e e2 ed z => by
    obtain ⟨f, rfl⟩ := Int.eq_ofNat_of_zero_le (show 0 ≤ e by omega)
    exact dl f (by omega) ⟨by omega, Int.dvd_of_emod_eq_zero z⟩
  refine ⟨d, ⟨by omega, fun e e2 ee z => ?_⟩, Int.emod_eq_zero_of_dvd dd, lo⟩
  have lt : e < d := by
    have := Int.mul_le_mul_of_nonneg_right e2 (show 0 ≤ e by omega)
    omega
  exact lo e e2 lt (Int.emod_eq_zero_of_dvd (Int.dvd_trans (Int.dvd_of_emod_eq_zero z) dd))
theorem parts_go {n : Int} : ∀ (m : Nat) (l : List (Int × Int)) (left t : Int), left.toNat = m → PtInv n l left t → ∃ l', Parts n l' := by
  intro m
  induction m using Nat.strongRecOn with
  | _ m ih =>
    intro l left t e h
    by_cases h1 : 1 < left
    · obtain ⟨p, hp, pd, pl⟩ := least_div (show 2 ≤ left by omega)
      obtain ⟨left', o, D, hd⟩ := div_all hp.1 _ left left 0 rfl (div_start (by omega))
      have tp : t ≤ p := Classical.byContradiction fun z => h.lo p hp.1 (by omega) pd
      obtain ⟨I2, o1, lt⟩ := pt_turn h hp tp pd pl D hd
      have := I2.l1
      exact ih _ (by omega) _ _ _ rfl I2
    · exact ⟨l, pt_end h h1⟩
theorem parts_exist {n : Int} (h : 1 ≤ n) : ∃ l, Parts n l := parts_go _ [] n 2 rfl (pt_start h)
structure StepInv (a n o d pw : Int) : Prop where
  d1 : 1 ≤ d
  d2 : d ≤ o
  eq : pw = a ^ d.toNat % n
  no : ∀ e, 1 ≤ e → e < d → ¬ Cg n (a ^ e.toNat) 1
end MM
set_option linter.all false
set_option maxHeartbeats 4000000
namespace MM
noncomputable def mev : List Int → Int → Int
  | [], _ => 1
  | c :: t, x => c + x * mev t x
theorem mev_add (r : Int) : ∀ (t q : List Int), q.length < t.length → ∃ s : List Int, s.length = t.length ∧ ∀ x, mev s x = mev t x + r * mev q x
  | [], q, h => by simp at h
  | a :: t, [], _ => ⟨(a + r) :: t, rfl, fun x => by simp only [mev]; grind⟩
  | a :: t, b :: q, h => by
    obtain ⟨s, e, hs⟩ := mev_add r t q (by simpa using h)
    exact ⟨(a + r * b) :: s, by simp [e], fun x => by simp only [mev]; rw [hs]; grind⟩
theorem mev_div (r : Int) : ∀ (t : List Int) (c : Int), ∃ q : List Int, q.length = t.length ∧ ∀ x, mev (c :: t) x - mev (c :: t) r = (x - r) * mev q x
  | [], c => ⟨[], rfl, fun x => by simp only [mev]; grind⟩
  | b :: t, c => by
    obtain ⟨q, e, hq⟩ := mev_div r t b
    obtain ⟨s, e2, hs⟩ := mev_add r (b :: t) q (by rw [e]; simp)
    refine ⟨s, e2, fun x => ?_⟩
    rw [hs]
    have h1 := hq x
    have e3 : mev (c :: b :: t) x - mev (c :: b :: t) r = (x - r) * mev (b :: t) x + r * (mev (b :: t) x - mev (b :: t) r) := by
      rw [show mev (c :: b :: t) x = c + x * mev (b :: t) x from rfl, show mev (c :: b :: t) r = c + r * mev (b :: t) r from rfl]; grind
    rw [e3, h1]; grind
theorem roots_few {p : Int} (hp : IsPr p) : ∀ (n : Nat) (t : List Int), t.length = n → ∀ xs : List Int, (xs.Pairwise fun a b => ¬ Cg p a b) → (∀ x ∈ xs, Cg p (mev t x) 0) → xs.length ≤ n := by
  intro n
  induction n with
  | zero =>
    intro t ht xs _ h0
    cases t with
    | cons _ _ => simp at ht
    | nil =>
      cases xs with
      | nil => exact Nat.le_refl _
      | cons x xs =>
        have := h0 x List.mem_cons_self
        have : p ∣ 1 := by simpa [mev, Cg] using this
        have := Int.le_of_dvd (by decide) this
        have := hp.1
        omega
  | succ n ih =>
    intro t ht xs hd h0
    cases t with
    | nil => simp at ht
    | cons c t =>
      cases xs with
      | nil => exact Nat.zero_le _
      | cons r xs =>
        obtain ⟨q, e, hq⟩ := mev_div r t c
        have ht' : t.length = n := by simpa using ht
        rw [List.pairwise_cons] at hd
        have := ih q (by rw [e, ht']) xs hd.2 fun s hs => by
          have h1 := (h0 s (List.mem_cons_of_mem _ hs)).sub (h0 r List.mem_cons_self)
          rw [hq s] at h1
          have h2 : p ∣ (s - r) * mev q s := by simpa [Cg] using h1
          rcases pr_int_euclid hp h2 with z | z
          · exact absurd (Cg.symm z) (hd.1 s hs)
          · show p ∣ _; simpa using z
        simp only [List.length_cons]
        omega
theorem mev_rep (x : Int) : ∀ k : Nat, mev (List.replicate k 0) x = x ^ k
  | 0 => by simp [mev]
  | k + 1 => by rw [List.replicate_succ, mev, mev_rep x k, Int.pow_succ]; grind
theorem up_nodup {p : Int} : ∀ (m : Nat) (lo : Int), 0 ≤ lo → lo + m ≤ p → ((List.range m).map fun (i : Nat) => lo + (i : Int)).Pairwise fun a b => ¬ Cg p a b := by
  intro m lo h0 h1
  rw [List.pairwise_map]
  refine List.Pairwise.imp_of_mem (R := fun a b => a < b) ?_ List.pairwise_lt_range
  intro a b ha hb hab hc
  have hb' := List.mem_range.mp hb
  have : p ∣ (lo + (b : Int)) - (lo + a) := hc.symm
  have := Int.le_of_dvd (by omega) this
  omega
theorem not_all {p : Int} (hp : IsPr p) {d : Nat} (h1 : 1 ≤ d) (hd : (d : Int) < p - 1) : ∃ x, 1 ≤ x ∧ x < p ∧ ¬ Cg p (x ^ d) 1 := by
  refine Classical.byContradiction fun hc => ?_
  have all : ∀ x, 1 ≤ x → x < p → Cg p (x ^ d) 1 := fun x a b => Classical.byContradiction fun z => hc ⟨x, a, b, z⟩
  have p2 := hp.1
  obtain ⟨k, rfl⟩ : ∃ k, d = k + 1 := ⟨d - 1, by omega⟩
  have := roots_few hp (k + 1) ((-1) :: List.replicate k 0) (by simp) ((List.range (p - 1).toNat).map fun (i : Nat) => 1 + (i : Int)) (up_nodup _ _ (by decide) (by omega)) fun x hx => by
    obtain ⟨i, hi, rfl⟩ := List.mem_map.mp hx
    have hi := List.mem_range.mp hi
    have h := all (1 + (i : Int)) (by omega) (by omega)
    rw [mev, mev_rep]
    have := h.sub (Cg.refl p 1)
    rw [show (1 : Int) - 1 = 0 by decide] at this
    rw [Int.pow_succ] at this
    rwa [show -1 + (1 + (i : Int)) * (1 + (i : Int)) ^ k = (1 + (i : Int)) ^ k * (1 + (i : Int)) - 1 by grind]
  rw [List.length_map, List.length_range] at this
  omega
theorem Ord.dvd {a n o : Int} (h : Ord a n o) {e : Nat} (hc : Cg n (a ^ e) 1) : o.toNat ∣ e := by
  have op := h.pos
  by_cases z : e % o.toNat = 0
  · exact Nat.dvd_of_mod_eq_zero z
  · exfalso
    have lt : e % o.toNat < o.toNat := Nat.mod_lt _ (by omega)
    refine h.least (e % o.toNat : Nat) (by omega) (by omega) ?_
    rw [Int.toNat_natCast]
    have ee : e = o.toNat * (e / o.toNat) + e % o.toNat := (Nat.div_add_mod _ _).symm
    rw [ee, Int.pow_add, Int.pow_mul] at hc
    have h1 := h.cg.pow (e / o.toNat)
    rw [Int.one_pow] at h1
    have h2 := h1.mul (Cg.refl n (a ^ (e % o.toNat)))
    rw [Int.one_mul] at h2
    exact h2.symm.trans hc
theorem ord_mul {a b n : Int} {x y : Nat} (ha : Ord a n x) (hb : Ord b n y) (hg : Nat.Coprime x y) : Ord (a * b) n ((x * y : Nat) : Int) := by
  have x1 := ha.pos
  have y1 := hb.pos
  have ca := ha.cg
  have cb := hb.cg
  rw [Int.toNat_natCast] at ca cb
  have xy : 1 ≤ x * y := Nat.mul_pos (by omega) (by omega)
  have key : ∀ {a b : Int} {x y : Nat}, Ord a n x → Ord b n y → Nat.Coprime x y → ∀ q : Nat, 2 ≤ q → q ∣ x → ¬ Cg n ((a * b) ^ (x * y / q)) 1 := by
    intro a b x y ha hb hg q q2 qx z
    obtain ⟨c, rfl⟩ := qx
    have cb := hb.cg
    rw [Int.toNat_natCast] at cb
    have c1 : 1 ≤ c := by
      have := ha.pos
      cases c with
      | zero => simp at this
      | succ c => omega
    have e : q * c * y / q = c * y := by rw [Nat.mul_assoc, Nat.mul_div_cancel_left _ (by omega)]
    rw [e, mul_pow'] at z
    have h1 : Cg n (b ^ (c * y)) 1 := cg_pow_dvd cb ⟨c, Nat.mul_comm _ _⟩
    have h2 := (Cg.refl n (a ^ (c * y))).mul h1
    rw [Int.mul_one] at h2
    have h3 := h2.symm.trans z
    have d := ha.dvd h3
    rw [Int.toNat_natCast] at d
    have d2 : q * c ∣ c := hg.dvd_of_dvd_mul_right d
    have := Nat.le_of_dvd (by omega) d2
    have := Nat.mul_le_mul_right c q2
    omega
  refine ord_of (by omega) ?_ fun q hq qd => ?_
  · rw [Int.toNat_natCast, mul_pow']
    have h1 : Cg n (a ^ (x * y)) 1 := cg_pow_dvd ca ⟨y, rfl⟩
    have h2 : Cg n (b ^ (x * y)) 1 := cg_pow_dvd cb ⟨x, Nat.mul_comm _ _⟩
    have := h1.mul h2
    rwa [Int.one_mul] at this
  · have q2 := hq.1
    obtain ⟨r, rfl⟩ := Int.eq_ofNat_of_zero_le (show 0 ≤ q by omega)
    have qd' : r ∣ x * y := Int.natCast_dvd_natCast.mp qd
    rw [show ((x * y : Nat) : Int) / (r : Int) = ((x * y / r : Nat) : Int) from (Int.natCast_ediv _ _).symm, Int.toNat_natCast]
    by_cases hx : r ∣ x
    · exact key ha hb hg r (by omega) hx
    · have hy := pr_euclid hq qd' hx
      have := key hb ha hg.symm r (by omega) hy
      rwa [Int.mul_comm a b, Nat.mul_comm x y]
theorem ord_part {p : Int} (hp : IsPr p) {q : Int} {k : Nat} (hq : IsPr q) (hk : 1 ≤ k) (hd : q ^ k ∣ p - 1) : ∃ y, Ord y p (q ^ k) := by
  have p2 := hp.1
  have q2 := hq.1
  obtain ⟨m, hm⟩ := hd
  obtain ⟨j, rfl⟩ : ∃ j, k = j + 1 := ⟨k - 1, by omega⟩
  have m1 : 1 ≤ m := by
    refine Classical.byContradiction fun z => ?_
    have := pow_pos' (show 1 ≤ q by omega) (j + 1)
    have := Int.mul_le_mul_of_nonneg_left (show m ≤ 0 by omega) (show 0 ≤ q ^ (j + 1) by omega)
    omega
  have qj := pow_pos' (show 1 ≤ q by omega) j
  have em : q ^ (j + 1) * m = q * (q ^ j * m) := by rw [Int.pow_succ]; grind
  have d1 : 1 ≤ q ^ j * m := by
    have := Int.mul_le_mul qj m1 (by decide) (by omega)
    omega
  have d2 : q ^ j * m < p - 1 := by
    have := Int.mul_le_mul_of_nonneg_right q2 (show 0 ≤ q ^ j * m by omega)
    omega
  obtain ⟨x, x1, x2, hx⟩ := not_all hp (d := (q ^ j * m).toNat) (by omega) (by omega)
  have nx : ¬ p ∣ x := fun z => by have := Int.le_of_dvd (by omega) z; omega
  have f := fermat1 hp nx
  have qn : (q ^ (j + 1)).toNat = q.toNat ^ (j + 1) := toNat_pow (by omega) _
  have qn' : (q ^ j).toNat = q.toNat ^ j := toNat_pow (by omega) _
  refine ⟨x ^ m.toNat, ord_of (by have := pow_pos' (show 1 ≤ q by omega) (j + 1); omega) ?_ fun r hr rd => ?_⟩
  · rw [← Int.pow_mul]
    have e : m.toNat * (q ^ (j + 1)).toNat = (p - 1).toNat := by
      have := pow_pos' (show 1 ≤ q by omega) (j + 1)
      rw [hm, Int.toNat_mul (by omega) (by omega), Nat.mul_comm]
    rw [e]; exact f
  · have rq : r = q := pr_dvd_pr hr hq (pr_dvd_pow hr rd)
    subst rq
    rw [← Int.pow_mul]
    have e1 : r ^ (j + 1) / r = r ^ j := by rw [Int.pow_succ, Int.mul_ediv_cancel _ (by omega)]
    rw [e1]
    have e : m.toNat * (r ^ j).toNat = (r ^ j * m).toNat := by rw [Int.toNat_mul (by omega) (by omega), Nat.mul_comm]
    rw [e]; exact hx
theorem ord_parts {p : Int} (hp : IsPr p) : ∀ (l : List (Int × Int)), PartsOk l → prod l ∣ p - 1 → ∃ g, Ord g p (prod l)
  | [], _, _ => ⟨1, by decide, by rw [Int.one_pow]; exact Cg.refl _ _, fun e a b => by simp only [prod] at b; omega⟩
  | q :: l, h, hd => by
    have hq := h.pr q List.mem_cons_self
    have q2 := hq.1.1
    have d1 : q.1 ^ q.2.toNat ∣ p - 1 := Int.dvd_trans ⟨prod l, rfl⟩ hd
    have d2 : prod l ∣ p - 1 := Int.dvd_trans ⟨q.1 ^ q.2.toNat, by rw [prod, Int.mul_comm]⟩ hd
    obtain ⟨y, hy⟩ := ord_part hp hq.1 (by have := hq.2; omega) d1
    obtain ⟨g, hg⟩ := ord_parts hp l h.tail d2
    have e1 := pow_pos' (show 1 ≤ q.1 by omega) q.2.toNat
    have e2 := prod_pos h.tail.pr
    have nd := h.head_not
    obtain ⟨a, ha⟩ := Int.eq_ofNat_of_zero_le (show 0 ≤ q.1 ^ q.2.toNat by omega)
    obtain ⟨b, hb⟩ := Int.eq_ofNat_of_zero_le (show 0 ≤ prod l by omega)
    rw [ha] at hy
    rw [hb] at hg
    have cop : Nat.Coprime a b := by
      have e3 : a = q.1.natAbs ^ q.2.toNat := by rw [← Int.natAbs_pow, ha]; rfl
      have e4 : b = (prod l).natAbs := by rw [hb]; rfl
      rw [e3, e4]
      refine Nat.Coprime.pow_left _ ?_
      obtain ⟨m, hm⟩ := Int.eq_ofNat_of_zero_le (show 0 ≤ q.1 by omega)
      have hp' := hq.1
      rw [hm] at hp' nd ⊢
      exact pr_coprime hp' fun z => nd (Int.natAbs_dvd_natAbs.mp z)
    refine ⟨y * g, ?_⟩
    rw [prod, ha, hb, ← Int.natCast_mul]
    exact ord_mul hy hg cop
theorem Ord.rest {a n o : Int} (h : Ord a n o) : Ord (a % n) n o :=
  ⟨h.pos, ((cg_mod n a).pow _).trans h.cg, fun e e1 e2 z => h.least e e1 e2 (((cg_mod n a).pow _).symm.trans z)⟩
theorem prim_root {p : Int} (hp : IsPr p) : ∃ g, 1 ≤ g ∧ g < p ∧ Ord g p (p - 1) := by
  have p2 := hp.1
  obtain ⟨l, hl⟩ := parts_exist (show 1 ≤ p - 1 by omega)
  obtain ⟨g, hg⟩ := ord_parts hp l hl.1 (by rw [hl.2]; exact Int.dvd_refl _)
  rw [hl.2] at hg
  have hr := hg.rest
  refine ⟨g % p, ?_, Int.emod_lt_of_pos _ (by omega), hr⟩
  have h0 := Int.emod_nonneg g (show p ≠ 0 by omega)
  refine Classical.byContradiction fun z => ?_
  have e : g % p = 0 := by omega
  have c := hr.cg
  rw [e, Int.zero_pow (by omega)] at c
  have : p ∣ 1 := by
    have := Cg.symm c
    simpa [Cg] using this
  have := Int.le_of_dvd (by decide) this
  omega
end MM
set_option Elab.async false
set_option linter.all false
set_option maxRecDepth 100000
namespace MM
noncomputable def pl (n : Int) : List (Int × Int) := @dite _ (1 ≤ n) (Classical.propDecidable _) (fun h => Classical.choose (parts_exist h)) (fun _ => [])
theorem pl_ok {n : Int} (h : 1 ≤ n) : Parts n (pl n) := by
  unfold pl
  rw [dif_pos h]
  exact Classical.choose_spec (parts_exist h)
theorem parts_pos {n : Int} {l : List (Int × Int)} (h : Parts n l) : 1 ≤ n := by
  rw [← h.2]; exact prod_pos h.1.pr
theorem pl_eq {n : Int} {l : List (Int × Int)} (h : Parts n l) : pl n = l := (pl_ok (parts_pos h)).unique h
theorem part_half {p : Int} {l : List (Int × Int)} {j : Nat} (hp : IsPr p) (hj : p ≤ 2 ^ (j + 1)) (hl : Parts (p - 1) l) {q : Int × Int} (hq : q ∈ l) : q.1 ≤ 2 ^ j := by
  have hqp := (hl.1.pr q hq).1
  have q2 := hqp.1
  have p2 := hp.1
  have hd : q.1 ∣ p - 1 := by rw [← hl.2]; exact mem_dvd_prod hl.1.pr hq
  have hle := Int.le_of_dvd (by omega) hd
  rw [Int.pow_succ] at hj
  by_cases e : q.1 = 2
  · omega
  · have odd : p % 2 = 1 := by
      by_cases h4 : 4 ≤ p
      · have := hp.2 2 (by omega) (by omega)
        omega
      · omega
    obtain ⟨m, hm⟩ : ∃ m, p - 1 = 2 * m := ⟨(p - 1) / 2, by omega⟩
    rw [hm] at hd
    rcases pr_int_euclid hqp hd with h | h
    · have := Int.le_of_dvd (by omega) h
      omega
    · have := Int.le_of_dvd (by omega) h
      omega
theorem isPr2 : IsPr 2 := ⟨by omega, fun d h1 h2 => by
  have := Int.mul_le_mul h1 h1 (by omega) (by omega)
  omega⟩
theorem isPr3 : IsPr 3 := ⟨by omega, fun d h1 h2 => by
  have := Int.mul_le_mul h1 h1 (by omega) (by omega)
  omega⟩
noncomputable def BaseOk (b p : Int) (l : List (Int × Int)) : Prop := ∀ q ∈ l, ¬ Cg p (b ^ ((p - 1) / q.1).toNat) 1
noncomputable def baseB (b p : Int) (l : List (Int × Int)) : Bool := @decide (BaseOk b p l) (Classical.propDecidable _)
theorem baseB_of {b p : Int} {l : List (Int × Int)} (h : BaseOk b p l) : baseB b p l = true := by unfold baseB; exact @decide_eq_true _ (Classical.propDecidable _) h
theorem baseB_not {b p : Int} {l : List (Int × Int)} (h : ¬ BaseOk b p l) : baseB b p l = false := by unfold baseB; exact @decide_eq_false _ (Classical.propDecidable _) h
theorem base_ord {b p : Int} {l : List (Int × Int)} (hp : IsPr p) (hl : Parts (p - 1) l) (b1 : 1 ≤ b) (b2 : b < p) : BaseOk b p l ↔ Ord b p (p - 1) := by
  have p2 := hp.1
  have nd : ¬ p ∣ b := fun z => by have := Int.le_of_dvd (by omega) z; omega
  constructor
  · intro h
    refine ord_of (by omega) (fermat1 hp nd) fun q hq qd => ?_
    obtain ⟨x, hx, rfl⟩ := pr_dvd_prod hq hl.1.pr (by rw [hl.2]; exact qd)
    exact h x hx
  · intro h q hq
    exact h.no_prime (hl.1.pr q hq).1.1 (by rw [← hl.2]; exact mem_dvd_prod hl.1.pr hq)
noncomputable def failP (b p : Int) (l : List (Int × Int)) : List (Int × Int) := l.filter fun q => decide (b ^ ((p - 1) / q.1).toNat % p = 1)
theorem fail_take {b p : Int} {l : List (Int × Int)} {i : Nat} {q : Int × Int} (h : l[i]? = some q) : failP b p (l.take (i + 1)) = failP b p (l.take i) ++ if b ^ ((p - 1) / q.1).toNat % p = 1 then [q] else [] := by
  unfold failP
  rw [List.take_succ, h, List.filter_append]
  congr 1
  by_cases e : b ^ ((p - 1) / q.1).toNat % p = 1
  · simp [e]
  · simp [e]
theorem fail_none {b p : Int} {l : List (Int × Int)} (hp : 2 ≤ p) : failP b p l = [] ↔ BaseOk b p l := by
  unfold failP BaseOk
  have one : (1 : Int) % p = 1 := Int.emod_eq_of_lt (by omega) (by omega)
  rw [List.filter_eq_nil_iff]
  constructor
  · intro h q hq hc
    have := h q hq
    rw [decide_eq_true_eq] at this
    have e := cg_eq hc
    rw [one] at e
    exact this e
  · intro h q hq e
    rw [decide_eq_true_eq] at e
    exact h q hq (cg_one.mp (by rw [e, one]))
structure LRoot (p b : Int) : Prop where
  b1 : 1 ≤ b
  b2 : b < p
  ord : Ord b p (p - 1)
  no : ∀ x, 1 ≤ x → x < b → ¬ Ord x p (p - 1)
theorem LRoot.unique {p b c : Int} (h : LRoot p b) (g : LRoot p c) : b = c := by
  by_cases e : b < c
  · exact absurd h.ord (g.no b h.b1 e)
  · by_cases e2 : c < b
    · exact absurd g.ord (h.no c g.b1 e2)
    · omega
noncomputable def lroot (p : Int) : Int := @dite _ (∃ b, LRoot p b) (Classical.propDecidable _) (fun h => Classical.choose h) (fun _ => 0)
theorem lroot_eq {p b : Int} (h : LRoot p b) : lroot p = b := by
  unfold lroot
  rw [dif_pos ⟨b, h⟩]
  exact (Classical.choose_spec (⟨b, h⟩ : ∃ b, LRoot p b)).unique h
theorem base_dec {b p : Int} {l : List (Int × Int)} (p2 : 2 ≤ p) : BaseOk b p l ↔ failP b p l = [] := (fail_none p2).symm
theorem parts2 : Parts (3 - 1) [(2, 1)] := ⟨⟨fun q h => by
    rcases List.mem_cons.mp h with rfl | h
    · exact ⟨isPr2, by decide⟩
    · exact (nomatch h), .cons (fun _ h => (nomatch h)) .nil⟩, by decide⟩
theorem parts6 : Parts (7 - 1) [(2, 1), (3, 1)] := ⟨⟨fun q h => by
    rcases List.mem_cons.mp h with rfl | h
    · exact ⟨isPr2, by decide⟩
    · rcases List.mem_cons.mp h with rfl | h
      · exact ⟨isPr3, by decide⟩
      · exact (nomatch h), .cons (fun x h => by
        rcases List.mem_cons.mp h with rfl | h
        · decide
        · exact (nomatch h)) (.cons (fun _ h => (nomatch h)) .nil)⟩, by decide⟩
theorem isPr7 : IsPr 7 := pr_try (n := 7) (k := 1) (by decide) (by decide) (by decide)
theorem lroot3 : lroot 3 = 2 := lroot_eq ⟨by decide, by decide, (base_ord isPr3 parts2 (by decide) (by decide)).mp ((base_dec (by decide)).mpr (by decide)), fun x x1 x2 h => by
  have e : x = 1 := by omega
  subst e
  have := (base_dec (by decide)).mp ((base_ord isPr3 parts2 (by decide) (by decide)).mpr h)
  exact absurd this (by decide)⟩
theorem lroot7 : lroot 7 = 3 := lroot_eq ⟨by decide, by decide, (base_ord isPr7 parts6 (by decide) (by decide)).mp ((base_dec (by decide)).mpr (by decide)), fun x x1 x2 h => by
  have e : x = 1 ∨ x = 2 := by omega
  rcases e with rfl | rfl
  · have := (base_dec (by decide)).mp ((base_ord isPr7 parts6 (by decide) (by decide)).mpr h)
    exact absurd this (by decide)
  · have := (base_dec (by decide)).mp ((base_ord isPr7 parts6 (by decide) (by decide)).mpr h)
    exact absurd this (by decide)⟩
end MM
set_option Elab.async false
set_option linter.all false
set_option maxRecDepth 100000
set_option maxHeartbeats 4000000
namespace L2
open PySem PySem.Spec PyProof.Rows
mutual
noncomputable def toPy : Dt → PyData
  | .non => .none
  | .bl b => .bool b
  | .int i => .int i
  | .str x => .str x
  | .tup ds => .tuple (toPyL ds)
  | .lst ds => .list (toPyL ds)
noncomputable def toPyL : List Dt → List PyData
  | [] => []
  | d :: ds => toPy d :: toPyL ds
end
mutual
noncomputable def okD : Dt → Bool
  | .int i => decide (i.natAbs < 10 ^ 100)
  | .str x => x.cps.toList.all fun c => decide (c < 16 ^ 8)
  | .tup ds => okDL ds
  | .lst ds => okDL ds
  | .non => true
  | .bl _ => true
noncomputable def okDL : List Dt → Bool
  | [] => true
  | d :: ds => okD d && okDL ds
end
mutual
noncomputable def lenD : Dt → Nat
  | .non => 4
  | .bl _ => 5
  | .int _ => 101
  | .str x => 10 * x.length + 2
  | .tup ds => lenDL ds + 3
  | .lst ds => lenDL ds + 3
noncomputable def lenDL : List Dt → Nat
  | [] => 0
  | d :: ds => lenD d + 2 + lenDL ds
end
section
variable {X : Cx} {pins : List (Addr × Obj)} {σ : St} {H : Hp} {s : Shared}
end
noncomputable def shD (d : Dt) : Str := (toPy d).shown
noncomputable def isScB : Dt → Bool
  | .bl _ => true
  | .str _ => true
  | _ => false
noncomputable def rReprD (K : PySem.W.Frag) : List V → Hp → VK → Prop := fun vs H Q => ∃ x d, vs = [x] ∧ Rep K H d x ∧ okD d = true ∧ isScB d = false ∧ lenD d ≤ 1000000 ∧ dep d ≤ 100 ∧ Q (.str (shD d)) H
end L2
set_option Elab.async false
set_option linter.all false
set_option maxRecDepth 100000
set_option maxHeartbeats 4000000
namespace L2
open PySem PySem.Spec PyProof.Rows
section
variable {X : Cx} {tg iter elt : Expr} {ifs : List Expr} {scope : Scope} {pos : Pos} {wi : TI} {N : List Str} {cl : List (Str × Addr)} {js : List (Option Nat)} {g : TG} {tt : Heap → TT} {te : Heap → TE}
end
end L2
set_option Elab.async false
set_option linter.all false
set_option maxRecDepth 100000
set_option maxHeartbeats 4000000
namespace PP
open PySem L2 MM
noncomputable def top (i : Nat) : Stmt := PySem.Challenge.pw_primepapers_k21_full_papers_told.main.body.getD i (.Pass ⟨0, 0, 0, 0⟩)
structure Cl where
  pe : Addr
  nn : Addr
  np : Addr
  pa : Addr
  pp : Addr
  nb : Addr
  nt : Addr
  nl : Addr
  nm : Addr
  nd : Addr
  tg : Addr
structure Txt (K : PySem.W.Frag) (mg : Str → Option Value) (t1 : Tok) (cl : Cl) : Prop where
  mg_MOST_TRIED : mg "MOST_TRIED" = some (.int 1000000000 t1)
  no_len : mg "len" = none
  no_isinstance : mg "isinstance" = none
  no_int : mg "int" = none
  no_bool : mg "bool" = none
  no_range : mg "range" = none
  no_max : mg "max" = none
  no_min : mg "min" = none
  no_str : mg "str" = none
  no_tuple : mg "tuple" = none
  no_list : mg "list" = none
  no_zip : mg "zip" = none
  no_all : mg "all" = none
  no_ValueError : mg "ValueError" = none
  mg_PrimeError : mg "PrimeError" = some (.ref cl.pe)
  mg_NoNumber : mg "NoNumber" = some (.ref cl.nn)
  mg_NoPrime : mg "NoPrime" = some (.ref cl.np)
  mg_NoPair : mg "NoPair" = some (.ref cl.pa)
  mg_NoPaper : mg "NoPaper" = some (.ref cl.pp)
  mg_NoBases : mg "NoBases" = some (.ref cl.nb)
  mg_NoText : mg "NoText" = some (.ref cl.nt)
  mg_NoLine : mg "NoLine" = some (.ref cl.nl)
  mg_NoName : mg "NoName" = some (.ref cl.nm)
  mg_NoDeed : mg "NoDeed" = some (.ref cl.nd)
  mg_TooGreat : mg "TooGreat" = some (.ref cl.tg)
  xc_NoNumber : ExcC K cl.nn
section
variable {P : Program} {w : World} {K : PySem.W.Frag} {mg : Str → Option Value} {base : Heap} {t1 : Tok} {cl : Cl} {f : Addr} {fd : FuncData}
noncomputable abbrev s_is_whole : Stmt := top 14
theorem sc_is_whole : FnScope ["thing"] ["thing"] (defScope s_is_whole) := ⟨rfl, rfl, rfl, by decide +kernel, rfl, by decide +kernel, by decide +kernel⟩
noncomputable abbrev Df_is_whole (K : PySem.W.Frag) (mg : Str → Option Value) (f : Addr) (fd : FuncData) : Prop := Def K mg "is_whole" s_is_whole ["thing"] f fd
noncomputable def isWh : V → Bool
  | .int _ => true
  | _ => false
noncomputable def spWhole (K : PySem.W.Frag) : Sp := fun vs H Q _ => ∃ x n, vs = [x] ∧ TyOf K H x (.type n) ∧ Q (.bl (isWh x)) H
theorem ok_is_whole (D : Df_is_whole K mg f fd) (T : Txt K mg t1 cl) : FnOk P w K mg base CX0 1 f fd ["thing"] (spWhole K) := by
  refine D.fn.ok sc_is_whole (fun vs H Q E h => ?_) (fun cdv A outer s H vs Q E hr h => ?_)
  · obtain ⟨x, n, rfl, _⟩ := h
    rfl
  · obtain ⟨x, n, rfl, ty, k⟩ := h
    refine ⟨_, (pss_one (ps_ret (pe_and (pe_callB call_isinst (by rfl) T.no_isinstance PyProof.Rows.boot_isinstance (pa_cons (pv 0) (pa_cons (pe_bltn (v := .ty "int") rfl T.no_int PyProof.Rows.boot_int rfl) pa_nil))) (pe_one (pe_not (pe_callB call_isinst (by rfl) T.no_isinstance PyProof.Rows.boot_isinstance (pa_cons (pv 0) (pa_cons (pe_bltn (v := .ty "bool") rfl T.no_bool PyProof.Rows.boot_bool rfl) pa_nil)))))))), ?_⟩
    have e0 : L2.start ["thing"] [x] = [some x] := rfl
    rw [e0]
    simp only [tSeq, tIfS, tTest, tRet, tRetN, tNext, tDrop, tAsg, tPar, tPar3, tAug, tVar, tC, tOp, tUn, rI, rI0, rU, tB, tAnd, tOr, tNot, tAndV, tOrV, tNotV, tIf, gName, gNil, gCons, gTup, gSub, tCB, tCons, tNil, tCall, tChain, ipI, tIsN, tNotN, tBM, tyV, tTup, tLst, rAppend, rCat, scal_ii, scal_bb, scal_ss, scal_ni, scal_in, rEq, rNe, List.getElem?_cons_zero, List.getElem?_cons_succ, List.set_cons_zero, List.set_cons_succ, eq_self, and_assoc, Option.some.injEq, V.int.injEq, V.bl.injEq, V.ref.injEq, V.str.injEq, List.cons.injEq, exists_eq_left', exists_eq_left, exists_and_left, List.nil_append, List.cons_append, List.append_nil, true_and, and_true, decide_eq_true_eq, Bool.not_eq_true', decide_eq_false_iff_not, if_true, if_false, Bool.not_true, Bool.not_false, Bool.false_eq_true, reduceCtorEq, decide_true, decide_false, ite_true, ite_false, rSetL, rIxL, tRaise, jCons, jNil, tFmt, tDNew, rCount, rIndex, tCont, tBreak, Int.reduceToNat, Int.reducePow]
    refine isi ty ⟨_, rfl, ?_⟩
    have ty' := ty
    cases ty' <;> first | exact iteF k | (refine iteT ?_; refine isi (by assumption) ⟨_, rfl, ?_⟩; exact k)
noncomputable abbrev s_is_between : Stmt := top 15
theorem sc_is_between : FnScope ["thing", "least", "most"] ["thing", "least", "most"] (defScope s_is_between) := ⟨rfl, rfl, rfl, by decide +kernel, rfl, by decide +kernel, by decide +kernel⟩
noncomputable abbrev Df_is_between (K : PySem.W.Frag) (mg : Str → Option Value) (f : Addr) (fd : FuncData) : Prop := Def K mg "is_between" s_is_between ["thing", "least", "most"] f fd
noncomputable def isBet : V → Int → Int → Bool
  | .int i, lo, hi => decide (lo ≤ i) && decide (i ≤ hi)
  | _, _, _ => false
noncomputable def spBetween (K : PySem.W.Frag) : Sp := fun vs H Q _ => ∃ x n lo hi, vs = [x, .int lo, .int hi] ∧ TyOf K H x (.type n) ∧ Q (.bl (isBet x lo hi)) H
theorem ok_is_between (D : Df_is_between K mg f fd) (T : Txt K mg t1 cl) {f1 fd1} (D_is_whole : Df_is_whole K mg f1 fd1) : FnOk P w K mg base CX0 2 f fd ["thing", "least", "most"] (spBetween K) := by
  have G_is_whole : FnOk P w K mg base CX0 1 _ _ _ _ := ok_is_whole D_is_whole T
  refine D.fn.ok sc_is_between (fun vs H Q E h => ?_) (fun cdv A outer s H vs Q E hr h => ?_)
  · obtain ⟨x, n, lo, hi, rfl, _⟩ := h
    rfl
  · obtain ⟨x, n, lo, hi, rfl, ty, k⟩ := h
    refine ⟨_, (pss_one (ps_ret (pe_and (pe_call (G_is_whole.mono (by decide)) hr rfl D_is_whole.mgx D_is_whole.fn.kp D_is_whole.bd .nil pass0 (pa_cons (pv 0) pa_nil)) (pe_one (pe_chain op_le op_le (pv 1) (pv 0) (pv 2)))))), ?_⟩
    have e0 : L2.start ["thing", "least", "most"] [x, .int lo, .int hi] = [some (x), some (.int lo), some (.int hi)] := rfl
    rw [e0]; clear e0
    simp only [tSeq, tIfS, tTest, tRet, tRetN, tNext, tDrop, tAsg, tPar, tPar3, tAug, tVar, tC, tOp, tUn, rI, rI0, rU, tB, tAnd, tOr, tNot, tAndV, tOrV, tNotV, tIf, gName, gNil, gCons, gTup, gSub, tCB, tCons, tNil, tCall, tChain, ipI, tIsN, tNotN, tBM, tyV, tTup, tLst, rAppend, rCat, scal_ii, scal_bb, scal_ss, scal_ni, scal_in, rEq, rNe, List.getElem?_cons_zero, List.getElem?_cons_succ, List.set_cons_zero, List.set_cons_succ, eq_self, and_assoc, Option.some.injEq, V.int.injEq, V.bl.injEq, V.ref.injEq, V.str.injEq, List.cons.injEq, exists_eq_left', exists_eq_left, exists_and_left, List.nil_append, List.cons_append, List.append_nil, true_and, and_true, decide_eq_true_eq, Bool.not_eq_true', decide_eq_false_iff_not, if_true, if_false, Bool.not_true, Bool.not_false, Bool.false_eq_true, reduceCtorEq, decide_true, decide_false, ite_true, ite_false, rSetL, rIxL, tRaise, jCons, jNil, tFmt, tDNew, rCount, rIndex, tCont, tBreak, Int.reduceToNat, Int.reducePow]
    refine ⟨x, n, rfl, ty, _, rfl, ?_⟩
    cases x
    case int i =>
      refine iteT ⟨_, rfl, ?_⟩
      by_cases hl : lo ≤ i
      · rw [if_pos (by simpa using hl)]
        have e : isBet (.int i) lo hi = decide (i ≤ hi) := by simp [isBet, hl]
        rw [e] at k
        simp only [tSeq, tIfS, tTest, tRet, tRetN, tNext, tDrop, tAsg, tPar, tPar3, tAug, tVar, tC, tOp, tUn, rI, rI0, rU, tB, tAnd, tOr, tNot, tAndV, tOrV, tNotV, tIf, gName, gNil, gCons, gTup, gSub, tCB, tCons, tNil, tCall, tChain, ipI, tIsN, tNotN, tBM, tyV, tTup, tLst, rAppend, rCat, scal_ii, scal_bb, scal_ss, scal_ni, scal_in, rEq, rNe, List.getElem?_cons_zero, List.getElem?_cons_succ, List.set_cons_zero, List.set_cons_succ, eq_self, and_assoc, Option.some.injEq, V.int.injEq, V.bl.injEq, V.ref.injEq, V.str.injEq, List.cons.injEq, exists_eq_left', exists_eq_left, exists_and_left, List.nil_append, List.cons_append, List.append_nil, true_and, and_true, decide_eq_true_eq, Bool.not_eq_true', decide_eq_false_iff_not, if_true, if_false, Bool.not_true, Bool.not_false, Bool.false_eq_true, reduceCtorEq, decide_true, decide_false, ite_true, ite_false, rSetL, rIxL, tRaise, jCons, jNil, tFmt, tDNew, rCount, rIndex, tCont, tBreak, Int.reduceToNat, Int.reducePow]
        exact k
      · rw [if_neg (by simpa using hl)]
        have e : isBet (.int i) lo hi = false := by simp [isBet, hl]
        rw [e] at k
        exact k
    all_goals exact iteF k
noncomputable abbrev O_is_between (P : Program) (w : World) (K : PySem.W.Frag) (mg : Str → Option Value) (base : Heap) : Prop := ∃ f fd, Df_is_between K mg f fd ∧ FnOk P w K mg base CX0 2 f fd ["thing", "least", "most"] (spBetween K)
noncomputable abbrev s_want_between : Stmt := top 16
theorem sc_want_between : FnScope ["thing", "least", "most", "name"] ["thing", "least", "most", "name"] (defScope s_want_between) := ⟨rfl, rfl, rfl, by decide +kernel, rfl, by decide +kernel, by decide +kernel⟩
noncomputable abbrev Df_want_between (K : PySem.W.Frag) (mg : Str → Option Value) (f : Addr) (fd : FuncData) : Prop := Def K mg "want_between" s_want_between ["thing", "least", "most", "name"] f fd
noncomputable def spWantB (K : PySem.W.Frag) (cl : Cl) : Sp := fun vs H Q E => ∃ (x : V) (n : String) (lo hi : Int) (nm : Str), vs = [x, .int lo, .int hi, .str nm] ∧ TyOf K H x (.type n) ∧ (lo.natAbs < 10 ^ 100 ∧ hi.natAbs < 10 ^ 100 ∧ nm.length ≤ 100) ∧ (isBet x lo hi = true → Q .non H) ∧ (isBet x lo hi = false → E (.ref cl.nn) none H)
theorem ok_want_between (D : Df_want_between K mg f fd) (T : Txt K mg t1 cl) (o1 : O_is_between P w K mg base) : FnOk P w K mg base (CXE P w) 3 f fd ["thing", "least", "most", "name"] (spWantB K cl) := by
  obtain ⟨_, _, D_is_between, G_is_between⟩ := o1
  refine D.fn.okX sc_want_between (fun vs H Q E h => ?_) (fun cdv A outer s H vs Q E hr h => ?_)
  · obtain ⟨x, n, lo, hi, nm, rfl, _⟩ := h
    rfl
  · obtain ⟨x, n, lo, hi, nm, rfl, ty, ⟨b1, b2, b3⟩, k1, k2⟩ := h
    refine ⟨_, (pss_one (ps_if (pt_not (pt_val (pe_call (G_is_between.mono (by decide)) hr rfl D_is_between.mgx D_is_between.fn.kp D_is_between.bd .nil pass0 (pa_cons (pv 0) (pa_cons (pv 1) (pa_cons (pv 2) pa_nil))))))
 (pss_one (ps_raise raises_cx rfl rfl T.mg_NoNumber T.xc_NoNumber (pe_joined (pj_cons (pe_fmt (pv 3)) (pj_cons pe_str (pj_cons (pe_fmt (pv 1)) (pj_cons pe_str (pj_cons (pe_fmt (pv 2)) pj_nil))))))))
 pss_nil)), ?_⟩
    have e0 : L2.start ["thing", "least", "most", "name"] [x, .int lo, .int hi, .str nm] = [some (x), some (.int lo), some (.int hi), some (.str nm)] := rfl
    rw [e0]; clear e0
    simp only [tSeq, tIfS, tTest, tRet, tRetN, tNext, tDrop, tAsg, tPar, tPar3, tAug, tVar, tC, tOp, tUn, rI, rI0, rU, tB, tAnd, tOr, tNot, tAndV, tOrV, tNotV, tIf, gName, gNil, gCons, gTup, gSub, tCB, tCons, tNil, tCall, tChain, ipI, tIsN, tNotN, tBM, tyV, tTup, tLst, rAppend, rCat, scal_ii, scal_bb, scal_ss, scal_ni, scal_in, rEq, rNe, List.getElem?_cons_zero, List.getElem?_cons_succ, List.set_cons_zero, List.set_cons_succ, eq_self, and_assoc, Option.some.injEq, V.int.injEq, V.bl.injEq, V.ref.injEq, V.str.injEq, List.cons.injEq, exists_eq_left', exists_eq_left, exists_and_left, List.nil_append, List.cons_append, List.append_nil, true_and, and_true, decide_eq_true_eq, Bool.not_eq_true', decide_eq_false_iff_not, if_true, if_false, Bool.not_true, Bool.not_false, Bool.false_eq_true, reduceCtorEq, decide_true, decide_false, ite_true, ite_false, rSetL, rIxL, tRaise, jCons, jNil, tFmt, tDNew, rCount, rIndex, tCont, tBreak, Int.reduceToNat, Int.reducePow]
    refine ⟨x, n, lo, hi, rfl, ty, _, rfl, ?_⟩
    cases e : isBet x lo hi with
    | true => rw [if_neg (by decide)]; exact k1 e
    | false =>
      rw [if_pos rfl]
      have l1 : (Str.ofString (toString lo)).length ≤ 101 := toStr_len b1
      have l2 : (Str.ofString (toString hi)).length ≤ 101 := toStr_len b2
      have e0 : Str.empty.length = 0 := rfl
      have e1 : (Str.ofString " is no whole number from ").length = 25 := by rfl
      have e2 : (Str.ofString " to ").length = 4 := by rfl
      refine .inl ⟨?_, ?_, ?_, .inr ⟨b1, ?_, ?_, .inr ⟨b2, ?_, ?_, k2 e⟩⟩⟩ <;> (try simp only [Str.length_append, e0, e1, e2]) <;> exact Nat.le_of_lt (small1000 (by omega))
noncomputable abbrev O_want_between (P : Program) (w : World) (K : PySem.W.Frag) (mg : Str → Option Value) (base : Heap) (cl : Cl) : Prop := ∃ f fd, Df_want_between K mg f fd ∧ FnOk P w K mg base (CXE P w) 3 f fd ["thing", "least", "most", "name"] (spWantB K cl)
noncomputable def spWant (K : PySem.W.Frag) (cl : Cl) (lo hi : Int) : Sp := fun vs H Q E => ∃ (x : V) (n : String) (nm : Str), vs = [x, .str nm] ∧ TyOf K H x (.type n) ∧ nm.length ≤ 100 ∧ (isBet x lo hi = true → Q .non H) ∧ (isBet x lo hi = false → E (.ref cl.nn) none H)
noncomputable abbrev s_want_tried : Stmt := top 17
theorem sc_want_tried : FnScope ["thing", "name"] ["thing", "name"] (defScope s_want_tried) := ⟨rfl, rfl, rfl, by decide +kernel, rfl, by decide +kernel, by decide +kernel⟩
noncomputable abbrev Df_want_tried (K : PySem.W.Frag) (mg : Str → Option Value) (f : Addr) (fd : FuncData) : Prop := Def K mg "want_tried" s_want_tried ["thing", "name"] f fd
theorem ok_want_tried (D : Df_want_tried K mg f fd) (T : Txt K mg t1 cl) (o1 : O_want_between P w K mg base cl) : FnOk P w K mg base (CXE P w) 4 f fd ["thing", "name"] (spWant K cl 1 1000000000) := by
  obtain ⟨_, _, D_want_between, G_want_between⟩ := o1
  refine D.fn.okX sc_want_tried (fun vs H Q E h => ?_) (fun cdv A outer s H vs Q E hr h => ?_)
  · obtain ⟨x, n, nm, rfl, _⟩ := h
    rfl
  · obtain ⟨x, n, nm, rfl, ty, hb, k1, k2⟩ := h
    refine ⟨_, (pss_one (ps_expr (pe_call (G_want_between.mono (by decide)) hr rfl D_want_between.mgx D_want_between.fn.kp D_want_between.bd .nil (passes_cx (fun _ _ _ h => h)) (pa_cons (pv 0) (pa_cons pe_int (pa_cons (pe_glob (v := .int _) rfl T.mg_MOST_TRIED ⟨_, rfl⟩) (pa_cons (pv 1) pa_nil))))))), ?_⟩
    have e0 : L2.start ["thing", "name"] [x, .str nm] = [some (x), some (.str nm)] := rfl
    rw [e0]; clear e0
    simp only [tSeq, tIfS, tTest, tRet, tRetN, tNext, tDrop, tAsg, tPar, tPar3, tAug, tVar, tC, tOp, tUn, rI, rI0, rU, tB, tAnd, tOr, tNot, tAndV, tOrV, tNotV, tIf, gName, gNil, gCons, gTup, gSub, tCB, tCons, tNil, tCall, tChain, ipI, tIsN, tNotN, tBM, tyV, tTup, tLst, rAppend, rCat, scal_ii, scal_bb, scal_ss, scal_ni, scal_in, rEq, rNe, List.getElem?_cons_zero, List.getElem?_cons_succ, List.set_cons_zero, List.set_cons_succ, eq_self, and_assoc, Option.some.injEq, V.int.injEq, V.bl.injEq, V.ref.injEq, V.str.injEq, List.cons.injEq, exists_eq_left', exists_eq_left, exists_and_left, List.nil_append, List.cons_append, List.append_nil, true_and, and_true, decide_eq_true_eq, Bool.not_eq_true', decide_eq_false_iff_not, if_true, if_false, Bool.not_true, Bool.not_false, Bool.false_eq_true, reduceCtorEq, decide_true, decide_false, ite_true, ite_false, rSetL, rIxL, tRaise, jCons, jNil, tFmt, tDNew, rCount, rIndex, tCont, tBreak, Int.reduceToNat, Int.reducePow]
    exact ⟨x, n, _, _, nm, rfl, ty, ⟨by decide, by decide, hb⟩, k1, k2⟩
noncomputable abbrev O_want_tried (P : Program) (w : World) (K : PySem.W.Frag) (mg : Str → Option Value) (base : Heap) (cl : Cl) : Prop := ∃ f fd, Df_want_tried K mg f fd ∧ FnOk P w K mg base (CXE P w) 4 f fd ["thing", "name"] (spWant K cl 1 1000000000)
theorem isBet_int {x : V} {lo hi : Int} (h : isBet x lo hi = true) : ∃ i, x = .int i ∧ lo ≤ i ∧ i ≤ hi := by
  cases x with
  | int i => simp only [isBet, Bool.and_eq_true, decide_eq_true_eq] at h; exact ⟨i, rfl, h⟩
  | _ => cases h
theorem isBet_of {i lo hi : Int} (h1 : lo ≤ i) (h2 : i ≤ hi) : isBet (.int i) lo hi = true := by simp [isBet, h1, h2]
noncomputable abbrev s_least_part : Stmt := top 22
theorem sc_least_part : FnScope ["number", "start", "tried"] ["number", "start"] (defScope s_least_part) := ⟨rfl, rfl, rfl, by decide +kernel, rfl, by decide +kernel, by decide +kernel⟩
noncomputable abbrev Df_least_part (K : PySem.W.Frag) (mg : Str → Option Value) (f : Addr) (fd : FuncData) : Prop := Def K mg "least_part" s_least_part ["number", "start"] f fd
noncomputable def LpInv (n s t : Int) : Prop := s ≤ t ∧ ∀ d, s ≤ d → d < t → n % d ≠ 0
noncomputable def spLeast : Sp := fun vs H Q _ => ∃ (n s : Int), vs = [.int n, .int s] ∧ (0 ≤ n ∧ n ≤ 10 ^ 9 ∧ 2 ≤ s ∧ s ≤ 10 ^ 9 + 1) ∧ ∀ r, LpEnd n s r → Q (.int r) H
theorem ok_least_part (D : Df_least_part K mg f fd) (T : Txt K mg t1 cl) : FnOk P w K mg base CX0 1 f fd ["number", "start"] spLeast := by
  refine D.fn.ok sc_least_part (fun vs H Q E h => ?_) (fun cdv A outer s H vs Q E hr h => ?_)
  · obtain ⟨a, n, rfl, _⟩ := h
    rfl
  · obtain ⟨n, s, rfl, ⟨h0, h1, h2, h3⟩, k⟩ := h
    refine ⟨_, (pss_cons (ps_set (i := 2) sc_least_part.nd rfl (by first | exact Or.inl rfl | exact Or.inr rfl) (pv 1))
 (pss_cons (ps_while PassesOwn.never (pt_cmpR op_le (pe_op op_mulB (pv 2) (pv 2)) (pv 0) (nomark _))
 (pss_cons (ps_if (pt_cmpR op_eq (pe_op op_mod (pv 0) (pv 2)) pe_int (nomark _))
 (pss_one (ps_ret (pv 2)))
 pss_nil)
 (pss_one (ps_aug (i := 2) sc_least_part.nd rfl (Or.inl rfl) pe_int ip_add))))
 (pss_one (ps_ret (pv 0))))), ?_⟩
    have e0 : L2.start ["number", "start", "tried"] [.int n, .int s] = [some (.int n), some (.int s), none] := rfl
    rw [e0]; clear e0
    simp only [tSeq, tIfS, tTest, tRet, tRetN, tNext, tDrop, tAsg, tPar, tPar3, tAug, tVar, tC, tOp, tUn, rI, rI0, rU, tB, tAnd, tOr, tNot, tAndV, tOrV, tNotV, tIf, gName, gNil, gCons, gTup, gSub, tCB, tCons, tNil, tCall, tChain, ipI, tIsN, tNotN, tBM, tyV, tTup, tLst, rAppend, rCat, scal_ii, scal_bb, scal_ss, scal_ni, scal_in, rEq, rNe, List.getElem?_cons_zero, List.getElem?_cons_succ, List.set_cons_zero, List.set_cons_succ, eq_self, and_assoc, Option.some.injEq, V.int.injEq, V.bl.injEq, V.ref.injEq, V.str.injEq, List.cons.injEq, exists_eq_left', exists_eq_left, exists_and_left, List.nil_append, List.cons_append, List.append_nil, true_and, and_true, decide_eq_true_eq, Bool.not_eq_true', decide_eq_false_iff_not, if_true, if_false, Bool.not_true, Bool.not_false, Bool.false_eq_true, reduceCtorEq, decide_true, decide_false, ite_true, ite_false, rSetL, rIxL, tRaise, jCons, jNil, tFmt, tDNew, rCount, rIndex, tCont, tBreak, Int.reduceToNat, Int.reducePow]
    refine ⟨fun m σ H' => H' = H ∧ ∃ t, m = (10 ^ 10 - t).toNat ∧ σ = [some (.int n), some (.int s), some (.int t)] ∧ LpInv n s t ∧ t ≤ 10 ^ 9 + 2,
      ⟨_, rfl, _, rfl, rfl, ⟨Int.le_refl _, fun d a b => by omega⟩, by omega⟩, ?_⟩
    rintro m σ H' ⟨rfl, t, rfl, rfl, ⟨I1, I2⟩, I3⟩
    simp only [tSeq, tIfS, tTest, tRet, tRetN, tNext, tDrop, tAsg, tPar, tPar3, tAug, tVar, tC, tOp, tUn, rI, rI0, rU, tB, tAnd, tOr, tNot, tAndV, tOrV, tNotV, tIf, gName, gNil, gCons, gTup, gSub, tCB, tCons, tNil, tCall, tChain, ipI, tIsN, tNotN, tBM, tyV, tTup, tLst, rAppend, rCat, scal_ii, scal_bb, scal_ss, scal_ni, scal_in, rEq, rNe, List.getElem?_cons_zero, List.getElem?_cons_succ, List.set_cons_zero, List.set_cons_succ, eq_self, and_assoc, Option.some.injEq, V.int.injEq, V.bl.injEq, V.ref.injEq, V.str.injEq, List.cons.injEq, exists_eq_left', exists_eq_left, exists_and_left, List.nil_append, List.cons_append, List.append_nil, true_and, and_true, decide_eq_true_eq, Bool.not_eq_true', decide_eq_false_iff_not, if_true, if_false, Bool.not_true, Bool.not_false, Bool.false_eq_true, reduceCtorEq, decide_true, decide_false, ite_true, ite_false, rSetL, rIxL, tRaise, jCons, jNil, tFmt, tDNew, rCount, rIndex, tCont, tBreak, Int.reduceToNat, Int.reducePow]
    refine ⟨.inr ⟨by omega, by omega⟩, ?_⟩
    refine ite2 (fun hl => ?_) (fun hl => ?_)
    · refine ⟨fun σ' H2 => H2 = H' ∧ ∃ t', (10 ^ 10 - t').toNat < (10 ^ 10 - t).toNat ∧ σ' = [some (.int n), some (.int s), some (.int t')] ∧ LpInv n s t' ∧ t' ≤ 10 ^ 9 + 2,
        fun σ' H2 ⟨e, t', hlt, e2, J⟩ => ⟨_, hlt, e, t', rfl, e2, J⟩, ?_⟩
      have t2 : t ≤ n := by
        have := Int.mul_le_mul_of_nonneg_right (show (1 : Int) ≤ t by omega) (show 0 ≤ t by omega)
        omega
      refine ⟨by omega, ?_⟩
      refine ite2 (fun hd => ?_) (fun hd => ?_)
      · exact k t (.inr ⟨I1, hl, hd, I2⟩)
      · refine ⟨rfl, t + 1, by omega, rfl, ⟨by omega, fun d a b => ?_⟩, by omega⟩
        by_cases e : d = t
        · rw [e]; exact hd
        · exact I2 d a (by omega)
    · refine k n (.inl ⟨rfl, fun d a b => I2 d a ?_⟩)
      refine Classical.byContradiction fun hc => hl ?_
      have := sq_mono (show 0 ≤ t by omega) (show t ≤ d by omega)
      omega
noncomputable abbrev O_least_part (P : Program) (w : World) (K : PySem.W.Frag) (mg : Str → Option Value) (base : Heap) : Prop := ∃ f fd, Df_least_part K mg f fd ∧ FnOk P w K mg base CX0 1 f fd ["number", "start"] (spLeast)
noncomputable abbrev s_is_prime : Stmt := top 19
theorem sc_is_prime : FnScope ["number"] ["number"] (defScope s_is_prime) := ⟨rfl, rfl, rfl, by decide +kernel, rfl, by decide +kernel, by decide +kernel⟩
noncomputable abbrev Df_is_prime (K : PySem.W.Frag) (mg : Str → Option Value) (f : Addr) (fd : FuncData) : Prop := Def K mg "is_prime" s_is_prime ["number"] f fd
noncomputable def spIsPrime (K : PySem.W.Frag) (cl : Cl) : Sp := fun vs H Q E => ∃ (x : V) (nx : String), vs = [x] ∧ TyOf K H x (.type nx) ∧ (isBet x 0 1000000000 = false → E (.ref cl.nn) none H) ∧ (∀ n : Int, x = .int n → 0 ≤ n → n ≤ 1000000000 → Q (.bl (isPrB n)) H)
theorem lp_prime {n r : Int} (hn : 1 < n) (h : LpEnd n 2 r) : r = n ↔ IsPr n := by
  constructor
  · intro e
    rcases h with ⟨_, h⟩ | ⟨h1, h2, h3, h4⟩
    · exact ⟨by omega, h⟩
    · subst e
      have := Int.mul_le_mul_of_nonneg_right (show (2 : Int) ≤ r by omega) (show 0 ≤ r by omega)
      omega
  · intro hp
    rcases h with ⟨h, _⟩ | ⟨h1, h2, h3, h4⟩
    · exact h
    · exact absurd h3 (hp.2 r h1 h2)
theorem ok_is_prime (D : Df_is_prime K mg f fd) (T : Txt K mg t1 cl) (o1 : O_want_between P w K mg base cl) (o2 : O_least_part P w K mg base) : FnOk P w K mg base (CXE P w) 5 f fd ["number"] (spIsPrime K cl) := by
  obtain ⟨_, _, D_want_between, G_want_between⟩ := o1
  obtain ⟨_, _, D_least_part, G_least_part⟩ := o2
  refine D.fn.okX sc_is_prime (fun vs H Q E h => ?_) (fun cdv A outer s H vs Q E hr h => ?_)
  · obtain ⟨x, nx, rfl, _⟩ := h
    rfl
  · obtain ⟨x, nx, rfl, tx, ke, kq⟩ := h
    refine ⟨_, (pss_cons (ps_expr (pe_call (G_want_between.mono (by decide)) hr rfl D_want_between.mgx D_want_between.fn.kp D_want_between.bd .nil (passes_cx (fun _ _ _ h => h)) (pa_cons (pv 0) (pa_cons pe_int (pa_cons (pe_glob (v := .int _) rfl T.mg_MOST_TRIED ⟨_, rfl⟩) (pa_cons pe_str pa_nil))))))
 (pss_one (ps_ret (pe_and (pe_cmpR op_gt (pv 0) pe_int (nomark _)) (pe_one (pe_cmpR op_eq (pe_call (G_least_part.mono (by decide)) hr rfl D_least_part.mgx D_least_part.fn.kp D_least_part.bd .nil pass0 (pa_cons (pv 0) (pa_cons pe_int pa_nil))) (pv 0) (nomark _))))))), ?_⟩
    have e0 : L2.start ["number"] [x] = [some (x)] := rfl
    rw [e0]; clear e0
    simp only [tSeq, tIfS, tTest, tRet, tRetN, tNext, tDrop, tAsg, tPar, tPar3, tAug, tVar, tC, tOp, tUn, rI, rI0, rU, tB, tAnd, tOr, tNot, tAndV, tOrV, tNotV, tIf, gName, gNil, gCons, gTup, gSub, tCB, tCons, tNil, tCall, tChain, ipI, tIsN, tNotN, tBM, tyV, tTup, tLst, rAppend, rCat, scal_ii, scal_bb, scal_ss, scal_ni, scal_in, rEq, rNe, List.getElem?_cons_zero, List.getElem?_cons_succ, List.set_cons_zero, List.set_cons_succ, eq_self, and_assoc, Option.some.injEq, V.int.injEq, V.bl.injEq, V.ref.injEq, V.str.injEq, List.cons.injEq, exists_eq_left', exists_eq_left, exists_and_left, List.nil_append, List.cons_append, List.append_nil, true_and, and_true, decide_eq_true_eq, Bool.not_eq_true', decide_eq_false_iff_not, if_true, if_false, Bool.not_true, Bool.not_false, Bool.false_eq_true, reduceCtorEq, decide_true, decide_false, ite_true, ite_false, rSetL, rIxL, tRaise, jCons, jNil, tFmt, tDNew, rCount, rIndex, tCont, tBreak, Int.reduceToNat, Int.reducePow]
    refine ⟨x, nx, 0, _, _, rfl, tx, ⟨by decide, by decide, by decide⟩, fun hx => ?_, ke⟩
    obtain ⟨n, rfl, x1, x2⟩ := isBet_int hx
    have k := kq n rfl x1 x2
    simp only [tSeq, tIfS, tTest, tRet, tRetN, tNext, tDrop, tAsg, tPar, tPar3, tAug, tVar, tC, tOp, tUn, rI, rI0, rU, tB, tAnd, tOr, tNot, tAndV, tOrV, tNotV, tIf, gName, gNil, gCons, gTup, gSub, tCB, tCons, tNil, tCall, tChain, ipI, tIsN, tNotN, tBM, tyV, tTup, tLst, rAppend, rCat, scal_ii, scal_bb, scal_ss, scal_ni, scal_in, rEq, rNe, List.getElem?_cons_zero, List.getElem?_cons_succ, List.set_cons_zero, List.set_cons_succ, eq_self, and_assoc, Option.some.injEq, V.int.injEq, V.bl.injEq, V.ref.injEq, V.str.injEq, List.cons.injEq, exists_eq_left', exists_eq_left, exists_and_left, List.nil_append, List.cons_append, List.append_nil, true_and, and_true, decide_eq_true_eq, Bool.not_eq_true', decide_eq_false_iff_not, if_true, if_false, Bool.not_true, Bool.not_false, Bool.false_eq_true, reduceCtorEq, decide_true, decide_false, ite_true, ite_false, rSetL, rIxL, tRaise, jCons, jNil, tFmt, tDNew, rCount, rIndex, tCont, tBreak, Int.reduceToNat, Int.reducePow]
    refine ite2 (fun hl => ?_) (fun hl => ?_)
    · refine ⟨n, 2, rfl, ⟨by omega, by omega, by omega, by omega⟩, fun r hr => ?_⟩
      simp only [tSeq, tIfS, tTest, tRet, tRetN, tNext, tDrop, tAsg, tPar, tPar3, tAug, tVar, tC, tOp, tUn, rI, rI0, rU, tB, tAnd, tOr, tNot, tAndV, tOrV, tNotV, tIf, gName, gNil, gCons, gTup, gSub, tCB, tCons, tNil, tCall, tChain, ipI, tIsN, tNotN, tBM, tyV, tTup, tLst, rAppend, rCat, scal_ii, scal_bb, scal_ss, scal_ni, scal_in, rEq, rNe, List.getElem?_cons_zero, List.getElem?_cons_succ, List.set_cons_zero, List.set_cons_succ, eq_self, and_assoc, Option.some.injEq, V.int.injEq, V.bl.injEq, V.ref.injEq, V.str.injEq, List.cons.injEq, exists_eq_left', exists_eq_left, exists_and_left, List.nil_append, List.cons_append, List.append_nil, true_and, and_true, decide_eq_true_eq, Bool.not_eq_true', decide_eq_false_iff_not, if_true, if_false, Bool.not_true, Bool.not_false, Bool.false_eq_true, reduceCtorEq, decide_true, decide_false, ite_true, ite_false, rSetL, rIxL, tRaise, jCons, jNil, tFmt, tDNew, rCount, rIndex, tCont, tBreak, Int.reduceToNat, Int.reducePow]
      have e := lp_prime hl hr
      by_cases hp : IsPr n
      · rw [isPrB_of hp] at k
        rw [decide_eq_true (e.mpr hp)]
        exact k
      · rw [isPrB_not hp] at k
        rw [decide_eq_false (fun z => hp (e.mp z))]
        exact k
    · have e : ¬ IsPr n := fun h => by have := h.1; omega
      rw [isPrB_not e] at k
      exact k
noncomputable abbrev O_is_prime (P : Program) (w : World) (K : PySem.W.Frag) (mg : Str → Option Value) (base : Heap) (cl : Cl) : Prop := ∃ f fd, Df_is_prime K mg f fd ∧ FnOk P w K mg base (CXE P w) 5 f fd ["number"] (spIsPrime K cl)
noncomputable abbrev s_parts_of : Stmt := top 20
theorem sc_parts_of : FnScope ["number", "found", "left", "tried", "often"] ["number"] (defScope s_parts_of) := ⟨rfl, rfl, rfl, by decide +kernel, rfl, by decide +kernel, by decide +kernel⟩
noncomputable abbrev Df_parts_of (K : PySem.W.Frag) (mg : Str → Option Value) (f : Addr) (fd : FuncData) : Prop := Def K mg "parts_of" s_parts_of ["number"] f fd
noncomputable def spParts (K : PySem.W.Frag) (cl : Cl) : Sp := fun vs H Q E => ∃ (x : V) (nx : String), vs = [x] ∧ TyOf K H x (.type nx) ∧ (isBet x 1 1000000000 = false → E (.ref cl.nn) none H) ∧ ∀ n : Int, x = .int n → 1 ≤ n → n ≤ 1000000000 → ∀ l p xs H', Parts n l → Same H H' → H' p = some (.tup xs) → RepL K H' (l.map pD) xs → Q (.ref p) H'
theorem ok_parts_of (D : Df_parts_of K mg f fd) (T : Txt K mg t1 cl) (o1 : O_want_tried P w K mg base cl) (o2 : O_least_part P w K mg base) : FnOk P w K mg base (CXE P w) 5 f fd ["number"] (spParts K cl) := by
  obtain ⟨_, _, D_want_tried, G_want_tried⟩ := o1
  obtain ⟨_, _, D_least_part, G_least_part⟩ := o2
  refine D.fn.okX sc_parts_of (fun vs H Q E h => ?_) (fun cdv A outer s H vs Q E hr h => ?_)
  · obtain ⟨x, nx, rfl, _⟩ := h
    rfl
  · obtain ⟨x, nx, rfl, tx, ke, kq⟩ := h
    refine ⟨_, (pss_cons (ps_expr (pe_call (G_want_tried.mono (by decide)) hr rfl D_want_tried.mgx D_want_tried.fn.kp D_want_tried.bd .nil (passes_cx (fun _ _ _ h => h)) (pa_cons (pv 0) (pa_cons pe_str pa_nil))))
 (pss_cons (ps_set (i := 1) sc_parts_of.nd rfl (by first | exact Or.inl rfl | exact Or.inr rfl) (pe_lst pa_nil))
 (pss_cons (ps_set (i := 2) sc_parts_of.nd rfl (by first | exact Or.inl rfl | exact Or.inr rfl) (pv 0))
 (pss_cons (ps_set (i := 3) sc_parts_of.nd rfl (by first | exact Or.inl rfl | exact Or.inr rfl) pe_int)
 (pss_cons (PS.nox (ps_while PassesOwn.never (pt_cmpR op_gt (pv 2) pe_int (nomark _))
 (pss_cons (ps_set (i := 3) sc_parts_of.nd rfl (by first | exact Or.inl rfl | exact Or.inr rfl) (pe_call (G_least_part.mono (by decide)) hr rfl D_least_part.mgx D_least_part.fn.kp D_least_part.bd .nil pass0 (pa_cons (pv 2) (pa_cons (pv 3) pa_nil))))
 (pss_cons (ps_set (i := 4) sc_parts_of.nd rfl (by first | exact Or.inl rfl | exact Or.inr rfl) pe_int)
 (pss_cons (ps_while PassesOwn.never (pt_cmpR op_eq (pe_op op_mod (pv 2) (pv 3)) pe_int (nomark _))
 (pss_cons (ps_set (i := 2) sc_parts_of.nd rfl (by first | exact Or.inl rfl | exact Or.inr rfl) (pe_op op_fdivB (pv 2) (pv 3)))
 (pss_one (ps_aug (i := 4) sc_parts_of.nd rfl (Or.inl rfl) pe_int ip_add))))
 (pss_one (ps_expr (pe_bm PySem.F.plainAttrs_list PySem.F.slot_list_append PySem.F.type_list_append mt_append (pv 1) (pa_cons (pe_tup (pa_cons (pv 3) (pa_cons (pv 4) pa_nil))) pa_nil)))))))))
 (pss_one (ps_ret (pe_callTy call_tuple_of (by rfl) T.no_tuple PyProof.Rows.boot_tuple (pa_cons (pv 1) pa_nil))))))))), ?_⟩
    have e0 : L2.start ["number", "found", "left", "tried", "often"] [x] = [some (x), none, none, none, none] := rfl
    rw [e0]; clear e0
    simp only [tSeq, tIfS, tTest, tRet, tRetN, tNext, tDrop, tAsg, tPar, tPar3, tAug, tVar, tC, tOp, tUn, rI, rI0, rU, tB, tAnd, tOr, tNot, tAndV, tOrV, tNotV, tIf, gName, gNil, gCons, gTup, gSub, tCB, tCons, tNil, tCall, tChain, ipI, tIsN, tNotN, tBM, tyV, tTup, tLst, rAppend, rCat, scal_ii, scal_bb, scal_ss, scal_ni, scal_in, rEq, rNe, List.getElem?_cons_zero, List.getElem?_cons_succ, List.set_cons_zero, List.set_cons_succ, eq_self, and_assoc, Option.some.injEq, V.int.injEq, V.bl.injEq, V.ref.injEq, V.str.injEq, List.cons.injEq, exists_eq_left', exists_eq_left, exists_and_left, List.nil_append, List.cons_append, List.append_nil, true_and, and_true, decide_eq_true_eq, Bool.not_eq_true', decide_eq_false_iff_not, if_true, if_false, Bool.not_true, Bool.not_false, Bool.false_eq_true, reduceCtorEq, decide_true, decide_false, ite_true, ite_false, rSetL, rIxL, tRaise, jCons, jNil, tFmt, tDNew, rCount, rIndex, tCont, tBreak, Int.reduceToNat, Int.reducePow]
    refine ⟨x, nx, _, rfl, tx, by decide, fun hx => ?_, ke⟩
    obtain ⟨n, rfl, hb1, hb2⟩ := isBet_int hx
    have hb : 1 ≤ n ∧ n ≤ 10 ^ 9 := ⟨hb1, by omega⟩
    have k := kq n rfl hb1 hb2
    refine ⟨Nat.zero_le _, fun p hp => ?_⟩
    obtain ⟨W, hW⟩ : ∃ W : Nat → St → Hp → Prop, ∀ m σ H', W m σ H' ↔ ∃ l left t o xs, m = left.toNat ∧ σ = [some (.int n), some (.ref p), some (.int left), some (.int t), o] ∧ PtInv n l left t ∧ t ≤ 10 ^ 9 ∧ Same H H' ∧ H' p = some (.lst xs) ∧ RepL K H' (l.map pD) xs := ⟨_, fun _ _ _ => Iff.rfl⟩
    have s0 : Same H (upd H p (.lst [])) := fun b o e => by rw [upd_ne (ne_of_none e hp)]; exact e
    refine ⟨W, ⟨_, (hW _ _ _).mpr ⟨[], n, 2, none, [], rfl, rfl, pt_start hb.1, by omega, s0, upd_same, rfl⟩⟩, ?_⟩
    intro m σ H' hw
    obtain ⟨l, left, t, o, xs, rfl, rfl, I, tb, S, hl, R⟩ := (hW _ _ _).mp hw
    clear hw
    have i1 := I.l1; have i2 := I.t2; have i3 := pt_le I
    simp only [tSeq, tIfS, tTest, tRet, tRetN, tNext, tDrop, tAsg, tPar, tPar3, tAug, tVar, tC, tOp, tUn, rI, rI0, rU, tB, tAnd, tOr, tNot, tAndV, tOrV, tNotV, tIf, gName, gNil, gCons, gTup, gSub, tCB, tCons, tNil, tCall, tChain, ipI, tIsN, tNotN, tBM, tyV, tTup, tLst, rAppend, rCat, scal_ii, scal_bb, scal_ss, scal_ni, scal_in, rEq, rNe, List.getElem?_cons_zero, List.getElem?_cons_succ, List.set_cons_zero, List.set_cons_succ, eq_self, and_assoc, Option.some.injEq, V.int.injEq, V.bl.injEq, V.ref.injEq, V.str.injEq, List.cons.injEq, exists_eq_left', exists_eq_left, exists_and_left, List.nil_append, List.cons_append, List.append_nil, true_and, and_true, decide_eq_true_eq, Bool.not_eq_true', decide_eq_false_iff_not, if_true, if_false, Bool.not_true, Bool.not_false, Bool.false_eq_true, reduceCtorEq, decide_true, decide_false, ite_true, ite_false, rSetL, rIxL, tRaise, jCons, jNil, tFmt, tDNew, rCount, rIndex, tCont, tBreak, Int.reduceToNat, Int.reducePow]
    refine ite2 (fun h1 => ?_) (fun h1 => ?_)
    · refine ⟨fun σ' H2 => ∃ m', m' < left.toNat ∧ W m' σ' H2, fun _ _ h => h, ?_⟩
      refine ⟨left, t, rfl, ⟨by omega, by omega, by omega, by omega⟩, fun r hr => ?_⟩
      obtain ⟨pr, tr, rle, rd, ra⟩ := lp_next h1 i2 I.lo hr
      have r2 := pr.1
      obtain ⟨W2, hW2⟩ : ∃ W : Nat → St → Hp → Prop, ∀ m σ H2, W m σ H2 ↔ ∃ left' oft, m = left'.toNat ∧ σ = [some (.int n), some (.ref p), some (.int left'), some (.int r), some (.int oft)] ∧ DivInv left r left' oft ∧ H2 = H' := ⟨_, fun _ _ _ => Iff.rfl⟩
      refine ⟨W2, ⟨_, (hW2 _ _ _).mpr ⟨left, 0, rfl, rfl, div_start (by omega), rfl⟩⟩, ?_⟩
      intro m2 σ2 H2 hw2
      obtain ⟨left', oft, rfl, rfl, J, rfl⟩ := (hW2 _ _ _).mp hw2
      clear hw2
      have j1 := J.l1
      have j2 := div_le r2 J
      simp only [tSeq, tIfS, tTest, tRet, tRetN, tNext, tDrop, tAsg, tPar, tPar3, tAug, tVar, tC, tOp, tUn, rI, rI0, rU, tB, tAnd, tOr, tNot, tAndV, tOrV, tNotV, tIf, gName, gNil, gCons, gTup, gSub, tCB, tCons, tNil, tCall, tChain, ipI, tIsN, tNotN, tBM, tyV, tTup, tLst, rAppend, rCat, scal_ii, scal_bb, scal_ss, scal_ni, scal_in, rEq, rNe, List.getElem?_cons_zero, List.getElem?_cons_succ, List.set_cons_zero, List.set_cons_succ, eq_self, and_assoc, Option.some.injEq, V.int.injEq, V.bl.injEq, V.ref.injEq, V.str.injEq, List.cons.injEq, exists_eq_left', exists_eq_left, exists_and_left, List.nil_append, List.cons_append, List.append_nil, true_and, and_true, decide_eq_true_eq, Bool.not_eq_true', decide_eq_false_iff_not, if_true, if_false, Bool.not_true, Bool.not_false, Bool.false_eq_true, reduceCtorEq, decide_true, decide_false, ite_true, ite_false, rSetL, rIxL, tRaise, jCons, jNil, tFmt, tDNew, rCount, rIndex, tCont, tBreak, Int.reduceToNat, Int.reducePow]
      refine ⟨by omega, ?_⟩
      refine ite2 (fun hd => ?_) (fun hd => ?_)
      · refine ⟨fun σ' H2 => ∃ m', m' < left'.toNat ∧ W2 m' σ' H2, fun _ _ h => h, ?_⟩
        obtain ⟨J2, jl⟩ := div_turn r2 J hd
        have j3 := J2.l1
        exact ⟨⟨by omega, by omega⟩, _, by omega, (hW2 _ _ _).mpr ⟨_, _, rfl, rfl, J2, rfl⟩⟩
      · obtain ⟨I2, o1, lt⟩ := pt_turn I pr tr rd ra J hd
        refine ⟨.inl ⟨_, SqL.of hl⟩, ?_⟩
        refine ⟨by show 2 ≤ sizeLine; decide, fun a ha => ?_⟩
        have npa : p ≠ a := ne_of_none hl ha
        have hlen : xs.length < sizeLine := by
          have e := R.length
          rw [List.length_map] at e
          have e2 := parts_len I.ok.pr (by have := I.eq; have := prod_pos I.ok.pr; have := Int.mul_le_mul_of_nonneg_left i1 (show 0 ≤ prod l by omega); omega)
          exact small1000 (by omega)
        refine ⟨_, by rw [upd_ne npa]; exact hl, hlen, _, by omega, (hW _ _ _).mpr ⟨l ++ [(r, oft)], left', r, _, _, rfl, rfl, I2, by omega, ?_, upd_same, ?_⟩⟩
        · intro b u e
          have e1 : b ≠ p := ne_of_none e hp
          have e2 : b ≠ a := ne_of_none (S b u e) ha
          rw [upd_ne e1, upd_ne e2]
          exact S b u e
        · have tk : TK H2 (upd (upd H2 a (.tup [.int r, .int oft])) p (.lst (xs ++ [.ref a]))) := (TK.new ha).trans (TK.lst (xs := xs) (by rw [upd_ne npa]; exact hl))
          rw [List.map_append]
          refine (R.mono tk _ (noLL_pD l)).append ⟨_, [], rfl, rep_pair ?_, rfl⟩
          rw [upd_ne npa.symm, upd_same]
    · refine ⟨xs, .inl ⟨SqL.of hl, fun a ha => ?_⟩⟩
      refine k l a xs _ (pt_end I h1) (fun b u e => ?_) upd_same (R.mono (TK.new ha) _ (noLL_pD l))
      rw [upd_ne (ne_of_none (S b u e) ha)]
      exact S b u e
noncomputable abbrev O_parts_of (P : Program) (w : World) (K : PySem.W.Frag) (mg : Str → Option Value) (base : Heap) (cl : Cl) : Prop := ∃ f fd, Df_parts_of K mg f fd ∧ FnOk P w K mg base (CXE P w) 5 f fd ["number"] (spParts K cl)
noncomputable abbrev s_primes_of : Stmt := top 21
theorem sc_primes_of : FnScope ["number"] ["number"] (defScope s_primes_of) := ⟨rfl, rfl, rfl, by decide +kernel, rfl, by decide +kernel, by decide +kernel⟩
noncomputable abbrev Df_primes_of (K : PySem.W.Frag) (mg : Str → Option Value) (f : Addr) (fd : FuncData) : Prop := Def K mg "primes_of" s_primes_of ["number"] f fd
noncomputable def prV (l : List (Int × Int)) : List V := l.map fun q => .int q.1
noncomputable def spPrimes : Sp := fun vs H Q _ => ∃ (n : Int), vs = [.int n] ∧ (1 ≤ n ∧ n ≤ 10 ^ 9) ∧ ∀ l p H', Parts n l → Same H H' → H' p = some (.lst (prV l)) → Q (.ref p) H'
theorem ok_primes_of (D : Df_primes_of K mg f fd) (T : Txt K mg t1 cl) (o1 : O_parts_of P w K mg base cl) : FnOk P w K mg base CX0 6 f fd ["number"] spPrimes := by
  obtain ⟨_, _, D_parts_of, G_parts_of⟩ := o1
  refine D.fn.ok sc_primes_of (fun vs H Q E h => ?_) (fun cdv A outer s H vs Q E hr h => ?_)
  · obtain ⟨n, rfl, _⟩ := h
    rfl
  · obtain ⟨n, rfl, hb, k⟩ := h
    refine ⟨_, (pss_one (ps_ret (pe_compD (N := ["prime", "often"]) (js := [none, none]) (by rfl) rfl (fun _ => rfl) (pi_tup (pe_call (G_parts_of.mono (by decide)) hr rfl D_parts_of.mgx D_parts_of.fn.kp D_parts_of.bd .nil passE0 (pa_cons (pv 0) pa_nil))) (by intro b _ _ _ _; exact (pg_tupK (K := K) (n := 2) rfl rfl (pgs_cons (pg_name (i := 0) (show List.Nodup (["prime", "often"] : List Str) by decide) rfl (by first | exact Or.inl rfl | exact Or.inr rfl)) (pgs_cons (pg_name (i := 1) (show List.Nodup (["prime", "often"] : List Str) by decide) rfl (by first | exact Or.inl rfl | exact Or.inr rfl)) pgs_nil)))) (by intro b _ _ _ _; exact pifs_nil) (by intro b _ _ _ _; exact (pv 0))))), ?_⟩
    have e0 : L2.start ["number"] [.int n] = [some (.int n)] := rfl
    rw [e0]; clear e0
    simp only [tSeq, tIfS, tTest, tRet, tRetN, tNext, tDrop, tAsg, tPar, tPar3, tAug, tVar, tC, tOp, tUn, rI, rI0, rU, tB, tAnd, tOr, tNot, tAndV, tOrV, tNotV, tIf, gName, gNil, gCons, gTup, gSub, tCB, tCons, tNil, tCall, tChain, ipI, tIsN, tNotN, tBM, tyV, tTup, tLst, rAppend, rCat, scal_ii, scal_bb, scal_ss, scal_ni, scal_in, rEq, rNe, List.getElem?_cons_zero, List.getElem?_cons_succ, List.set_cons_zero, List.set_cons_succ, eq_self, and_assoc, Option.some.injEq, V.int.injEq, V.bl.injEq, V.ref.injEq, V.str.injEq, List.cons.injEq, exists_eq_left', exists_eq_left, exists_and_left, List.nil_append, List.cons_append, List.append_nil, true_and, and_true, decide_eq_true_eq, Bool.not_eq_true', decide_eq_false_iff_not, if_true, if_false, Bool.not_true, Bool.not_false, Bool.false_eq_true, reduceCtorEq, decide_true, decide_false, ite_true, ite_false, rSetL, rIxL, tRaise, jCons, jNil, tFmt, tDNew, rCount, rIndex, tCont, tBreak, Int.reduceToNat, Int.reducePow]
    refine ⟨_, rfl, .int n, _, rfl, .int _, fun h => (by rw [isBet_of (by omega) (by omega)] at h; cases h), fun n' en _ _ l p xs H' hl S hp R => ?_⟩
    cases en
    refine ⟨p, rfl, ⟨xs, SqT.of hp⟩, fun b D hc hD => ?_⟩
    have len : l.length < 30 := parts_len hl.1.pr (by rw [hl.2]; omega)
    have elen : xs.length = l.length := by rw [← R.length, List.length_map]
    have npD : p ≠ D := ne_of_none hp hD
    obtain ⟨Pv, hPv⟩ : ∃ Pv : Nat → St → Hp → Prop, ∀ i σ H2, Pv i σ H2 ↔ (∃ v1 v2, σ = [v1, v2]) ∧ H2 = upd H' D (.lst (prV (l.take i))) := ⟨_, fun _ _ _ => Iff.rfl⟩
    refine comp_tup (xs := xs) Pv ((hPv _ _ _).mpr ⟨⟨_, _, rfl⟩, rfl⟩) (fun i σ H2 hi h => ?_) ?_ ?_
    · obtain ⟨_, rfl⟩ := (hPv _ _ _).mp h
      exact SqT.of (by rw [upd_ne npD]; exact hp)
    · intro i x σ H2 hx h
      obtain ⟨⟨v1, v2, rfl⟩, rfl⟩ := (hPv _ _ _).mp h
      obtain ⟨q, c, hq, rfl, hcc⟩ := repL_pD_get R hx
      have hcc' : SqT K (upd H' D (.lst (prV (l.take i)))) c [.int q.1, .int q.2] := (TK.new hD).sq hcc
      simp only [tSeq, tIfS, tTest, tRet, tRetN, tNext, tDrop, tAsg, tPar, tPar3, tAug, tVar, tC, tOp, tUn, rI, rI0, rU, tB, tAnd, tOr, tNot, tAndV, tOrV, tNotV, tIf, gName, gNil, gCons, gTup, gSub, tCB, tCons, tNil, tCall, tChain, ipI, tIsN, tNotN, tBM, tyV, tTup, tLst, rAppend, rCat, scal_ii, scal_bb, scal_ss, scal_ni, scal_in, rEq, rNe, List.getElem?_cons_zero, List.getElem?_cons_succ, List.set_cons_zero, List.set_cons_succ, eq_self, and_assoc, Option.some.injEq, V.int.injEq, V.bl.injEq, V.ref.injEq, V.str.injEq, List.cons.injEq, exists_eq_left', exists_eq_left, exists_and_left, List.nil_append, List.cons_append, List.append_nil, true_and, and_true, decide_eq_true_eq, Bool.not_eq_true', decide_eq_false_iff_not, if_true, if_false, Bool.not_true, Bool.not_false, Bool.false_eq_true, reduceCtorEq, decide_true, decide_false, ite_true, ite_false, rSetL, rIxL, tRaise, jCons, jNil, tFmt, tDNew, rCount, rIndex, tCont, tBreak, Int.reduceToNat, Int.reducePow, CT, tYes]
      refine ⟨_, hcc', rfl, ?_⟩
      simp only [tSeq, tIfS, tTest, tRet, tRetN, tNext, tDrop, tAsg, tPar, tPar3, tAug, tVar, tC, tOp, tUn, rI, rI0, rU, tB, tAnd, tOr, tNot, tAndV, tOrV, tNotV, tIf, gName, gNil, gCons, gTup, gSub, tCB, tCons, tNil, tCall, tChain, ipI, tIsN, tNotN, tBM, tyV, tTup, tLst, rAppend, rCat, scal_ii, scal_bb, scal_ss, scal_ni, scal_in, rEq, rNe, List.getElem?_cons_zero, List.getElem?_cons_succ, List.set_cons_zero, List.set_cons_succ, eq_self, and_assoc, Option.some.injEq, V.int.injEq, V.bl.injEq, V.ref.injEq, V.str.injEq, List.cons.injEq, exists_eq_left', exists_eq_left, exists_and_left, List.nil_append, List.cons_append, List.append_nil, true_and, and_true, decide_eq_true_eq, Bool.not_eq_true', decide_eq_false_iff_not, if_true, if_false, Bool.not_true, Bool.not_false, Bool.false_eq_true, reduceCtorEq, decide_true, decide_false, ite_true, ite_false, rSetL, rIxL, tRaise, jCons, jNil, tFmt, tDNew, rCount, rIndex, tCont, tBreak, Int.reduceToNat, Int.reducePow]
      refine ⟨_, upd_same, ?_, (hPv _ _ _).mpr ⟨⟨_, _, rfl⟩, ?_⟩⟩
      · refine small1000 ?_
        unfold prV
        rw [List.length_map, List.length_take]
        omega
      · have e : prV (l.take (i + 1)) = prV (l.take i) ++ [.int q.1] := by
          unfold prV
          rw [List.take_succ, hq, List.map_append]; rfl
        rw [e]
        funext c
        by_cases z : c = D
        · subst z; rw [upd_same, upd_same]
        · rw [upd_ne z, upd_ne z, upd_ne z]
    · intro σ H2 h
      obtain ⟨⟨v1, v2, rfl⟩, rfl⟩ := (hPv _ _ _).mp h
      rw [elen, List.take_length]
      refine k l D _ hl (fun b o e => ?_) upd_same
      rw [upd_ne (ne_of_none (S b o e) hD)]
      exact S b o e
noncomputable abbrev O_primes_of (P : Program) (w : World) (K : PySem.W.Frag) (mg : Str → Option Value) (base : Heap) : Prop := ∃ f fd, Df_primes_of K mg f fd ∧ FnOk P w K mg base CX0 6 f fd ["number"] (spPrimes)
noncomputable abbrev s_power_rest : Stmt := top 24
theorem sc_power_rest : FnScope ["base", "often", "n", "done", "square", "left"] ["base", "often", "n"] (defScope s_power_rest) := ⟨rfl, rfl, rfl, by decide +kernel, rfl, by decide +kernel, by decide +kernel⟩
noncomputable abbrev Df_power_rest (K : PySem.W.Frag) (mg : Str → Option Value) (f : Addr) (fd : FuncData) : Prop := Def K mg "power_rest" s_power_rest ["base", "often", "n"] f fd
noncomputable def spPower : Sp := fun vs H Q _ => ∃ (b o n : Int), vs = [.int b, .int o, .int n] ∧ (b.natAbs < 10 ^ 100 ∧ 0 ≤ o ∧ 0 < n ∧ n ≤ 10 ^ 40) ∧ Q (.int (b ^ o.toNat % n)) H
theorem ok_power_rest (D : Df_power_rest K mg f fd) (T : Txt K mg t1 cl) : FnOk P w K mg base CX0 1 f fd ["base", "often", "n"] spPower := by
  refine D.fn.ok sc_power_rest (fun vs H Q E h => ?_) (fun cdv A outer s H vs Q E hr h => ?_)
  · obtain ⟨b, o, n, rfl, _⟩ := h
    rfl
  · obtain ⟨b, o, n, rfl, ⟨hb, ho, hn, hn2⟩, k⟩ := h
    refine ⟨_, (pss_cons (ps_set (i := 3) sc_power_rest.nd rfl (by first | exact Or.inl rfl | exact Or.inr rfl) (pe_op op_mod pe_int (pv 2)))
 (pss_cons (ps_set (i := 4) sc_power_rest.nd rfl (by first | exact Or.inl rfl | exact Or.inr rfl) (pe_op op_mod (pv 0) (pv 2)))
 (pss_cons (ps_set (i := 5) sc_power_rest.nd rfl (by first | exact Or.inl rfl | exact Or.inr rfl) (pv 1))
 (pss_cons (ps_while PassesOwn.never (pt_cmpR op_gt (pv 5) pe_int (nomark _))
 (pss_cons (ps_if (pt_cmpR op_eq (pe_op op_mod (pv 5) pe_int) pe_int (nomark _))
 (pss_one (ps_set (i := 3) sc_power_rest.nd rfl (by first | exact Or.inl rfl | exact Or.inr rfl) (pe_op op_mod (pe_op op_mulB (pv 3) (pv 4)) (pv 2))))
 pss_nil)
 (pss_cons (ps_set (i := 4) sc_power_rest.nd rfl (by first | exact Or.inl rfl | exact Or.inr rfl) (pe_op op_mod (pe_op op_mulB (pv 4) (pv 4)) (pv 2)))
 (pss_one (ps_set (i := 5) sc_power_rest.nd rfl (by first | exact Or.inl rfl | exact Or.inr rfl) (pe_op op_fdivB (pv 5) pe_int))))))
 (pss_one (ps_ret (pv 3))))))), ?_⟩
    have e0 : L2.start ["base", "often", "n", "done", "square", "left"] [.int b, .int o, .int n] = [some (.int b), some (.int o), some (.int n), none, none, none] := rfl
    rw [e0]; clear e0
    simp only [tSeq, tIfS, tTest, tRet, tRetN, tNext, tDrop, tAsg, tPar, tPar3, tAug, tVar, tC, tOp, tUn, rI, rI0, rU, tB, tAnd, tOr, tNot, tAndV, tOrV, tNotV, tIf, gName, gNil, gCons, gTup, gSub, tCB, tCons, tNil, tCall, tChain, ipI, tIsN, tNotN, tBM, tyV, tTup, tLst, rAppend, rCat, scal_ii, scal_bb, scal_ss, scal_ni, scal_in, rEq, rNe, List.getElem?_cons_zero, List.getElem?_cons_succ, List.set_cons_zero, List.set_cons_succ, eq_self, and_assoc, Option.some.injEq, V.int.injEq, V.bl.injEq, V.ref.injEq, V.str.injEq, List.cons.injEq, exists_eq_left', exists_eq_left, exists_and_left, List.nil_append, List.cons_append, List.append_nil, true_and, and_true, decide_eq_true_eq, Bool.not_eq_true', decide_eq_false_iff_not, if_true, if_false, Bool.not_true, Bool.not_false, Bool.false_eq_true, reduceCtorEq, decide_true, decide_false, ite_true, ite_false, rSetL, rIxL, tRaise, jCons, jNil, tFmt, tDNew, rCount, rIndex, tCont, tBreak, Int.reduceToNat, Int.reducePow]
    refine ⟨hn, hn, ?_⟩
    refine ⟨fun m σ H' => H' = H ∧ ∃ d q l, m = l.toNat ∧ σ = [some (.int b), some (.int o), some (.int n), some (.int d), some (.int q), some (.int l)] ∧ PowInv b o n d q l,
      ⟨_, rfl, _, _, _, rfl, rfl, pow_start hn ho⟩, ?_⟩
    rintro m σ H' ⟨rfl, d, q, l, rfl, rfl, I⟩
    simp only [tSeq, tIfS, tTest, tRet, tRetN, tNext, tDrop, tAsg, tPar, tPar3, tAug, tVar, tC, tOp, tUn, rI, rI0, rU, tB, tAnd, tOr, tNot, tAndV, tOrV, tNotV, tIf, gName, gNil, gCons, gTup, gSub, tCB, tCons, tNil, tCall, tChain, ipI, tIsN, tNotN, tBM, tyV, tTup, tLst, rAppend, rCat, scal_ii, scal_bb, scal_ss, scal_ni, scal_in, rEq, rNe, List.getElem?_cons_zero, List.getElem?_cons_succ, List.set_cons_zero, List.set_cons_succ, eq_self, and_assoc, Option.some.injEq, V.int.injEq, V.bl.injEq, V.ref.injEq, V.str.injEq, List.cons.injEq, exists_eq_left', exists_eq_left, exists_and_left, List.nil_append, List.cons_append, List.append_nil, true_and, and_true, decide_eq_true_eq, Bool.not_eq_true', decide_eq_false_iff_not, if_true, if_false, Bool.not_true, Bool.not_false, Bool.false_eq_true, reduceCtorEq, decide_true, decide_false, ite_true, ite_false, rSetL, rIxL, tRaise, jCons, jNil, tFmt, tDNew, rCount, rIndex, tCont, tBreak, Int.reduceToNat, Int.reducePow]
    have i0 := I.d0; have i1 := I.d1; have i2 := I.s0; have i3 := I.s1; have i4 := I.l0
    refine ite2 (fun hl => ?_) (fun hl => ?_)
    · refine ⟨fun σ' H2 => H2 = H' ∧ ∃ d' q' l', l'.toNat < l.toNat ∧ σ' = [some (.int b), some (.int o), some (.int n), some (.int d'), some (.int q'), some (.int l')] ∧ PowInv b o n d' q' l',
        fun σ' H2 ⟨e, d', q', l', hlt, e2, J⟩ => ⟨_, hlt, e, d', q', l', rfl, e2, J⟩, ?_⟩
      have c1 : CMulB d q := .inr ⟨by omega, by omega⟩
      have c2 : CMulB q q := .inr ⟨by omega, by omega⟩
      have c3 : CDivB l 2 := ⟨by decide, by decide⟩
      refine ⟨by decide, ?_⟩
      refine ite2 (fun ho => ?_) (fun ho => ?_)
      · exact ⟨c1, hn, c2, hn, c3, rfl, _, _, _, by omega, rfl, pow_odd hn I ho⟩
      · exact ⟨c2, hn, c3, rfl, _, _, _, by omega, rfl, pow_even hn I ho⟩
    · have e := pow_end I hl
      rw [← e] at k
      exact k
noncomputable abbrev O_power_rest (P : Program) (w : World) (K : PySem.W.Frag) (mg : Str → Option Value) (base : Heap) : Prop := ∃ f fd, Df_power_rest K mg f fd ∧ FnOk P w K mg base CX0 1 f fd ["base", "often", "n"] (spPower)
noncomputable abbrev s_is_base : Stmt := top 27
theorem sc_is_base : FnScope ["base", "p", "primes", "prime"] ["base", "p", "primes"] (defScope s_is_base) := ⟨rfl, rfl, rfl, by decide +kernel, rfl, by decide +kernel, by decide +kernel⟩
noncomputable abbrev Df_is_base (K : PySem.W.Frag) (mg : Str → Option Value) (f : Addr) (fd : FuncData) : Prop := Def K mg "is_base" s_is_base ["base", "p", "primes"] f fd
noncomputable def spBase : Sp := fun vs H Q _ => ∃ (b p : Int) (c : Addr) (l : List (Int × Int)), vs = [.int b, .int p, .ref c] ∧ H c = some (.lst (prV l)) ∧ (0 ≤ b ∧ b ≤ 10 ^ 9 ∧ IsPr p ∧ p ≤ 10 ^ 9 ∧ ∀ q ∈ l, 2 ≤ q.1 ∧ q.1 ≤ 10 ^ 9) ∧ Q (.bl (baseB b p l)) H
theorem ok_is_base (D : Df_is_base K mg f fd) (T : Txt K mg t1 cl) (o1 : O_power_rest P w K mg base) : FnOk P w K mg base CX0 2 f fd ["base", "p", "primes"] spBase := by
  obtain ⟨_, _, D_power_rest, G_power_rest⟩ := o1
  refine D.fn.ok sc_is_base (fun vs H Q E h => ?_) (fun cdv A outer s H vs Q E hr h => ?_)
  · obtain ⟨b, p, c, l, rfl, _⟩ := h
    rfl
  · obtain ⟨b, p, c, l, rfl, hc, ⟨b0, b1, hp, p1, hl⟩, k⟩ := h
    have p2 := hp.1
    have one : (1 : Int) % p = 1 := Int.emod_eq_of_lt (by omega) (by omega)
    refine ⟨_, (pss_cons (ps_for PassesOwn.never rfl (pi_list (pv 2)) (pg_name (i := 3) sc_is_base.nd rfl (by first | exact Or.inl rfl | exact Or.inr rfl))
 (pss_one (ps_if (pt_cmpR op_eq (pe_call (G_power_rest.mono (by decide)) hr rfl D_power_rest.mgx D_power_rest.fn.kp D_power_rest.bd .nil pass0 (pa_cons (pv 0) (pa_cons (pe_op op_fdivB (pe_op op_sub (pv 1) pe_int) (pv 3)) (pa_cons (pv 1) pa_nil)))) pe_int (nomark _))
 (pss_one (ps_ret pe_bl))
 pss_nil)))
 (pss_one (ps_ret pe_bl))), ?_⟩
    have e0 : L2.start ["base", "p", "primes", "prime"] [.int b, .int p, .ref c] = [some (.int b), some (.int p), some (.ref c), none] := rfl
    rw [e0]; clear e0
    simp only [tSeq, tIfS, tTest, tRet, tRetN, tNext, tDrop, tAsg, tPar, tPar3, tAug, tVar, tC, tOp, tUn, rI, rI0, rU, tB, tAnd, tOr, tNot, tAndV, tOrV, tNotV, tIf, gName, gNil, gCons, gTup, gSub, tCB, tCons, tNil, tCall, tChain, ipI, tIsN, tNotN, tBM, tyV, tTup, tLst, rAppend, rCat, scal_ii, scal_bb, scal_ss, scal_ni, scal_in, rEq, rNe, List.getElem?_cons_zero, List.getElem?_cons_succ, List.set_cons_zero, List.set_cons_succ, eq_self, and_assoc, Option.some.injEq, V.int.injEq, V.bl.injEq, V.ref.injEq, V.str.injEq, List.cons.injEq, exists_eq_left', exists_eq_left, exists_and_left, List.nil_append, List.cons_append, List.append_nil, true_and, and_true, decide_eq_true_eq, Bool.not_eq_true', decide_eq_false_iff_not, if_true, if_false, Bool.not_true, Bool.not_false, Bool.false_eq_true, reduceCtorEq, decide_true, decide_false, ite_true, ite_false, rSetL, rIxL, tRaise, jCons, jNil, tFmt, tDNew, rCount, rIndex, tCont, tBreak, Int.reduceToNat, Int.reducePow]
    refine ⟨_, rfl, c, rfl, ⟨_, SqL.of hc⟩, for_list (xs := prV l) (fun j σ H' => H' = H ∧ ∃ v, σ = [some (.int b), some (.int p), some (.ref c), v] ∧ BaseOk b p (l.take j)) ⟨rfl, none, rfl, fun q hq => by simp at hq⟩ (fun _ _ _ _ h => by rw [h.1]; exact SqL.of hc) ?_ ?_⟩
    · rintro j x σ H' hx ⟨rfl, v, rfl, I⟩
      unfold prV at hx
      rw [List.getElem?_map] at hx
      obtain ⟨q, hq⟩ : ∃ q, l[j]? = some q := by
        cases e : l[j]? with
        | none => rw [e] at hx; cases hx
        | some q => exact ⟨q, rfl⟩
      rw [hq] at hx
      cases hx
      have hm : q ∈ l := List.mem_of_getElem? hq
      have q2 := hl q hm
      have dn := Int.ediv_nonneg (a := p - 1) (b := q.1) (by omega) (by omega)
      simp only [tSeq, tIfS, tTest, tRet, tRetN, tNext, tDrop, tAsg, tPar, tPar3, tAug, tVar, tC, tOp, tUn, rI, rI0, rU, tB, tAnd, tOr, tNot, tAndV, tOrV, tNotV, tIf, gName, gNil, gCons, gTup, gSub, tCB, tCons, tNil, tCall, tChain, ipI, tIsN, tNotN, tBM, tyV, tTup, tLst, rAppend, rCat, scal_ii, scal_bb, scal_ss, scal_ni, scal_in, rEq, rNe, List.getElem?_cons_zero, List.getElem?_cons_succ, List.set_cons_zero, List.set_cons_succ, eq_self, and_assoc, Option.some.injEq, V.int.injEq, V.bl.injEq, V.ref.injEq, V.str.injEq, List.cons.injEq, exists_eq_left', exists_eq_left, exists_and_left, List.nil_append, List.cons_append, List.append_nil, true_and, and_true, decide_eq_true_eq, Bool.not_eq_true', decide_eq_false_iff_not, if_true, if_false, Bool.not_true, Bool.not_false, Bool.false_eq_true, reduceCtorEq, decide_true, decide_false, ite_true, ite_false, rSetL, rIxL, tRaise, jCons, jNil, tFmt, tDNew, rCount, rIndex, tCont, tBreak, Int.reduceToNat, Int.reducePow]
      refine ⟨⟨by omega, by omega⟩, b, _, p, rfl, ⟨by omega, by omega, by omega, by omega⟩, ?_⟩
      simp only [tSeq, tIfS, tTest, tRet, tRetN, tNext, tDrop, tAsg, tPar, tPar3, tAug, tVar, tC, tOp, tUn, rI, rI0, rU, tB, tAnd, tOr, tNot, tAndV, tOrV, tNotV, tIf, gName, gNil, gCons, gTup, gSub, tCB, tCons, tNil, tCall, tChain, ipI, tIsN, tNotN, tBM, tyV, tTup, tLst, rAppend, rCat, scal_ii, scal_bb, scal_ss, scal_ni, scal_in, rEq, rNe, List.getElem?_cons_zero, List.getElem?_cons_succ, List.set_cons_zero, List.set_cons_succ, eq_self, and_assoc, Option.some.injEq, V.int.injEq, V.bl.injEq, V.ref.injEq, V.str.injEq, List.cons.injEq, exists_eq_left', exists_eq_left, exists_and_left, List.nil_append, List.cons_append, List.append_nil, true_and, and_true, decide_eq_true_eq, Bool.not_eq_true', decide_eq_false_iff_not, if_true, if_false, Bool.not_true, Bool.not_false, Bool.false_eq_true, reduceCtorEq, decide_true, decide_false, ite_true, ite_false, rSetL, rIxL, tRaise, jCons, jNil, tFmt, tDNew, rCount, rIndex, tCont, tBreak, Int.reduceToNat, Int.reducePow]
      refine ite2 (fun h1 => ?_) (fun h1 => ?_)
      · have nb : ¬ BaseOk b p l := fun z => z q hm (cg_one.mp (by rw [h1, one]))
        have e : baseB b p l = false := by unfold baseB; exact @decide_eq_false _ (Classical.propDecidable _) nb
        rw [e] at k
        exact k
      · have J : BaseOk b p (l.take (j + 1)) := by
          rw [List.take_succ, hq]
          intro y hy
          rcases List.mem_append.mp hy with hy | hy
          · exact I y hy
          · have hy : y = q := by simpa using hy
            rw [hy]
            exact fun z => h1 (by rw [cg_eq z, one])
        first | exact ⟨rfl, _, rfl, J⟩ | exact J
    · rintro σ H' ⟨rfl, v, rfl, I⟩
      have e : (prV l).length = l.length := by unfold prV; rw [List.length_map]
      rw [e, List.take_length] at I
      have e : baseB b p l = true := by unfold baseB; exact @decide_eq_true _ (Classical.propDecidable _) I
      rw [e] at k
      simp only [tSeq, tIfS, tTest, tRet, tRetN, tNext, tDrop, tAsg, tPar, tPar3, tAug, tVar, tC, tOp, tUn, rI, rI0, rU, tB, tAnd, tOr, tNot, tAndV, tOrV, tNotV, tIf, gName, gNil, gCons, gTup, gSub, tCB, tCons, tNil, tCall, tChain, ipI, tIsN, tNotN, tBM, tyV, tTup, tLst, rAppend, rCat, scal_ii, scal_bb, scal_ss, scal_ni, scal_in, rEq, rNe, List.getElem?_cons_zero, List.getElem?_cons_succ, List.set_cons_zero, List.set_cons_succ, eq_self, and_assoc, Option.some.injEq, V.int.injEq, V.bl.injEq, V.ref.injEq, V.str.injEq, List.cons.injEq, exists_eq_left', exists_eq_left, exists_and_left, List.nil_append, List.cons_append, List.append_nil, true_and, and_true, decide_eq_true_eq, Bool.not_eq_true', decide_eq_false_iff_not, if_true, if_false, Bool.not_true, Bool.not_false, Bool.false_eq_true, reduceCtorEq, decide_true, decide_false, ite_true, ite_false, rSetL, rIxL, tRaise, jCons, jNil, tFmt, tDNew, rCount, rIndex, tCont, tBreak, Int.reduceToNat, Int.reducePow]
      exact k
noncomputable abbrev O_is_base (P : Program) (w : World) (K : PySem.W.Frag) (mg : Str → Option Value) (base : Heap) : Prop := ∃ f fd, Df_is_base K mg f fd ∧ FnOk P w K mg base CX0 2 f fd ["base", "p", "primes"] (spBase)
noncomputable abbrev s_least_base : Stmt := top 26
theorem sc_least_base : FnScope ["p", "primes", "base"] ["p", "primes"] (defScope s_least_base) := ⟨rfl, rfl, rfl, by decide +kernel, rfl, by decide +kernel, by decide +kernel⟩
noncomputable abbrev Df_least_base (K : PySem.W.Frag) (mg : Str → Option Value) (f : Addr) (fd : FuncData) : Prop := Def K mg "least_base" s_least_base ["p", "primes"] f fd
noncomputable def spLBase : Sp := fun vs H Q _ => ∃ (p : Int) (c : Addr) (l : List (Int × Int)), vs = [.int p, .ref c] ∧ H c = some (.lst (prV l)) ∧ (IsPr p ∧ p ≤ 10 ^ 9 ∧ Parts (p - 1) l) ∧ ∀ b, LRoot p b → Q (.int b) H
theorem ok_least_base (D : Df_least_base K mg f fd) (T : Txt K mg t1 cl) (o1 : O_is_base P w K mg base) : FnOk P w K mg base CX0 3 f fd ["p", "primes"] spLBase := by
  obtain ⟨_, _, D_is_base, G_is_base⟩ := o1
  refine D.fn.ok sc_least_base (fun vs H Q E h => ?_) (fun cdv A outer s H vs Q E hr h => ?_)
  · obtain ⟨p, c, l, rfl, _⟩ := h
    rfl
  · obtain ⟨p, c, l, rfl, hc, ⟨hp, p1, hl⟩, k⟩ := h
    have p2 := hp.1
    obtain ⟨g, g1, g2, hg⟩ := prim_root hp
    have hlb : ∀ q ∈ l, 2 ≤ q.1 ∧ q.1 ≤ 10 ^ 9 := fun q hq => ⟨(hl.1.pr q hq).1.1, by have := (parts_le hl hq).1; omega⟩
    refine ⟨_, (pss_cons (ps_set (i := 2) sc_least_base.nd rfl (by first | exact Or.inl rfl | exact Or.inr rfl) pe_int)
 (pss_cons (ps_while PassesOwn.never (pt_not (pt_val (pe_call (G_is_base.mono (by decide)) hr rfl D_is_base.mgx D_is_base.fn.kp D_is_base.bd .nil pass0 (pa_cons (pv 2) (pa_cons (pv 0) (pa_cons (pv 1) pa_nil))))))
 (pss_one (ps_aug (i := 2) sc_least_base.nd rfl (Or.inl rfl) pe_int ip_add)))
 (pss_one (ps_ret (pv 2))))), ?_⟩
    have e0 : L2.start ["p", "primes", "base"] [.int p, .ref c] = [some (.int p), some (.ref c), none] := rfl
    rw [e0]; clear e0
    simp only [tSeq, tIfS, tTest, tRet, tRetN, tNext, tDrop, tAsg, tPar, tPar3, tAug, tVar, tC, tOp, tUn, rI, rI0, rU, tB, tAnd, tOr, tNot, tAndV, tOrV, tNotV, tIf, gName, gNil, gCons, gTup, gSub, tCB, tCons, tNil, tCall, tChain, ipI, tIsN, tNotN, tBM, tyV, tTup, tLst, rAppend, rCat, scal_ii, scal_bb, scal_ss, scal_ni, scal_in, rEq, rNe, List.getElem?_cons_zero, List.getElem?_cons_succ, List.set_cons_zero, List.set_cons_succ, eq_self, and_assoc, Option.some.injEq, V.int.injEq, V.bl.injEq, V.ref.injEq, V.str.injEq, List.cons.injEq, exists_eq_left', exists_eq_left, exists_and_left, List.nil_append, List.cons_append, List.append_nil, true_and, and_true, decide_eq_true_eq, Bool.not_eq_true', decide_eq_false_iff_not, if_true, if_false, Bool.not_true, Bool.not_false, Bool.false_eq_true, reduceCtorEq, decide_true, decide_false, ite_true, ite_false, rSetL, rIxL, tRaise, jCons, jNil, tFmt, tDNew, rCount, rIndex, tCont, tBreak, Int.reduceToNat, Int.reducePow]
    obtain ⟨W, hW⟩ : ∃ W : Nat → St → Hp → Prop, ∀ m σ H', W m σ H' ↔ ∃ b : Int, m = (g - b).toNat ∧ σ = [some (.int p), some (.ref c), some (.int b)] ∧ (1 ≤ b ∧ b ≤ g ∧ ∀ x, 1 ≤ x → x < b → ¬ Ord x p (p - 1)) ∧ H' = H := ⟨_, fun _ _ _ => Iff.rfl⟩
    refine ⟨W, ⟨_, (hW _ _ _).mpr ⟨1, rfl, rfl, ⟨Int.le_refl _, g1, fun x a b => by omega⟩, rfl⟩⟩, ?_⟩
    intro m σ H' hw
    obtain ⟨b, rfl, rfl, ⟨b1, b2, bn⟩, rfl⟩ := (hW _ _ _).mp hw
    clear hw
    simp only [tSeq, tIfS, tTest, tRet, tRetN, tNext, tDrop, tAsg, tPar, tPar3, tAug, tVar, tC, tOp, tUn, rI, rI0, rU, tB, tAnd, tOr, tNot, tAndV, tOrV, tNotV, tIf, gName, gNil, gCons, gTup, gSub, tCB, tCons, tNil, tCall, tChain, ipI, tIsN, tNotN, tBM, tyV, tTup, tLst, rAppend, rCat, scal_ii, scal_bb, scal_ss, scal_ni, scal_in, rEq, rNe, List.getElem?_cons_zero, List.getElem?_cons_succ, List.set_cons_zero, List.set_cons_succ, eq_self, and_assoc, Option.some.injEq, V.int.injEq, V.bl.injEq, V.ref.injEq, V.str.injEq, List.cons.injEq, exists_eq_left', exists_eq_left, exists_and_left, List.nil_append, List.cons_append, List.append_nil, true_and, and_true, decide_eq_true_eq, Bool.not_eq_true', decide_eq_false_iff_not, if_true, if_false, Bool.not_true, Bool.not_false, Bool.false_eq_true, reduceCtorEq, decide_true, decide_false, ite_true, ite_false, rSetL, rIxL, tRaise, jCons, jNil, tFmt, tDNew, rCount, rIndex, tCont, tBreak, Int.reduceToNat, Int.reducePow]
    refine ⟨b, p, c, l, rfl, hc, ⟨by omega, by omega, hp, p1, hlb⟩, ?_⟩
    have iff := base_ord hp hl b1 (by omega)
    by_cases hb : BaseOk b p l
    · rw [baseB_of hb]
      refine ⟨_, rfl, ?_⟩
      rw [if_neg (by decide)]
      exact k b ⟨b1, by omega, iff.mp hb, bn⟩
    · rw [baseB_not hb]
      refine ⟨_, rfl, ?_⟩
      rw [if_pos rfl]
      have lt : b < g := by
        by_cases e : b = g
        · rw [e] at iff hb; exact absurd (iff.mpr hg) hb
        · omega
      refine ⟨fun σ' H2 => ∃ m', m' < (g - b).toNat ∧ W m' σ' H2, fun _ _ h => h, ?_⟩
      refine ⟨_, by omega, (hW _ _ _).mpr ⟨b + 1, rfl, rfl, ⟨by omega, by omega, fun x x1 x2 => ?_⟩, rfl⟩⟩
      by_cases e : x = b
      · rw [e]; exact fun z => hb (iff.mpr z)
      · exact bn x x1 (by omega)
noncomputable abbrev O_least_base (P : Program) (w : World) (K : PySem.W.Frag) (mg : Str → Option Value) (base : Heap) : Prop := ∃ f fd, Df_least_base K mg f fd ∧ FnOk P w K mg base CX0 3 f fd ["p", "primes"] (spLBase)
noncomputable def pap : Nat → Int → Dt
  | 0, _ => .tup [.str (Str.ofString "two")]
  | k + 1, p => if p = 2 then .tup [.str (Str.ofString "two")] else .tup [.str (Str.ofString "full"), .int (lroot p), .tup ((pl (p - 1)).map fun q => .tup [.int q.1, .int q.2, pap k q.1])]
noncomputable abbrev rowD (k : Nat) (q : Int × Int) : Dt := .tup [.int q.1, .int q.2, pap k q.1]
theorem pap_two (k : Nat) : pap (k + 1) 2 = .tup [.str (Str.ofString "two")] := by rw [pap, if_pos rfl]
theorem pap_step {k : Nat} {p : Int} {l : List (Int × Int)} (h : p ≠ 2) (hl : Parts (p - 1) l) : pap (k + 1) p = .tup [.str (Str.ofString "full"), .int (lroot p), .tup (l.map (rowD k))] := by rw [pap, if_neg h, pl_eq hl]
mutual
theorem noL_pap : ∀ (k : Nat) (p : Int), noL (pap k p) = true
  | 0, _ => rfl
  | k + 1, p => by
    rw [pap]
    split
    · rfl
    · show (true && (true && (noLL ((pl (p - 1)).map (rowD k)) && true))) = true
      rw [noL_rows k (pl (p - 1))]
      rfl
theorem noL_rows : ∀ (k : Nat) (l : List (Int × Int)), noLL (l.map (rowD k)) = true
  | _, [] => rfl
  | k, q :: r => by
    show ((true && (true && (noL (pap k q.1) && true))) && noLL (r.map (rowD k))) = true
    rw [noL_pap k q.1, noL_rows k r]
    rfl
end
noncomputable abbrev s_full_of_prime : Stmt := top 30
theorem sc_full_of_prime : FnScope ["p"] ["p"] (defScope s_full_of_prime) := ⟨rfl, rfl, rfl, by decide +kernel, rfl, by decide +kernel, by decide +kernel⟩
noncomputable abbrev Df_full_of_prime (K : PySem.W.Frag) (mg : Str → Option Value) (f : Addr) (fd : FuncData) : Prop := Def K mg "full_of_prime" s_full_of_prime ["p"] f fd
noncomputable abbrev s_full_rows : Stmt := top 31
theorem sc_full_rows : FnScope ["parts"] ["parts"] (defScope s_full_rows) := ⟨rfl, rfl, rfl, by decide +kernel, rfl, by decide +kernel, by decide +kernel⟩
noncomputable abbrev Df_full_rows (K : PySem.W.Frag) (mg : Str → Option Value) (f : Addr) (fd : FuncData) : Prop := Def K mg "full_rows" s_full_rows ["parts"] f fd
noncomputable def spFP (j : Nat) (K : PySem.W.Frag) : Sp := fun vs H Q _ => ∃ (p : Int), vs = [.int p] ∧ (IsPr p ∧ p ≤ 10 ^ 9 ∧ p ≤ 2 ^ j) ∧ ∀ v H', Same H H' → Rep K H' (pap j p) v → Q v H'
noncomputable def spFR (j : Nat) (K : PySem.W.Frag) : Sp := fun vs H Q _ => ∃ (c : Addr) (l : List (Int × Int)) (xs : List V), vs = [.ref c] ∧ H c = some (.tup xs) ∧ RepL K H (l.map pD) xs ∧ (l.length < 30 ∧ ∀ q ∈ l, IsPr q.1 ∧ q.1 ≤ 10 ^ 9 ∧ q.1 ≤ 2 ^ j) ∧ ∀ tl ys H', Same H H' → H' tl = some (.tup ys) → RepL K H' (l.map (rowD j)) ys → Q (.ref tl) H'
theorem keep {H : Hp} {p q : Addr} {o u : HO} (e : H q = some o) (hp : H p = none) : (upd H p u) q = some o := by rw [upd_ne (ne_of_none e hp)]; exact e
theorem ok_frs (D : Df_full_rows K mg f fd) (T : Txt K mg t1 cl) {j m : Nat} {f1 fd1} (D_full_of_prime : Df_full_of_prime K mg f1 fd1) (B_full_of_prime : ∀ b, FnOk P w K mg b CX0 m f1 fd1 ["p"] (spFP j K)) : FnOk P w K mg base CX0 (m + 1) f fd ["parts"] (spFR j K) := by
  refine D.fn.ok sc_full_rows (fun vs H Q E h => ?_) (fun cdv A outer s H vs Q E hr h => ?_)
  · obtain ⟨c, l, xs, rfl, _⟩ := h
    rfl
  · obtain ⟨c, l, xs, rfl, hc, R, ⟨len, hl⟩, k⟩ := h
    have elen : xs.length = l.length := by rw [← R.length, List.length_map]
    refine ⟨_, (pss_one (ps_ret (pe_callTy call_tuple_of (by rfl) T.no_tuple PyProof.Rows.boot_tuple (pa_cons (pe_compD (N := ["prime", "often"]) (js := [none, none]) (by rfl) rfl (fun _ => rfl) (pi_tup (pv 0)) (by intro b _ _ _ _; exact (pg_tupK (K := K) (n := 2) rfl rfl (pgs_cons (pg_name (i := 0) (show List.Nodup (["prime", "often"] : List Str) by decide) rfl (by first | exact Or.inl rfl | exact Or.inr rfl)) (pgs_cons (pg_name (i := 1) (show List.Nodup (["prime", "often"] : List Str) by decide) rfl (by first | exact Or.inl rfl | exact Or.inr rfl)) pgs_nil)))) (by intro b _ _ _ _; exact pifs_nil) (by intro b _ _ _ _; exact (pe_tup (pa_cons (pv 0) (pa_cons (pv 1) (pa_cons (pe_call ((B_full_of_prime b).mono (by omega)) hr rfl D_full_of_prime.mgx D_full_of_prime.fn.kp D_full_of_prime.bd .nil pass0 (pa_cons (pv 0) pa_nil)) pa_nil)))))) pa_nil)))), ?_⟩
    have e0 : L2.start ["parts"] [.ref c] = [some (.ref c)] := rfl
    rw [e0]; clear e0
    simp only [tSeq, tIfS, tTest, tRet, tRetN, tNext, tDrop, tAsg, tPar, tPar3, tAug, tVar, tC, tOp, tUn, rI, rI0, rU, tB, tAnd, tOr, tNot, tAndV, tOrV, tNotV, tIf, gName, gNil, gCons, gTup, gSub, tCB, tCons, tNil, tCall, tChain, ipI, tIsN, tNotN, tBM, tyV, tTup, tLst, rAppend, rCat, scal_ii, scal_bb, scal_ss, scal_ni, scal_in, rEq, rNe, List.getElem?_cons_zero, List.getElem?_cons_succ, List.set_cons_zero, List.set_cons_succ, eq_self, and_assoc, Option.some.injEq, V.int.injEq, V.bl.injEq, V.ref.injEq, V.str.injEq, List.cons.injEq, exists_eq_left', exists_eq_left, exists_and_left, List.nil_append, List.cons_append, List.append_nil, true_and, and_true, decide_eq_true_eq, Bool.not_eq_true', decide_eq_false_iff_not, if_true, if_false, Bool.not_true, Bool.not_false, Bool.false_eq_true, reduceCtorEq, decide_true, decide_false, ite_true, ite_false, rSetL, rIxL, tRaise, jCons, jNil, tFmt, tDNew, rCount, rIndex, tCont, tBreak, Int.reduceToNat, Int.reducePow]
    refine tCompC_of ?_
    refine ⟨_, rfl, c, rfl, ⟨xs, SqT.of hc⟩, fun b D hcb hD => ?_⟩
    obtain ⟨Pv, hPv⟩ : ∃ Pv : Nat → St → Hp → Prop, ∀ i σ H2, Pv i σ H2 ↔ (∃ v1 v2, σ = [v1, v2]) ∧ Same H H2 ∧ ∃ ys, H2 D = some (.lst ys) ∧ RepL K H2 ((l.take i).map (rowD j)) ys := ⟨_, fun _ _ _ => Iff.rfl⟩
    refine comp_tup (xs := xs) Pv ((hPv _ _ _).mpr ⟨⟨_, _, rfl⟩, fun b o e => keep e hD, [], upd_same, rfl⟩) (fun i σ H2 hi h => ?_) ?_ ?_
    · obtain ⟨_, s2, _⟩ := (hPv _ _ _).mp h
      exact SqT.of (s2 _ _ hc)
    · intro i x σ H2 hx h
      obtain ⟨⟨v1, v2, rfl⟩, s2, ys, eD, RD'⟩ := (hPv _ _ _).mp h
      have il : i < xs.length := (List.getElem?_eq_some_iff.mp hx).1
      obtain ⟨q, cc, hq, rfl, hcc⟩ := repL_pD_get (R.mono s2.tk _ (noLL_pD l)) hx
      have hmem : q ∈ l := List.mem_of_getElem? hq
      have yl : ys.length ≤ l.length := by
        have := RD'.length
        rw [List.length_map, List.length_take] at this
        omega
      simp only [tSeq, tIfS, tTest, tRet, tRetN, tNext, tDrop, tAsg, tPar, tPar3, tAug, tVar, tC, tOp, tUn, rI, rI0, rU, tB, tAnd, tOr, tNot, tAndV, tOrV, tNotV, tIf, gName, gNil, gCons, gTup, gSub, tCB, tCons, tNil, tCall, tChain, ipI, tIsN, tNotN, tBM, tyV, tTup, tLst, rAppend, rCat, scal_ii, scal_bb, scal_ss, scal_ni, scal_in, rEq, rNe, List.getElem?_cons_zero, List.getElem?_cons_succ, List.set_cons_zero, List.set_cons_succ, eq_self, and_assoc, Option.some.injEq, V.int.injEq, V.bl.injEq, V.ref.injEq, V.str.injEq, List.cons.injEq, exists_eq_left', exists_eq_left, exists_and_left, List.nil_append, List.cons_append, List.append_nil, true_and, and_true, decide_eq_true_eq, Bool.not_eq_true', decide_eq_false_iff_not, if_true, if_false, Bool.not_true, Bool.not_false, Bool.false_eq_true, reduceCtorEq, decide_true, decide_false, ite_true, ite_false, rSetL, rIxL, tRaise, jCons, jNil, tFmt, tDNew, rCount, rIndex, tCont, tBreak, Int.reduceToNat, Int.reducePow, CT, tYes]
      refine ⟨_, hcc, rfl, ?_⟩
      simp only [tSeq, tIfS, tTest, tRet, tRetN, tNext, tDrop, tAsg, tPar, tPar3, tAug, tVar, tC, tOp, tUn, rI, rI0, rU, tB, tAnd, tOr, tNot, tAndV, tOrV, tNotV, tIf, gName, gNil, gCons, gTup, gSub, tCB, tCons, tNil, tCall, tChain, ipI, tIsN, tNotN, tBM, tyV, tTup, tLst, rAppend, rCat, scal_ii, scal_bb, scal_ss, scal_ni, scal_in, rEq, rNe, List.getElem?_cons_zero, List.getElem?_cons_succ, List.set_cons_zero, List.set_cons_succ, eq_self, and_assoc, Option.some.injEq, V.int.injEq, V.bl.injEq, V.ref.injEq, V.str.injEq, List.cons.injEq, exists_eq_left', exists_eq_left, exists_and_left, List.nil_append, List.cons_append, List.append_nil, true_and, and_true, decide_eq_true_eq, Bool.not_eq_true', decide_eq_false_iff_not, if_true, if_false, Bool.not_true, Bool.not_false, Bool.false_eq_true, reduceCtorEq, decide_true, decide_false, ite_true, ite_false, rSetL, rIxL, tRaise, jCons, jNil, tFmt, tDNew, rCount, rIndex, tCont, tBreak, Int.reduceToNat, Int.reducePow]
      refine ⟨q.1, rfl, hl q hmem, fun v H3 S3 Rv => ⟨by show 3 ≤ sizeLine; decide, fun r hr' => ?_⟩⟩
      have eD3 := S3 _ _ eD
      have nrD : D ≠ r := ne_of_none eD3 hr'
      have tk3 : TK H3 (upd (upd H3 r (.tup [.int q.1, .int q.2, v])) D (.lst (ys ++ [.ref r]))) := (TK.new hr').trans (TK.lst (keep eD3 hr'))
      refine ⟨ys, keep eD3 hr', small1000 (by omega), (hPv _ _ _).mpr ⟨⟨_, _, rfl⟩, fun b o e => ?_, _, upd_same, ?_⟩⟩
      · rw [upd_ne (ne_of_none e hD)]
        exact keep (S3 _ _ (s2 _ _ e)) hr'
      · rw [List.take_succ, hq, List.map_append]
        refine (RD'.mono (S3.tk.trans tk3) _ (noL_rows _ _)).append ⟨_, [], rfl, ⟨r, _, rfl, SqT.of (by rw [upd_ne nrD.symm, upd_same]), _, _, rfl, rfl, _, _, rfl, rfl, _, _, rfl, Rep.mono tk3 _ (noL_pap _ _) Rv, rfl⟩, rfl⟩
    · intro σ H2 h
      obtain ⟨⟨v1, v2, rfl⟩, s2, ys, eD, RD'⟩ := (hPv _ _ _).mp h
      rw [elen, List.take_length] at RD'
      try simp only [tSeq, tIfS, tTest, tRet, tRetN, tNext, tDrop, tAsg, tPar, tPar3, tAug, tVar, tC, tOp, tUn, rI, rI0, rU, tB, tAnd, tOr, tNot, tAndV, tOrV, tNotV, tIf, gName, gNil, gCons, gTup, gSub, tCB, tCons, tNil, tCall, tChain, ipI, tIsN, tNotN, tBM, tyV, tTup, tLst, rAppend, rCat, scal_ii, scal_bb, scal_ss, scal_ni, scal_in, rEq, rNe, List.getElem?_cons_zero, List.getElem?_cons_succ, List.set_cons_zero, List.set_cons_succ, eq_self, and_assoc, Option.some.injEq, V.int.injEq, V.bl.injEq, V.ref.injEq, V.str.injEq, List.cons.injEq, exists_eq_left', exists_eq_left, exists_and_left, List.nil_append, List.cons_append, List.append_nil, true_and, and_true, decide_eq_true_eq, Bool.not_eq_true', decide_eq_false_iff_not, if_true, if_false, Bool.not_true, Bool.not_false, Bool.false_eq_true, reduceCtorEq, decide_true, decide_false, ite_true, ite_false, rSetL, rIxL, tRaise, jCons, jNil, tFmt, tDNew, rCount, rIndex, tCont, tBreak, Int.reduceToNat, Int.reducePow]
      refine ⟨ys, .inl ⟨SqL.of eD, fun tl htl => ?_⟩⟩
      exact k tl ys _ (fun b o e => keep (s2 _ _ e) htl) upd_same (RD'.mono (TK.new htl) _ (noL_rows _ _))
theorem ok_fp0 {m : Nat} : FnOk P w K mg base CX0 m f fd ["p"] (spFP 0 K) :=
  ⟨fun vs H Q E h => by obtain ⟨p, rfl, _⟩ := h; rfl, fun A outer s H args us vs Q E hr e hb hv h => by
    obtain ⟨p, _, ⟨hp, _, h1⟩, _⟩ := h
    have := hp.1
    rw [Int.pow_zero] at h1
    omega⟩
theorem ok_fps (D : Df_full_of_prime K mg f fd) (T : Txt K mg t1 cl) (o1 : O_parts_of P w K mg base cl) (o2 : O_primes_of P w K mg base) (o3 : O_least_base P w K mg base) {j m : Nat} {f1 fd1} (D_full_rows : Df_full_rows K mg f1 fd1) (G_full_rows : FnOk P w K mg base CX0 (m + 7) f1 fd1 ["parts"] (spFR j K)) : FnOk P w K mg base CX0 (m + 8) f fd ["p"] (spFP (j + 1) K) := by
  obtain ⟨_, _, D_parts_of, G_parts_of⟩ := o1
  obtain ⟨_, _, D_primes_of, G_primes_of⟩ := o2
  obtain ⟨_, _, D_least_base, G_least_base⟩ := o3
  refine D.fn.ok sc_full_of_prime (fun vs H Q E h => ?_) (fun cdv A outer s H vs Q E hr h => ?_)
  · obtain ⟨p, rfl, _⟩ := h
    rfl
  · obtain ⟨p, rfl, ⟨hp, p9, pj⟩, k⟩ := h
    have p2 := hp.1
    refine ⟨_, (pss_cons (ps_if (pt_cmpR op_eq (pv 0) pe_int (nomark _))
 (pss_one (ps_ret (pe_tup (pa_cons pe_str pa_nil))))
 pss_nil)
 (pss_one (ps_ret (pe_tup (pa_cons pe_str (pa_cons (pe_call (G_least_base.mono (by omega)) hr rfl D_least_base.mgx D_least_base.fn.kp D_least_base.bd .nil pass0 (pa_cons (pv 0) (pa_cons (pe_call (G_primes_of.mono (by omega)) hr rfl D_primes_of.mgx D_primes_of.fn.kp D_primes_of.bd .nil pass0 (pa_cons (pe_op op_sub (pv 0) pe_int) pa_nil)) pa_nil))) (pa_cons (pe_call (G_full_rows.mono (by omega)) hr rfl D_full_rows.mgx D_full_rows.fn.kp D_full_rows.bd .nil pass0 (pa_cons (pe_call (G_parts_of.mono (by omega)) hr rfl D_parts_of.mgx D_parts_of.fn.kp D_parts_of.bd .nil passE0 (pa_cons (pe_op op_sub (pv 0) pe_int) pa_nil)) pa_nil)) pa_nil))))))), ?_⟩
    have e0 : L2.start ["p"] [.int p] = [some (.int p)] := rfl
    rw [e0]; clear e0
    simp only [tSeq, tIfS, tTest, tRet, tRetN, tNext, tDrop, tAsg, tPar, tPar3, tAug, tVar, tC, tOp, tUn, rI, rI0, rU, tB, tAnd, tOr, tNot, tAndV, tOrV, tNotV, tIf, gName, gNil, gCons, gTup, gSub, tCB, tCons, tNil, tCall, tChain, ipI, tIsN, tNotN, tBM, tyV, tTup, tLst, rAppend, rCat, scal_ii, scal_bb, scal_ss, scal_ni, scal_in, rEq, rNe, List.getElem?_cons_zero, List.getElem?_cons_succ, List.set_cons_zero, List.set_cons_succ, eq_self, and_assoc, Option.some.injEq, V.int.injEq, V.bl.injEq, V.ref.injEq, V.str.injEq, List.cons.injEq, exists_eq_left', exists_eq_left, exists_and_left, List.nil_append, List.cons_append, List.append_nil, true_and, and_true, decide_eq_true_eq, Bool.not_eq_true', decide_eq_false_iff_not, if_true, if_false, Bool.not_true, Bool.not_false, Bool.false_eq_true, reduceCtorEq, decide_true, decide_false, ite_true, ite_false, rSetL, rIxL, tRaise, jCons, jNil, tFmt, tDNew, rCount, rIndex, tCont, tBreak, Int.reduceToNat, Int.reducePow]
    refine ite2 (fun e2 => ?_) (fun e2 => ?_)
    · subst e2
      refine ⟨by show 1 ≤ sizeLine; decide, fun r hr' => k (.ref r) _ (fun b o e => keep e hr') ?_⟩
      rw [pap_two]
      exact ⟨r, _, rfl, SqT.of upd_same, _, _, rfl, rfl, rfl⟩
    · refine ⟨p - 1, rfl, ⟨by omega, by omega⟩, fun l2 c2 H1 hl2 S1 hc2 => ?_⟩
      refine ⟨p, c2, l2, rfl, hc2, ⟨hp, p9, hl2⟩, fun rt hrt => ?_⟩
      try simp only [tSeq, tIfS, tTest, tRet, tRetN, tNext, tDrop, tAsg, tPar, tPar3, tAug, tVar, tC, tOp, tUn, rI, rI0, rU, tB, tAnd, tOr, tNot, tAndV, tOrV, tNotV, tIf, gName, gNil, gCons, gTup, gSub, tCB, tCons, tNil, tCall, tChain, ipI, tIsN, tNotN, tBM, tyV, tTup, tLst, rAppend, rCat, scal_ii, scal_bb, scal_ss, scal_ni, scal_in, rEq, rNe, List.getElem?_cons_zero, List.getElem?_cons_succ, List.set_cons_zero, List.set_cons_succ, eq_self, and_assoc, Option.some.injEq, V.int.injEq, V.bl.injEq, V.ref.injEq, V.str.injEq, List.cons.injEq, exists_eq_left', exists_eq_left, exists_and_left, List.nil_append, List.cons_append, List.append_nil, true_and, and_true, decide_eq_true_eq, Bool.not_eq_true', decide_eq_false_iff_not, if_true, if_false, Bool.not_true, Bool.not_false, Bool.false_eq_true, reduceCtorEq, decide_true, decide_false, ite_true, ite_false, rSetL, rIxL, tRaise, jCons, jNil, tFmt, tDNew, rCount, rIndex, tCont, tBreak, Int.reduceToNat, Int.reducePow]
      refine ⟨.int (p - 1), _, rfl, .int _, fun h => (by rw [isBet_of (by omega) (by omega)] at h; cases h), fun n' en _ _ l c xs H2 hl S2 hc R => ?_⟩
      cases en
      have len : l.length < 30 := parts_len hl.1.pr (by rw [hl.2]; omega)
      refine ⟨c, l, xs, rfl, hc, R, ⟨len, fun q hq => ⟨(hl.1.pr q hq).1, by have := (parts_le hl hq).1; omega, part_half hp pj hl hq⟩⟩, fun tl ys H3 S3 htl RY => ⟨by show 3 ≤ sizeLine; decide, fun r hr' => ?_⟩⟩
      refine k (.ref r) _ (fun b o e => keep (S3 _ _ (S2 _ _ (S1 _ _ e))) hr') ?_
      rw [pap_step e2 hl, lroot_eq hrt]
      exact ⟨r, _, rfl, SqT.of upd_same, _, _, rfl, rfl, _, _, rfl, rfl, _, _, rfl, ⟨tl, ys, rfl, SqT.of (keep htl hr'), RY.mono (TK.new hr') _ (noL_rows _ _)⟩, rfl⟩
theorem ok_full (D : Df_full_of_prime K mg f fd) (T : Txt K mg t1 cl) (o1 : ∀ b, O_parts_of P w K mg b cl) (o2 : ∀ b, O_primes_of P w K mg b) (o3 : ∀ b, O_least_base P w K mg b) {f1 fd1} (D1 : Df_full_rows K mg f1 fd1) : ∀ (j : Nat) (b : Heap), FnOk P w K mg b CX0 (2 * j + 6) f fd ["p"] (spFP j K)
  | 0, _ => ok_fp0
  | j + 1, b => ok_fps (m := 2 * j) D T (o1 b) (o2 b) (o3 b) D1 (ok_frs (m := 2 * j + 6) D1 T D (ok_full D T o1 o2 o3 D1 j))
noncomputable abbrev O_full_of_prime (P : Program) (w : World) (K : PySem.W.Frag) (mg : Str → Option Value) (base : Heap) : Prop := ∃ f fd, Df_full_of_prime K mg f fd ∧ FnOk P w K mg base CX0 66 f fd ["p"] (spFP 30 K)
noncomputable abbrev s_full_paper : Stmt := top 29
theorem sc_full_paper : FnScope ["n"] ["n"] (defScope s_full_paper) := ⟨rfl, rfl, rfl, by decide +kernel, rfl, by decide +kernel, by decide +kernel⟩
noncomputable abbrev Df_full_paper (K : PySem.W.Frag) (mg : Str → Option Value) (f : Addr) (fd : FuncData) : Prop := Def K mg "full_paper" s_full_paper ["n"] f fd
noncomputable def spPaper (K : PySem.W.Frag) (cl : Cl) : Sp := fun vs H Q E => ∃ (x : V) (nx : String), vs = [x] ∧ TyOf K H x (.type nx) ∧ (isBet x 1 1000000000 = false → E (.ref cl.nn) none H) ∧ ∀ n : Int, x = .int n → 1 ≤ n → n ≤ 1000000000 → (¬ IsPr n → ∀ H', Same H H' → Q .non H') ∧ (IsPr n → ∀ v H', Same H H' → Rep K H' (pap 30 n) v → Q v H')
theorem ok_full_paper (D : Df_full_paper K mg f fd) (T : Txt K mg t1 cl) (o1 : O_want_tried P w K mg base cl) (o2 : O_is_prime P w K mg base cl) (o3 : O_full_of_prime P w K mg base) : FnOk P w K mg base (CXE P w) 67 f fd ["n"] (spPaper K cl) := by
  obtain ⟨_, _, D_want_tried, G_want_tried⟩ := o1
  obtain ⟨_, _, D_is_prime, G_is_prime⟩ := o2
  obtain ⟨_, _, D_full_of_prime, G_full_of_prime⟩ := o3
  refine D.fn.okX sc_full_paper (fun vs H Q E h => ?_) (fun cdv A outer s H vs Q E hr h => ?_)
  · obtain ⟨x, nx, rfl, _⟩ := h
    rfl
  · obtain ⟨x, nx, rfl, tx, ke, kq⟩ := h
    refine ⟨_, (pss_cons (ps_expr (pe_call (G_want_tried.mono (by decide)) hr rfl D_want_tried.mgx D_want_tried.fn.kp D_want_tried.bd .nil (passes_cx (fun _ _ _ h => h)) (pa_cons (pv 0) (pa_cons pe_str pa_nil))))
 (pss_cons (ps_if (pt_not (pt_val (pe_call (G_is_prime.mono (by decide)) hr rfl D_is_prime.mgx D_is_prime.fn.kp D_is_prime.bd .nil (passes_cx (fun _ _ _ h => h)) (pa_cons (pv 0) pa_nil))))
 (pss_one (ps_ret pe_non))
 pss_nil)
 (pss_one (ps_ret (pe_call (G_full_of_prime.mono (by decide)) hr rfl D_full_of_prime.mgx D_full_of_prime.fn.kp D_full_of_prime.bd .nil pass0 (pa_cons (pv 0) pa_nil)))))), ?_⟩
    have e0 : L2.start ["n"] [x] = [some (x)] := rfl
    rw [e0]; clear e0
    simp only [tSeq, tIfS, tTest, tRet, tRetN, tNext, tDrop, tAsg, tPar, tPar3, tAug, tVar, tC, tOp, tUn, rI, rI0, rU, tB, tAnd, tOr, tNot, tAndV, tOrV, tNotV, tIf, gName, gNil, gCons, gTup, gSub, tCB, tCons, tNil, tCall, tChain, ipI, tIsN, tNotN, tBM, tyV, tTup, tLst, rAppend, rCat, scal_ii, scal_bb, scal_ss, scal_ni, scal_in, rEq, rNe, List.getElem?_cons_zero, List.getElem?_cons_succ, List.set_cons_zero, List.set_cons_succ, eq_self, and_assoc, Option.some.injEq, V.int.injEq, V.bl.injEq, V.ref.injEq, V.str.injEq, List.cons.injEq, exists_eq_left', exists_eq_left, exists_and_left, List.nil_append, List.cons_append, List.append_nil, true_and, and_true, decide_eq_true_eq, Bool.not_eq_true', decide_eq_false_iff_not, if_true, if_false, Bool.not_true, Bool.not_false, Bool.false_eq_true, reduceCtorEq, decide_true, decide_false, ite_true, ite_false, rSetL, rIxL, tRaise, jCons, jNil, tFmt, tDNew, rCount, rIndex, tCont, tBreak, Int.reduceToNat, Int.reducePow]
    refine ⟨x, nx, _, rfl, tx, by decide, fun hx => ?_, ke⟩
    obtain ⟨n, rfl, hb1, hb2⟩ := isBet_int hx
    have k := kq n rfl hb1 hb2
    refine ⟨.int n, _, rfl, .int _, fun h => (by rw [isBet_of (by omega) (by omega)] at h; cases h), fun n' en _ _ => ?_⟩
    cases en
    by_cases hp : IsPr n
    · rw [isPrB_of hp]
      refine ⟨_, rfl, ?_⟩
      rw [if_neg (by decide)]
      refine ⟨n, rfl, ⟨hp, by omega, ?_⟩, fun v H' S r => k.2 hp v H' S r⟩
      have : (2 : Int) ^ 30 = 1073741824 := by decide
      omega
    · rw [isPrB_not hp]
      refine ⟨_, rfl, ?_⟩
      rw [if_pos rfl]
      exact k.1 hp _ fun _ _ e => e
noncomputable abbrev O_full_paper (P : Program) (w : World) (K : PySem.W.Frag) (mg : Str → Option Value) (base : Heap) (cl : Cl) : Prop := ∃ f fd, Df_full_paper K mg f fd ∧ FnOk P w K mg base (CXE P w) 67 f fd ["n"] (spPaper K cl)
end
end PP
set_option Elab.async false
set_option linter.all false
set_option maxRecDepth 100000
namespace MM
noncomputable def noDiv (n : Nat) : Nat → Nat → Bool
  | 0, lo => Nat.ble 1 (n % lo)
  | d + 1, lo => (noDiv n d lo).and (noDiv n d (lo + 2 ^ d))
theorem noDiv_ok {n : Nat} : ∀ {d lo : Nat}, noDiv n d lo = true → ∀ x, lo ≤ x → x < lo + 2 ^ d → n % x ≠ 0
  | 0, lo, h, x, h1, h2 => by
    have e : x = lo := by rw [Nat.pow_zero] at h2; omega
    subst e
    have := Nat.le_of_ble_eq_true h
    omega
  | d + 1, lo, h, x, h1, h2 => by
    have h' : noDiv n d lo = true ∧ noDiv n d (lo + 2 ^ d) = true := by
      rw [noDiv] at h
      exact (Bool.and_eq_true _ _).mp h
    rw [Nat.pow_succ] at h2
    by_cases e : x < lo + 2 ^ d
    · exact noDiv_ok h'.1 x h1 e
    · exact noDiv_ok h'.2 x (by omega) (by omega)
theorem big_no : noDiv 999999937 15 2 = true := by decide +kernel
theorem pr_big : IsPr 999999937 := by
  refine ⟨by decide, fun d h1 h2 hd => ?_⟩
  have d3 : d < 31623 := by
    refine Classical.byContradiction fun hc => ?_
    have := Int.mul_le_mul (show (31623 : Int) ≤ d by omega) (show (31623 : Int) ≤ d by omega) (by decide) (by omega)
    omega
  have e15 : 2 + 2 ^ 15 = 32770 := by decide
  refine noDiv_ok big_no d.toNat (by omega) (by omega) ?_
  have e : ((999999937 % d.toNat : Nat) : Int) = 999999937 % d := by
    rw [Int.natCast_emod, Int.toNat_of_nonneg (by omega)]
    rfl
  omega
theorem pr_30011 : IsPr 30011 := pr_try (n := 30011) (k := 173) (by decide) (by decide) (by decide +kernel)
end MM
set_option Elab.async false
set_option linter.all false
set_option maxRecDepth 100000
set_option maxHeartbeats 4000000
namespace PP
open PySem L2 MM
noncomputable def StAt (H : Hp) (a : Addr) : Prop := ∃ x y, H a = some (.lst [.int x, .int y]) ∧ 0 ≤ y ∧ y < 2 ^ 32
noncomputable def But (a : Addr) (H H' : Hp) : Prop := ∀ b o, b ≠ a → H b = some o → H' b = some o
structure Step (a : Addr) (H H' : Hp) : Prop where
  st : StAt H' a
  but : But a H H'
theorem Step.trans {a : Addr} {H H1 H2 : Hp} (x : Step a H H1) (y : Step a H1 H2) : Step a H H2 := ⟨y.st, fun b o hb e => y.but b o hb (x.but b o hb e)⟩
theorem StAt.upd {H : Hp} {a p : Addr} {o : HO} (h : StAt H a) (hp : H p = none) : StAt (upd H p o) a := by
  obtain ⟨x, y, e, r⟩ := h
  exact ⟨x, y, by rw [upd_ne (ne_of_none e hp)]; exact e, r⟩
theorem Step.new {a p : Addr} {H H1 : Hp} {o : HO} (x : Step a H H1) (hp : H1 p = none) : Step a H (upd H1 p o) :=
  ⟨x.st.upd hp, fun b u hb e => by rw [upd_ne (ne_of_none (x.but b u hb e) hp)]; exact x.but b u hb e⟩
theorem Step.refl {a : Addr} {H : Hp} (h : StAt H a) : Step a H H := ⟨h, fun _ _ _ e => e⟩
theorem nb_mod (a : Int) {m : Int} (h0 : 0 < m) (h1 : m < 10 ^ 99) : (a % m).natAbs < 10 ^ 100 := by
  have := Int.emod_nonneg a (show m ≠ 0 by omega)
  have := Int.emod_lt_of_pos a h0
  omega
section
variable {P : Program} {w : World} {K : PySem.W.Frag} {mg : Str → Option Value} {base : Heap} {t1 : Tok} {cl : Cl} {f : Addr} {fd : FuncData}
noncomputable abbrev s_law_cell_at : Stmt := top 33
theorem sc_law_cell_at : FnScope ["_law_script", "_law_k"] ["_law_script", "_law_k"] (defScope s_law_cell_at) := ⟨rfl, rfl, rfl, by decide +kernel, rfl, by decide +kernel, by decide +kernel⟩
noncomputable abbrev Df_law_cell_at (K : PySem.W.Frag) (mg : Str → Option Value) (f : Addr) (fd : FuncData) : Prop := Def K mg "_law_cell_at" s_law_cell_at ["_law_script", "_law_k"] f fd
noncomputable def spCell (K : PySem.W.Frag) : Sp := fun vs H Q _ => ∃ (a : Addr) (ns : List Int) (k : Int), vs = [.ref a, .int k] ∧ SqL K H a (ns.map V.int) ∧ ns.length ≤ 63 ∧ 0 ≤ k ∧ ∀ v, Q (.int v) H
theorem ok_law_cell_at (D : Df_law_cell_at K mg f fd) (T : Txt K mg t1 cl) : FnOk P w K mg base CX0 1 f fd ["_law_script", "_law_k"] (spCell K) := by
  refine D.fn.ok sc_law_cell_at (fun vs H Q E h => ?_) (fun cdv A outer s H vs Q E hr h => ?_)
  · obtain ⟨a, ns, k, rfl, _⟩ := h
    rfl
  · obtain ⟨a, ns, k, rfl, hS, hl, h0, q⟩ := h
    refine ⟨_, (pss_cons (ps_if (pt_cmpR op_lt (pv 1) (pe_callB call_len_seq (by rfl) T.no_len PySem.boot_len (pa_cons (pv 0) pa_nil)) (nomark _))
 (pss_one (ps_ret (pe_ix ix_list (pv 0) (pv 1) (fun _ _ => rfl))))
 pss_nil)
 (pss_one (ps_ret pe_int))), ?_⟩
    have e0 : L2.start ["_law_script", "_law_k"] [.ref a, .int k] = [some (.ref a), some (.int k)] := rfl
    rw [e0]; clear e0
    simp only [tSeq, tIfS, tTest, tRet, tRetN, tNext, tDrop, tAsg, tPar, tPar3, tAug, tVar, tC, tOp, tUn, rI, rI0, rU, tB, tAnd, tOr, tNot, tAndV, tOrV, tNotV, tIf, gName, gNil, gCons, gTup, gSub, tCB, tCons, tNil, tCall, tChain, ipI, tIsN, tNotN, tBM, tyV, tTup, tLst, rAppend, rCat, scal_ii, scal_bb, scal_ss, scal_ni, scal_in, rEq, rNe, List.getElem?_cons_zero, List.getElem?_cons_succ, List.set_cons_zero, List.set_cons_succ, eq_self, and_assoc, Option.some.injEq, V.int.injEq, V.bl.injEq, V.ref.injEq, V.str.injEq, List.cons.injEq, exists_eq_left', exists_eq_left, exists_and_left, List.nil_append, List.cons_append, List.append_nil, true_and, and_true, decide_eq_true_eq, Bool.not_eq_true', decide_eq_false_iff_not, if_true, if_false, Bool.not_true, Bool.not_false, Bool.false_eq_true, reduceCtorEq, decide_true, decide_false, ite_true, ite_false, rSetL, rIxL, tRaise, jCons, jNil, tFmt, tDNew, rCount, rIndex, tCont, tBreak, Int.reduceToNat, Int.reducePow]
    refine ⟨_, .inl hS, ?_⟩
    rw [List.length_map]
    refine ite2 (fun hk => ?_) (fun _ => q 0)
    obtain ⟨j, rfl⟩ := Int.eq_ofNat_of_zero_le h0
    have hj : j < ns.length := by omega
    refine ⟨_, hS, .int (ns[j]), atI_nat ?_, q _⟩
    rw [List.getElem?_map, List.getElem?_eq_getElem hj]
    rfl
noncomputable abbrev O_law_cell_at (P : Program) (w : World) (K : PySem.W.Frag) (mg : Str → Option Value) (base : Heap) : Prop := ∃ f fd, Df_law_cell_at K mg f fd ∧ FnOk P w K mg base CX0 1 f fd ["_law_script", "_law_k"] (spCell K)
noncomputable abbrev s_law_state : Stmt := top 34
theorem sc_law_state : FnScope ["_law_script", "_law_k", "_law_cell"] ["_law_script", "_law_k"] (defScope s_law_state) := ⟨rfl, rfl, rfl, by decide +kernel, rfl, by decide +kernel, by decide +kernel⟩
noncomputable abbrev Df_law_state (K : PySem.W.Frag) (mg : Str → Option Value) (f : Addr) (fd : FuncData) : Prop := Def K mg "_law_state" s_law_state ["_law_script", "_law_k"] f fd
noncomputable def spState (K : PySem.W.Frag) : Sp := fun vs H Q _ => ∃ (a : Addr) (ns : List Int) (k : Int), vs = [.ref a, .int k] ∧ SqL K H a (ns.map V.int) ∧ ns.length ≤ 63 ∧ 0 ≤ k ∧ ∀ p x y, 0 ≤ y → y < 2 ^ 32 → H p = none → Q (.ref p) (upd H p (.lst [.int x, .int y]))
theorem ok_law_state (D : Df_law_state K mg f fd) (T : Txt K mg t1 cl) (o1 : O_law_cell_at P w K mg base) : FnOk P w K mg base CX0 2 f fd ["_law_script", "_law_k"] (spState K) := by
  obtain ⟨_, _, D_law_cell_at, G_law_cell_at⟩ := o1
  refine D.fn.ok sc_law_state (fun vs H Q E h => ?_) (fun cdv A outer s H vs Q E hr h => ?_)
  · obtain ⟨a, ns, k, rfl, _⟩ := h
    rfl
  · obtain ⟨a, ns, k, rfl, hS, hl, h0, q⟩ := h
    refine ⟨_, (pss_cons (ps_set (i := 2) sc_law_state.nd rfl (by first | exact Or.inl rfl | exact Or.inr rfl) (pe_call (G_law_cell_at.mono (by decide)) hr rfl D_law_cell_at.mgx D_law_cell_at.fn.kp D_law_cell_at.bd .nil pass0 (pa_cons (pv 0) (pa_cons (pv 1) pa_nil))))
 (pss_cons (ps_if (pt_cmpR op_ge (pv 2) (pe_op op_pow pe_int pe_int) (nomark _))
 (pss_one (ps_ret (pe_lst (pa_cons (pe_op op_sub (pv 2) (pe_op op_pow pe_int pe_int)) (pa_cons (pe_op op_add (pe_op op_mod (pv 2) pe_int) pe_int) pa_nil)))))
 pss_nil)
 (pss_one (ps_ret (pe_lst (pa_cons pe_int (pa_cons (pe_op op_add (pe_op op_mod (pv 2) pe_int) pe_int) pa_nil))))))), ?_⟩
    have e0 : L2.start ["_law_script", "_law_k", "_law_cell"] [.ref a, .int k] = [some (.ref a), some (.int k), none] := rfl
    rw [e0]; clear e0
    simp only [tSeq, tIfS, tTest, tRet, tRetN, tNext, tDrop, tAsg, tPar, tPar3, tAug, tVar, tC, tOp, tUn, rI, rI0, rU, tB, tAnd, tOr, tNot, tAndV, tOrV, tNotV, tIf, gName, gNil, gCons, gTup, gSub, tCB, tCons, tNil, tCall, tChain, ipI, tIsN, tNotN, tBM, tyV, tTup, tLst, rAppend, rCat, scal_ii, scal_bb, scal_ss, scal_ni, scal_in, rEq, rNe, List.getElem?_cons_zero, List.getElem?_cons_succ, List.set_cons_zero, List.set_cons_succ, eq_self, and_assoc, Option.some.injEq, V.int.injEq, V.bl.injEq, V.ref.injEq, V.str.injEq, List.cons.injEq, exists_eq_left', exists_eq_left, exists_and_left, List.nil_append, List.cons_append, List.append_nil, true_and, and_true, decide_eq_true_eq, Bool.not_eq_true', decide_eq_false_iff_not, if_true, if_false, Bool.not_true, Bool.not_false, Bool.false_eq_true, reduceCtorEq, decide_true, decide_false, ite_true, ite_false, rSetL, rIxL, tRaise, jCons, jNil, tFmt, tDNew, rCount, rIndex, tCont, tBreak, Int.reduceToNat, Int.reducePow]
    refine ⟨a, ns, k, rfl, hS, hl, h0, fun v => ⟨⟨by decide, by decide, by decide⟩, ?_⟩⟩
    simp only [tSeq, tIfS, tTest, tRet, tRetN, tNext, tDrop, tAsg, tPar, tPar3, tAug, tVar, tC, tOp, tUn, rI, rI0, rU, tB, tAnd, tOr, tNot, tAndV, tOrV, tNotV, tIf, gName, gNil, gCons, gTup, gSub, tCB, tCons, tNil, tCall, tChain, ipI, tIsN, tNotN, tBM, tyV, tTup, tLst, rAppend, rCat, scal_ii, scal_bb, scal_ss, scal_ni, scal_in, rEq, rNe, List.getElem?_cons_zero, List.getElem?_cons_succ, List.set_cons_zero, List.set_cons_succ, eq_self, and_assoc, Option.some.injEq, V.int.injEq, V.bl.injEq, V.ref.injEq, V.str.injEq, List.cons.injEq, exists_eq_left', exists_eq_left, exists_and_left, List.nil_append, List.cons_append, List.append_nil, true_and, and_true, decide_eq_true_eq, Bool.not_eq_true', decide_eq_false_iff_not, if_true, if_false, Bool.not_true, Bool.not_false, Bool.false_eq_true, reduceCtorEq, decide_true, decide_false, ite_true, ite_false, rSetL, rIxL, tRaise, jCons, jNil, tFmt, tDNew, rCount, rIndex, tCont, tBreak, Int.reduceToNat, Int.reducePow]
    refine ite2 (fun hk => ?_) (fun _ => ?_)
    · refine ⟨⟨by decide, by decide, by decide⟩, by decide, by show 2 ≤ sizeLine; decide, fun p hp => q p _ _ ?_ ?_ hp⟩ <;> omega
    · refine ⟨by decide, by show 2 ≤ sizeLine; decide, fun p hp => q p _ _ ?_ ?_ hp⟩ <;> omega
noncomputable abbrev O_law_state (P : Program) (w : World) (K : PySem.W.Frag) (mg : Str → Option Value) (base : Heap) : Prop := ∃ f fd, Df_law_state K mg f fd ∧ FnOk P w K mg base CX0 2 f fd ["_law_script", "_law_k"] (spState K)
noncomputable abbrev s_law_take : Stmt := top 35
theorem sc_law_take : FnScope ["_law_state_here", "_law_many", "_law_found", "_law_stirred"] ["_law_state_here", "_law_many"] (defScope s_law_take) := ⟨rfl, rfl, rfl, by decide +kernel, rfl, by decide +kernel, by decide +kernel⟩
noncomputable abbrev Df_law_take (K : PySem.W.Frag) (mg : Str → Option Value) (f : Addr) (fd : FuncData) : Prop := Def K mg "_law_take" s_law_take ["_law_state_here", "_law_many"] f fd
noncomputable def spTake : Sp := fun vs H Q _ => ∃ (a : Addr) (m : Int), vs = [.ref a, .int m] ∧ (0 < m ∧ m < 10 ^ 90) ∧ StAt H a ∧ ∀ r H', 0 ≤ r → r < m → Step a H H' → Q (.int r) H'
theorem ok_law_take (D : Df_law_take K mg f fd) (T : Txt K mg t1 cl) : FnOk P w K mg base CX0 1 f fd ["_law_state_here", "_law_many"] spTake := by
  refine D.fn.ok sc_law_take (fun vs H Q E h => ?_) (fun cdv A outer s H vs Q E hr h => ?_)
  · obtain ⟨a, m, rfl, _⟩ := h
    rfl
  · obtain ⟨a, m, rfl, ⟨m0, m1⟩, ⟨x, y, hH, y0, y1⟩, q⟩ := h
    refine ⟨_, (pss_cons (ps_if (pt_cmpR op_gt (pe_ix ix_list (pv 0) pe_int (fun _ _ => rfl)) pe_int (nomark _))
 (pss_cons (ps_set (i := 2) sc_law_take.nd rfl (by first | exact Or.inl rfl | exact Or.inr rfl) (pe_op op_mod (pe_ix ix_list (pv 0) pe_int (fun _ _ => rfl)) (pv 1)))
 (pss_cons (ps_asg (pe_op op_fdivB (pe_ix ix_list (pv 0) pe_int (fun _ _ => rfl)) (pv 1)) (pg_sub (pv 0) pe_int set_list))
 (pss_one (ps_ret (pv 2)))))
 pss_nil)
 (pss_cons (ps_asg (pe_op op_mod (pe_op op_add (pe_op op_mulB (pe_ix ix_list (pv 0) pe_int (fun _ _ => rfl)) pe_int) pe_int) pe_int) (pg_sub (pv 0) pe_int set_list))
 (pss_cons (ps_set (i := 3) sc_law_take.nd rfl (by first | exact Or.inl rfl | exact Or.inr rfl) (pe_op op_mod (pe_op op_add (pe_op op_add (pe_op op_mulB (pe_ix ix_list (pv 0) pe_int (fun _ _ => rfl)) (pe_ix ix_list (pv 0) pe_int (fun _ _ => rfl))) (pe_op op_mulB pe_int (pe_ix ix_list (pv 0) pe_int (fun _ _ => rfl)))) pe_int) pe_int))
 (pss_cons (ps_set (i := 3) sc_law_take.nd rfl (by first | exact Or.inl rfl | exact Or.inr rfl) (pe_op op_mod (pe_op op_add (pe_op op_mulB (pv 3) (pv 3)) (pe_op op_mulB pe_int (pv 3))) pe_int))
 (pss_one (ps_ret (pe_op op_mod (pe_op op_fdivB (pv 3) pe_int) (pv 1)))))))), ?_⟩
    have e0 : L2.start ["_law_state_here", "_law_many", "_law_found", "_law_stirred"] [.ref a, .int m] = [some (.ref a), some (.int m), none, none] := rfl
    rw [e0]; clear e0
    simp only [tSeq, tIfS, tTest, tRet, tRetN, tNext, tDrop, tAsg, tPar, tPar3, tAug, tVar, tC, tOp, tUn, rI, rI0, rU, tB, tAnd, tOr, tNot, tAndV, tOrV, tNotV, tIf, gName, gNil, gCons, gTup, gSub, tCB, tCons, tNil, tCall, tChain, ipI, tIsN, tNotN, tBM, tyV, tTup, tLst, rAppend, rCat, scal_ii, scal_bb, scal_ss, scal_ni, scal_in, rEq, rNe, List.getElem?_cons_zero, List.getElem?_cons_succ, List.set_cons_zero, List.set_cons_succ, eq_self, and_assoc, Option.some.injEq, V.int.injEq, V.bl.injEq, V.ref.injEq, V.str.injEq, List.cons.injEq, exists_eq_left', exists_eq_left, exists_and_left, List.nil_append, List.cons_append, List.append_nil, true_and, and_true, decide_eq_true_eq, Bool.not_eq_true', decide_eq_false_iff_not, if_true, if_false, Bool.not_true, Bool.not_false, Bool.false_eq_true, reduceCtorEq, decide_true, decide_false, ite_true, ite_false, rSetL, rIxL, tRaise, jCons, jNil, tFmt, tDNew, rCount, rIndex, tCont, tBreak, Int.reduceToNat, Int.reducePow]
    refine ⟨_, SqL.of hH, _, rfl, _, rfl, ?_⟩
    refine ite2 (fun hx => ?_) (fun hx => ?_)
    · refine ⟨_, SqL.of hH, _, rfl, _, rfl, m0, _, SqL.of hH, _, rfl, _, rfl, ⟨m0, by omega⟩, _, hH, _, rfl, q _ _ (Int.emod_nonneg _ (by omega)) (Int.emod_lt_of_pos _ m0) ⟨⟨_, _, upd_same, y0, y1⟩, fun b o hb e => by rw [upd_ne hb]; exact e⟩⟩
    · have e1 : 0 ≤ (y * 48271 + 29) % 2147483647 := Int.emod_nonneg _ (by omega)
      have e2 : (y * 48271 + 29) % 2147483647 < 2147483647 := Int.emod_lt_of_pos _ (by omega)
      refine ⟨_, SqL.of hH, _, rfl, _, rfl, .inr ⟨by omega, by omega⟩, by decide, _, hH, _, rfl, _, SqL.of upd_same, _, rfl, _, SqL.of upd_same, _, rfl, _, rfl, _, rfl, .inr ⟨nb_mod _ (by decide) (by decide), nb_mod _ (by decide) (by decide)⟩, _, SqL.of upd_same, _, rfl, _, rfl,
        .inr ⟨by decide, nb_mod _ (by decide) (by decide)⟩, by decide, .inr ⟨nb_mod _ (by decide) (by decide), nb_mod _ (by decide) (by decide)⟩, .inr ⟨by decide, nb_mod _ (by decide) (by decide)⟩, by decide, ⟨by decide, by decide⟩, m0,
        q _ _ (Int.emod_nonneg _ (by omega)) (Int.emod_lt_of_pos _ m0) ⟨⟨_, _, upd_same, e1, by omega⟩, fun b o hb e => by rw [upd_ne hb]; exact e⟩⟩
noncomputable abbrev O_law_take (P : Program) (w : World) (K : PySem.W.Frag) (mg : Str → Option Value) (base : Heap) : Prop := ∃ f fd, Df_law_take K mg f fd ∧ FnOk P w K mg base CX0 1 f fd ["_law_state_here", "_law_many"] (spTake)
noncomputable abbrev s_law_parts : Stmt := top 41
theorem sc_law_parts : FnScope ["_law_number", "_law_found", "_law_left", "_law_prime_here", "_law_often"] ["_law_number"] (defScope s_law_parts) := ⟨rfl, rfl, rfl, by decide +kernel, rfl, by decide +kernel, by decide +kernel⟩
noncomputable abbrev Df_law_parts (K : PySem.W.Frag) (mg : Str → Option Value) (f : Addr) (fd : FuncData) : Prop := Def K mg "_law_parts" s_law_parts ["_law_number"] f fd
noncomputable def spLParts (K : PySem.W.Frag) : Sp := fun vs H Q _ => ∃ (n : Int), vs = [.int n] ∧ (1 ≤ n ∧ n ≤ 10 ^ 9) ∧ ∀ l p xs H', Parts n l → Same H H' → H' p = some (.lst xs) → RepL K H' (l.map pD) xs → Q (.ref p) H'
theorem ok_law_parts (D : Df_law_parts K mg f fd) (T : Txt K mg t1 cl) : FnOk P w K mg base CX0 1 f fd ["_law_number"] (spLParts K) := by
  refine D.fn.ok sc_law_parts (fun vs H Q E h => ?_) (fun cdv A outer s H vs Q E hr h => ?_)
  · obtain ⟨n, rfl, _⟩ := h
    rfl
  · obtain ⟨n, rfl, hb, k⟩ := h
    refine ⟨_, (pss_cons (ps_par3 (i := 1) (j := 2) (l := 3) rfl sc_law_parts.nd rfl rfl rfl (by decide) (by decide) (by decide) rfl rfl rfl (pa_cons (pe_lst pa_nil) (pa_cons (pv 0) (pa_cons pe_int pa_nil))) (by first | rfl | with_unfolding_all rfl))
 (pss_cons (ps_while PassesOwn.never (pt_cmpR op_gt (pv 2) pe_int (nomark _))
 (pss_cons (ps_if (pt_cmpR op_gt (pe_op op_mulB (pv 3) (pv 3)) (pv 2) (nomark _))
 (pss_one (ps_set (i := 3) sc_law_parts.nd rfl (by first | exact Or.inl rfl | exact Or.inr rfl) (pv 2)))
 pss_nil)
 (pss_cons (ps_set (i := 4) sc_law_parts.nd rfl (by first | exact Or.inl rfl | exact Or.inr rfl) pe_int)
 (pss_cons (ps_while PassesOwn.never (pt_cmpR op_eq (pe_op op_mod (pv 2) (pv 3)) pe_int (nomark _))
 (pss_one (ps_par (i := 2) (j := 4) rfl sc_law_parts.nd rfl rfl (by decide) rfl rfl (pa_cons (pe_op op_fdivB (pv 2) (pv 3)) (pa_cons (pe_op op_add (pv 4) pe_int) pa_nil)) (by first | rfl | with_unfolding_all rfl))))
 (pss_cons (ps_if (pt_cmpR op_gt (pv 4) pe_int (nomark _))
 (pss_one (ps_expr (pe_bm PySem.F.plainAttrs_list PySem.F.slot_list_append PySem.F.type_list_append mt_append (pv 1) (pa_cons (pe_tup (pa_cons (pv 3) (pa_cons (pv 4) pa_nil))) pa_nil))))
 pss_nil)
 (pss_one (ps_set (i := 3) sc_law_parts.nd rfl (by first | exact Or.inl rfl | exact Or.inr rfl) (pe_op op_add (pv 3) pe_int))))))))
 (pss_one (ps_ret (pv 1))))), ?_⟩
    have e0 : L2.start ["_law_number", "_law_found", "_law_left", "_law_prime_here", "_law_often"] [.int n] = [some (.int n), none, none, none, none] := rfl
    rw [e0]; clear e0
    simp only [tSeq, tIfS, tTest, tRet, tRetN, tNext, tDrop, tAsg, tPar, tPar3, tAug, tVar, tC, tOp, tUn, rI, rI0, rU, tB, tAnd, tOr, tNot, tAndV, tOrV, tNotV, tIf, gName, gNil, gCons, gTup, gSub, tCB, tCons, tNil, tCall, tChain, ipI, tIsN, tNotN, tBM, tyV, tTup, tLst, rAppend, rCat, scal_ii, scal_bb, scal_ss, scal_ni, scal_in, rEq, rNe, List.getElem?_cons_zero, List.getElem?_cons_succ, List.set_cons_zero, List.set_cons_succ, eq_self, and_assoc, Option.some.injEq, V.int.injEq, V.bl.injEq, V.ref.injEq, V.str.injEq, List.cons.injEq, exists_eq_left', exists_eq_left, exists_and_left, List.nil_append, List.cons_append, List.append_nil, true_and, and_true, decide_eq_true_eq, Bool.not_eq_true', decide_eq_false_iff_not, if_true, if_false, Bool.not_true, Bool.not_false, Bool.false_eq_true, reduceCtorEq, decide_true, decide_false, ite_true, ite_false, rSetL, rIxL, tRaise, jCons, jNil, tFmt, tDNew, rCount, rIndex, tCont, tBreak, Int.reduceToNat, Int.reducePow]
    refine ⟨Nat.zero_le _, fun p hp => ?_⟩
    obtain ⟨W, hW⟩ : ∃ W : Nat → St → Hp → Prop, ∀ m σ H', W m σ H' ↔ ∃ l left t o xs, m = (left - t + 2).toNat ∧ σ = [some (.int n), some (.ref p), some (.int left), some (.int t), o] ∧ LtInv n l left t ∧ Same H H' ∧ H' p = some (.lst xs) ∧ RepL K H' (l.map pD) xs := ⟨_, fun _ _ _ => Iff.rfl⟩
    have s0 : Same H (upd H p (.lst [])) := fun b o e => by rw [upd_ne (ne_of_none e hp)]; exact e
    refine ⟨W, ⟨_, (hW _ _ _).mpr ⟨[], n, 2, none, [], rfl, rfl, lt_start hb.1, s0, upd_same, rfl⟩⟩, ?_⟩
    intro m σ H' hw
    obtain ⟨l, left, t, o, xs, rfl, rfl, I, S, hl, R⟩ := (hW _ _ _).mp hw
    clear hw
    have i1 := I.l1; have i2 := I.t2; have i3 := lt_le I
    simp only [tSeq, tIfS, tTest, tRet, tRetN, tNext, tDrop, tAsg, tPar, tPar3, tAug, tVar, tC, tOp, tUn, rI, rI0, rU, tB, tAnd, tOr, tNot, tAndV, tOrV, tNotV, tIf, gName, gNil, gCons, gTup, gSub, tCB, tCons, tNil, tCall, tChain, ipI, tIsN, tNotN, tBM, tyV, tTup, tLst, rAppend, rCat, scal_ii, scal_bb, scal_ss, scal_ni, scal_in, rEq, rNe, List.getElem?_cons_zero, List.getElem?_cons_succ, List.set_cons_zero, List.set_cons_succ, eq_self, and_assoc, Option.some.injEq, V.int.injEq, V.bl.injEq, V.ref.injEq, V.str.injEq, List.cons.injEq, exists_eq_left', exists_eq_left, exists_and_left, List.nil_append, List.cons_append, List.append_nil, true_and, and_true, decide_eq_true_eq, Bool.not_eq_true', decide_eq_false_iff_not, if_true, if_false, Bool.not_true, Bool.not_false, Bool.false_eq_true, reduceCtorEq, decide_true, decide_false, ite_true, ite_false, rSetL, rIxL, tRaise, jCons, jNil, tFmt, tDNew, rCount, rIndex, tCont, tBreak, Int.reduceToNat, Int.reducePow]
    refine ite2 (fun h1 => ?_) (fun h1 => ?_)
    · have itb := I.tb h1
      refine ⟨fun σ' H2 => ∃ m', m' < (left - t + 2).toNat ∧ W m' σ' H2, fun _ _ h => h, ?_⟩
      have inner : ∀ t' : Int, LtInv n l left t' → t ≤ t' → t' ≤ left → tWhile (tTest (tOp rEq (tOp (rI (fun _ j => 0 < j) fun i j => V.int (i % j)) (tVar 2) (tVar 3)) (tC (V.int 0))))
          (tPar 2 4 (tCons (tOp (rI CDivB fun i j => V.int (i / j)) (tVar 2) (tVar 3)) (tCons (tOp (rI0 fun i j => V.int (i + j)) (tVar 4) (tC (V.int 1))) tNil)))
          { nx := tSeq (tIfS (tTest (tOp (rI0 fun i j => V.bl (decide (j < i))) (tVar 4) (tC (V.int 0)))) (tDrop (tBM K "list" rAppend (tVar 1) (tCons (tTup (tCons (tVar 3) (tCons (tVar 4) tNil))) tNil))) tNext) (tAsg (tOp (rI0 fun i j => V.int (i + j)) (tVar 3) (tC (V.int 1))) (gName 3))
              { nx := fun σ' H2 => ∃ m', m' < (left - t + 2).toNat ∧ W m' σ' H2, rt := Q, bk := tRet (tVar 1) { nx := fun x H' => Q V.non H', rt := Q }, ct := fun σ' H2 => ∃ m', m' < (left - t + 2).toNat ∧ W m' σ' H2 }, rt := Q, bk := tRet (tVar 1) { nx := fun x H' => Q V.non H', rt := Q }, ct := fun σ' H2 => ∃ m', m' < (left - t + 2).toNat ∧ W m' σ' H2 }
          [some (.int n), some (.ref p), some (.int left), some (.int t'), some (.int 0)] H' := by
        intro t' I' tt tl
        have t2 := I'.t2
        obtain ⟨W2, hW2⟩ : ∃ W : Nat → St → Hp → Prop, ∀ m σ H2, W m σ H2 ↔ ∃ left' oft, m = left'.toNat ∧ σ = [some (.int n), some (.ref p), some (.int left'), some (.int t'), some (.int oft)] ∧ DivInv left t' left' oft ∧ H2 = H' := ⟨_, fun _ _ _ => Iff.rfl⟩
        refine ⟨W2, ⟨_, (hW2 _ _ _).mpr ⟨left, 0, rfl, rfl, div_start (by omega), rfl⟩⟩, ?_⟩
        intro m2 σ2 H2 hw2
        obtain ⟨left', oft, rfl, rfl, J, rfl⟩ := (hW2 _ _ _).mp hw2
        clear hw2
        have j1 := J.l1
        have j2 := div_le t2 J
        simp only [tSeq, tIfS, tTest, tRet, tRetN, tNext, tDrop, tAsg, tPar, tPar3, tAug, tVar, tC, tOp, tUn, rI, rI0, rU, tB, tAnd, tOr, tNot, tAndV, tOrV, tNotV, tIf, gName, gNil, gCons, gTup, gSub, tCB, tCons, tNil, tCall, tChain, ipI, tIsN, tNotN, tBM, tyV, tTup, tLst, rAppend, rCat, scal_ii, scal_bb, scal_ss, scal_ni, scal_in, rEq, rNe, List.getElem?_cons_zero, List.getElem?_cons_succ, List.set_cons_zero, List.set_cons_succ, eq_self, and_assoc, Option.some.injEq, V.int.injEq, V.bl.injEq, V.ref.injEq, V.str.injEq, List.cons.injEq, exists_eq_left', exists_eq_left, exists_and_left, List.nil_append, List.cons_append, List.append_nil, true_and, and_true, decide_eq_true_eq, Bool.not_eq_true', decide_eq_false_iff_not, if_true, if_false, Bool.not_true, Bool.not_false, Bool.false_eq_true, reduceCtorEq, decide_true, decide_false, ite_true, ite_false, rSetL, rIxL, tRaise, jCons, jNil, tFmt, tDNew, rCount, rIndex, tCont, tBreak, Int.reduceToNat, Int.reducePow]
        refine ⟨by omega, ?_⟩
        refine ite2 (fun hd => ?_) (fun hd => ?_)
        · refine ⟨fun σ' H2 => ∃ m', m' < left'.toNat ∧ W2 m' σ' H2, fun _ _ h => h, ?_⟩
          obtain ⟨J2, jl⟩ := div_turn t2 J hd
          have j3 := J2.l1
          exact ⟨⟨by omega, by omega⟩, _, by omega, (hW2 _ _ _).mpr ⟨_, _, rfl, rfl, J2, rfl⟩⟩
        · obtain ⟨I2, lle⟩ := lt_turn I' J hd
          refine ite2 (fun ho => ?_) (fun ho => ?_)
          · rw [if_pos ho] at I2
            refine ⟨.inl ⟨_, SqL.of hl⟩, ?_⟩
            refine ⟨by show 2 ≤ sizeLine; decide, fun a ha => ?_⟩
            have npa : p ≠ a := ne_of_none hl ha
            have hlen : xs.length < sizeLine := by
              have e := R.length
              rw [List.length_map] at e
              have e2 := parts_len I.ok.pr (by have := I.eq; have := prod_pos I.ok.pr; have := Int.mul_le_mul_of_nonneg_left i1 (show 0 ≤ prod l by omega); omega)
              exact small1000 (by omega)
            refine ⟨_, by rw [upd_ne npa]; exact hl, hlen, _, by omega, (hW _ _ _).mpr ⟨l ++ [(t', oft)], left', t' + 1, _, _, rfl, rfl, I2, ?_, upd_same, ?_⟩⟩
            · intro b u e
              have e1 : b ≠ p := ne_of_none e hp
              have e2 : b ≠ a := ne_of_none (S b u e) ha
              rw [upd_ne e1, upd_ne e2]
              exact S b u e
            · have tk : TK H2 (upd (upd H2 a (.tup [.int t', .int oft])) p (.lst (xs ++ [.ref a]))) := (TK.new ha).trans (TK.lst (xs := xs) (by rw [upd_ne npa]; exact hl))
              rw [List.map_append]
              refine (R.mono tk _ (noLL_pD l)).append ⟨_, [], rfl, rep_pair ?_, rfl⟩
              rw [upd_ne npa.symm, upd_same]
          · rw [if_neg ho] at I2
            exact ⟨_, by omega, (hW _ _ _).mpr ⟨l, left', t' + 1, _, xs, rfl, rfl, I2, S, hl, R⟩⟩
      refine ⟨.inr ⟨by omega, by omega⟩, ?_⟩
      refine ite2 (fun hs => ?_) (fun hs => ?_)
      · exact inner left (lt_jump I h1 hs).1 itb (Int.le_refl _)
      · exact inner t I (Int.le_refl _) itb
    · exact k l p xs H' (lt_end I h1) S hl R
noncomputable abbrev O_law_parts (P : Program) (w : World) (K : PySem.W.Frag) (mg : Str → Option Value) (base : Heap) : Prop := ∃ f fd, Df_law_parts K mg f fd ∧ FnOk P w K mg base CX0 1 f fd ["_law_number"] (spLParts K)
noncomputable abbrev s_law_is_prime : Stmt := top 42
theorem sc_law_is_prime : FnScope ["_law_number"] ["_law_number"] (defScope s_law_is_prime) := ⟨rfl, rfl, rfl, by decide +kernel, rfl, by decide +kernel, by decide +kernel⟩
noncomputable abbrev Df_law_is_prime (K : PySem.W.Frag) (mg : Str → Option Value) (f : Addr) (fd : FuncData) : Prop := Def K mg "_law_is_prime" s_law_is_prime ["_law_number"] f fd
noncomputable def spLPrime : Sp := fun vs H Q _ => ∃ (n : Int), vs = [.int n] ∧ n ≤ 10 ^ 9 ∧ ∀ H', Same H H' → Q (.bl (isPrB n)) H'
theorem ok_law_is_prime (D : Df_law_is_prime K mg f fd) (T : Txt K mg t1 cl) (o1 : O_law_parts P w K mg base) : FnOk P w K mg base CX0 2 f fd ["_law_number"] spLPrime := by
  obtain ⟨_, _, D_law_parts, G_law_parts⟩ := o1
  refine D.fn.ok sc_law_is_prime (fun vs H Q E h => ?_) (fun cdv A outer s H vs Q E hr h => ?_)
  · obtain ⟨n, rfl, _⟩ := h
    rfl
  · obtain ⟨n, rfl, hb, k⟩ := h
    refine ⟨_, (pss_one (ps_ret (pe_and (pe_cmpR op_gt (pv 0) pe_int (nomark _)) (pe_one (pe_cmpR (op_eqS (hu150 hr)) (pe_call (G_law_parts.mono (by decide)) hr rfl D_law_parts.mgx D_law_parts.fn.kp D_law_parts.bd .nil pass0 (pa_cons (pv 0) pa_nil)) (pe_lst (pa_cons (pe_tup (pa_cons (pv 0) (pa_cons pe_int pa_nil))) pa_nil)) (nomark _)))))), ?_⟩
    have e0 : L2.start ["_law_number"] [.int n] = [some (.int n)] := rfl
    rw [e0]; clear e0
    simp only [tSeq, tIfS, tTest, tRet, tRetN, tNext, tDrop, tAsg, tPar, tPar3, tAug, tVar, tC, tOp, tUn, rI, rI0, rU, tB, tAnd, tOr, tNot, tAndV, tOrV, tNotV, tIf, gName, gNil, gCons, gTup, gSub, tCB, tCons, tNil, tCall, tChain, ipI, tIsN, tNotN, tBM, tyV, tTup, tLst, rAppend, rCat, scal_ii, scal_bb, scal_ss, scal_ni, scal_in, rEq, rNe, List.getElem?_cons_zero, List.getElem?_cons_succ, List.set_cons_zero, List.set_cons_succ, eq_self, and_assoc, Option.some.injEq, V.int.injEq, V.bl.injEq, V.ref.injEq, V.str.injEq, List.cons.injEq, exists_eq_left', exists_eq_left, exists_and_left, List.nil_append, List.cons_append, List.append_nil, true_and, and_true, decide_eq_true_eq, Bool.not_eq_true', decide_eq_false_iff_not, if_true, if_false, Bool.not_true, Bool.not_false, Bool.false_eq_true, reduceCtorEq, decide_true, decide_false, ite_true, ite_false, rSetL, rIxL, tRaise, jCons, jNil, tFmt, tDNew, rCount, rIndex, tCont, tBreak, Int.reduceToNat, Int.reducePow]
    refine ite2 (fun h1 => ?_) (fun h1 => ?_)
    · refine ⟨n, rfl, ⟨by omega, hb⟩, fun l p xs H' hl S hp R => ?_⟩
      simp only [tSeq, tIfS, tTest, tRet, tRetN, tNext, tDrop, tAsg, tPar, tPar3, tAug, tVar, tC, tOp, tUn, rI, rI0, rU, tB, tAnd, tOr, tNot, tAndV, tOrV, tNotV, tIf, gName, gNil, gCons, gTup, gSub, tCB, tCons, tNil, tCall, tChain, ipI, tIsN, tNotN, tBM, tyV, tTup, tLst, rAppend, rCat, scal_ii, scal_bb, scal_ss, scal_ni, scal_in, rEq, rNe, List.getElem?_cons_zero, List.getElem?_cons_succ, List.set_cons_zero, List.set_cons_succ, eq_self, and_assoc, Option.some.injEq, V.int.injEq, V.bl.injEq, V.ref.injEq, V.str.injEq, List.cons.injEq, exists_eq_left', exists_eq_left, exists_and_left, List.nil_append, List.cons_append, List.append_nil, true_and, and_true, decide_eq_true_eq, Bool.not_eq_true', decide_eq_false_iff_not, if_true, if_false, Bool.not_true, Bool.not_false, Bool.false_eq_true, reduceCtorEq, decide_true, decide_false, ite_true, ite_false, rSetL, rIxL, tRaise, jCons, jNil, tFmt, tDNew, rCount, rIndex, tCont, tBreak, Int.reduceToNat, Int.reducePow]
      refine ⟨by show 2 ≤ sizeLine; decide, fun a ha => ⟨by show 1 ≤ sizeLine; decide, fun b hb' => ?_⟩⟩
      have na : b ≠ a := (ne_of_none upd_same hb').symm
      have tk : TK H' (upd (upd H' a (.tup [.int n, .int 1])) b (.lst [.ref a])) := (TK.new ha).trans (TK.new hb')
      have npa : p ≠ a := ne_of_none hp ha
      have npb : p ≠ b := ne_of_none (by rw [upd_ne npa]; exact hp) hb'
      refine ⟨l.map pD, [(n, 1)].map pD, .inr ⟨⟨p, xs, rfl, SqL.of (by rw [upd_ne npb, upd_ne npa]; exact hp), R.mono tk _ (noLL_pD l)⟩, ⟨b, _, rfl, SqL.of upd_same, _, _, rfl, rep_pair (by rw [upd_ne na.symm, upd_same]), rfl⟩⟩, Nat.le_trans (depL_pD l) (by decide), ?_⟩
      have e := parts_prime hl
      have kk := k _ (fun c o z => show (upd (upd H' a (.tup [.int n, .int 1])) b (.lst [.ref a])) c = some o by
        rw [upd_ne (ne_of_none (show (upd H' a _) c = some o by rw [upd_ne (ne_of_none (S c o z) ha)]; exact S c o z) hb'), upd_ne (ne_of_none (S c o z) ha)]
        exact S c o z)
      rw [eqDL_pD]
      by_cases hp' : IsPr n
      · rw [isPrB_of hp'] at kk
        rw [decide_eq_true (e.mpr hp')]
        exact kk
      · rw [isPrB_not hp'] at kk
        rw [decide_eq_false (fun z => hp' (e.mp z))]
        exact kk
    · have kk := k H (Same.refl H)
      rw [isPrB_not (fun h => by have := h.1; omega)] at kk
      exact kk
noncomputable abbrev O_law_is_prime (P : Program) (w : World) (K : PySem.W.Frag) (mg : Str → Option Value) (base : Heap) : Prop := ∃ f fd, Df_law_is_prime K mg f fd ∧ FnOk P w K mg base CX0 2 f fd ["_law_number"] (spLPrime)
theorem Step.same {a : Addr} {H H1 H2 : Hp} (x : Step a H H1) (y : Same H1 H2) : Step a H H2 := by
  obtain ⟨u, v, e, r⟩ := x.st
  exact ⟨⟨u, v, y a _ e, r⟩, fun b o hb e => y b o (x.but b o hb e)⟩
noncomputable abbrev s_law_prime : Stmt := top 43
theorem sc_law_prime : FnScope ["_law_state_here", "_law_most", "_law_number"] ["_law_state_here", "_law_most"] (defScope s_law_prime) := ⟨rfl, rfl, rfl, by decide +kernel, rfl, by decide +kernel, by decide +kernel⟩
noncomputable abbrev Df_law_prime (K : PySem.W.Frag) (mg : Str → Option Value) (f : Addr) (fd : FuncData) : Prop := Def K mg "_law_prime" s_law_prime ["_law_state_here", "_law_most"] f fd
noncomputable def spPrimeD : Sp := fun vs H Q _ => ∃ (a : Addr) (m z : Int), vs = [.ref a, .int m] ∧ (0 < m ∧ IsPr z ∧ m + 1 ≤ z ∧ z ≤ 10 ^ 9) ∧ StAt H a ∧ ∀ r H', IsPr r → r ≤ z → Step a H H' → Q (.int r) H'
theorem ok_law_prime (D : Df_law_prime K mg f fd) (T : Txt K mg t1 cl) (o1 : O_law_take P w K mg base) (o2 : O_law_is_prime P w K mg base) : FnOk P w K mg base CX0 3 f fd ["_law_state_here", "_law_most"] spPrimeD := by
  obtain ⟨_, _, D_law_take, G_law_take⟩ := o1
  obtain ⟨_, _, D_law_is_prime, G_law_is_prime⟩ := o2
  refine D.fn.ok sc_law_prime (fun vs H Q E h => ?_) (fun cdv A outer s H vs Q E hr h => ?_)
  · obtain ⟨a, m, z, rfl, _⟩ := h
    rfl
  · obtain ⟨a, m, z, rfl, ⟨m0, hz, m1, z9⟩, hst, k⟩ := h
    refine ⟨_, (pss_cons (ps_set (i := 2) sc_law_prime.nd rfl (by first | exact Or.inl rfl | exact Or.inr rfl) (pe_op op_add pe_int (pe_call (G_law_take.mono (by decide)) hr rfl D_law_take.mgx D_law_take.fn.kp D_law_take.bd .nil pass0 (pa_cons (pv 0) (pa_cons (pv 1) pa_nil)))))
 (pss_cons (ps_while PassesOwn.never (pt_not (pt_val (pe_call (G_law_is_prime.mono (by decide)) hr rfl D_law_is_prime.mgx D_law_is_prime.fn.kp D_law_is_prime.bd .nil pass0 (pa_cons (pv 2) pa_nil))))
 (pss_one (ps_set (i := 2) sc_law_prime.nd rfl (by first | exact Or.inl rfl | exact Or.inr rfl) (pe_op op_add (pv 2) pe_int))))
 (pss_one (ps_ret (pv 2))))), ?_⟩
    have e0 : L2.start ["_law_state_here", "_law_most", "_law_number"] [.ref a, .int m] = [some (.ref a), some (.int m), none] := rfl
    rw [e0]; clear e0
    simp only [tSeq, tIfS, tTest, tRet, tRetN, tNext, tDrop, tAsg, tPar, tPar3, tAug, tVar, tC, tOp, tUn, rI, rI0, rU, tB, tAnd, tOr, tNot, tAndV, tOrV, tNotV, tIf, gName, gNil, gCons, gTup, gSub, tCB, tCons, tNil, tCall, tChain, ipI, tIsN, tNotN, tBM, tyV, tTup, tLst, rAppend, rCat, scal_ii, scal_bb, scal_ss, scal_ni, scal_in, rEq, rNe, List.getElem?_cons_zero, List.getElem?_cons_succ, List.set_cons_zero, List.set_cons_succ, eq_self, and_assoc, Option.some.injEq, V.int.injEq, V.bl.injEq, V.ref.injEq, V.str.injEq, List.cons.injEq, exists_eq_left', exists_eq_left, exists_and_left, List.nil_append, List.cons_append, List.append_nil, true_and, and_true, decide_eq_true_eq, Bool.not_eq_true', decide_eq_false_iff_not, if_true, if_false, Bool.not_true, Bool.not_false, Bool.false_eq_true, reduceCtorEq, decide_true, decide_false, ite_true, ite_false, rSetL, rIxL, tRaise, jCons, jNil, tFmt, tDNew, rCount, rIndex, tCont, tBreak, Int.reduceToNat, Int.reducePow]
    refine ⟨a, m, rfl, ⟨by omega, by omega⟩, hst, fun r H1 r0 r1 S1 => ?_⟩
    simp only [tSeq, tIfS, tTest, tRet, tRetN, tNext, tDrop, tAsg, tPar, tPar3, tAug, tVar, tC, tOp, tUn, rI, rI0, rU, tB, tAnd, tOr, tNot, tAndV, tOrV, tNotV, tIf, gName, gNil, gCons, gTup, gSub, tCB, tCons, tNil, tCall, tChain, ipI, tIsN, tNotN, tBM, tyV, tTup, tLst, rAppend, rCat, scal_ii, scal_bb, scal_ss, scal_ni, scal_in, rEq, rNe, List.getElem?_cons_zero, List.getElem?_cons_succ, List.set_cons_zero, List.set_cons_succ, eq_self, and_assoc, Option.some.injEq, V.int.injEq, V.bl.injEq, V.ref.injEq, V.str.injEq, List.cons.injEq, exists_eq_left', exists_eq_left, exists_and_left, List.nil_append, List.cons_append, List.append_nil, true_and, and_true, decide_eq_true_eq, Bool.not_eq_true', decide_eq_false_iff_not, if_true, if_false, Bool.not_true, Bool.not_false, Bool.false_eq_true, reduceCtorEq, decide_true, decide_false, ite_true, ite_false, rSetL, rIxL, tRaise, jCons, jNil, tFmt, tDNew, rCount, rIndex, tCont, tBreak, Int.reduceToNat, Int.reducePow]
    obtain ⟨W, hW⟩ : ∃ W : Nat → St → Hp → Prop, ∀ j σ H', W j σ H' ↔ ∃ n : Int, j = (z - n).toNat ∧ σ = [some (.ref a), some (.int m), some (.int n)] ∧ n ≤ z ∧ Step a H H' := ⟨_, fun _ _ _ => Iff.rfl⟩
    refine ⟨W, ⟨_, (hW _ _ _).mpr ⟨_, rfl, rfl, by omega, S1⟩⟩, ?_⟩
    intro j σ H' hw
    obtain ⟨n, rfl, rfl, nb, S⟩ := (hW _ _ _).mp hw
    clear hw
    simp only [tSeq, tIfS, tTest, tRet, tRetN, tNext, tDrop, tAsg, tPar, tPar3, tAug, tVar, tC, tOp, tUn, rI, rI0, rU, tB, tAnd, tOr, tNot, tAndV, tOrV, tNotV, tIf, gName, gNil, gCons, gTup, gSub, tCB, tCons, tNil, tCall, tChain, ipI, tIsN, tNotN, tBM, tyV, tTup, tLst, rAppend, rCat, scal_ii, scal_bb, scal_ss, scal_ni, scal_in, rEq, rNe, List.getElem?_cons_zero, List.getElem?_cons_succ, List.set_cons_zero, List.set_cons_succ, eq_self, and_assoc, Option.some.injEq, V.int.injEq, V.bl.injEq, V.ref.injEq, V.str.injEq, List.cons.injEq, exists_eq_left', exists_eq_left, exists_and_left, List.nil_append, List.cons_append, List.append_nil, true_and, and_true, decide_eq_true_eq, Bool.not_eq_true', decide_eq_false_iff_not, if_true, if_false, Bool.not_true, Bool.not_false, Bool.false_eq_true, reduceCtorEq, decide_true, decide_false, ite_true, ite_false, rSetL, rIxL, tRaise, jCons, jNil, tFmt, tDNew, rCount, rIndex, tCont, tBreak, Int.reduceToNat, Int.reducePow]
    refine ⟨n, rfl, by omega, fun H2 S2 => ?_⟩
    simp only [tSeq, tIfS, tTest, tRet, tRetN, tNext, tDrop, tAsg, tPar, tPar3, tAug, tVar, tC, tOp, tUn, rI, rI0, rU, tB, tAnd, tOr, tNot, tAndV, tOrV, tNotV, tIf, gName, gNil, gCons, gTup, gSub, tCB, tCons, tNil, tCall, tChain, ipI, tIsN, tNotN, tBM, tyV, tTup, tLst, rAppend, rCat, scal_ii, scal_bb, scal_ss, scal_ni, scal_in, rEq, rNe, List.getElem?_cons_zero, List.getElem?_cons_succ, List.set_cons_zero, List.set_cons_succ, eq_self, and_assoc, Option.some.injEq, V.int.injEq, V.bl.injEq, V.ref.injEq, V.str.injEq, List.cons.injEq, exists_eq_left', exists_eq_left, exists_and_left, List.nil_append, List.cons_append, List.append_nil, true_and, and_true, decide_eq_true_eq, Bool.not_eq_true', decide_eq_false_iff_not, if_true, if_false, Bool.not_true, Bool.not_false, Bool.false_eq_true, reduceCtorEq, decide_true, decide_false, ite_true, ite_false, rSetL, rIxL, tRaise, jCons, jNil, tFmt, tDNew, rCount, rIndex, tCont, tBreak, Int.reduceToNat, Int.reducePow]
    cases e : isPrB n with
    | false =>
      refine ite2 (fun _ => ?_) (fun h => absurd rfl h)
      refine ⟨fun σ' H2 => ∃ m', m' < (z - n).toNat ∧ W m' σ' H2, fun _ _ h => h, ?_⟩
      have ne : n ≠ z := fun h => by rw [h, isPrB_of hz] at e; cases e
      exact ⟨_, by omega, (hW _ _ _).mpr ⟨_, rfl, rfl, by omega, S.same S2⟩⟩
    | true =>
      refine ite2 (fun h => absurd h (by decide)) (fun _ => ?_)
      exact k n H2 (isPrB_iff.mp e) nb (S.same S2)
noncomputable abbrev O_law_prime (P : Program) (w : World) (K : PySem.W.Frag) (mg : Str → Option Value) (base : Heap) : Prop := ∃ f fd, Df_law_prime K mg f fd ∧ FnOk P w K mg base CX0 3 f fd ["_law_state_here", "_law_most"] (spPrimeD)
theorem updupd {H : Hp} {D : Addr} {o u : HO} : upd (upd H D o) D u = upd H D u := by
  funext c
  by_cases z : c = D
  · subst z; rw [upd_same, upd_same]
  · rw [upd_ne z, upd_ne z, upd_ne z]
noncomputable abbrev s_law_same : Stmt := top 36
theorem sc_law_same : FnScope ["_law_found", "_law_due"] ["_law_found", "_law_due"] (defScope s_law_same) := ⟨rfl, rfl, rfl, by decide +kernel, rfl, by decide +kernel, by decide +kernel⟩
noncomputable abbrev Df_law_same (K : PySem.W.Frag) (mg : Str → Option Value) (f : Addr) (fd : FuncData) : Prop := Def K mg "_law_same" s_law_same ["_law_found", "_law_due"] f fd
mutual
noncomputable def okS : Dt → Bool
  | .tup ds => decide (ds.length < 1000) && okSL ds
  | .lst _ => false
  | _ => true
noncomputable def okSL : List Dt → Bool
  | [] => true
  | d :: ds => okS d && okSL ds
end
theorem depL_mem : ∀ {ds : List Dt} {t : Dt}, t ∈ ds → L2.dep t ≤ depL ds
  | d :: ds, t, h => by
    show _ ≤ max (L2.dep d) (depL ds)
    rcases List.mem_cons.mp h with rfl | h
    · omega
    · have := depL_mem h
      omega
theorem okSL_mem : ∀ {ds : List Dt} {t : Dt}, okSL ds = true → t ∈ ds → okS t = true
  | d :: ds, t, h, m => by
    have h' : (okS d && okSL ds) = true := h
    rw [Bool.and_eq_true] at h'
    rcases List.mem_cons.mp m with rfl | m
    · exact h'.1
    · exact okSL_mem h'.2 m
theorem noLL_mem : ∀ {ds : List Dt} {t : Dt}, noLL ds = true → t ∈ ds → noL t = true
  | d :: ds, t, h, m => by
    have h' : (noL d && noLL ds) = true := h
    rw [Bool.and_eq_true] at h'
    rcases List.mem_cons.mp m with rfl | m
    · exact h'.1
    · exact noLL_mem h'.2 m
theorem repL_get {H : Hp} : ∀ {ds : List Dt} {xs : List V} {i : Nat} {x : V}, RepL K H ds xs → xs[i]? = some x → ∃ t, ds[i]? = some t ∧ Rep K H t x
  | [], xs, i, x, h, e => by cases (show xs = [] from h); cases e
  | d :: ds, xs, i, x, h, e => by
    obtain ⟨y, r, rfl, h1, h2⟩ := (show ∃ x r, xs = x :: r ∧ Rep K H d x ∧ RepL K H ds r from h)
    cases i with
    | zero => cases e; exact ⟨d, rfl, h1⟩
    | succ i =>
      obtain ⟨t, a, b⟩ := repL_get (i := i) h2 e
      exact ⟨t, a, b⟩
noncomputable def spSameD (d : Nat) (K : PySem.W.Frag) : Sp := fun vs H Q _ => ∃ (x y : V) (t : Dt), vs = [x, y] ∧ Rep K H t x ∧ Rep K H t y ∧ L2.dep t ≤ d ∧ okS t = true ∧ noL t = true ∧ ∀ H', Same H H' → Q (.bl true) H'
noncomputable def spSc : Sp := fun vs H Q _ => ∃ (x : V), vs = [x, x] ∧ ((∃ i, x = .int i) ∨ (∃ b, x = .bl b) ∨ (∃ s, x = .str s) ∨ x = .non) ∧ ∀ H', Same H H' → Q (.bl true) H'
theorem ok_same_sc (D : Df_law_same K mg f fd) (T : Txt K mg t1 cl) : FnOk P w K mg base CX0 1 f fd ["_law_found", "_law_due"] spSc := by
  refine D.fn.ok sc_law_same (fun vs H Q E h => ?_) (fun cdv A outer s H vs Q E hr h => ?_)
  · obtain ⟨x, rfl, _⟩ := h
    rfl
  · obtain ⟨x, rfl, hx, k⟩ := h
    refine ⟨_, (pss_cons (ps_if (pt_val (pe_callB call_isinst2 (by rfl) T.no_isinstance PyProof.Rows.boot_isinstance (pa_cons (pv 1) (pa_cons (pe_tup (pa_cons (pe_bltn (v := .ty "tuple") rfl T.no_tuple PyProof.Rows.boot_tuple rfl) (pa_cons (pe_bltn (v := .ty "list") rfl T.no_list PyProof.Rows.boot_list rfl) pa_nil))) pa_nil))))
 pss_no
 pss_nil)
 (pss_one (ps_ret (pe_and (pe_cmpR op_eq (pv 0) (pv 1) (nomark _)) (pe_one (pe_cmpR op_eq (pe_callB call_isinst (by rfl) T.no_isinstance PyProof.Rows.boot_isinstance (pa_cons (pv 0) (pa_cons (pe_bltn (v := .ty "bool") rfl T.no_bool PyProof.Rows.boot_bool rfl) pa_nil))) (pe_callB call_isinst (by rfl) T.no_isinstance PyProof.Rows.boot_isinstance (pa_cons (pv 1) (pa_cons (pe_bltn (v := .ty "bool") rfl T.no_bool PyProof.Rows.boot_bool rfl) pa_nil))) (nomark _))))))), ?_⟩
    have e0 : L2.start ["_law_found", "_law_due"] [x, x] = [some (x), some (x)] := rfl
    rw [e0]; clear e0
    rcases hx with ⟨i, rfl⟩ | ⟨i, rfl⟩ | ⟨i, rfl⟩ | rfl
    · simp only [tSeq, tIfS, tTest, tRet, tRetN, tNext, tDrop, tAsg, tPar, tPar3, tAug, tVar, tC, tOp, tUn, rI, rI0, rU, tB, tAnd, tOr, tNot, tAndV, tOrV, tNotV, tIf, gName, gNil, gCons, gTup, gSub, tCB, tCons, tNil, tCall, tChain, ipI, tIsN, tNotN, tBM, tyV, tTup, tLst, rAppend, rCat, scal_ii, scal_bb, scal_ss, scal_ni, scal_in, rEq, rNe, List.getElem?_cons_zero, List.getElem?_cons_succ, List.set_cons_zero, List.set_cons_succ, eq_self, and_assoc, Option.some.injEq, V.int.injEq, V.bl.injEq, V.ref.injEq, V.str.injEq, List.cons.injEq, exists_eq_left', exists_eq_left, exists_and_left, List.nil_append, List.cons_append, List.append_nil, true_and, and_true, decide_eq_true_eq, Bool.not_eq_true', decide_eq_false_iff_not, if_true, if_false, Bool.not_true, Bool.not_false, Bool.false_eq_true, reduceCtorEq, decide_true, decide_false, ite_true, ite_false, rSetL, rIxL, tRaise, jCons, jNil, tFmt, tDNew, rCount, rIndex, tCont, tBreak, Int.reduceToNat, Int.reducePow]
      refine ⟨by show 2 ≤ sizeLine; decide, fun p hp => ?_⟩
      refine isi2 (.int _) upd_same ⟨_, rfl, iteF ?_⟩
      refine isi (.int _) (isi (.int _) ?_)
      refine ⟨rfl, ?_⟩
      rw [decide_eq_true rfl]
      exact k _ (fun b o e => by rw [upd_ne (ne_of_none e hp)]; exact e)
    · simp only [tSeq, tIfS, tTest, tRet, tRetN, tNext, tDrop, tAsg, tPar, tPar3, tAug, tVar, tC, tOp, tUn, rI, rI0, rU, tB, tAnd, tOr, tNot, tAndV, tOrV, tNotV, tIf, gName, gNil, gCons, gTup, gSub, tCB, tCons, tNil, tCall, tChain, ipI, tIsN, tNotN, tBM, tyV, tTup, tLst, rAppend, rCat, scal_ii, scal_bb, scal_ss, scal_ni, scal_in, rEq, rNe, List.getElem?_cons_zero, List.getElem?_cons_succ, List.set_cons_zero, List.set_cons_succ, eq_self, and_assoc, Option.some.injEq, V.int.injEq, V.bl.injEq, V.ref.injEq, V.str.injEq, List.cons.injEq, exists_eq_left', exists_eq_left, exists_and_left, List.nil_append, List.cons_append, List.append_nil, true_and, and_true, decide_eq_true_eq, Bool.not_eq_true', decide_eq_false_iff_not, if_true, if_false, Bool.not_true, Bool.not_false, Bool.false_eq_true, reduceCtorEq, decide_true, decide_false, ite_true, ite_false, rSetL, rIxL, tRaise, jCons, jNil, tFmt, tDNew, rCount, rIndex, tCont, tBreak, Int.reduceToNat, Int.reducePow]
      refine ⟨by show 2 ≤ sizeLine; decide, fun p hp => ?_⟩
      refine isi2 (.bl _) upd_same ⟨_, rfl, iteF ?_⟩
      refine isi (.bl _) (isi (.bl _) ?_)
      refine ⟨rfl, ?_⟩
      rw [decide_eq_true rfl]
      exact k _ (fun b o e => by rw [upd_ne (ne_of_none e hp)]; exact e)
    · simp only [tSeq, tIfS, tTest, tRet, tRetN, tNext, tDrop, tAsg, tPar, tPar3, tAug, tVar, tC, tOp, tUn, rI, rI0, rU, tB, tAnd, tOr, tNot, tAndV, tOrV, tNotV, tIf, gName, gNil, gCons, gTup, gSub, tCB, tCons, tNil, tCall, tChain, ipI, tIsN, tNotN, tBM, tyV, tTup, tLst, rAppend, rCat, scal_ii, scal_bb, scal_ss, scal_ni, scal_in, rEq, rNe, List.getElem?_cons_zero, List.getElem?_cons_succ, List.set_cons_zero, List.set_cons_succ, eq_self, and_assoc, Option.some.injEq, V.int.injEq, V.bl.injEq, V.ref.injEq, V.str.injEq, List.cons.injEq, exists_eq_left', exists_eq_left, exists_and_left, List.nil_append, List.cons_append, List.append_nil, true_and, and_true, decide_eq_true_eq, Bool.not_eq_true', decide_eq_false_iff_not, if_true, if_false, Bool.not_true, Bool.not_false, Bool.false_eq_true, reduceCtorEq, decide_true, decide_false, ite_true, ite_false, rSetL, rIxL, tRaise, jCons, jNil, tFmt, tDNew, rCount, rIndex, tCont, tBreak, Int.reduceToNat, Int.reducePow]
      refine ⟨by show 2 ≤ sizeLine; decide, fun p hp => ?_⟩
      refine isi2 (.str _) upd_same ⟨_, rfl, iteF ?_⟩
      refine isi (.str _) (isi (.str _) ?_)
      refine ⟨rfl, ?_⟩
      rw [decide_eq_true rfl]
      exact k _ (fun b o e => by rw [upd_ne (ne_of_none e hp)]; exact e)
    · simp only [tSeq, tIfS, tTest, tRet, tRetN, tNext, tDrop, tAsg, tPar, tPar3, tAug, tVar, tC, tOp, tUn, rI, rI0, rU, tB, tAnd, tOr, tNot, tAndV, tOrV, tNotV, tIf, gName, gNil, gCons, gTup, gSub, tCB, tCons, tNil, tCall, tChain, ipI, tIsN, tNotN, tBM, tyV, tTup, tLst, rAppend, rCat, scal_ii, scal_bb, scal_ss, scal_ni, scal_in, rEq, rNe, List.getElem?_cons_zero, List.getElem?_cons_succ, List.set_cons_zero, List.set_cons_succ, eq_self, and_assoc, Option.some.injEq, V.int.injEq, V.bl.injEq, V.ref.injEq, V.str.injEq, List.cons.injEq, exists_eq_left', exists_eq_left, exists_and_left, List.nil_append, List.cons_append, List.append_nil, true_and, and_true, decide_eq_true_eq, Bool.not_eq_true', decide_eq_false_iff_not, if_true, if_false, Bool.not_true, Bool.not_false, Bool.false_eq_true, reduceCtorEq, decide_true, decide_false, ite_true, ite_false, rSetL, rIxL, tRaise, jCons, jNil, tFmt, tDNew, rCount, rIndex, tCont, tBreak, Int.reduceToNat, Int.reducePow]
      refine ⟨by show 2 ≤ sizeLine; decide, fun p hp => ?_⟩
      refine isi2 .non upd_same ⟨_, rfl, iteF ?_⟩
      first
      | refine isi .non (isi .non ?_)
      | refine ⟨rfl, isi .non (isi .non ?_)⟩
      | (refine ⟨rfl, ?_⟩; trace_state; refine isi .non (isi .non ?_))
      first
      | (rw [decide_eq_true rfl]; exact k _ (fun b o e => by rw [upd_ne (ne_of_none e hp)]; exact e))
      | (refine ⟨rfl, ?_⟩; rw [decide_eq_true rfl]; exact k _ (fun b o e => by rw [upd_ne (ne_of_none e hp)]; exact e))
end
end PP
set_option Elab.async false
set_option linter.all false
set_option maxRecDepth 100000
set_option maxHeartbeats 4000000
namespace L2
open PySem PySem.Spec PyProof.Rows
section
variable {X : Cx}
theorem sqT_kit {pins : List (Addr × Obj)} {σ : St} {H : Hp} {s : Shared} {a : Addr} {xs : List V} (I : Inv X pins σ H s) (h : SqT X.K H a xs) : ∃ o, s.heap.get? a = some o ∧ o.cls = .type "tuple" := by
  obtain ⟨its, r, ⟨o, e, c, _⟩, _⟩ := I.tuple h
  exact ⟨o, e, c⟩
noncomputable def rIsiS (K : PySem.W.Frag) : List V → Hp → VK → Prop := fun vs H Q => ∃ a xs c, vs = [.ref a, .ty c] ∧ SqT K H a xs ∧ (c = "int" ∨ c = "bool" ∨ c = "tuple" ∨ c = "list" ∨ c = "str" ∨ c = "dict") ∧ Q (.bl (isaB "tuple" c)) H
theorem call_isinstS : CallR X (.builtin "isinstance") (rIsiS X.K) := by
  intro pins s σ H xs us Q I r h
  obtain ⟨a, zs, c, rfl, ha, hc, q⟩ := h
  obtain ⟨u, w', rfl, rx, rc⟩ := vals2 r
  cases rx
  cases (show w' = Value.type c from rc)
  exact PySem.W.kia_one PySem.W.kitx_tuple I.kIn (sqT_kit I ha) (kit_ty (by simp) hc) (fun z => nomatch z) fun tk => ⟨.bl _, H, I.tok tk, rfl, q⟩
noncomputable def rIsiS2 (K : PySem.W.Frag) : List V → Hp → VK → Prop := fun vs H Q => ∃ a xs p c d, vs = [.ref a, .ref p] ∧ SqT K H a xs ∧ H p = some (.tup [.ty c, .ty d]) ∧ (c = "int" ∨ c = "bool" ∨ c = "tuple" ∨ c = "list" ∨ c = "str" ∨ c = "dict") ∧ (d = "int" ∨ d = "bool" ∨ d = "tuple" ∨ d = "list" ∨ d = "str" ∨ d = "dict") ∧ Q (.bl (isaB "tuple" c || isaB "tuple" d)) H
theorem call_isinstS2 : CallR X (.builtin "isinstance") (rIsiS2 X.K) := by
  intro pins s σ H xs us Q I r h
  obtain ⟨a, zs, pp, c, d, rfl, ha, hp, hc, hd, q⟩ := h
  obtain ⟨u, w', rfl, rx, rc⟩ := vals2 r
  cases rx
  cases (show w' = Value.ref pp from rc)
  obtain ⟨_, its, r', o, h1, h2, n, h3⟩ := (show ObjOk X.prog X.w H s.heap pp (.tup [.ty c, .ty d]) from I.hok pp _ hp)
  obtain ⟨v1, v2, rfl, r1, r2⟩ := vals2 r'
  cases (show v1 = Value.type c from r1)
  cases (show v2 = Value.type d from r2)
  obtain ⟨oc, od, odt, osl⟩ := o
  cases h2; cases h3
  refine PySem.W.kia_tup PySem.W.kitx_tuple I.kIn (sqT_kit I ha) h1 (b := isaB "tuple" c || isaB "tuple" d) ?_ (fun z => nomatch z) fun tk => ⟨.bl _, H, I.tok tk, rfl, q⟩
  show (match PySem.W.kitOne X.K (.type "tuple") (.type c) with | some true => some true | some false => (match PySem.W.kitOne X.K (.type "tuple") (.type d) with | some true => some true | some false => some false | none => none) | none => none) = _
  rw [kit_ty (by simp) hc, kit_ty (by simp) hd]
  cases isaB "tuple" c <;> cases isaB "tuple" d <;> rfl
end
end L2
set_option Elab.async false
set_option linter.all false
set_option maxRecDepth 100000
set_option maxHeartbeats 4000000
namespace PP
open PySem L2 MM
section
variable {P : Program} {w : World} {K : PySem.W.Frag} {mg : Str → Option Value} {base : Heap} {t1 : Tok} {cl : Cl} {f : Addr} {fd : FuncData}
theorem Same.sqT {H H' : Hp} {a : Addr} {xs : List V} (s : Same H H') (h : SqT K H a xs) : SqT K H' a xs := s.tk.sq h
theorem comp_zip {g : TG} {tt : TT} {te : TE} {Q : VK} {D' : Addr} {σ : St} {H : Hp} {t1 t2 : Addr} {xs ys : List V} (Pv : Nat → St → Hp → Prop) (h0 : Pv 0 σ H) (hl : ∀ i σ H, i ≤ xs.length → Pv i σ H → SqT K H t1 xs ∧ SqT K H t2 ys) (hlen : xs.length = ys.length)
    (hs : ∀ i x y σ H a, xs[i]? = some x → ys[i]? = some y → Pv i σ H → H a = none → CT g tt te D' (Pv (i + 1)) (.ref a) σ (upd H a (.tup [x, y]))) (hd : ∀ σ H, Pv xs.length σ H → Q (.ref D') H) : CW (Itz K t1 t2) g tt te D' Q σ H := by
  refine ⟨fun i m σ H => m = xs.length - i ∧ i ≤ xs.length ∧ Pv i σ H, ⟨xs.length, by simp, Nat.zero_le _, h0⟩, ?_⟩
  rintro i m σ H ⟨rfl, hi, p⟩
  obtain ⟨q1, q2⟩ := hl i σ H hi p
  by_cases hlt : i < xs.length
  · have hlt2 : i < ys.length := by omega
    refine .inr ⟨⟨xs, ys, xs[i], ys[i], q1, q2, by simp [hlt], by simp [hlt2]⟩, Pv (i + 1), fun σ' H' p' => ⟨xs.length - (i + 1), by omega, rfl, hlt, p'⟩, fun v H' y => ?_⟩
    obtain ⟨x, z, a, ha, rfl, rfl, hx, hz⟩ := y
    exact hs i x z σ H a (hx xs q1) (hz ys q2) p ha
  · have e : i = xs.length := by omega
    subst e
    exact .inl ⟨⟨xs, ys, q1, q2, .inl (Nat.le_refl _)⟩, hd σ H p⟩
noncomputable def spSameT (d : Nat) (K : PySem.W.Frag) : Sp := fun vs H Q _ => ∃ (p q : Addr) (ds : List Dt) (xs ys : List V), vs = [.ref p, .ref q] ∧ SqT K H p xs ∧ SqT K H q ys ∧ RepL K H ds xs ∧ RepL K H ds ys ∧ depL ds ≤ d ∧ okSL ds = true ∧ noLL ds = true ∧ ds.length < 1000 ∧ ∀ H', Same H H' → Q (.bl true) H'
theorem ok_same_tup (D : Df_law_same K mg f fd) (T : Txt K mg t1 cl) {d : Nat} (B_law_same : ∀ b, FnOk P w K mg b CX0 (d + 1) f fd ["_law_found", "_law_due"] (spSameD d K)) : FnOk P w K mg base CX0 (d + 1 + 1) f fd ["_law_found", "_law_due"] (spSameT d K) := by
  have D_law_same := D
  refine D.fn.ok sc_law_same (fun vs H Q E h => ?_) (fun cdv A outer s H vs Q E hr h => ?_)
  · obtain ⟨p, q, ds, xs, ys, rfl, _⟩ := h
    rfl
  · obtain ⟨p, q, ds, xs, ys, rfl, hp, hq, rx, ry, hdep, hok, hno, hsz', k⟩ := h
    have l1 := rx.length
    have l2 := ry.length
    have hlen : xs.length = ys.length := by omega
    have hsz : xs.length < 1000 := by omega
    refine ⟨_, (pss_cons (ps_if (pt_val (pe_callB call_isinstS2 (by rfl) T.no_isinstance PyProof.Rows.boot_isinstance (pa_cons (pv 1) (pa_cons (pe_tup (pa_cons (pe_bltn (v := .ty "tuple") rfl T.no_tuple PyProof.Rows.boot_tuple rfl) (pa_cons (pe_bltn (v := .ty "list") rfl T.no_list PyProof.Rows.boot_list rfl) pa_nil))) pa_nil))))
 (pss_cons (ps_if (PW.pt (pw_or (pt_cmpR op_ne (pe_callB call_isinstS (by rfl) T.no_isinstance PyProof.Rows.boot_isinstance (pa_cons (pv 0) (pa_cons (pe_bltn (v := .ty "tuple") rfl T.no_tuple PyProof.Rows.boot_tuple rfl) pa_nil))) (pe_callB call_isinstS (by rfl) T.no_isinstance PyProof.Rows.boot_isinstance (pa_cons (pv 1) (pa_cons (pe_bltn (v := .ty "tuple") rfl T.no_tuple PyProof.Rows.boot_tuple rfl) pa_nil))) (nomark _)) (pw_or1 (pt_cmpR op_ne (pe_callB call_isinstS (by rfl) T.no_isinstance PyProof.Rows.boot_isinstance (pa_cons (pv 0) (pa_cons (pe_bltn (v := .ty "list") rfl T.no_list PyProof.Rows.boot_list rfl) pa_nil))) (pe_callB call_isinstS (by rfl) T.no_isinstance PyProof.Rows.boot_isinstance (pa_cons (pv 1) (pa_cons (pe_bltn (v := .ty "list") rfl T.no_list PyProof.Rows.boot_list rfl) pa_nil))) (nomark _)))))
 (pss_one (ps_ret pe_bl))
 pss_nil)
 (pss_cons (ps_if (pt_cmpR op_ne (pe_callB call_len_seq (by rfl) T.no_len PySem.boot_len (pa_cons (pv 0) pa_nil)) (pe_callB call_len_seq (by rfl) T.no_len PySem.boot_len (pa_cons (pv 1) pa_nil)) (nomark _))
 (pss_one (ps_ret pe_bl))
 pss_nil)
 (pss_one (ps_ret (pe_callB (call_all rfl) (by rfl) T.no_all PyProof.Rows.boot_all (pa_cons (pe_compD (N := ["_law_one", "_law_other"]) (js := [none, none]) (by rfl) rfl (fun _ => rfl) (pi_zip rfl T.no_zip (pa_cons (pv 0) (pa_cons (pv 1) pa_nil))) (by intro b _ _ _ _; exact (pg_tupK (K := K) (n := 2) rfl rfl (pgs_cons (pg_name (i := 0) (show List.Nodup (["_law_one", "_law_other"] : List Str) by decide) rfl (by first | exact Or.inl rfl | exact Or.inr rfl)) (pgs_cons (pg_name (i := 1) (show List.Nodup (["_law_one", "_law_other"] : List Str) by decide) rfl (by first | exact Or.inl rfl | exact Or.inr rfl)) pgs_nil)))) (by intro b _ _ _ _; exact pifs_nil) (by intro b _ _ _ _; exact (pe_call ((B_law_same b).mono (by omega)) hr rfl D_law_same.mgx D_law_same.fn.kp D_law_same.bd .nil pass0 (pa_cons (pv 0) (pa_cons (pv 1) pa_nil))))) pa_nil))))))
 pss_nil)
 (pss_one (ps_ret (pe_and (pe_cmpR op_eq (pv 0) (pv 1) (nomark _)) (pe_one (pe_cmpR op_eq (pe_callB call_isinst (by rfl) T.no_isinstance PyProof.Rows.boot_isinstance (pa_cons (pv 0) (pa_cons (pe_bltn (v := .ty "bool") rfl T.no_bool PyProof.Rows.boot_bool rfl) pa_nil))) (pe_callB call_isinst (by rfl) T.no_isinstance PyProof.Rows.boot_isinstance (pa_cons (pv 1) (pa_cons (pe_bltn (v := .ty "bool") rfl T.no_bool PyProof.Rows.boot_bool rfl) pa_nil))) (nomark _))))))), ?_⟩
    have e0 : L2.start ["_law_found", "_law_due"] [.ref p, .ref q] = [some (.ref p), some (.ref q)] := rfl
    rw [e0]; clear e0
    simp only [tSeq, tIfS, tTest, tRet, tRetN, tNext, tDrop, tAsg, tPar, tPar3, tAug, tVar, tC, tOp, tUn, rI, rI0, rU, tB, tAnd, tOr, tNot, tAndV, tOrV, tNotV, tIf, gName, gNil, gCons, gTup, gSub, tCB, tCons, tNil, tCall, tChain, ipI, tIsN, tNotN, tBM, tyV, tTup, tLst, rAppend, rCat, scal_ii, scal_bb, scal_ss, scal_ni, scal_in, rEq, rNe, List.getElem?_cons_zero, List.getElem?_cons_succ, List.set_cons_zero, List.set_cons_succ, eq_self, and_assoc, Option.some.injEq, V.int.injEq, V.bl.injEq, V.ref.injEq, V.str.injEq, List.cons.injEq, exists_eq_left', exists_eq_left, exists_and_left, List.nil_append, List.cons_append, List.append_nil, true_and, and_true, decide_eq_true_eq, Bool.not_eq_true', decide_eq_false_iff_not, if_true, if_false, Bool.not_true, Bool.not_false, Bool.false_eq_true, reduceCtorEq, decide_true, decide_false, ite_true, ite_false, rSetL, rIxL, tRaise, jCons, jNil, tFmt, tDNew, rCount, rIndex, tCont, tBreak, Int.reduceToNat, Int.reducePow]
    refine ⟨by show 2 ≤ sizeLine; decide, fun a ha => ?_⟩
    have s1 : Same H (upd H a (.tup [.ty "tuple", .ty "list"])) := fun b o e => keep e ha
    have hp1 := Same.sqT s1 hp
    have hq1 := Same.sqT s1 hq
    refine ⟨q, ys, a, "tuple", "list", rfl, hq1, upd_same, by decide, by decide, _, rfl, iteT ?_⟩
    generalize upd H a (.tup [.ty "tuple", .ty "list"]) = H1 at s1 hp1 hq1 ⊢
    refine ⟨p, xs, "tuple", rfl, hp1, by decide, q, ys, "tuple", rfl, hq1, by decide, ?_⟩
    refine ⟨rfl, ?_⟩
    rw [if_neg (fun h => h rfl)]
    refine ⟨p, xs, "list", rfl, hp1, by decide, q, ys, "list", rfl, hq1, by decide, rfl, ?_⟩
    rw [if_neg (fun h => h rfl)]
    refine ⟨xs, .inr hp1, ys, .inr hq1, ?_⟩
    rw [if_neg (fun h => h (by rw [hlen]))]
    refine tCompC_of ?_
    refine ⟨_, rfl, _, rfl, p, q, xs, ys, rfl, hp1, hq1, fun b D' hc hD => ?_⟩
    obtain ⟨Pv, hPv⟩ : ∃ Pv : Nat → St → Hp → Prop, ∀ i σ H2, Pv i σ H2 ↔ (∃ v1 v2, σ = [v1, v2]) ∧ Same H1 H2 ∧ H2 D' = some (.lst (List.replicate i (.bl true))) := ⟨_, fun _ _ _ => Iff.rfl⟩
    refine comp_zip (xs := xs) (ys := ys) Pv ((hPv _ _ _).mpr ⟨⟨_, _, rfl⟩, fun b o e => keep e hD, upd_same⟩) (fun i σ H2 hi h => ?_) hlen ?_ ?_
    · obtain ⟨_, sm, _⟩ := (hPv _ _ _).mp h
      exact ⟨Same.sqT sm hp1, Same.sqT sm hq1⟩
    · intro i x y σ H2 c hx hy h hc'
      obtain ⟨⟨v1, v2, rfl⟩, sm, hDl⟩ := (hPv _ _ _).mp h
      simp only [tSeq, tIfS, tTest, tRet, tRetN, tNext, tDrop, tAsg, tPar, tPar3, tAug, tVar, tC, tOp, tUn, rI, rI0, rU, tB, tAnd, tOr, tNot, tAndV, tOrV, tNotV, tIf, gName, gNil, gCons, gTup, gSub, tCB, tCons, tNil, tCall, tChain, ipI, tIsN, tNotN, tBM, tyV, tTup, tLst, rAppend, rCat, scal_ii, scal_bb, scal_ss, scal_ni, scal_in, rEq, rNe, List.getElem?_cons_zero, List.getElem?_cons_succ, List.set_cons_zero, List.set_cons_succ, eq_self, and_assoc, Option.some.injEq, V.int.injEq, V.bl.injEq, V.ref.injEq, V.str.injEq, List.cons.injEq, exists_eq_left', exists_eq_left, exists_and_left, List.nil_append, List.cons_append, List.append_nil, true_and, and_true, decide_eq_true_eq, Bool.not_eq_true', decide_eq_false_iff_not, if_true, if_false, Bool.not_true, Bool.not_false, Bool.false_eq_true, reduceCtorEq, decide_true, decide_false, ite_true, ite_false, rSetL, rIxL, tRaise, jCons, jNil, tFmt, tDNew, rCount, rIndex, tCont, tBreak, Int.reduceToNat, Int.reducePow, CT, tYes]
      refine ⟨_, SqT.of upd_same, rfl, ?_⟩
      simp only [tSeq, tIfS, tTest, tRet, tRetN, tNext, tDrop, tAsg, tPar, tPar3, tAug, tVar, tC, tOp, tUn, rI, rI0, rU, tB, tAnd, tOr, tNot, tAndV, tOrV, tNotV, tIf, gName, gNil, gCons, gTup, gSub, tCB, tCons, tNil, tCall, tChain, ipI, tIsN, tNotN, tBM, tyV, tTup, tLst, rAppend, rCat, scal_ii, scal_bb, scal_ss, scal_ni, scal_in, rEq, rNe, List.getElem?_cons_zero, List.getElem?_cons_succ, List.set_cons_zero, List.set_cons_succ, eq_self, and_assoc, Option.some.injEq, V.int.injEq, V.bl.injEq, V.ref.injEq, V.str.injEq, List.cons.injEq, exists_eq_left', exists_eq_left, exists_and_left, List.nil_append, List.cons_append, List.append_nil, true_and, and_true, decide_eq_true_eq, Bool.not_eq_true', decide_eq_false_iff_not, if_true, if_false, Bool.not_true, Bool.not_false, Bool.false_eq_true, reduceCtorEq, decide_true, decide_false, ite_true, ite_false, rSetL, rIxL, tRaise, jCons, jNil, tFmt, tDNew, rCount, rIndex, tCont, tBreak, Int.reduceToNat, Int.reducePow]
      have sm2 : Same H2 (upd H2 c (.tup [x, y])) := fun b o e => keep e hc'
      have il : i < xs.length := (List.getElem?_eq_some_iff.mp hx).1
      have tk := ((s1.trans sm).trans sm2).tk
      obtain ⟨t, ht, rt⟩ := repL_get rx hx
      obtain ⟨t', ht', rt'⟩ := repL_get ry hy
      rw [ht] at ht'
      cases ht'
      have tm : t ∈ ds := List.mem_of_getElem? ht
      have tn := noLL_mem hno tm
      refine ⟨x, y, t, rfl, Rep.mono tk t tn rt, Rep.mono tk t tn rt', Nat.le_trans (depL_mem tm) hdep, okSL_mem hok tm, tn, fun H'' s3 => ?_⟩
      refine ⟨_, s3 _ _ (sm2 _ _ hDl), small1000 (by rw [List.length_replicate]; omega), (hPv _ _ _).mpr ⟨⟨_, _, rfl⟩, fun b o e => ?_, ?_⟩⟩
      · rw [upd_ne (ne_of_none e hD)]
        exact s3 _ _ (sm2 _ _ (sm b o e))
      · rw [upd_same, ← List.replicate_succ']
    · intro σ H2 h
      obtain ⟨⟨v1, v2, rfl⟩, sm, hDl⟩ := (hPv _ _ _).mp h
      refine ⟨D', List.replicate xs.length true, rfl, by rw [List.map_replicate]; exact hDl, ?_⟩
      have e : (List.replicate xs.length true).all id = true := by simp
      rw [e]
      exact k H2 (s1.trans sm)
theorem ok_law_same (D : Df_law_same K mg f fd) (T : Txt K mg t1 cl) : ∀ (d : Nat) (b : Heap), FnOk P w K mg b CX0 (d + 1) f fd ["_law_found", "_law_due"] (spSameD d K)
  | 0, b => ⟨fun vs H Q E h => by obtain ⟨x, y, t, rfl, _⟩ := h; rfl, fun A outer s H args us vs Q E hr e hb hv h => by
      obtain ⟨x, y, t, rfl, rx, ry, hd, ho, hn, k⟩ := h
      have S := ok_same_sc (P := P) (w := w) (base := b) D T
      cases t with
      | non => cases (show x = .non from rx); cases (show y = .non from ry); exact S.run A outer s H args us _ Q E hr e hb hv ⟨_, rfl, .inr (.inr (.inr rfl)), k⟩
      | bl i => cases (show x = .bl i from rx); cases (show y = .bl i from ry); exact S.run A outer s H args us _ Q E hr e hb hv ⟨_, rfl, .inr (.inl ⟨_, rfl⟩), k⟩
      | int i => cases (show x = .int i from rx); cases (show y = .int i from ry); exact S.run A outer s H args us _ Q E hr e hb hv ⟨_, rfl, .inl ⟨_, rfl⟩, k⟩
      | str i => cases (show x = .str i from rx); cases (show y = .str i from ry); exact S.run A outer s H args us _ Q E hr e hb hv ⟨_, rfl, .inr (.inr (.inl ⟨_, rfl⟩)), k⟩
      | lst ds => cases ho
      | tup ds => exact absurd hd (by show ¬ (depL ds + 1 ≤ 0); omega)⟩
  | d + 1, b => ⟨fun vs H Q E h => by obtain ⟨x, y, t, rfl, _⟩ := h; rfl, fun A outer s H args us vs Q E hr e hb hv h => by
      obtain ⟨x, y, t, rfl, rx, ry, hd, ho, hn, k⟩ := h
      have S := (ok_same_sc (P := P) (w := w) (base := b) D T).mono (show 1 ≤ d + 1 + 1 by omega)
      cases t with
      | non => cases (show x = .non from rx); cases (show y = .non from ry); exact S.run A outer s H args us _ Q E hr e hb hv ⟨_, rfl, .inr (.inr (.inr rfl)), k⟩
      | bl i => cases (show x = .bl i from rx); cases (show y = .bl i from ry); exact S.run A outer s H args us _ Q E hr e hb hv ⟨_, rfl, .inr (.inl ⟨_, rfl⟩), k⟩
      | int i => cases (show x = .int i from rx); cases (show y = .int i from ry); exact S.run A outer s H args us _ Q E hr e hb hv ⟨_, rfl, .inl ⟨_, rfl⟩, k⟩
      | str i => cases (show x = .str i from rx); cases (show y = .str i from ry); exact S.run A outer s H args us _ Q E hr e hb hv ⟨_, rfl, .inr (.inr (.inl ⟨_, rfl⟩)), k⟩
      | lst ds => cases ho
      | tup ds =>
        obtain ⟨p, xs, rfl, hp, r1⟩ := (show ∃ a xs, x = .ref a ∧ SqT K H a xs ∧ RepL K H ds xs from rx)
        obtain ⟨q, ys, rfl, hq, r2⟩ := (show ∃ a xs, y = .ref a ∧ SqT K H a xs ∧ RepL K H ds xs from ry)
        have ho' : (decide (ds.length < 1000) && okSL ds) = true := ho
        rw [Bool.and_eq_true, decide_eq_true_eq] at ho'
        have hd' : depL ds + 1 ≤ d + 1 := hd
        exact (ok_same_tup D T (ok_law_same D T d)).run A outer s H args us _ Q E hr e hb hv ⟨p, q, ds, xs, ys, rfl, hp, hq, r1, r2, by omega, ho'.2, hn, ho'.1, k⟩⟩
end
end PP
set_option linter.all false
set_option maxHeartbeats 4000000
namespace MM
noncomputable def valL : List Int → Int
  | [] => 0
  | b :: r => b + 2 * valL r
theorem valL_append (l : List Int) (b : Int) : valL (l ++ [b]) = valL l + 2 ^ l.length * b := by
  induction l with
  | nil => simp [valL]
  | cons c l ih => rw [List.cons_append, valL, valL, ih, List.length_cons, Int.pow_succ]; grind
structure BitInv (o l : Int) (bs : List Int) : Prop where
  l0 : 0 ≤ l
  eq : o = valL bs + 2 ^ bs.length * l
  bit : ∀ b ∈ bs, b = 0 ∨ b = 1
theorem bit_start {o : Int} (h : 0 ≤ o) : BitInv o o [] := ⟨h, by simp [valL], fun _ h => (by cases h)⟩
theorem bit_turn {o l : Int} {bs : List Int} (I : BitInv o l bs) : BitInv o (l / 2) (bs ++ [l % 2]) := by
  have l0 := I.l0
  refine ⟨by omega, ?_, fun b hb => ?_⟩
  · rw [valL_append, List.length_append, List.length_singleton, Int.pow_succ]
    have e : l = 2 * (l / 2) + l % 2 := by omega
    have := I.eq
    generalize l / 2 = q at e ⊢
    generalize l % 2 = r at e ⊢
    subst e
    grind
  · rcases List.mem_append.mp hb with hb | hb
    · exact I.bit b hb
    · rw [List.mem_singleton.mp hb]; omega
theorem valL_nonneg {bs : List Int} (h : ∀ b ∈ bs, b = 0 ∨ b = 1) : 0 ≤ valL bs := by
  induction bs with
  | nil => exact Int.le_refl _
  | cons b r ih =>
    have := ih fun x hx => h x (List.mem_cons_of_mem _ hx)
    have := h b List.mem_cons_self
    rw [valL]; omega
theorem two_pow_big {k : Nat} (h : 100 ≤ k) : (10 : Int) ^ 30 < 2 ^ k := by
  obtain ⟨j, rfl⟩ : ∃ j, k = 100 + j := ⟨k - 100, by omega⟩
  rw [Int.pow_add]
  have := pow_pos' (show (1 : Int) ≤ 2 by decide) j
  have := Int.mul_le_mul_of_nonneg_left this (show (0 : Int) ≤ 2 ^ 100 by decide)
  have e : (2 : Int) ^ 100 = 1267650600228229401496703205376 := by decide
  omega
theorem bit_len {o l : Int} {bs : List Int} (I : BitInv o l bs) (hl : 0 < l) (ho : o ≤ 10 ^ 30) : bs.length < 100 := by
  refine Classical.byContradiction fun hc => ?_
  have h1 := two_pow_big (k := bs.length) (by omega)
  have h2 := Int.mul_le_mul_of_nonneg_left (show 1 ≤ l by omega) (show (0 : Int) ≤ 2 ^ bs.length by omega)
  have h3 := valL_nonneg I.bit
  have := I.eq
  omega
theorem bit_end {o : Int} {bs : List Int} (I : BitInv o 0 bs) : valL bs = o := by
  have := I.eq
  rw [Int.mul_zero, Int.add_zero] at this
  exact this.symm
theorem rev_at {bs : List Int} {j : Nat} {c : Int} (hx : bs.reverse[j]? = some c) : c ∈ bs ∧ valL (bs.drop (bs.length - (j + 1))) = c + 2 * valL (bs.drop (bs.length - j)) := by
  obtain ⟨hj, rfl⟩ := List.getElem?_eq_some_iff.mp hx
  rw [List.length_reverse] at hj
  refine ⟨List.mem_reverse.mp (List.getElem_mem _), ?_⟩
  rw [List.getElem_reverse]
  have hl : bs.length - (j + 1) < bs.length := by omega
  rw [List.drop_eq_getElem_cons hl, valL]
  have e1 : bs.length - (j + 1) + 1 = bs.length - j := by omega
  have e2 : bs.length - (j + 1) = bs.length - 1 - j := by omega
  rw [e1]
  congr 1
  congr 1
theorem pow_bit0 {b v n : Int} (hv : 0 ≤ v) : b ^ v.toNat % n * (b ^ v.toNat % n) % n = b ^ (0 + 2 * v).toNat % n := by
  have e : (0 + 2 * v).toNat = v.toNat + v.toNat := by omega
  rw [e, Int.pow_add]
  exact cg_eq ((cg_mod n _).mul (cg_mod n _))
theorem pow_bit1 {b v n : Int} (hv : 0 ≤ v) : b ^ v.toNat % n * (b ^ v.toNat % n) % n * b % n = b ^ (1 + 2 * v).toNat % n := by
  have e : (1 + 2 * v).toNat = v.toNat + v.toNat + 1 := by omega
  rw [e, Int.pow_succ, Int.pow_add]
  exact cg_eq (((cg_mod n _).trans ((cg_mod n _).mul (cg_mod n _))).mul (Cg.refl n b))
end MM
set_option Elab.async false
set_option linter.all false
set_option maxRecDepth 100000
set_option maxHeartbeats 4000000
namespace L2
open PySem PySem.Spec PyProof.Rows
theorem back_run {α : Type} : ∀ (its : List α) (k : Nat), k ≤ its.length → (List.range k).filterMap (fun m => its[its.length - 1 - m]?) = (its.drop (its.length - k)).reverse := by
  intro its k
  induction k with
  | zero => intro _; simp
  | succ k ih =>
    intro hk
    rw [List.range_succ, List.filterMap_append, ih (by omega)]
    have e1 : its.length - k = its.length - (k + 1) + 1 := by omega
    have hl : its.length - (k + 1) < its.length := by omega
    have e2 : its.drop (its.length - (k + 1)) = its[its.length - (k + 1)] :: its.drop (its.length - k) := by
      rw [e1]; exact List.drop_eq_getElem_cons hl
    rw [e2, List.reverse_cons]
    have e3 : its.length - 1 - k = its.length - (k + 1) := by omega
    congr 1
    simp [e3, hl]
theorem slicePick_back (its : List Value) : slicePick its.toArray none none (some (-1)) = its.reverse.toArray := by
  have e : sliceRange (sliceBounds none none (some (-1)) its.toArray.size).fst (sliceBounds none none (some (-1)) its.toArray.size).snd.fst (sliceBounds none none (some (-1)) its.toArray.size).snd.snd = (List.range its.length).map fun k => its.length - 1 - k := by
    show ((List.range (if (-1 : Int) > 0 then (if ((its.toArray.size : Int) - 1) < -1 then (-1 - ((its.toArray.size : Int) - 1) + -1 - 1) / -1 else 0) else if ((its.toArray.size : Int) - 1) > -1 then (((its.toArray.size : Int) - 1) - -1 - -1 - 1) / - -1 else 0 : Int).toNat).map fun (k : Nat) => (((its.toArray.size : Int) - 1) + -1 * (k : Int)).toNat) = _
    rw [if_neg (by decide), List.size_toArray]
    have c : (if ((its.length : Int) - 1) > -1 then (((its.length : Int) - 1) - -1 - -1 - 1) / - -1 else 0 : Int).toNat = its.length := by
      split
      · rw [show (- -1 : Int) = 1 by decide, Int.ediv_one]; omega
      · omega
    rw [c]
    refine List.map_congr_left fun k _ => ?_
    omega
  unfold slicePick
  rw [e, List.filterMap_map]
  congr 1
  have b := back_run its its.length (Nat.le_refl _)
  rw [Nat.sub_self, List.drop_zero] at b
  rw [← b]
  congr 1
  funext k
  simp
section
variable {X : Cx} {e : Expr} {te : TE} {pos p1 p2 p3 : Pos} {kk : Nat}
noncomputable def tRev (K : PySem.W.Frag) (te : TE) : TE := fun σ H Q => te σ H fun x H1 => ∃ a xs, x = .ref a ∧ SqL K H1 a xs ∧ ∀ p, H1 p = none → Q (.ref p) (upd H1 p (.lst xs.reverse))
theorem Vals.rev : ∀ {xs : List V} {us : List Value}, Vals xs us → Vals xs.reverse us.reverse
  | [], _, r => by cases r; exact .nil
  | x :: xs, _, r => by
    cases r with
    | cons p q => rw [List.reverse_cons, List.reverse_cons]; exact (Vals.rev q).append (.cons p .nil)
theorem pe_rev (he : PE X e te) (hlt : ∀ (o r : Value), letTemporaryGo e o r = pure () := by intro _ _; rfl) : PE X (.Subscript e (.Slice none none (some (.UnaryOp .USub (.Constant (.int 1) kk p3) p1)) p2) pos) (tRev X.K te) := by
  intro pins s σ H Q I h
  refine wpAny_Subscript_Slice_step (T := "list") slot_list_getitem.lookup (thn (he pins s σ H _ I h) fun v s1 ⟨x, H1, I1, r1, a, xs, ex, hx, q⟩ => ?_) hlt
  subst ex
  refine wpAny_Slice ?_
  rw [evalPart_none]
  refine wpAny_pure (wpAny_pure ?_)
  rw [evalPart_some]
  have st : PE X (.UnaryOp .USub (.Constant (.int 1) kk p3) p1) _ := pe_un un_neg pe_int
  refine thn (st pins s1 σ H1 (fun y H2 => y = .int (-1) ∧ H2 = H1) I1 ⟨1, rfl, rfl, rfl⟩) fun u s2 ⟨y, H2, I2, r2, ey, eH⟩ => ?_
  subst ey eH
  obtain ⟨t, rfl⟩ := r2
  cases r1
  have I3 : Inv X pins σ H2 { s2 with heap := s2.heap.push { cls := .type "slice", data := .fields #[.none, .none, .int (-1) t] } } := I2.kept (t' := s2.toks) fun b ob q => Heap.get?_push_of_some _ q
  obtain ⟨its, r, ht, hz⟩ := I3.list hx
  have hlen := r.length
  have hg : wpAny (model X.prog X.w) X.A (getItem (.ref a) (.ref s2.heap.objs.size)) (EP X pins σ Q) X.xe { s2 with heap := s2.heap.push { cls := .type "slice", data := .fields #[.none, .none, .int (-1) t] } } := by
    refine wpAny_getItem_list_slice ht.isList (Heap.IsSliceOf.new ..) .none .none (.int (-1) t) (by decide) ?_ (by rw [List.size_toArray] <;> omega)
    rw [slicePick_back]
    refine ⟨.ref _, _, I3.laid (t' := s2.toks) (o := .lst xs.reverse) (fun b ob q => Heap.get?_push_of_some _ q) (Nat.le_refl _) ?_, rfl, q _ (I3.hok.fresh (Nat.le_refl _))⟩
    exact ⟨by rw [List.length_reverse]; exact hz, _, 0, Vals.rev r, Heap.get?_push_size _ rfl⟩
  exact ⟨ht.isList.typeIs, hg⟩
end
end L2
set_option Elab.async false
set_option linter.all false
set_option maxRecDepth 100000
set_option maxHeartbeats 4000000
namespace PP
open PySem L2 MM
section
variable {P : Program} {w : World} {K : PySem.W.Frag} {mg : Str → Option Value} {base : Heap} {t1 : Tok} {cl : Cl} {f : Addr} {fd : FuncData}
noncomputable def spLPower : Sp := fun vs H Q _ => ∃ (b o n : Int), vs = [.int b, .int o, .int n] ∧ (b.natAbs < 10 ^ 100 ∧ 0 ≤ o ∧ o ≤ 10 ^ 30 ∧ 0 < n ∧ n ≤ 10 ^ 40) ∧ ∀ H', Same H H' → Q (.int (b ^ o.toNat % n)) H'
noncomputable abbrev s_law_bits : Stmt := top 39
theorem sc_law_bits : FnScope ["_law_often", "_law_found"] ["_law_often"] (defScope s_law_bits) := ⟨rfl, rfl, rfl, by decide +kernel, rfl, by decide +kernel, by decide +kernel⟩
noncomputable abbrev Df_law_bits (K : PySem.W.Frag) (mg : Str → Option Value) (f : Addr) (fd : FuncData) : Prop := Def K mg "_law_bits" s_law_bits ["_law_often"] f fd
noncomputable def spBits : Sp := fun vs H Q _ => ∃ (o : Int), vs = [.int o] ∧ (0 ≤ o ∧ o ≤ 10 ^ 30) ∧ ∀ bs p H', valL bs = o → (∀ b ∈ bs, b = 0 ∨ b = 1) → bs.length ≤ 100 → Same H H' → H' p = some (.lst (bs.reverse.map V.int)) → Q (.ref p) H'
theorem ok_law_bits (D : Df_law_bits K mg f fd) (T : Txt K mg t1 cl) : FnOk P w K mg base CX0 1 f fd ["_law_often"] spBits := by
  refine D.fn.ok sc_law_bits (fun vs H Q E h => ?_) (fun cdv A outer s H vs Q E hr h => ?_)
  · obtain ⟨o, rfl, _⟩ := h
    rfl
  · obtain ⟨o, rfl, hb, k⟩ := h
    refine ⟨_, (pss_cons (ps_set (i := 1) sc_law_bits.nd rfl (by first | exact Or.inl rfl | exact Or.inr rfl) (pe_lst pa_nil))
 (pss_cons (ps_while PassesOwn.never (pt_cmpR op_gt (pv 0) pe_int (nomark _))
 (pss_cons (ps_expr (pe_bm PySem.F.plainAttrs_list PySem.F.slot_list_append PySem.F.type_list_append mt_append (pv 1) (pa_cons (pe_op op_mod (pv 0) pe_int) pa_nil)))
 (pss_one (ps_set (i := 0) sc_law_bits.nd rfl (by first | exact Or.inl rfl | exact Or.inr rfl) (pe_op op_fdivB (pv 0) pe_int)))))
 (pss_one (ps_ret (pe_rev (pv 1)))))), ?_⟩
    have e0 : L2.start ["_law_often", "_law_found"] [.int o] = [some (.int o), none] := rfl
    rw [e0]; clear e0
    simp only [tSeq, tIfS, tTest, tRet, tRetN, tNext, tDrop, tAsg, tPar, tPar3, tAug, tVar, tC, tOp, tUn, rI, rI0, rU, tB, tAnd, tOr, tNot, tAndV, tOrV, tNotV, tIf, gName, gNil, gCons, gTup, gSub, tCB, tCons, tNil, tCall, tChain, ipI, tIsN, tNotN, tBM, tyV, tTup, tLst, rAppend, rCat, scal_ii, scal_bb, scal_ss, scal_ni, scal_in, rEq, rNe, List.getElem?_cons_zero, List.getElem?_cons_succ, List.set_cons_zero, List.set_cons_succ, eq_self, and_assoc, Option.some.injEq, V.int.injEq, V.bl.injEq, V.ref.injEq, V.str.injEq, List.cons.injEq, exists_eq_left', exists_eq_left, exists_and_left, List.nil_append, List.cons_append, List.append_nil, true_and, and_true, decide_eq_true_eq, Bool.not_eq_true', decide_eq_false_iff_not, if_true, if_false, Bool.not_true, Bool.not_false, Bool.false_eq_true, reduceCtorEq, decide_true, decide_false, ite_true, ite_false, rSetL, rIxL, tRaise, jCons, jNil, tFmt, tDNew, rCount, rIndex, tCont, tBreak, Int.reduceToNat, Int.reducePow]
    refine ⟨Nat.zero_le _, fun p hp => ?_⟩
    obtain ⟨W, hW⟩ : ∃ W : Nat → St → Hp → Prop, ∀ m σ H', W m σ H' ↔ ∃ l bs, m = l.toNat ∧ σ = [some (.int l), some (.ref p)] ∧ BitInv o l bs ∧ bs.length ≤ 100 ∧ H' = upd H p (.lst (bs.map V.int)) := ⟨_, fun _ _ _ => Iff.rfl⟩
    refine ⟨W, ⟨_, (hW _ _ _).mpr ⟨o, [], rfl, rfl, bit_start hb.1, Nat.zero_le _, rfl⟩⟩, ?_⟩
    intro m σ H' hw
    obtain ⟨l, bs, rfl, rfl, I, bl, rfl⟩ := (hW _ _ _).mp hw
    clear hw
    have l0 := I.l0
    simp only [tSeq, tIfS, tTest, tRet, tRetN, tNext, tDrop, tAsg, tPar, tPar3, tAug, tVar, tC, tOp, tUn, rI, rI0, rU, tB, tAnd, tOr, tNot, tAndV, tOrV, tNotV, tIf, gName, gNil, gCons, gTup, gSub, tCB, tCons, tNil, tCall, tChain, ipI, tIsN, tNotN, tBM, tyV, tTup, tLst, rAppend, rCat, scal_ii, scal_bb, scal_ss, scal_ni, scal_in, rEq, rNe, List.getElem?_cons_zero, List.getElem?_cons_succ, List.set_cons_zero, List.set_cons_succ, eq_self, and_assoc, Option.some.injEq, V.int.injEq, V.bl.injEq, V.ref.injEq, V.str.injEq, List.cons.injEq, exists_eq_left', exists_eq_left, exists_and_left, List.nil_append, List.cons_append, List.append_nil, true_and, and_true, decide_eq_true_eq, Bool.not_eq_true', decide_eq_false_iff_not, if_true, if_false, Bool.not_true, Bool.not_false, Bool.false_eq_true, reduceCtorEq, decide_true, decide_false, ite_true, ite_false, rSetL, rIxL, tRaise, jCons, jNil, tFmt, tDNew, rCount, rIndex, tCont, tBreak, Int.reduceToNat, Int.reducePow]
    refine ite2 (fun hl => ?_) (fun hl => ?_)
    · have hlen := bit_len I hl hb.2
      refine ⟨fun σ' H2 => ∃ m', m' < l.toNat ∧ W m' σ' H2, fun _ _ h => h, ?_⟩
      refine ⟨.inl ⟨_, SqL.of upd_same⟩, by decide, _, upd_same, small1000 (by rw [List.length_map]; omega), ⟨by decide, by decide⟩, _, by omega, (hW _ _ _).mpr ⟨l / 2, bs ++ [l % 2], rfl, rfl, bit_turn I, by rw [List.length_append, List.length_singleton]; omega, ?_⟩⟩
      rw [updupd, List.map_append]
      rfl
    · simp only [tSeq, tIfS, tTest, tRet, tRetN, tNext, tDrop, tAsg, tPar, tPar3, tAug, tVar, tC, tOp, tUn, rI, rI0, rU, tB, tAnd, tOr, tNot, tAndV, tOrV, tNotV, tIf, gName, gNil, gCons, gTup, gSub, tCB, tCons, tNil, tCall, tChain, ipI, tIsN, tNotN, tBM, tyV, tTup, tLst, rAppend, rCat, scal_ii, scal_bb, scal_ss, scal_ni, scal_in, rEq, rNe, List.getElem?_cons_zero, List.getElem?_cons_succ, List.set_cons_zero, List.set_cons_succ, eq_self, and_assoc, Option.some.injEq, V.int.injEq, V.bl.injEq, V.ref.injEq, V.str.injEq, List.cons.injEq, exists_eq_left', exists_eq_left, exists_and_left, List.nil_append, List.cons_append, List.append_nil, true_and, and_true, decide_eq_true_eq, Bool.not_eq_true', decide_eq_false_iff_not, if_true, if_false, Bool.not_true, Bool.not_false, Bool.false_eq_true, reduceCtorEq, decide_true, decide_false, ite_true, ite_false, rSetL, rIxL, tRaise, jCons, jNil, tFmt, tDNew, rCount, rIndex, tCont, tBreak, Int.reduceToNat, Int.reducePow, tRev]
      refine ⟨_, SqL.of upd_same, fun q hq => ?_⟩
      have hl0 : l = 0 := by omega
      subst hl0
      rw [← List.map_reverse]
      refine k bs q _ (bit_end I) I.bit bl (fun b u e => ?_) upd_same
      rw [upd_ne (ne_of_none (keep e hp) hq)]
      exact keep e hp
noncomputable abbrev O_law_bits (P : Program) (w : World) (K : PySem.W.Frag) (mg : Str → Option Value) (base : Heap) : Prop := ∃ f fd, Df_law_bits K mg f fd ∧ FnOk P w K mg base CX0 1 f fd ["_law_often"] (spBits)
noncomputable abbrev s_law_power : Stmt := top 40
theorem sc_law_power : FnScope ["_law_base", "_law_often", "_law_n", "_law_found", "_law_bit"] ["_law_base", "_law_often", "_law_n"] (defScope s_law_power) := ⟨rfl, rfl, rfl, by decide +kernel, rfl, by decide +kernel, by decide +kernel⟩
noncomputable abbrev Df_law_power (K : PySem.W.Frag) (mg : Str → Option Value) (f : Addr) (fd : FuncData) : Prop := Def K mg "_law_power" s_law_power ["_law_base", "_law_often", "_law_n"] f fd
theorem ok_law_power (D : Df_law_power K mg f fd) (T : Txt K mg t1 cl) (o1 : O_law_bits P w K mg base) : FnOk P w K mg base CX0 2 f fd ["_law_base", "_law_often", "_law_n"] spLPower := by
  obtain ⟨_, _, D_law_bits, G_law_bits⟩ := o1
  refine D.fn.ok sc_law_power (fun vs H Q E h => ?_) (fun cdv A outer s H vs Q E hr h => ?_)
  · obtain ⟨b, o, n, rfl, _⟩ := h
    rfl
  · obtain ⟨b, o, n, rfl, ⟨hb, ho, ho2, hn, hn2⟩, k⟩ := h
    refine ⟨_, (pss_cons (ps_set (i := 3) sc_law_power.nd rfl (by first | exact Or.inl rfl | exact Or.inr rfl) (pe_op op_mod pe_int (pv 2)))
 (pss_cons (ps_for PassesOwn.never rfl (pi_list (pe_call (G_law_bits.mono (by decide)) hr rfl D_law_bits.mgx D_law_bits.fn.kp D_law_bits.bd .nil pass0 (pa_cons (pv 1) pa_nil))) (pg_name (i := 4) sc_law_power.nd rfl (by first | exact Or.inl rfl | exact Or.inr rfl))
 (pss_cons (ps_set (i := 3) sc_law_power.nd rfl (by first | exact Or.inl rfl | exact Or.inr rfl) (pe_op op_mod (pe_op op_mulB (pv 3) (pv 3)) (pv 2)))
 (pss_one (ps_if (pt_cmpR op_eq (pv 4) pe_int (nomark _))
 (pss_one (ps_set (i := 3) sc_law_power.nd rfl (by first | exact Or.inl rfl | exact Or.inr rfl) (pe_op op_mod (pe_op op_mulB (pv 3) (pv 0)) (pv 2))))
 pss_nil))))
 (pss_one (ps_ret (pv 3))))), ?_⟩
    have e0 : L2.start ["_law_base", "_law_often", "_law_n", "_law_found", "_law_bit"] [.int b, .int o, .int n] = [some (.int b), some (.int o), some (.int n), none, none] := rfl
    rw [e0]; clear e0
    simp only [tSeq, tIfS, tTest, tRet, tRetN, tNext, tDrop, tAsg, tPar, tPar3, tAug, tVar, tC, tOp, tUn, rI, rI0, rU, tB, tAnd, tOr, tNot, tAndV, tOrV, tNotV, tIf, gName, gNil, gCons, gTup, gSub, tCB, tCons, tNil, tCall, tChain, ipI, tIsN, tNotN, tBM, tyV, tTup, tLst, rAppend, rCat, scal_ii, scal_bb, scal_ss, scal_ni, scal_in, rEq, rNe, List.getElem?_cons_zero, List.getElem?_cons_succ, List.set_cons_zero, List.set_cons_succ, eq_self, and_assoc, Option.some.injEq, V.int.injEq, V.bl.injEq, V.ref.injEq, V.str.injEq, List.cons.injEq, exists_eq_left', exists_eq_left, exists_and_left, List.nil_append, List.cons_append, List.append_nil, true_and, and_true, decide_eq_true_eq, Bool.not_eq_true', decide_eq_false_iff_not, if_true, if_false, Bool.not_true, Bool.not_false, Bool.false_eq_true, reduceCtorEq, decide_true, decide_false, ite_true, ite_false, rSetL, rIxL, tRaise, jCons, jNil, tFmt, tDNew, rCount, rIndex, tCont, tBreak, Int.reduceToNat, Int.reducePow]
    refine ⟨hn, ?_⟩
    refine ⟨_, rfl, o, rfl, ⟨ho, ho2⟩, fun bs p H1 hv hbit hlen S1 hp => ?_⟩
    have nbn : ∀ z : Int, (z % n).natAbs < 10 ^ 100 := fun z => nb_mod z (by omega) (by omega)
    refine ⟨p, rfl, ⟨_, SqL.of hp⟩, for_list (xs := bs.reverse.map V.int) (fun j σ H' => H' = H1 ∧ ∃ v, σ = [some (.int b), some (.int o), some (.int n), some (.int (b ^ (valL (bs.drop (bs.length - j))).toNat % n)), v]) ⟨rfl, none, ?_⟩ (fun _ _ _ _ h => by rw [h.1]; exact SqL.of hp) ?_ ?_⟩
    · simp [valL]
    · rintro j x σ H' hx ⟨rfl, v, rfl⟩
      rw [List.getElem?_map] at hx
      obtain ⟨c, hcx⟩ : ∃ c, bs.reverse[j]? = some c := by
        cases e : bs.reverse[j]? with
        | none => rw [e] at hx; cases hx
        | some c => exact ⟨c, rfl⟩
      rw [hcx] at hx
      cases hx
      obtain ⟨hc, hd⟩ := rev_at hcx
      have hv0 := valL_nonneg (fun y hy => hbit y (List.mem_of_mem_drop (i := bs.length - j) hy))
      have cb := hbit c hc
      simp only [tSeq, tIfS, tTest, tRet, tRetN, tNext, tDrop, tAsg, tPar, tPar3, tAug, tVar, tC, tOp, tUn, rI, rI0, rU, tB, tAnd, tOr, tNot, tAndV, tOrV, tNotV, tIf, gName, gNil, gCons, gTup, gSub, tCB, tCons, tNil, tCall, tChain, ipI, tIsN, tNotN, tBM, tyV, tTup, tLst, rAppend, rCat, scal_ii, scal_bb, scal_ss, scal_ni, scal_in, rEq, rNe, List.getElem?_cons_zero, List.getElem?_cons_succ, List.set_cons_zero, List.set_cons_succ, eq_self, and_assoc, Option.some.injEq, V.int.injEq, V.bl.injEq, V.ref.injEq, V.str.injEq, List.cons.injEq, exists_eq_left', exists_eq_left, exists_and_left, List.nil_append, List.cons_append, List.append_nil, true_and, and_true, decide_eq_true_eq, Bool.not_eq_true', decide_eq_false_iff_not, if_true, if_false, Bool.not_true, Bool.not_false, Bool.false_eq_true, reduceCtorEq, decide_true, decide_false, ite_true, ite_false, rSetL, rIxL, tRaise, jCons, jNil, tFmt, tDNew, rCount, rIndex, tCont, tBreak, Int.reduceToNat, Int.reducePow]
      refine ⟨.inr ⟨nbn _, nbn _⟩, hn, ?_⟩
      refine ite2 (fun h1 => ?_) (fun h1 => ?_)
      · subst h1
        refine ⟨.inr ⟨nbn _, by omega⟩, hn, ?_⟩
        rw [hd, pow_bit1 hv0]
        first | exact ⟨rfl, _, rfl⟩ | simp
      · have c0 : c = 0 := by omega
        subst c0
        rw [hd, pow_bit0 hv0]
        first | exact ⟨rfl, _, rfl⟩ | simp
    · rintro σ H' ⟨rfl, v, rfl⟩
      simp only [tSeq, tIfS, tTest, tRet, tRetN, tNext, tDrop, tAsg, tPar, tPar3, tAug, tVar, tC, tOp, tUn, rI, rI0, rU, tB, tAnd, tOr, tNot, tAndV, tOrV, tNotV, tIf, gName, gNil, gCons, gTup, gSub, tCB, tCons, tNil, tCall, tChain, ipI, tIsN, tNotN, tBM, tyV, tTup, tLst, rAppend, rCat, scal_ii, scal_bb, scal_ss, scal_ni, scal_in, rEq, rNe, List.getElem?_cons_zero, List.getElem?_cons_succ, List.set_cons_zero, List.set_cons_succ, eq_self, and_assoc, Option.some.injEq, V.int.injEq, V.bl.injEq, V.ref.injEq, V.str.injEq, List.cons.injEq, exists_eq_left', exists_eq_left, exists_and_left, List.nil_append, List.cons_append, List.append_nil, true_and, and_true, decide_eq_true_eq, Bool.not_eq_true', decide_eq_false_iff_not, if_true, if_false, Bool.not_true, Bool.not_false, Bool.false_eq_true, reduceCtorEq, decide_true, decide_false, ite_true, ite_false, rSetL, rIxL, tRaise, jCons, jNil, tFmt, tDNew, rCount, rIndex, tCont, tBreak, Int.reduceToNat, Int.reducePow]
      have e : bs.length - (bs.reverse.map V.int).length = 0 := by rw [List.length_map, List.length_reverse]; omega
      rw [e, List.drop_zero, hv]
      exact k _ S1
noncomputable abbrev O_law_power (P : Program) (w : World) (K : PySem.W.Frag) (mg : Str → Option Value) (base : Heap) : Prop := ∃ f fd, Df_law_power K mg f fd ∧ FnOk P w K mg base CX0 2 f fd ["_law_base", "_law_often", "_law_n"] (spLPower)
noncomputable def Tyd (K : PySem.W.Frag) (a : Addr) (H : Hp) (v : V) : Prop := (∃ n, TyOf K H v (.type n)) ∧ ∀ p, v = .ref p → p ≠ a
theorem Tyd.step {a : Addr} {H H' : Hp} {v : V} (h : Tyd K a H v) (s : But a H H') : Tyd K a H' v := by
  obtain ⟨⟨n, ty⟩, ne⟩ := h
  refine ⟨⟨n, ?_⟩, ne⟩
  cases ty with
  | non => exact .non
  | bl x => exact .bl x
  | int i => exact .int i
  | str x => exact .str x
  | flt x => exact .flt x
  | lst e => exact .lst (s _ _ (ne _ rfl) e)
  | frz e => exact .frz (s _ _ (ne _ rfl) e)
  | tup e => exact .tup (s _ _ (ne _ rfl) e)
  | dK e => exact .dK (s _ _ (ne _ rfl) e)
  | dT e => exact .dT (s _ _ (ne _ rfl) e)
noncomputable abbrev s_law_none : Stmt := top 38
theorem sc_law_none : FnScope ["_law_state_here", "_law_low", "_law_high", "_law_some"] ["_law_state_here", "_law_low", "_law_high"] (defScope s_law_none) := ⟨rfl, rfl, rfl, by decide +kernel, rfl, by decide +kernel, by decide +kernel⟩
noncomputable abbrev Df_law_none (K : PySem.W.Frag) (mg : Str → Option Value) (f : Addr) (fd : FuncData) : Prop := Def K mg "_law_none" s_law_none ["_law_state_here", "_law_low", "_law_high"] f fd
noncomputable def spNone (K : PySem.W.Frag) : Sp := fun vs H Q _ => ∃ (a : Addr) (lo hi : Int), vs = [.ref a, .int lo, .int hi] ∧ (-(10 ^ 40) ≤ lo ∧ lo ≤ hi ∧ hi ≤ 10 ^ 40) ∧ StAt H a ∧ ∀ v H', Step a H H' → Tyd K a H' v → isBet v lo hi = false → Q v H'
theorem ok_law_none (D : Df_law_none K mg f fd) (T : Txt K mg t1 cl) (o1 : O_law_take P w K mg base) : FnOk P w K mg base CX0 2 f fd ["_law_state_here", "_law_low", "_law_high"] (spNone K) := by
  obtain ⟨_, _, D_law_take, G_law_take⟩ := o1
  refine D.fn.ok sc_law_none (fun vs H Q E h => ?_) (fun cdv A outer s H vs Q E hr h => ?_)
  · obtain ⟨a, lo, hi, rfl, _⟩ := h
    rfl
  · obtain ⟨a, lo, hi, rfl, ⟨b1, b2, b3⟩, hst, k⟩ := h
    refine ⟨_, (pss_cons (ps_set (i := 3) sc_law_none.nd rfl (by first | exact Or.inl rfl | exact Or.inr rfl) (pe_lst (pa_cons (pe_op op_sub (pv 1) pe_int) (pa_cons (pe_op op_add (pv 2) pe_int) (pa_cons pe_bl (pa_cons pe_bl (pa_cons pe_non (pa_cons (pe_callTy call_str_int (by rfl) T.no_str PyProof.Rows.boot_str (pa_cons (pv 1) pa_nil)) (pa_cons (pe_tup (pa_cons (pv 1) pa_nil)) (pa_cons (pe_lst (pa_cons (pv 2) pa_nil)) (pa_cons (pe_op op_pow pe_int pe_int) (pa_cons (pe_op op_sub pe_int (pe_op op_pow pe_int pe_int)) (pa_cons pe_dnew (pa_cons pe_str pa_nil))))))))))))))
 (pss_one (ps_ret (pe_ix ix_list (pv 3) (pe_call (G_law_take.mono (by decide)) hr rfl D_law_take.mgx D_law_take.fn.kp D_law_take.bd .nil pass0 (pa_cons (pv 0) (pa_cons pe_int pa_nil))) (fun _ _ => rfl))))), ?_⟩
    have e0 : L2.start ["_law_state_here", "_law_low", "_law_high", "_law_some"] [.ref a, .int lo, .int hi] = [some (.ref a), some (.int lo), some (.int hi), none] := rfl
    rw [e0]; clear e0
    simp only [tSeq, tIfS, tTest, tRet, tRetN, tNext, tDrop, tAsg, tPar, tPar3, tAug, tVar, tC, tOp, tUn, rI, rI0, rU, tB, tAnd, tOr, tNot, tAndV, tOrV, tNotV, tIf, gName, gNil, gCons, gTup, gSub, tCB, tCons, tNil, tCall, tChain, ipI, tIsN, tNotN, tBM, tyV, tTup, tLst, rAppend, rCat, scal_ii, scal_bb, scal_ss, scal_ni, scal_in, rEq, rNe, List.getElem?_cons_zero, List.getElem?_cons_succ, List.set_cons_zero, List.set_cons_succ, eq_self, and_assoc, Option.some.injEq, V.int.injEq, V.bl.injEq, V.ref.injEq, V.str.injEq, List.cons.injEq, exists_eq_left', exists_eq_left, exists_and_left, List.nil_append, List.cons_append, List.append_nil, true_and, and_true, decide_eq_true_eq, Bool.not_eq_true', decide_eq_false_iff_not, if_true, if_false, Bool.not_true, Bool.not_false, Bool.false_eq_true, reduceCtorEq, decide_true, decide_false, ite_true, ite_false, rSetL, rIxL, tRaise, jCons, jNil, tFmt, tDNew, rCount, rIndex, tCont, tBreak, Int.reduceToNat, Int.reducePow]
    refine ⟨Nat.lt_trans (log2_small (by omega)) (by decide), by show 1 ≤ sizeLine; decide, fun p hp => ⟨by show 1 ≤ sizeLine; decide, fun p1 hp1 => ⟨⟨by decide, by decide, by decide⟩, ⟨by decide, by decide, by decide⟩, fun p2 hp2 => ⟨by show 12 ≤ sizeLine; decide, fun p3 hp3 => ⟨a, _, rfl, ⟨by decide, by decide⟩, (((hst.upd hp).upd hp1).upd hp2).upd hp3, fun r H2 r0 r1 S2 => ?_⟩⟩⟩⟩⟩
    have S := ((((Step.refl hst).new hp).new hp1).new hp2).new hp3 |>.trans S2
    obtain ⟨x, y, ha, _⟩ := hst
    have n0 : p ≠ a := (ne_of_none ha hp).symm
    have n1 : p1 ≠ a := (ne_of_none (keep ha hp) hp1).symm
    have n2 : p2 ≠ a := (ne_of_none (keep (keep ha hp) hp1) hp2).symm
    have n3 : p3 ≠ a := (ne_of_none (keep (keep (keep ha hp) hp1) hp2) hp3).symm
    have g0 := S2.but p _ n0 (keep (keep (keep upd_same hp1) hp2) hp3)
    have g1 := S2.but p1 _ n1 (keep (keep upd_same hp2) hp3)
    have g2 := S2.but p2 _ n2 (keep upd_same hp3)
    have g3 := S2.but p3 _ n3 upd_same
    refine ⟨_, r, rfl, SqL.of g3, ?_⟩
    have hr' : r = 0 ∨ r = 1 ∨ r = 2 ∨ r = 3 ∨ r = 4 ∨ r = 5 ∨ r = 6 ∨ r = 7 ∨ r = 8 ∨ r = 9 ∨ r = 10 ∨ r = 11 := by omega
    have si : ∀ i : Int, Tyd K a H2 (.int i) := fun i => ⟨⟨_, .int _⟩, fun p e => nomatch e⟩
    rcases hr' with rfl | rfl | rfl | rfl | rfl | rfl | rfl | rfl | rfl | rfl | rfl | rfl
    · exact ⟨_, rfl, k _ _ S (si _) (by rw [isBet, decide_eq_false (by omega)]; rfl)⟩
    · exact ⟨_, rfl, k _ _ S (si _) (by rw [isBet, decide_eq_false (show ¬ hi + 1 ≤ hi by omega), Bool.and_false])⟩
    · exact ⟨_, rfl, k _ _ S ⟨⟨_, .bl _⟩, fun p e => nomatch e⟩ rfl⟩
    · exact ⟨_, rfl, k _ _ S ⟨⟨_, .bl _⟩, fun p e => nomatch e⟩ rfl⟩
    · exact ⟨_, rfl, k _ _ S ⟨⟨_, .non⟩, fun p e => nomatch e⟩ rfl⟩
    · exact ⟨_, rfl, k _ _ S ⟨⟨_, .str _⟩, fun p e => nomatch e⟩ rfl⟩
    · exact ⟨_, rfl, k _ _ S ⟨⟨_, .tup g0⟩, fun p e => by cases e; exact n0⟩ rfl⟩
    · exact ⟨_, rfl, k _ _ S ⟨⟨_, .lst g1⟩, fun p e => by cases e; exact n1⟩ rfl⟩
    · exact ⟨_, rfl, k _ _ S (si _) (by rw [isBet, decide_eq_false (show ¬ (100000000000000000000000000000000000000000000000000000000000 : Int) ≤ hi by omega), Bool.and_false])⟩
    · exact ⟨_, rfl, k _ _ S (si _) (by rw [isBet, decide_eq_false (by omega)]; rfl)⟩
    · exact ⟨_, rfl, k _ _ S ⟨⟨_, .dK g2⟩, fun p e => by cases e; exact n2⟩ rfl⟩
    · exact ⟨_, rfl, k _ _ S ⟨⟨_, .str _⟩, fun p e => nomatch e⟩ rfl⟩
noncomputable abbrev O_law_none (P : Program) (w : World) (K : PySem.W.Frag) (mg : Str → Option Value) (base : Heap) : Prop := ∃ f fd, Df_law_none K mg f fd ∧ FnOk P w K mg base CX0 2 f fd ["_law_state_here", "_law_low", "_law_high"] (spNone K)
end
end PP
set_option Elab.async false
set_option linter.all false
set_option maxRecDepth 100000
set_option maxHeartbeats 4000000
namespace PP
open PySem L2 MM
section
variable {P : Program} {w : World} {K : PySem.W.Frag} {mg : Str → Option Value} {base : Heap} {t1 : Tok} {cl : Cl} {f : Addr} {fd : FuncData}
noncomputable abbrev OB_law_power (P : Program) (w : World) (K : PySem.W.Frag) (mg : Str → Option Value) (cl : Cl) : Prop := ∃ f fd, Df_law_power K mg f fd ∧ ∀ b, FnOk P w K mg b CX0 2 f fd ["_law_base", "_law_often", "_law_n"] spLPower
noncomputable abbrev s_law_least : Stmt := top 44
theorem sc_law_least : FnScope ["_law_n", "_law_parts_here", "_law_base"] ["_law_n"] (defScope s_law_least) := ⟨rfl, rfl, rfl, by decide +kernel, rfl, by decide +kernel, by decide +kernel⟩
noncomputable abbrev Df_law_least (K : PySem.W.Frag) (mg : Str → Option Value) (f : Addr) (fd : FuncData) : Prop := Def K mg "_law_least" s_law_least ["_law_n"] f fd
theorem ok_ll0 : FnOk P w K mg base CX0 7 f fd ["_law_n"] (spFP 0 K) :=
  ⟨fun vs H Q E h => by obtain ⟨p, rfl, _⟩ := h; rfl, fun A outer s H args us vs Q E hr e hb hv h => by
    obtain ⟨p, _, ⟨hp, _, h1⟩, _⟩ := h
    have := hp.1
    rw [Int.pow_zero] at h1
    omega⟩
theorem ok_lls (D : Df_law_least K mg f fd) (T : Txt K mg t1 cl) (o1 : O_law_parts P w K mg base) (o2 : OB_law_power P w K mg cl) {j : Nat} (hj : j < 30) (B_law_least : ∀ b, FnOk P w K mg b CX0 (j + 7) f fd ["_law_n"] (spFP j K)) : FnOk P w K mg base CX0 (j + 7 + 1) f fd ["_law_n"] (spFP (j + 1) K) := by
  obtain ⟨_, _, D_law_parts, G_law_parts⟩ := o1
  obtain ⟨_, _, D_law_power, B_law_power⟩ := o2
  have D_law_least := D
  refine D.fn.ok sc_law_least (fun vs H Q E h => ?_) (fun cdv A outer s H vs Q E hr h => ?_)
  · obtain ⟨p, rfl, _⟩ := h
    rfl
  · obtain ⟨p, rfl, ⟨hp, p9, pj⟩, k⟩ := h
    have p2 := hp.1
    refine ⟨_, (pss_cons (ps_if (pt_cmpR op_eq (pv 0) pe_int (nomark _))
 (pss_one (ps_ret (pe_tup (pa_cons pe_str pa_nil))))
 pss_nil)
 (pss_cons (ps_set (i := 1) sc_law_least.nd rfl (by first | exact Or.inl rfl | exact Or.inr rfl) (pe_call (G_law_parts.mono (by omega)) hr rfl D_law_parts.mgx D_law_parts.fn.kp D_law_parts.bd .nil pass0 (pa_cons (pe_op op_sub (pv 0) pe_int) pa_nil)))
 (pss_cons (ps_set (i := 2) sc_law_least.nd rfl (by first | exact Or.inl rfl | exact Or.inr rfl) pe_int)
 (pss_cons (ps_while PassesOwn.never (pt_cmpR (op_neS (hu150 hr)) (pe_compD (N := ["_law_part", "_law_base", "_law_n"]) (js := [none, some 2, some 0]) (by rfl) rfl (fun _ => rfl) (pi_list (pv 1)) (by intro b _ _ _ _; exact (pg_name (i := 0) (show List.Nodup (["_law_part", "_law_base", "_law_n"] : List Str) by decide) rfl (by first | exact Or.inl rfl | exact Or.inr rfl))) (by intro b _ _ _ _; exact pifs_one (pt_cmpR op_eq (pe_call ((B_law_power b).mono (by omega)) hr rfl D_law_power.mgx D_law_power.fn.kp D_law_power.bd .nil pass0 (pa_cons (pv 1) (pa_cons (pe_op op_fdivB (pe_op op_sub (pv 2) pe_int) (pe_ix (show IxR _ (rIxT K) from ix_tup) (pv 0) pe_int (fun _ _ => rfl))) (pa_cons (pv 2) pa_nil)))) pe_int (nomark _))) (by intro b _ _ _ _; exact (pv 0))) (pe_lst pa_nil) (nomark _))
 (pss_one (ps_set (i := 2) sc_law_least.nd rfl (by first | exact Or.inl rfl | exact Or.inr rfl) (pe_op op_add (pv 2) pe_int))))
 (pss_one (ps_ret (pe_tup (pa_cons pe_str (pa_cons (pv 2) (pa_cons (pe_callTy call_tuple_of (by rfl) T.no_tuple PyProof.Rows.boot_tuple (pa_cons (pe_compD (N := ["_law_prime_here", "_law_often"]) (js := [none, none]) (by rfl) rfl (fun _ => rfl) (pi_list (pv 1)) (by intro b _ _ _ _; exact (pg_tupK (K := K) (n := 2) rfl rfl (pgs_cons (pg_name (i := 0) (show List.Nodup (["_law_prime_here", "_law_often"] : List Str) by decide) rfl (by first | exact Or.inl rfl | exact Or.inr rfl)) (pgs_cons (pg_name (i := 1) (show List.Nodup (["_law_prime_here", "_law_often"] : List Str) by decide) rfl (by first | exact Or.inl rfl | exact Or.inr rfl)) pgs_nil)))) (by intro b _ _ _ _; exact pifs_nil) (by intro b _ _ _ _; exact (pe_tup (pa_cons (pv 0) (pa_cons (pv 1) (pa_cons (pe_call ((B_law_least b).mono (by omega)) hr rfl D_law_least.mgx D_law_least.fn.kp D_law_least.bd .nil pass0 (pa_cons (pv 0) pa_nil)) pa_nil)))))) pa_nil)) pa_nil)))))))))), ?_⟩
    have e0 : L2.start ["_law_n", "_law_parts_here", "_law_base"] [.int p] = [some (.int p), none, none] := rfl
    rw [e0]; clear e0
    simp only [tSeq, tIfS, tTest, tRet, tRetN, tNext, tDrop, tAsg, tPar, tPar3, tAug, tVar, tC, tOp, tUn, rI, rI0, rU, tB, tAnd, tOr, tNot, tAndV, tOrV, tNotV, tIf, gName, gNil, gCons, gTup, gSub, tCB, tCons, tNil, tCall, tChain, ipI, tIsN, tNotN, tBM, tyV, tTup, tLst, rAppend, rCat, scal_ii, scal_bb, scal_ss, scal_ni, scal_in, rEq, rNe, List.getElem?_cons_zero, List.getElem?_cons_succ, List.set_cons_zero, List.set_cons_succ, eq_self, and_assoc, Option.some.injEq, V.int.injEq, V.bl.injEq, V.ref.injEq, V.str.injEq, List.cons.injEq, exists_eq_left', exists_eq_left, exists_and_left, List.nil_append, List.cons_append, List.append_nil, true_and, and_true, decide_eq_true_eq, Bool.not_eq_true', decide_eq_false_iff_not, if_true, if_false, Bool.not_true, Bool.not_false, Bool.false_eq_true, reduceCtorEq, decide_true, decide_false, ite_true, ite_false, rSetL, rIxL, tRaise, jCons, jNil, tFmt, tDNew, rCount, rIndex, tCont, tBreak, Int.reduceToNat, Int.reducePow]
    refine ite2 (fun e2 => ?_) (fun e2 => ?_)
    · subst e2
      refine ⟨by show 1 ≤ sizeLine; decide, fun r hr' => k (.ref r) _ (fun b o e => keep e hr') ?_⟩
      rw [pap_two]
      exact ⟨r, _, rfl, SqT.of upd_same, _, _, rfl, rfl, rfl⟩
    · refine ⟨p - 1, rfl, ⟨by omega, by omega⟩, fun l c xs H1 hl S1 hc R => ?_⟩
      have len : l.length < 30 := parts_len hl.1.pr (by rw [hl.2]; omega)
      have elen : xs.length = l.length := by rw [← R.length, List.length_map]
      obtain ⟨g, g1, g2, hg⟩ := prim_root hp
      obtain ⟨W, hW⟩ : ∃ W : Nat → St → Hp → Prop, ∀ m σ Hx, W m σ Hx ↔ ∃ b : Int, m = (g - b).toNat ∧ σ = [some (.int p), some (.ref c), some (.int b)] ∧ (1 ≤ b ∧ b ≤ g ∧ ∀ x, 1 ≤ x → x < b → ¬ Ord x p (p - 1)) ∧ Same H1 Hx := ⟨_, fun _ _ _ => Iff.rfl⟩
      refine ⟨W, ⟨_, (hW _ _ _).mpr ⟨1, rfl, rfl, ⟨Int.le_refl _, g1, fun x a b => by omega⟩, fun _ _ e => e⟩⟩, ?_⟩
      intro m σ Hx hw
      obtain ⟨b, rfl, rfl, ⟨b1, b2, bn⟩, sx⟩ := (hW _ _ _).mp hw
      clear hw
      have hcx := sx _ _ hc
      simp only [tSeq, tIfS, tTest, tRet, tRetN, tNext, tDrop, tAsg, tPar, tPar3, tAug, tVar, tC, tOp, tUn, rI, rI0, rU, tB, tAnd, tOr, tNot, tAndV, tOrV, tNotV, tIf, gName, gNil, gCons, gTup, gSub, tCB, tCons, tNil, tCall, tChain, ipI, tIsN, tNotN, tBM, tyV, tTup, tLst, rAppend, rCat, scal_ii, scal_bb, scal_ss, scal_ni, scal_in, rEq, rNe, List.getElem?_cons_zero, List.getElem?_cons_succ, List.set_cons_zero, List.set_cons_succ, eq_self, and_assoc, Option.some.injEq, V.int.injEq, V.bl.injEq, V.ref.injEq, V.str.injEq, List.cons.injEq, exists_eq_left', exists_eq_left, exists_and_left, List.nil_append, List.cons_append, List.append_nil, true_and, and_true, decide_eq_true_eq, Bool.not_eq_true', decide_eq_false_iff_not, if_true, if_false, Bool.not_true, Bool.not_false, Bool.false_eq_true, reduceCtorEq, decide_true, decide_false, ite_true, ite_false, rSetL, rIxL, tRaise, jCons, jNil, tFmt, tDNew, rCount, rIndex, tCont, tBreak, Int.reduceToNat, Int.reducePow]
      refine tCompC_of ?_
      refine ⟨_, rfl, c, rfl, ⟨xs, SqL.of hcx⟩, fun b2' D2 hcb2 hD2 => ?_⟩
      obtain ⟨Pv2, hPv2⟩ : ∃ Pv : Nat → St → Hp → Prop, ∀ i2 σ H2, Pv i2 σ H2 ↔ (∃ v1, σ = [v1, some (.int b), some (.int p)]) ∧ Same Hx H2 ∧ ∃ ys, H2 D2 = some (.lst ys) ∧ RepL K H2 ((failP b p (l.take i2)).map pD) ys := ⟨_, fun _ _ _ => Iff.rfl⟩
      refine comp_list (xs := xs) Pv2 ((hPv2 _ _ _).mpr ⟨⟨_, rfl⟩, fun b o e => keep e hD2, [], upd_same, rfl⟩) (fun i2 σ H2 hi2 h => ?_) ?_ ?_
      · obtain ⟨_, s2, _⟩ := (hPv2 _ _ _).mp h
        exact SqL.of (s2 _ _ hcx)
      · intro i2 x σ H2 hx h
        obtain ⟨⟨v1, rfl⟩, s2, ys, eD, RD'⟩ := (hPv2 _ _ _).mp h
        obtain ⟨q, cc, hq, rfl, hcc⟩ := repL_pD_get (R.mono (sx.trans s2).tk _ (noLL_pD l)) hx
        have hmem : q ∈ l := List.mem_of_getElem? hq
        have hq2 := (hl.1.pr q hmem).1.1
        have hle := (parts_le hl hmem).1
        have dv : 0 ≤ (p - 1) / q.1 ∧ (p - 1) / q.1 ≤ p - 1 := ⟨Int.ediv_nonneg (by omega) (by omega), Int.ediv_le_self _ (by omega)⟩
        have yl : ys.length ≤ l.length := by
          have := RD'.length
          rw [List.length_map] at this
          have h2 : (failP b p (l.take i2)).length ≤ l.length := by
            unfold failP
            exact Nat.le_trans (List.length_filter_le _ _) (by rw [List.length_take]; omega)
          omega
        simp only [tSeq, tIfS, tTest, tRet, tRetN, tNext, tDrop, tAsg, tPar, tPar3, tAug, tVar, tC, tOp, tUn, rI, rI0, rU, tB, tAnd, tOr, tNot, tAndV, tOrV, tNotV, tIf, gName, gNil, gCons, gTup, gSub, tCB, tCons, tNil, tCall, tChain, ipI, tIsN, tNotN, tBM, tyV, tTup, tLst, rAppend, rCat, scal_ii, scal_bb, scal_ss, scal_ni, scal_in, rEq, rNe, List.getElem?_cons_zero, List.getElem?_cons_succ, List.set_cons_zero, List.set_cons_succ, eq_self, and_assoc, Option.some.injEq, V.int.injEq, V.bl.injEq, V.ref.injEq, V.str.injEq, List.cons.injEq, exists_eq_left', exists_eq_left, exists_and_left, List.nil_append, List.cons_append, List.append_nil, true_and, and_true, decide_eq_true_eq, Bool.not_eq_true', decide_eq_false_iff_not, if_true, if_false, Bool.not_true, Bool.not_false, Bool.false_eq_true, reduceCtorEq, decide_true, decide_false, ite_true, ite_false, rSetL, rIxL, tRaise, jCons, jNil, tFmt, tDNew, rCount, rIndex, tCont, tBreak, Int.reduceToNat, Int.reducePow, CT, rIxT]
        refine ⟨_, hcc, _, rfl, q.1, rfl, ⟨by omega, by omega⟩, b, _, p, rfl, ⟨by omega, dv.1, by omega, by omega, by omega⟩, fun H3 S3 => ?_⟩
        simp only [tSeq, tIfS, tTest, tRet, tRetN, tNext, tDrop, tAsg, tPar, tPar3, tAug, tVar, tC, tOp, tUn, rI, rI0, rU, tB, tAnd, tOr, tNot, tAndV, tOrV, tNotV, tIf, gName, gNil, gCons, gTup, gSub, tCB, tCons, tNil, tCall, tChain, ipI, tIsN, tNotN, tBM, tyV, tTup, tLst, rAppend, rCat, scal_ii, scal_bb, scal_ss, scal_ni, scal_in, rEq, rNe, List.getElem?_cons_zero, List.getElem?_cons_succ, List.set_cons_zero, List.set_cons_succ, eq_self, and_assoc, Option.some.injEq, V.int.injEq, V.bl.injEq, V.ref.injEq, V.str.injEq, List.cons.injEq, exists_eq_left', exists_eq_left, exists_and_left, List.nil_append, List.cons_append, List.append_nil, true_and, and_true, decide_eq_true_eq, Bool.not_eq_true', decide_eq_false_iff_not, if_true, if_false, Bool.not_true, Bool.not_false, Bool.false_eq_true, reduceCtorEq, decide_true, decide_false, ite_true, ite_false, rSetL, rIxL, tRaise, jCons, jNil, tFmt, tDNew, rCount, rIndex, tCont, tBreak, Int.reduceToNat, Int.reducePow]
        have ft := fail_take (b := b) (p := p) hq
        by_cases h1 : b ^ ((p - 1) / q.1).toNat % p = 1
        · rw [if_pos h1] at ft ⊢
          have eD3 := S3 _ _ eD
          have tk3 : TK H3 (upd H3 D2 (.lst (ys ++ [.ref cc]))) := TK.lst eD3
          refine ⟨_, eD3, small1000 (by omega), (hPv2 _ _ _).mpr ⟨⟨_, rfl⟩, fun b o e => ?_, _, upd_same, ?_⟩⟩
          · rw [upd_ne (ne_of_none e hD2)]
            exact S3 _ _ (s2 _ _ e)
          · rw [ft, List.map_append]
            exact (RD'.mono (S3.tk.trans tk3) _ (noLL_pD _)).append ⟨_, [], rfl, ⟨cc, _, rfl, tk3.sq (S3.tk.sq hcc), _, _, rfl, rfl, _, _, rfl, rfl, rfl⟩, rfl⟩
        · rw [if_neg h1] at ft ⊢
          rw [List.append_nil] at ft
          exact (hPv2 _ _ _).mpr ⟨⟨_, rfl⟩, s2.trans S3, ys, S3 _ _ eD, by rw [ft]; exact RD'.mono S3.tk _ (noLL_pD _)⟩
      · intro σ H2 h
        obtain ⟨⟨v1, rfl⟩, s2, ys, eD, RD'⟩ := (hPv2 _ _ _).mp h
        rw [elen, List.take_length] at RD'
        refine ⟨Nat.zero_le _, fun p5 hp5 => ?_⟩
        have e5 := keep (u := .lst []) eD hp5
        have s5 : Same Hx (upd H2 p5 (.lst [])) := fun b o e => keep (s2 _ _ e) hp5
        refine ⟨(failP b p l).map pD, [], ⟨D2, _, rfl, SqL.of e5, RD'.mono (TK.new hp5) _ (noLL_pD _)⟩, ⟨p5, _, rfl, SqL.of upd_same, rfl⟩, Nat.le_trans (depL_pD _) (by decide), ?_⟩
        generalize upd H2 p5 (.lst []) = H6 at s5 e5 ⊢
        have fz := fail_none (b := b) (l := l) p2
        by_cases hB : BaseOk b p l
        · have hrt : LRoot p b := ⟨b1, by omega, (base_ord hp hl b1 (by omega)).mp hB, bn⟩
          rw [fz.mpr hB]
          refine ⟨_, rfl, ?_⟩
          rw [if_neg (show ¬ (!eqDL (List.map pD []) []) = true by decide)]
          have hc6 := s5 _ _ hcx
          have R6 := R.mono (sx.trans s5).tk _ (noLL_pD l)
          have S6 : Same H H6 := S1.trans (sx.trans s5)
          clear hPv2
          refine tCompC_of ?_
          refine ⟨_, rfl, c, rfl, ⟨xs, SqL.of hc6⟩, fun b3 D hcb3 hD => ?_⟩
          obtain ⟨Pv, hPv⟩ : ∃ Pv : Nat → St → Hp → Prop, ∀ i σ H2, Pv i σ H2 ↔ (∃ v1 v2, σ = [v1, v2]) ∧ Same H6 H2 ∧ ∃ ys, H2 D = some (.lst ys) ∧ RepL K H2 ((l.take i).map (rowD j)) ys := ⟨_, fun _ _ _ => Iff.rfl⟩
          refine comp_list (xs := xs) Pv ((hPv _ _ _).mpr ⟨⟨_, _, rfl⟩, fun b o e => keep e hD, [], upd_same, rfl⟩) (fun i σ H2 hi h => ?_) ?_ ?_
          · obtain ⟨_, s2, _⟩ := (hPv _ _ _).mp h
            exact SqL.of (s2 _ _ hc6)
          · intro i x σ H2 hx h
            obtain ⟨⟨v1, v2, rfl⟩, s2, ys, eD, RD'⟩ := (hPv _ _ _).mp h
            obtain ⟨q, cc, hq, rfl, hcc⟩ := repL_pD_get (R6.mono s2.tk _ (noLL_pD l)) hx
            have hmem : q ∈ l := List.mem_of_getElem? hq
            have hqp := (hl.1.pr q hmem).1
            have hle := (parts_le hl hmem).1
            have yl : ys.length ≤ l.length := by
              have := RD'.length
              rw [List.length_map, List.length_take] at this
              omega
            simp only [tSeq, tIfS, tTest, tRet, tRetN, tNext, tDrop, tAsg, tPar, tPar3, tAug, tVar, tC, tOp, tUn, rI, rI0, rU, tB, tAnd, tOr, tNot, tAndV, tOrV, tNotV, tIf, gName, gNil, gCons, gTup, gSub, tCB, tCons, tNil, tCall, tChain, ipI, tIsN, tNotN, tBM, tyV, tTup, tLst, rAppend, rCat, scal_ii, scal_bb, scal_ss, scal_ni, scal_in, rEq, rNe, List.getElem?_cons_zero, List.getElem?_cons_succ, List.set_cons_zero, List.set_cons_succ, eq_self, and_assoc, Option.some.injEq, V.int.injEq, V.bl.injEq, V.ref.injEq, V.str.injEq, List.cons.injEq, exists_eq_left', exists_eq_left, exists_and_left, List.nil_append, List.cons_append, List.append_nil, true_and, and_true, decide_eq_true_eq, Bool.not_eq_true', decide_eq_false_iff_not, if_true, if_false, Bool.not_true, Bool.not_false, Bool.false_eq_true, reduceCtorEq, decide_true, decide_false, ite_true, ite_false, rSetL, rIxL, tRaise, jCons, jNil, tFmt, tDNew, rCount, rIndex, tCont, tBreak, Int.reduceToNat, Int.reducePow, CT, tYes]
            refine ⟨_, hcc, rfl, ?_⟩
            simp only [tSeq, tIfS, tTest, tRet, tRetN, tNext, tDrop, tAsg, tPar, tPar3, tAug, tVar, tC, tOp, tUn, rI, rI0, rU, tB, tAnd, tOr, tNot, tAndV, tOrV, tNotV, tIf, gName, gNil, gCons, gTup, gSub, tCB, tCons, tNil, tCall, tChain, ipI, tIsN, tNotN, tBM, tyV, tTup, tLst, rAppend, rCat, scal_ii, scal_bb, scal_ss, scal_ni, scal_in, rEq, rNe, List.getElem?_cons_zero, List.getElem?_cons_succ, List.set_cons_zero, List.set_cons_succ, eq_self, and_assoc, Option.some.injEq, V.int.injEq, V.bl.injEq, V.ref.injEq, V.str.injEq, List.cons.injEq, exists_eq_left', exists_eq_left, exists_and_left, List.nil_append, List.cons_append, List.append_nil, true_and, and_true, decide_eq_true_eq, Bool.not_eq_true', decide_eq_false_iff_not, if_true, if_false, Bool.not_true, Bool.not_false, Bool.false_eq_true, reduceCtorEq, decide_true, decide_false, ite_true, ite_false, rSetL, rIxL, tRaise, jCons, jNil, tFmt, tDNew, rCount, rIndex, tCont, tBreak, Int.reduceToNat, Int.reducePow]
            refine ⟨q.1, rfl, ⟨hqp, by omega, part_half hp pj hl hmem⟩, fun v H3 S3 Rv => ⟨by show 3 ≤ sizeLine; decide, fun r hr' => ?_⟩⟩
            have eD3 := S3 _ _ eD
            have nrD : D ≠ r := ne_of_none eD3 hr'
            have tk3 : TK H3 (upd (upd H3 r (.tup [.int q.1, .int q.2, v])) D (.lst (ys ++ [.ref r]))) := (TK.new hr').trans (TK.lst (keep eD3 hr'))
            refine ⟨ys, keep eD3 hr', small1000 (by omega), (hPv _ _ _).mpr ⟨⟨_, _, rfl⟩, fun b o e => ?_, _, upd_same, ?_⟩⟩
            · rw [upd_ne (ne_of_none e hD)]
              exact keep (S3 _ _ (s2 _ _ e)) hr'
            · rw [List.take_succ, hq, List.map_append]
              refine (RD'.mono (S3.tk.trans tk3) _ (noL_rows _ _)).append ⟨_, [], rfl, ⟨r, _, rfl, SqT.of (by rw [upd_ne nrD.symm, upd_same]), _, _, rfl, rfl, _, _, rfl, rfl, _, _, rfl, Rep.mono tk3 _ (noL_pap _ _) Rv, rfl⟩, rfl⟩
          · intro σ H2 h
            obtain ⟨⟨v1, v2, rfl⟩, s2, ys, eD, RD'⟩ := (hPv _ _ _).mp h
            rw [elen, List.take_length] at RD'
            refine ⟨D, rfl, ys, .inl ⟨SqL.of eD, fun tl htl => ⟨by show 3 ≤ sizeLine; decide, fun r hr' => ?_⟩⟩⟩
            refine k (.ref r) _ (fun b o e => keep (keep (s2 _ _ (S6 _ _ e)) htl) hr') ?_
            rw [pap_step e2 hl, lroot_eq hrt]
            have tkA : TK H2 (upd (upd H2 tl (.tup ys)) r (.tup [V.str (Str.ofString "full"), V.int b, V.ref tl])) := (TK.new htl).trans (TK.new hr')
            exact ⟨r, _, rfl, SqT.of upd_same, _, _, rfl, rfl, _, _, rfl, rfl, _, _, rfl, ⟨tl, ys, rfl, SqT.of (keep upd_same hr'), RD'.mono tkA _ (noL_rows _ _)⟩, rfl⟩
        · obtain ⟨q, r, hqr⟩ : ∃ q r, failP b p l = q :: r := by
            cases e : failP b p l with
            | nil => exact absurd (fz.mp e) hB
            | cons q r => exact ⟨q, r, rfl⟩
          rw [hqr]
          refine ⟨_, rfl, ?_⟩
          rw [if_pos (show (!eqDL (List.map pD (q :: r)) []) = true from rfl)]
          have lt : b < g := by
            refine Classical.byContradiction fun hc' => hB ?_
            have e : b = g := by omega
            rw [e]
            exact (base_ord hp hl g1 g2).mpr hg
          refine ⟨fun σ' H2 => ∃ m', m' < (g - b).toNat ∧ W m' σ' H2, fun _ _ h => h, _, by omega, (hW _ _ _).mpr ⟨b + 1, rfl, rfl, ⟨by omega, by omega, fun x x1 x2 => ?_⟩, sx.trans s5⟩⟩
          by_cases e : x = b
          · rw [e]
            exact fun z => hB ((base_ord hp hl b1 (by omega)).mpr z)
          · exact bn x x1 (by omega)
theorem ok_law_least (D : Df_law_least K mg f fd) (T : Txt K mg t1 cl) (o1 : ∀ b, O_law_parts P w K mg b) (o2 : OB_law_power P w K mg cl) : ∀ j : Nat, j ≤ 30 → ∀ b, FnOk P w K mg b CX0 (j + 7) f fd ["_law_n"] (spFP j K)
  | 0, _, _ => ok_ll0
  | j + 1, h, b => ok_lls D T (o1 b) o2 (by omega) (ok_law_least D T o1 o2 j (by omega))
noncomputable abbrev O_law_least (P : Program) (w : World) (K : PySem.W.Frag) (mg : Str → Option Value) (base : Heap) : Prop := ∃ f fd, Df_law_least K mg f fd ∧ FnOk P w K mg base CX0 37 f fd ["_law_n"] (spFP 30 K)
end
end PP
set_option Elab.async false
set_option linter.all false
set_option maxRecDepth 100000
set_option maxHeartbeats 4000000
namespace PP
open PySem L2 MM
section
variable {P : Program} {w : World} {K : PySem.W.Frag} {mg : Str → Option Value} {base : Heap} {t1 : Tok} {cl : Cl} {f : Addr} {fd : FuncData}
structure WordC (K : PySem.W.Frag) (cl : Cl) (C : Addr) (i : Nat) : Prop where
  xc : XCls K C
  ex : PySem.W.exmOne K (.ref C) (.ref cl.pe) = some true
  ve : PySem.W.kitOne K (.ref C) (.type "ValueError") = some true
  k0 : PySem.W.kitOne K (.ref C) (.ref cl.nn) = some (decide (i = 0))
  k1 : PySem.W.kitOne K (.ref C) (.ref cl.np) = some (decide (i = 1))
  k2 : PySem.W.kitOne K (.ref C) (.ref cl.pa) = some (decide (i = 2))
  k3 : PySem.W.kitOne K (.ref C) (.ref cl.pp) = some (decide (i = 3))
  k4 : PySem.W.kitOne K (.ref C) (.ref cl.nb) = some (decide (i = 4))
  k5 : PySem.W.kitOne K (.ref C) (.ref cl.nt) = some (decide (i = 5))
  k6 : PySem.W.kitOne K (.ref C) (.ref cl.nl) = some (decide (i = 6))
  k7 : PySem.W.kitOne K (.ref C) (.ref cl.nm) = some (decide (i = 7))
  k8 : PySem.W.kitOne K (.ref C) (.ref cl.nd) = some (decide (i = 8))
  k9 : PySem.W.kitOne K (.ref C) (.ref cl.tg) = some (decide (i = 9))
noncomputable def wordOf (i : Nat) : Str := if i = 0 then "number" else "pair"
theorem small1000' {n : Nat} (h : n ≤ 1000) : n ≤ sizeLine := Nat.le_of_lt (small1000 h)
theorem two_new {H H2 : Hp} {a p1 p2 : Addr} {x o u : HO} (s : Same H H2) (e : H2 a = some x) (h1 : H2 p1 = none) (h2 : (upd H2 p1 o) p2 = none) : ∃ H3, Same H H3 ∧ H3 a = some x ∧ H3 p2 = some u ∧ H3 = upd (upd H2 p1 o) p2 u ∧ H p2 = none := by
  have st : ∀ b y, H2 b = some y → (upd (upd H2 p1 o) p2 u) b = some y := fun b y q => by
    have n1 := ne_of_none q h1
    have q1 : (upd H2 p1 o) b = some y := by rw [upd_ne n1]; exact q
    rw [upd_ne (ne_of_none q1 h2)]
    exact q1
  refine ⟨_, fun b y q => st b y (s b y q), st a x e, upd_same, rfl, ?_⟩
  cases q : H p2 with
  | none => rfl
  | some y =>
    have q2 := s p2 y q
    rw [upd_ne (ne_of_none q2 h1), q2] at h2
    cases h2
noncomputable abbrev s_law_word : Stmt := top 37
theorem sc_law_word : FnScope ["_law_call", "_law_error", "e", "_law_marks", "_law_words"] ["_law_call"] (defScope s_law_word) := ⟨rfl, rfl, rfl, by decide +kernel, rfl, by decide +kernel, by decide +kernel⟩
noncomputable abbrev Df_law_word (K : PySem.W.Frag) (mg : Str → Option Value) (f : Addr) (fd : FuncData) : Prop := Def K mg "_law_word" s_law_word ["_law_call"] f fd
noncomputable def spWord (P : Program) (w : World) (K : PySem.W.Frag) (mg : Str → Option Value) (cl : Cl) (b : Heap) : Sp := fun vs H Q _ => ∃ (fl : Addr) (fdl : FuncData) (spL : Sp) (C : Addr) (i : Nat), vs = [.ref fl] ∧ H fl = some (LamO fl fdl) ∧ FnOk P w K mg b (CXE P w) 68 fl fdl [] spL ∧ Binds K fdl [] [] ∧ WordC K cl C i ∧ (i = 0 ∨ i = 2) ∧
  (∀ R : XK, R (.ref C) none H → spL [] H (fun _ _ => False) R) ∧ ∀ H'', Same H H'' → Q (.str (wordOf i)) H''
theorem isiX {K : PySem.W.Frag} {H : Hp} {a C : Addr} {c : V} {u : Value} {b : Bool} {Q : VK} (ha : H a = some (excH a (.ref C))) (xc : XCls K C) (ec : clsV c = some u) (hk : PySem.W.kitOne K (.ref C) u = some b) (q : Q (.bl b) H) : rIsiX K [.ref a, c] H Q := ⟨a, C, c, u, b, rfl, ha, xc, ec, hk, q⟩
theorem ok_law_word (D : Df_law_word K mg f fd) (T : Txt K mg t1 cl) : FnOk P w K mg base CX0 69 f fd ["_law_call"] (spWord P w K mg cl base) := by
  refine D.fn.ok sc_law_word (fun vs H Q E h => ?_) (fun cdv A outer s H vs Q E hr h => ?_)
  · obtain ⟨fl, fdl, spL, C, i, rfl, _⟩ := h
    rfl
  · obtain ⟨fl, fdl, spL, C, i, rfl, hfl, F, hB, W, hi, kE, k⟩ := h
    refine ⟨_, (pss_cons (ps_set (i := 1) sc_law_word.nd rfl (by first | exact Or.inl rfl | exact Or.inr rfl) pe_non)
 (pss_cons (ps_tryX (ie := 2) sc_law_word.nd rfl rfl rfl rfl rfl rfl rfl T.mg_PrimeError (px_call0 (i := 0) rfl (Or.inl rfl) hr) (fun v => (pss_one (ps_set (i := 1) sc_law_word.nd rfl (by first | exact Or.inl rfl | exact Or.inr rfl) (pv 2)))))
 (pss_cons (ps_if (pt_cmp (pc_isN (pv 1)))
 (pss_one (ps_ret pe_non))
 pss_nil)
 (pss_cons (ps_set (i := 3) sc_law_word.nd rfl (by first | exact Or.inl rfl | exact Or.inr rfl) (pe_lst (pa_cons (pe_callB call_isinstX (by rfl) T.no_isinstance PyProof.Rows.boot_isinstance (pa_cons (pv 1) (pa_cons (pe_glob (v := .ref _) rfl T.mg_NoNumber rfl) pa_nil))) (pa_cons (pe_callB call_isinstX (by rfl) T.no_isinstance PyProof.Rows.boot_isinstance (pa_cons (pv 1) (pa_cons (pe_glob (v := .ref _) rfl T.mg_NoPrime rfl) pa_nil))) (pa_cons (pe_callB call_isinstX (by rfl) T.no_isinstance PyProof.Rows.boot_isinstance (pa_cons (pv 1) (pa_cons (pe_glob (v := .ref _) rfl T.mg_NoPair rfl) pa_nil))) pa_nil)))))
 (pss_cons (ps_set (i := 3) sc_law_word.nd rfl (by first | exact Or.inl rfl | exact Or.inr rfl) (pe_op op_cat (pv 3) (pe_lst (pa_cons (pe_callB call_isinstX (by rfl) T.no_isinstance PyProof.Rows.boot_isinstance (pa_cons (pv 1) (pa_cons (pe_glob (v := .ref _) rfl T.mg_NoPaper rfl) pa_nil))) (pa_cons (pe_callB call_isinstX (by rfl) T.no_isinstance PyProof.Rows.boot_isinstance (pa_cons (pv 1) (pa_cons (pe_glob (v := .ref _) rfl T.mg_NoBases rfl) pa_nil))) (pa_cons (pe_callB call_isinstX (by rfl) T.no_isinstance PyProof.Rows.boot_isinstance (pa_cons (pv 1) (pa_cons (pe_glob (v := .ref _) rfl T.mg_NoText rfl) pa_nil))) pa_nil))))))
 (pss_cons (ps_set (i := 3) sc_law_word.nd rfl (by first | exact Or.inl rfl | exact Or.inr rfl) (pe_op op_cat (pv 3) (pe_lst (pa_cons (pe_callB call_isinstX (by rfl) T.no_isinstance PyProof.Rows.boot_isinstance (pa_cons (pv 1) (pa_cons (pe_glob (v := .ref _) rfl T.mg_NoLine rfl) pa_nil))) (pa_cons (pe_callB call_isinstX (by rfl) T.no_isinstance PyProof.Rows.boot_isinstance (pa_cons (pv 1) (pa_cons (pe_glob (v := .ref _) rfl T.mg_NoName rfl) pa_nil))) (pa_cons (pe_callB call_isinstX (by rfl) T.no_isinstance PyProof.Rows.boot_isinstance (pa_cons (pv 1) (pa_cons (pe_glob (v := .ref _) rfl T.mg_NoDeed rfl) pa_nil))) pa_nil))))))
 (pss_cons (ps_expr (pe_bm PySem.F.plainAttrs_list PySem.F.slot_list_append PySem.F.type_list_append mt_append (pv 3) (pa_cons (pe_callB call_isinstX (by rfl) T.no_isinstance PyProof.Rows.boot_isinstance (pa_cons (pv 1) (pa_cons (pe_glob (v := .ref _) rfl T.mg_TooGreat rfl) pa_nil))) pa_nil)))
 (pss_cons (ps_if (PW.pt (pw_or (pt_not (pt_val (pe_callB call_isinstX (by rfl) T.no_isinstance PyProof.Rows.boot_isinstance (pa_cons (pv 1) (pa_cons (pe_bltn (v := .ty "ValueError") rfl T.no_ValueError PyProof.Rows.Boot.«ValueError» rfl) pa_nil))))) (pw_or1 (pt_cmpR op_ne (pe_bm PySem.F.plainAttrs_list PySem.F.slot_list_count PySem.F.type_list_count mt_count (pv 3) (pa_cons pe_bl pa_nil)) pe_int (nomark _)))))
 (pss_one (ps_ret pe_str))
 pss_nil)
 (pss_cons (ps_set (i := 4) sc_law_word.nd rfl (by first | exact Or.inl rfl | exact Or.inr rfl) (pe_lst (pa_cons pe_str (pa_cons pe_str (pa_cons pe_str (pa_cons pe_str (pa_cons pe_str (pa_cons pe_str (pa_cons pe_str (pa_cons pe_str (pa_cons pe_str pa_nil)))))))))))
 (pss_one (ps_ret (pe_ifExp (pt_val (pe_ix ix_list (pv 3) pe_int (fun _ _ => rfl))) pe_no (pe_ix ix_list (pv 4) (pe_bm PySem.F.plainAttrs_list PySem.F.slot_list_index PySem.F.type_list_index mt_index (pv 3) (pa_cons pe_bl pa_nil)) (fun _ _ => rfl)))))))))))))), ?_⟩
    have e0 : L2.start ["_law_call", "_law_error", "e", "_law_marks", "_law_words"] [.ref fl] = [some (.ref fl), none, none, none, none] := rfl
    rw [e0]; clear e0
    simp only [tSeq, tIfS, tTest, tRet, tRetN, tNext, tDrop, tAsg, tPar, tPar3, tAug, tVar, tC, tOp, tUn, rI, rI0, rU, tB, tAnd, tOr, tNot, tAndV, tOrV, tNotV, tIf, gName, gNil, gCons, gTup, gSub, tCB, tCons, tNil, tCall, tChain, ipI, tIsN, tNotN, tBM, tyV, tTup, tLst, rAppend, rCat, scal_ii, scal_bb, scal_ss, scal_ni, scal_in, rEq, rNe, List.getElem?_cons_zero, List.getElem?_cons_succ, List.set_cons_zero, List.set_cons_succ, eq_self, and_assoc, Option.some.injEq, V.int.injEq, V.bl.injEq, V.ref.injEq, V.str.injEq, List.cons.injEq, exists_eq_left', exists_eq_left, exists_and_left, List.nil_append, List.cons_append, List.append_nil, true_and, and_true, decide_eq_true_eq, Bool.not_eq_true', decide_eq_false_iff_not, if_true, if_false, Bool.not_true, Bool.not_false, Bool.false_eq_true, reduceCtorEq, decide_true, decide_false, ite_true, ite_false, rSetL, rIxL, tRaise, jCons, jNil, tFmt, tDNew, rCount, rIndex, tCont, tBreak, Int.reduceToNat, Int.reducePow, tTryX, xCall0]
    refine ⟨fdl, hfl, spL, F, hB, kE _ ⟨W.ex, fun a ha => ?_⟩⟩
    have s1 : Same H (upd H a (excH a (.ref C))) := fun b o e => by rw [upd_ne (ne_of_none e ha)]; exact e
    have e1 : (upd H a (excH a (.ref C))) a = some (excH a (.ref C)) := upd_same
    generalize upd H a (excH a (.ref C)) = H1 at s1 e1 ⊢
    refine isiX e1 W.xc rfl W.k0 (isiX e1 W.xc rfl W.k1 (isiX e1 W.xc rfl W.k2 ⟨by show 3 ≤ sizeLine; decide, fun p hp => ?_⟩))
    obtain ⟨l1, hl1⟩ : ∃ l1, l1 = [decide (i = 0), decide (i = 1), decide (i = 2)] := ⟨_, rfl⟩
    have m2 : (upd H1 p (.lst (l1.map V.bl))) p = some (.lst (l1.map V.bl)) := upd_same
    rw [show [V.bl (decide (i = 0)), V.bl (decide (i = 1)), V.bl (decide (i = 2))] = l1.map V.bl by rw [hl1]; rfl]
    have s2 : Same H (upd H1 p (.lst (l1.map V.bl))) := fun b o e => by rw [upd_ne (ne_of_none (s1 b o e) hp)]; exact s1 b o e
    have e2 : (upd H1 p (.lst (l1.map V.bl))) a = some (excH a (.ref C)) := by rw [upd_ne (ne_of_none e1 hp)]; exact e1
    generalize upd H1 p (.lst (l1.map V.bl)) = H2 at s2 e2 m2 ⊢
    refine isiX e2 W.xc rfl W.k3 (isiX e2 W.xc rfl W.k4 (isiX e2 W.xc rfl W.k5 ⟨by show 3 ≤ sizeLine; decide, fun p1 hp1 => ?_⟩))
    have np1 : p ≠ p1 := ne_of_none m2 hp1
    refine ⟨_, by rw [upd_ne np1]; exact m2, _, upd_same, small1000' (by rw [hl1]; show 6 ≤ 1000; decide), fun p2 hp2 => ?_⟩
    obtain ⟨l2, hl2⟩ : ∃ l2, l2 = l1 ++ [decide (i = 3), decide (i = 4), decide (i = 5)] := ⟨_, rfl⟩
    rw [show l1.map V.bl ++ [V.bl (decide (i = 3)), V.bl (decide (i = 4)), V.bl (decide (i = 5))] = l2.map V.bl by rw [hl2, List.map_append]; rfl]
    obtain ⟨H3, s3, e3, m3, hH3, _⟩ := two_new (o := .lst [V.bl (decide (i = 3)), V.bl (decide (i = 4)), V.bl (decide (i = 5))]) (u := .lst (l2.map V.bl)) s2 e2 hp1 hp2
    rw [← hH3]
    clear hH3
    refine isiX e3 W.xc rfl W.k6 (isiX e3 W.xc rfl W.k7 (isiX e3 W.xc rfl W.k8 ⟨by show 3 ≤ sizeLine; decide, fun p3 hp3 => ?_⟩))
    have np3 : p2 ≠ p3 := ne_of_none m3 hp3
    refine ⟨_, by rw [upd_ne np3]; exact m3, _, upd_same, small1000' (by rw [hl2, hl1]; show 9 ≤ 1000; decide), fun p4 hp4 => ?_⟩
    obtain ⟨l3, hl3⟩ : ∃ l3, l3 = l2 ++ [decide (i = 6), decide (i = 7), decide (i = 8)] := ⟨_, rfl⟩
    rw [show l2.map V.bl ++ [V.bl (decide (i = 6)), V.bl (decide (i = 7)), V.bl (decide (i = 8))] = l3.map V.bl by rw [hl3, List.map_append]; rfl]
    obtain ⟨H4, s4, e4, m4, hH4, f4⟩ := two_new (o := .lst [V.bl (decide (i = 6)), V.bl (decide (i = 7)), V.bl (decide (i = 8))]) (u := .lst (l3.map V.bl)) s3 e3 hp3 hp4
    rw [← hH4]
    clear hH4
    have na4 : a ≠ p4 := fun z => by
      rw [z, m4] at e4
      exact nomatch Option.some.inj e4
    refine ⟨.inl ⟨_, SqL.of m4⟩, isiX e4 W.xc rfl W.k9 ⟨_, m4, small1000 (by rw [hl3, hl2, hl1]; show 9 ≤ 1000; decide), ?_⟩⟩
    obtain ⟨l4, hl4⟩ : ∃ l4, l4 = l3 ++ [decide (i = 9)] := ⟨_, rfl⟩
    rw [show l3.map V.bl ++ [V.bl (decide (i = 9))] = l4.map V.bl by rw [hl4, List.map_append]; rfl]
    have m5 : (upd H4 p4 (.lst (l4.map V.bl))) p4 = some (.lst (l4.map V.bl)) := upd_same
    have e5 : (upd H4 p4 (.lst (l4.map V.bl))) a = some (excH a (.ref C)) := by rw [upd_ne na4]; exact e4
    have s5 : Same H (upd H4 p4 (.lst (l4.map V.bl))) := fun b o q => by rw [upd_ne (ne_of_none q f4)]; exact s4 b o q
    generalize upd H4 p4 (.lst (l4.map V.bl)) = H5 at m5 e5 s5 ⊢
    refine isiX e5 W.xc rfl W.ve ⟨_, rfl, ?_⟩
    rw [if_neg (by decide)]
    have el4 : l4 = [decide (i = 0), decide (i = 1), decide (i = 2), decide (i = 3), decide (i = 4), decide (i = 5), decide (i = 6), decide (i = 7), decide (i = 8), decide (i = 9)] := by rw [hl4, hl3, hl2, hl1]; rfl
    refine ⟨.inl ⟨_, SqL.of m5⟩, l4, m5, ?_⟩
    have ct : (l4.countP id : Nat) = 1 := by rw [el4]; rcases hi with rfl | rfl <;> rfl
    rw [ct]
    rw [if_neg (fun h => h rfl)]
    refine ⟨by show 9 ≤ sizeLine; decide, fun p6 hp6 => ?_⟩
    have n6 : p4 ≠ p6 := ne_of_none m5 hp6
    obtain ⟨H6, hH6⟩ : ∃ H6, H6 = upd H5 p6 (.lst [V.str (Str.ofString "number"), V.str (Str.ofString "prime"), V.str (Str.ofString "pair"), V.str (Str.ofString "paper"), V.str (Str.ofString "bases"), V.str (Str.ofString "text"), V.str (Str.ofString "line"), V.str (Str.ofString "name"), V.str (Str.ofString "deed")]) := ⟨_, rfl⟩
    have m6 : H6 p4 = some (.lst (l4.map V.bl)) := by rw [hH6, upd_ne n6]; exact m5
    have w6 : H6 p6 = some (.lst [V.str (Str.ofString "number"), V.str (Str.ofString "prime"), V.str (Str.ofString "pair"), V.str (Str.ofString "paper"), V.str (Str.ofString "bases"), V.str (Str.ofString "text"), V.str (Str.ofString "line"), V.str (Str.ofString "name"), V.str (Str.ofString "deed")]) := by rw [hH6]; exact upd_same
    have s6 : Same H H6 := fun b o q => by rw [hH6, upd_ne (ne_of_none (s5 b o q) hp6)]; exact s5 b o q
    rw [← hH6]
    clear hH6
    refine ⟨_, SqL.of m6, V.bl (decide (i = 9)), by rw [el4]; rfl, _, rfl, ?_⟩
    rw [if_neg (by rcases hi with rfl | rfl <;> decide)]
    refine ⟨.inl ⟨_, SqL.of m6⟩, ?_⟩
    refine ⟨l4, m6, i, ?_, ?_, ?_, _, SqL.of w6, V.str (wordOf i), ?_, k H6 s6⟩
    · rw [el4]; rcases hi with rfl | rfl <;> rfl
    · intro m hm
      rw [el4]
      rcases hi with rfl | rfl
      · omega
      · have : m = 0 ∨ m = 1 := by omega
        rcases this with rfl | rfl <;> rfl
    · omega
    · rcases hi with rfl | rfl <;> rfl
end
end PP
set_option Elab.async false
set_option linter.all false
set_option maxRecDepth 100000
set_option maxHeartbeats 4000000
namespace L2
open PySem PySem.Spec PyProof.Rows
section
variable {X : Cx}
noncomputable def rIntB : List V → Hp → VK → Prop := fun xs H Q => ∃ b : Bool, xs = [.bl b] ∧ Q (.int (if b then 1 else 0)) H
theorem pe_imp {e : Expr} {t t' : TE} (h : PE X e t) (i : ∀ σ H Q, t' σ H Q → t σ H Q) : PE X e t' := fun pins s σ H Q I q => h pins s σ H Q I (i σ H Q q)
end
end L2
set_option Elab.async false
set_option linter.all false
set_option maxRecDepth 100000
set_option maxHeartbeats 4000000
namespace L2
open PySem PySem.Spec PyProof.Rows
section
variable {X : Cx} {pos : Pos}
noncomputable def intOf : Value → Int
  | .int i _ => i
  | _ => 0
noncomputable def rCountI : V → List V → Hp → VK → Prop := fun x vs H Q => ∃ (l : Addr) (ns : List Int) (k : Int), x = .ref l ∧ vs = [.int k] ∧ H l = some (.lst (ns.map V.int)) ∧ Q (.int (ns.countP (fun i => i == k) : Nat)) H
end
end L2
set_option Elab.async false
set_option linter.all false
set_option maxRecDepth 100000
set_option maxHeartbeats 4000000
namespace L2
open PySem PySem.Spec PyProof.Rows
section
variable {X : Cx} {pos : Pos}
theorem items_int : ∀ {us : List Value}, (∀ u ∈ us, ∃ i t, u = .int i t) → ∃ xs : List (Int × Tok), us = xs.map fun p => Value.int p.1 p.2
  | [], _ => ⟨[], rfl⟩
  | u :: us, h => by
    obtain ⟨xs, e⟩ := items_int fun x hx => h x (List.mem_cons_of_mem _ hx)
    obtain ⟨i, t, rfl⟩ := h u List.mem_cons_self
    exact ⟨(i, t) :: xs, by rw [e]; rfl⟩
noncomputable def rMinL : List V → Hp → VK → Prop := fun xs H Q => ∃ (l : Addr) (ns : List Int), xs = [.ref l] ∧ H l = some (.lst (ns.map V.int)) ∧ 0 < ns.length ∧ ∀ m, m ∈ ns → (∀ a ∈ ns, m ≤ a) → Q (.int m) H
end
section
variable {X : Cx}
noncomputable def rNeT (K : PySem.W.Frag) : R2 := fun x y H Q => ∃ ds es, Rep K H (.tup ds) x ∧ Rep K H (.tup es) y ∧ depL ds ≤ 100 ∧ Q (.bl (!eqDL ds es)) H
end
noncomputable def FR (lo : Int) (n : Nat) (g : TG) (tb : TS) (D : Ends) (σ : St) (H : Hp) : Prop := ∃ W : Nat → Nat → St → Hp → Prop, (∃ m, W 0 m σ H) ∧ ∀ i m σ H, W i m σ H →
      ((Itr lo n).stop i H ∧ D.nx σ H) ∨ ((Itr lo n).go i H ∧ ∃ N : St → Hp → Prop, (∀ σ' H', N σ' H' → ∃ m', m' < m ∧ W (i + 1) m' σ' H') ∧ ∀ x H', (Itr lo n).yld i H x H' → g x σ H' fun σ2 H2 => tb { D with nx := N, ct := N, bk := D.nx } σ2 H2)
end L2
set_option Elab.async false
set_option linter.all false
set_option maxRecDepth 100000
set_option maxHeartbeats 4000000
namespace L2
open PySem PySem.Spec PyProof.Rows
noncomputable def tCallC (X : Cx) (sp : Heap → Sp) (E : XK) (t : TA) : TE := fun σ H Q => t σ H fun vs H1 => ∀ b, CellsIn X σ b → sp b vs H1 Q E
section
variable {X : Cx} {CX : CXT} {k : Nat} {f : Addr} {fd : FuncData} {ps : List Str} {sp : Heap → Sp} {E : XK} {x : Str} {p pos : Pos} {e : Expr} {es : List Expr} {t : TA}
theorem pe_callC (F : ∀ b, FnOk X.prog X.w X.K X.mg b CX k f fd ps (sp b)) (hfn : ∀ x, X.fn x = true) (hr : Room k X.A) (hg : Gl X x) (hm : X.mg x = some (.ref f)) (hk : PySem.W.keepIn X.K (.ref f) = true) (hb : Binds X.K fd ps []) (hx : Passes CX X E)
    (ha : PA X (e :: es) t) (hdb : (x == ("__debug__" : Str)) = false := by decide) (he : starEach (e :: es) X.env = (false, eval e X.env) :: starEach es X.env := by rfl) (hpl : (backTo pos (starEach es X.env)).any (·.1) = false := by rfl) :
    PE X (.Call (.Name x p) (e :: es) [] pos) (tCallC X sp E t) := by
  intro pins s σ H Q I h
  refine wpAny_Call_Name_kw (ld_glob I hg hm ?_ hdb)
  refine PySem.W.callWith_K (h₀ := X.base) I.ok.mod.kin hk (thn (ha pos pins s σ H _ I h) fun us s1 ⟨vs, H1, I1, r, q⟩ => ⟨I1.kIn, ?_⟩) he hpl
  have e0 := I1.env0
  have q' := q (hidS s1.heap H1 (frs X.stack)) (I1.cellsIn hfn)
  have hl : us.length = ps.length := by rw [← r.length]; exact (F _).len _ _ _ _ q'
  have eb : Env0 X.prog X.w X.K X.mg (hidS s1.heap H1 (frs X.stack)) X.A X.stack s1 H1 :=
    ⟨e0.frames, e0.mod.keeps fun b o q => hidS_get (e0.bs b o q).1 (e0.bs b o q).2 (fun hm => by
      have z := (e0.funs.mem hm).1
      rw [q] at z; cases z), fun b o q => of_hidS q, Nat.le_of_eq (PySem.W.hideAll_size _ _), PySem.W.funFrames_hide e0.funs fun env he a ha => List.mem_append_right _ (List.mem_filterMap.mpr ⟨env, he, ha⟩), e0.frf, e0.hok, e0.bare⟩
  have bd := hb s1 us I1.kIn (by rw [List.append_nil]; exact hl)
  rw [List.append_nil] at bd
  refine wpAny_call (codeAny_mono ((F _).run X.A X.stack s1 H1 ⟨us, []⟩ us vs Q E hr eb bd r q') fun r s' hq => ?_)
  cases r with
  | error e => exact hx pins σ H1 s1 e s' I1 hq
  | ok fl =>
    cases fl with
    | ret u => exact I1.after hq
    | next => exact False.elim hq
    | brk => exact False.elim hq
    | cont => exact False.elim hq
end
end L2
set_option Elab.async false
set_option linter.all false
set_option maxRecDepth 100000
set_option maxHeartbeats 4000000
namespace PP
open PySem L2 MM
section
variable {P : Program} {w : World} {K : PySem.W.Frag} {mg : Str → Option Value} {base : Heap} {t1 : Tok} {cl : Cl} {f : Addr}
theorem Step.tab {a Pt : Addr} {q : Str} {H H1 : Hp} (st : StAt H a) (x : Step a H H1) (t : TabOk H Pt q) : TabOk H1 Pt q := t.kept fun b o e n => x.but b o (fun z => by
  obtain ⟨u, v, e', _⟩ := st
  rw [z, e'] at e
  cases e
  exact n _ rfl) e
noncomputable def qL : Str := ("law" : Str) ++ ".<locals>." ++ "<lambda>"
noncomputable def KX (Pt pc : Addr) (H H' : Hp) : Prop := ∀ b o, b ≠ Pt → b ≠ pc → H b = some o → H' b = some o
theorem KX.trans {Pt pc : Addr} {H H1 H2 : Hp} (a : KX Pt pc H H1) (b : KX Pt pc H1 H2) : KX Pt pc H H2 := fun c o h1 h2 e => b c o h1 h2 (a c o h1 h2 e)
noncomputable def Ty2 (K : PySem.W.Frag) (Pt pc : Addr) (H : Hp) (v : V) : Prop := (∃ n, TyOf K H v (.type n)) ∧ ∀ p, v = .ref p → p ≠ Pt ∧ p ≠ pc
theorem TyOf.keepK {K : PySem.W.Frag} {H H' : Hp} {v : V} {n : String} (ty : TyOf K H v (.type n)) (s : ∀ p o, v = .ref p → H p = some o → H' p = some o) : TyOf K H' v (.type n) := by
  cases ty with
  | non => exact .non
  | bl x => exact .bl x
  | int i => exact .int i
  | str x => exact .str x
  | flt x => exact .flt x
  | lst e => exact .lst (s _ _ rfl e)
  | frz e => exact .frz (s _ _ rfl e)
  | tup e => exact .tup (s _ _ rfl e)
  | dK e => exact .dK (s _ _ rfl e)
  | dT e => exact .dT (s _ _ rfl e)
theorem TyOf.has {K : PySem.W.Frag} {H : Hp} {p : Addr} {n : String} (ty : TyOf K H (.ref p) (.type n)) : ∃ o, H p = some o ∧ ∀ ps, o ≠ .tbl ps := by
  cases ty with
  | lst e => exact ⟨_, e, fun _ z => nomatch z⟩
  | frz e => exact ⟨_, e, fun _ z => nomatch z⟩
  | tup e => exact ⟨_, e, fun _ z => nomatch z⟩
  | dK e => exact ⟨_, e, fun _ z => nomatch z⟩
  | dT e => exact ⟨_, e, fun _ z => nomatch z⟩
theorem Ty2.keep {Pt pc : Addr} {H H' : Hp} {v : V} (h : Ty2 K Pt pc H v) (k : KX Pt pc H H') : Ty2 K Pt pc H' v := by
  obtain ⟨⟨n, ty⟩, ne⟩ := h
  exact ⟨⟨n, TyOf.keepK ty fun p o e q => k p o (ne p e).1 (ne p e).2 q⟩, ne⟩
structure Lm (Pt pc : Addr) (q : Str) (H : Hp) (fl : Addr) (fd : FuncData) (c' : Addr) : Prop where
  n1 : fl ≠ Pt
  n2 : fl ≠ pc
  n3 : c' ≠ Pt
  n4 : c' ≠ pc
  lam : H fl = some (LamO fl fd)
  cod : H c' = some (CodO c' q)
theorem Lm.keep {Pt pc : Addr} {q : Str} {H H' : Hp} {fl c' : Addr} {fd : FuncData} (h : Lm Pt pc q H fl fd c') (k : KX Pt pc H H') : Lm Pt pc q H' fl fd c' := ⟨h.n1, h.n2, h.n3, h.n4, k _ _ h.n1 h.n2 h.lam, k _ _ h.n3 h.n4 h.cod⟩
theorem Lm.of {Pt pc : Addr} {q : Str} {H : Hp} {fl c' : Addr} {fd : FuncData} (tb : TabOk H Pt q) (l : H fl = some (LamO fl fd)) (c : H c' = some (CodO c' q)) (np : fl ≠ pc) (nq : c' ≠ pc) : Lm Pt pc q H fl fd c' := by
  obtain ⟨ps, e3, _⟩ := tb
  refine ⟨fun z => ?_, np, fun z => ?_, nq, l, c⟩
  · rw [z, e3] at l; exact nomatch Option.some.inj l
  · rw [z, e3] at c; exact nomatch Option.some.inj c
theorem Lm.first {Pt pc : Addr} {q : Str} {H : Hp} {fl c' : Addr} {fd : FuncData} (tb : TabOk H Pt q) (l : H fl = some (LamO fl fd)) (c : H c' = some (CodO c' q)) (h : H pc = none) : Lm Pt pc q H fl fd c' := .of tb l c (ne_of_none l h) (ne_of_none c h)
theorem Lm.next {Pt pc : Addr} {q : Str} {H : Hp} {fl c' : Addr} {fd : FuncData} {xs : List V} (tb : TabOk H Pt q) (l : H fl = some (LamO fl fd)) (c : H c' = some (CodO c' q)) (h : H pc = some (.lst xs)) : Lm Pt pc q H fl fd c' :=
  .of tb l c (fun z => by rw [z, h] at l; exact nomatch Option.some.inj l) (fun z => by rw [z, h] at c; exact nomatch Option.some.inj c)
theorem word_of {X : Cx} {σ : St} {b : Heap} {M H' : Hp} {Pt pc fl c' C : Addr} {q qual : Str} {params : Arguments} {body : Expr} {sc : Scope} {pm ctv : Value} {i : Nat} {N : List Str} {js : List Nat} {vs : List V} {sp : Hp → VK → XK → Prop} {Q' : VK} (hc : CellsIn X σ b)
    (g : Lm Pt pc q M fl (PySem.W.kla_fn "<lambda>" qual params body sc (clOf sc X.env) pm (.ref c') ctv) c') (sm : Same M H') (W : WordC K cl C i) (hi : i = 0 ∨ i = 2) (hck : lamCk sc X.env.scope N X.N js = true) (hinj : (X.env.cells.map (·.2)).Nodup) (hhas : ∀ x, X.env.scope.names.lookup x = some .cell → ∃ c, X.env.cells.lookup x = some c)
    (hv : vs.length = js.length) (hσ : ∀ (i j : Nat) (v : V), js[i]? = some j → vs[i]? = some v → σ[j]? = some (some v)) (hp : ∀ pm cd ctv, bindArgs (PySem.W.kla_fn "<lambda>" qual params body sc (clOf sc X.env) pm cd ctv) ⟨[], []⟩ = pure [])
    (hbody : ∀ (A : Around) (outer : List Env) (s : Shared) (H : Hp) (Q : VK) (E : XK), Room 67 (A.deeper (PySem.W.envX qual sc s.heap.objs.size fl (.ref c') (clOf sc X.env))) → sp H Q E → ∃ t, PE (cxLam P w K mg b N qual sc fl (.ref c') (clOf sc X.env) A outer s H E) body t ∧ t (vs.map some) H Q)
    (hR : ∀ R : XK, R (.ref C) none H' → sp H' (fun _ _ => False) R) (hQ : ∀ H'', Same H' H'' → Q' (.str (wordOf i)) H'') (hq : qual = q) : spWord P w K mg cl b [.ref fl] H' Q' E0 := by
  subst hq
  obtain ⟨l1, l2, l3, l4⟩ := lam_facts hck hinj hhas hc hv hσ
  exact ⟨fl, _, _, C, i, rfl, sm _ _ g.lam, lam_ok l1 l2 l3 l4 hbody, lam_binds hp, W, hi, fun R h => ⟨rfl, sm _ _ g.lam, sm _ _ g.cod, hR R h⟩, hQ⟩
noncomputable def tDt (K : PySem.W.Frag) (d : Dt) : TE := fun _ H Q => ∀ v H', Same H H' → Rep K H' d v → Q v H'
noncomputable def tDs (K : PySem.W.Frag) (ds : List Dt) : TA := fun _ H Q => ∀ xs H', Same H H' → RepL K H' ds xs → Q xs H'
theorem star_tup {es r : List Expr} {x1} {pos : Pos} {env : Env} : starEach (.Tuple es x1 pos :: r) env = (false, eval (.Tuple es x1 pos) env) :: starEach r env := rfl
theorem star_con {c j} {r : List Expr} {pos : Pos} {env : Env} : starEach (.Constant c j pos :: r) env = (false, eval (.Constant c j pos) env) :: starEach r env := rfl
noncomputable def DA (X : Cx) (K : PySem.W.Frag) (es : List Expr) (ds : List Dt) : Prop := noLL ds = true ∧ PA X es (tDs K ds)
noncomputable def DE (X : Cx) (K : PySem.W.Frag) (e : Expr) (d : Dt) : Prop := noL d = true ∧ PE X e (tDt K d)
theorem DE.pe {X : Cx} {e : Expr} {d : Dt} (h : DE X K e d) : PE X e (tDt K d) := h.2
theorem da_nil {X : Cx} : DA X K [] [] := ⟨rfl, fun p a s σ H Q I h => pa_nil p a s σ H Q I (h [] H (Same.refl H) rfl)⟩
theorem da_cons {X : Cx} {e : Expr} {es : List Expr} {d : Dt} {ds : List Dt} (hd : DE X K e d) (hr : DA X K es ds) (hs : starEach (e :: es) X.env = (false, eval e X.env) :: starEach es X.env) : DA X K (e :: es) (d :: ds) :=
  ⟨by show (noL d && noLL ds) = true; rw [hd.1, hr.1]; rfl, fun p a s σ H Q I h =>
  pa_cons hd.2 hr.2 hs p a s σ H Q I (fun v H1 s1 r1 xs H2 s2 r2 => h (v :: xs) H2 (s1.trans s2) ⟨_, _, rfl, Rep.mono s2.tk _ hd.1 r1, r2⟩)⟩
theorem de_int {X : Cx} {i j pos} : DE X K (.Constant (.int i) j pos) (.int i) := ⟨rfl, fun a s σ H Q I h => pe_int a s σ H Q I (h _ H (Same.refl H) rfl)⟩
theorem de_str {X : Cx} {i j pos} : DE X K (.Constant (.str i) j pos) (.str i) := ⟨rfl, fun a s σ H Q I h => pe_str a s σ H Q I (h _ H (Same.refl H) rfl)⟩
theorem de_tup {X : Cx} {es : List Expr} {ds : List Dt} {x1} {pos : Pos} (l : ds.length ≤ 1000) (h : DA X K es ds) : DE X K (.Tuple es x1 pos) (.tup ds) := ⟨h.1, fun a s σ H Q I k =>
  pe_tup h.2 a s σ H Q I (fun xs H1 s1 r1 => ⟨small1000' (by rw [← r1.length]; exact l), fun p hp => k (.ref p) _ (fun b o e => keep (s1 _ _ e) hp) ⟨p, xs, rfl, SqT.of upd_same, RepL.mono (TK.new hp) _ h.1 r1⟩⟩)⟩
theorem de_two {X : Cx} {j x1 pos p1} : DE X K (.Tuple [.Constant (.str (Str.ofString "two")) j pos] x1 p1) (.tup [.str (Str.ofString "two")]) := de_tup (by decide) (da_cons de_str da_nil star_con)
theorem de_row {X : Cx} {a b : Int} {es : List Expr} {d : Dt} {j j2 pos pos2 x2 pos3 x1 p1} (h : DE X K (.Tuple es x2 pos3) d) : DE X K (.Tuple [.Constant (.int a) j pos, .Constant (.int b) j2 pos2, .Tuple es x2 pos3] x1 p1) (.tup [.int a, .int b, d]) := de_tup (by show 3 ≤ 1000; decide) (da_cons de_int (da_cons de_int (da_cons h da_nil star_tup) star_con) star_con)
theorem de_full {X : Cx} {a : Int} {es : List Expr} {ds : List Dt} {j j2 pos pos2 x2 pos3 x1 p1} (h : DA X K es ds) (l : ds.length ≤ 1000) : DE X K (.Tuple [.Constant (.str (Str.ofString "full")) j pos, .Constant (.int a) j2 pos2, .Tuple es x2 pos3] x1 p1) (.tup [.str (Str.ofString "full"), .int a, .tup ds]) := de_tup (by show 3 ≤ 1000; decide) (da_cons de_str (da_cons de_int (da_cons (de_tup l h) da_nil star_tup) star_con) star_con)
noncomputable abbrev sevenD : Dt := .tup [.str (Str.ofString "full"), .int 3, .tup [.tup [.int 2, .int 1, .tup [.str (Str.ofString "two")]], .tup [.int 3, .int 1, .tup [.str (Str.ofString "full"), .int 2, .tup [.tup [.int 2, .int 1, .tup [.str (Str.ofString "two")]]]]]]]
theorem pap7 : pap 30 7 = sevenD := by
  rw [pap_step (by decide) parts6, lroot7]
  show Dt.tup [_, _, .tup [.tup [.int 2, .int 1, pap 29 2], .tup [.int 3, .int 1, pap 29 3]]] = _
  rw [pap_two, pap_step (by decide) parts2, lroot3]
  show Dt.tup [_, _, .tup [.tup [.int 2, .int 1, _], .tup [.int 3, .int 1, .tup [_, _, .tup [.tup [.int 2, .int 1, pap 28 2]]]]]] = _
  rw [pap_two]
theorem dep_rows {k m : Nat} (h : ∀ p, L2.dep (pap k p) ≤ m) : ∀ l : List (Int × Int), depL (l.map (rowD k)) ≤ m + 1
  | [] => Nat.zero_le _
  | q :: r => by
    show max (max 0 (max 0 (max (L2.dep (pap k q.1)) 0)) + 1) (depL (r.map (rowD k))) ≤ m + 1
    have h1 := h q.1
    have h2 := dep_rows h r
    omega
theorem dep_pap : ∀ (k : Nat) (p : Int), L2.dep (pap k p) ≤ 3 * k + 1
  | 0, _ => Nat.le_refl _
  | k + 1, p => by
    rw [pap]
    split
    · show (1 : Nat) ≤ _
      omega
    · show max 0 (max 0 (max (depL ((pl (p - 1)).map (rowD k)) + 1) 0)) + 1 ≤ _
      have := dep_rows (dep_pap k) (pl (p - 1))
      omega
theorem okS_rows {k : Nat} : ∀ l : List (Int × Int), (∀ q ∈ l, okS (pap k q.1) = true) → okSL (l.map (rowD k)) = true
  | [], _ => rfl
  | q :: r, h => by
    show ((true && (true && (true && (okS (pap k q.1) && true)))) && okSL (r.map (rowD k))) = true
    rw [h q (List.mem_cons_self ..), okS_rows r fun x hx => h x (List.mem_cons_of_mem _ hx)]
    rfl
theorem okS_pap : ∀ (k : Nat) (p : Int), IsPr p → p ≤ 10 ^ 9 → okS (pap k p) = true
  | 0, _, _, _ => rfl
  | k + 1, p, hp, p9 => by
    have p2 := hp.1
    rw [pap]
    split
    · rfl
    · have hl : Parts (p - 1) (pl (p - 1)) := pl_ok (by omega)
      have len : (pl (p - 1)).length < 30 := parts_len hl.1.pr (by rw [hl.2]; omega)
      show (true && (true && (true && ((decide (((pl (p - 1)).map (rowD k)).length < 1000) && okSL ((pl (p - 1)).map (rowD k))) && true)))) = true
      rw [decide_eq_true (by rw [List.length_map]; omega), okS_rows _ fun q hq => okS_pap k q.1 (hl.1.pr q hq).1 (by have := (parts_le hl hq).1; omega)]
      rfl
noncomputable def dueD (n : Int) : Dt := if isPrB n then pap 30 n else .non
theorem dueD_pr {n : Int} (h : IsPr n) : dueD n = pap 30 n := by rw [dueD, isPrB_of h]; rfl
theorem dueD_no {n : Int} (h : ¬ IsPr n) : dueD n = .non := by rw [dueD, isPrB_not h]; rfl
theorem due_facts {n : Int} (h9 : n ≤ 10 ^ 9) : L2.dep (dueD n) ≤ 91 ∧ okS (dueD n) = true ∧ noL (dueD n) = true := by
  by_cases h : IsPr n
  · rw [dueD_pr h]
    exact ⟨dep_pap 30 n, okS_pap 30 n h h9, noL_pap 30 n⟩
  · rw [dueD_no h]
    exact ⟨Nat.zero_le _, rfl, rfl⟩
noncomputable def tDueN (i : Nat) (K : PySem.W.Frag) : TE := fun σ H Q => ∃ n : Int, σ[i]? = some (some (.int n)) ∧ n ≤ 1000000000 ∧ ∀ v H', Same H H' → Rep K H' (dueD n) v → Q v H'
theorem le30 {n : Int} (h : n ≤ 1000000000) : n ≤ 2 ^ 30 := by
  have : (2 : Int) ^ 30 = 1073741824 := by decide
  omega
theorem due_go {σ : St} {H H1 : Hp} {Q : VK} {n : Int} {i : Nat} {E : XK} (e : σ[i]? = some (some (.int n))) (h9 : n ≤ 1000000000) (S1 : Same H H1) (k : ∀ v H', Same H H' → Rep K H' (dueD n) v → Q v H') : if isPrB n = true then ∃ v, σ[i]? = some (some v) ∧ spFP 30 K [v] H1 Q E else Q .non H1 := by
  by_cases hp : IsPr n
  · rw [isPrB_of hp, if_pos rfl]
    exact ⟨_, e, n, rfl, ⟨hp, h9, le30 h9⟩, fun v H' S' R => k v H' (S1.trans S') (by rw [dueD_pr hp]; exact R)⟩
  · rw [isPrB_not hp, if_neg (by decide)]
    exact k .non H1 S1 (by rw [dueD_no hp]; rfl)
noncomputable abbrev s_law : Stmt := top 45
theorem sc_law : FnScope ["_law_script", "_law_k", "_law_state_here", "_law_prime_here", "_law_other", "_law_great", "_law_n", "_law_due", "_law_turn", "_law_none_here"] ["_law_script"] (defScope s_law) := ⟨rfl, rfl, rfl, by decide +kernel, rfl, by decide +kernel, by decide +kernel⟩
noncomputable abbrev Df_law (K : PySem.W.Frag) (mg : Str → Option Value) (f : Addr) (fd : FuncData) : Prop := Def K mg "law" s_law ["_law_script"] f fd
noncomputable def tail7 : Expr := match (defBody s_law).getD 1 (.Pass ⟨0, 0, 0, 0⟩) with
  | .Return (some (.Compare _ _ [b] _)) _ => b
  | _ => .Constant .none 0 ⟨0, 0, 0, 0⟩
theorem de_seven {X : Cx} : DE X K tail7 sevenD := de_full (da_cons (de_row de_two) (da_cons (de_row (de_full (da_cons (de_row de_two) da_nil star_tup) (by decide))) da_nil star_tup) star_tup) (by decide)
theorem pe_seven {X : Cx} : PE X tail7 (tDt K sevenD) := by
  have h := de_seven (K := K) (X := X)
  exact @DE.pe K X tail7 sevenD h
noncomputable abbrev OB_full_paper (P : Program) (w : World) (K : PySem.W.Frag) (mg : Str → Option Value) (cl : Cl) : Prop := ∃ f fd, Df_full_paper K mg f fd ∧ ∀ b, FnOk P w K mg b (CXE P w) 67 f fd ["n"] (spPaper K cl)
noncomputable abbrev OB_law_word (P : Program) (w : World) (K : PySem.W.Frag) (mg : Str → Option Value) (cl : Cl) : Prop := ∃ f fd, Df_law_word K mg f fd ∧ ∀ b, FnOk P w K mg b CX0 69 f fd ["_law_call"] (spWord P w K mg cl b)
noncomputable abbrev O_law_same (P : Program) (w : World) (K : PySem.W.Frag) (mg : Str → Option Value) (base : Heap) : Prop := ∃ f fd, Df_law_same K mg f fd ∧ FnOk P w K mg base CX0 92 f fd ["_law_found", "_law_due"] (spSameD 91 K)
noncomputable def spLaw (K : PySem.W.Frag) (Pt : Addr) : Sp := fun vs H Q _ => ∃ (a : Addr) (ns : List Int), vs = [.ref a] ∧ SqL K H a (ns.map V.int) ∧ ns.length ≤ 63 ∧ H Pt = some (.tbl #[]) ∧ ∀ H', Q (.bl true) H'
theorem ok_law {c Pt : Addr} {oc kV doc pm ct : Value} {od an : Option Addr} {osl : Array (Option Value)}
    (lk : K.lookup f = some ⟨oc, od, .func (PySem.W.fnOf "law" "law" (defArgs s_law) (defBody s_law) (defScope s_law) .none kV doc pm an (.ref c) ct), osl⟩) (hcd : PySem.W.codeIn K (.ref c) "law" = true) (hd : PySem.W.CodeHd base c Pt) (bm : base.BuiltinsAt mg Pt)
    (T : Txt K mg t1 cl) (W0 : WordC K cl cl.nn 0) (o1 : O_law_state P w K mg base) (o2 : O_law_prime P w K mg base) (o3 : O_law_least P w K mg base) (o4 : O_law_take P w K mg base) (o5 : O_law_same P w K mg base) (o6 : O_law_is_prime P w K mg base) (o8 : O_law_none P w K mg base)
    (o9 : OB_full_paper P w K mg cl) (o11 : OB_law_word P w K mg cl) : FnOk P w K mg base CX0 94 f (PySem.W.fnOf "law" "law" (defArgs s_law) (defBody s_law) (defScope s_law) .none kV doc pm an (.ref c) ct) ["_law_script"] (spLaw K Pt) := by
  obtain ⟨_, _, D_law_state, G_law_state⟩ := o1
  obtain ⟨_, _, D_law_prime, G_law_prime⟩ := o2
  obtain ⟨_, _, D_law_least, G_law_least⟩ := o3
  obtain ⟨_, _, D_law_take, G_law_take⟩ := o4
  obtain ⟨_, _, D_law_same, G_law_same⟩ := o5
  obtain ⟨_, _, D_law_is_prime, G_law_is_prime⟩ := o6
  obtain ⟨_, _, D_law_none, G_law_none⟩ := o8
  obtain ⟨_, _, D_full_paper, B_full_paper⟩ := o9
  obtain ⟨_, _, D_law_word, B_law_word⟩ := o11
  have G_full_paper := B_full_paper base
  refine fn_okC lk hcd sc_law (fun vs H Q E h => ?_) (fun A outer s H vs Q E hr h => ?_)
  · obtain ⟨a, ns, rfl, _⟩ := h
    rfl
  · obtain ⟨sa, ns, rfl, hS, hlen, hT, k⟩ := h
    refine ⟨_, (pss_cons (ps_for PassesOwn.never rfl (pi_range1 rfl T.no_range (pa_cons (pe_callB (call_max2 rfl) (by rfl) T.no_max PyProof.Rows.boot_max (pa_cons pe_int (pa_cons (pe_callB (call_min2 rfl) (by rfl) T.no_min PyProof.Rows.boot_min (pa_cons (pe_callB call_len_seq (by rfl) T.no_len PySem.boot_len (pa_cons (pv 0) pa_nil)) (pa_cons pe_int pa_nil))) pa_nil))) pa_nil)) (pg_name (i := 1) sc_law.nd rfl (by first | exact Or.inl rfl | exact Or.inr rfl))
 (pss_cons (ps_set (i := 2) sc_law.nd rfl (by first | exact Or.inl rfl | exact Or.inr rfl) (pe_call (G_law_state.mono (by decide)) hr rfl D_law_state.mgx D_law_state.fn.kp D_law_state.bd .nil pass0 (pa_cons (pv 0) (pa_cons (pv 1) pa_nil))))
 (pss_cons (ps_par (i := 3) (j := 4) rfl sc_law.nd rfl rfl (by decide) rfl rfl (pa_cons (pe_call (G_law_prime.mono (by decide)) hr rfl D_law_prime.mgx D_law_prime.fn.kp D_law_prime.bd .nil pass0 (pa_cons (pv 2) (pa_cons pe_int pa_nil))) (pa_cons (pe_call (G_law_prime.mono (by decide)) hr rfl D_law_prime.mgx D_law_prime.fn.kp D_law_prime.bd .nil pass0 (pa_cons (pv 2) (pa_cons (pe_ix ix_list (pe_lst (pa_cons pe_int (pa_cons pe_int pa_nil))) (pe_call (G_law_take.mono (by decide)) hr rfl D_law_take.mgx D_law_take.fn.kp D_law_take.bd .nil pass0 (pa_cons (pv 2) (pa_cons pe_int pa_nil))) (fun _ _ => rfl)) pa_nil))) pa_nil)) (by first | rfl | with_unfolding_all rfl))
 (pss_cons (ps_set (i := 5) sc_law.nd rfl (by first | exact Or.inl rfl | exact Or.inr rfl) (pe_call (G_law_prime.mono (by decide)) hr rfl D_law_prime.mgx D_law_prime.fn.kp D_law_prime.bd .nil pass0 (pa_cons (pv 2) (pa_cons (pe_op op_sub (pe_op op_pow pe_int pe_int) pe_int) pa_nil))))
 (pss_cons (ps_for PassesOwn.never rfl (pi_list (pe_lst (pa_cons (pv 3) (pa_cons (pv 5) (pa_cons (pv 4) (pa_cons (pe_op op_mulB (pv 3) (pv 4)) (pa_cons (pe_op op_mulB (pv 3) (pv 3)) (pa_cons pe_int (pa_cons pe_int (pa_cons (pe_op op_add pe_int (pe_call (G_law_take.mono (by decide)) hr rfl D_law_take.mgx D_law_take.fn.kp D_law_take.bd .nil pass0 (pa_cons (pv 2) (pa_cons pe_int pa_nil)))) pa_nil)))))))))) (pg_name (i := 6) sc_law.nd rfl (by first | exact Or.inl rfl | exact Or.inr rfl))
 (pss_one (ps_if (pt_cmpR op_le (pv 6) (pe_op op_pow pe_int pe_int) (nomark _))
 (pss_cons (ps_set (i := 7) sc_law.nd rfl (by first | exact Or.inl rfl | exact Or.inr rfl) (pe_imp (t' := (tDueN 6 K)) (pe_ifExp (pt_val (pe_call (G_law_is_prime.mono (by decide)) hr rfl D_law_is_prime.mgx D_law_is_prime.fn.kp D_law_is_prime.bd .nil pass0 (pa_cons (pv 6) pa_nil))) (pe_call (G_law_least.mono (by decide)) hr rfl D_law_least.mgx D_law_least.fn.kp D_law_least.bd .nil pass0 (pa_cons (pv 6) pa_nil)) pe_non) (by rintro σ H Q ⟨n, e, h9, k⟩; refine ⟨_, e, n, rfl, h9, fun H1 S1 => ⟨_, rfl, ?_⟩⟩; exact due_go (E := E0) e h9 S1 k)))
 (pss_one (ps_for PassesOwn.never rfl (pi_range1 rfl T.no_range (pa_cons pe_int pa_nil)) (pg_name (i := 8) sc_law.nd rfl (by first | exact Or.inl rfl | exact Or.inr rfl))
 (pss_one (ps_if (pt_not (pt_val (pe_call (G_law_same.mono (by decide)) hr rfl D_law_same.mgx D_law_same.fn.kp D_law_same.bd .nil pass0 (pa_cons (pe_call (G_full_paper.mono (by decide)) hr rfl D_full_paper.mgx D_full_paper.fn.kp D_full_paper.bd .nil passE0 (pa_cons (pv 6) pa_nil)) (pa_cons (pv 7) pa_nil)))))
 (pss_one (ps_ret pe_bl))
 pss_nil)))))
 pss_nil)))
 (pss_cons (ps_set (i := 9) sc_law.nd rfl (by first | exact Or.inl rfl | exact Or.inr rfl) (pe_call (G_law_none.mono (by decide)) hr rfl D_law_none.mgx D_law_none.fn.kp D_law_none.bd .nil pass0 (pa_cons (pv 2) (pa_cons pe_int (pa_cons (pe_op op_pow pe_int pe_int) pa_nil)))))
 (pss_one (ps_if (pt_cmpR op_ne (pe_callC (fun b => (B_law_word b).mono (by decide)) (fun _ => rfl) hr rfl D_law_word.mgx D_law_word.fn.kp D_law_word.bd pass0 (pa_cons (pe_lamD (N := ["_law_none_here"]) (js := [9]) ⟨rfl, hd, bm⟩ (by rfl) rfl) pa_nil)) pe_str (nomark _))
 (pss_one (ps_ret pe_bl))
 pss_nil))))))))
 (pss_one (ps_ret (pe_cmpR (op_eqS (hu150 hr)) (pe_call (G_full_paper.mono (by decide)) hr rfl D_full_paper.mgx D_full_paper.fn.kp D_full_paper.bd .nil passE0 (pa_cons pe_int pa_nil)) (@pe_seven K _) (nomark _))))), ?_⟩
    have e0 : L2.start ["_law_script", "_law_k", "_law_state_here", "_law_prime_here", "_law_other", "_law_great", "_law_n", "_law_due", "_law_turn", "_law_none_here"] [.ref sa] = [some (.ref sa), none, none, none, none, none, none, none, none, none] := rfl
    rw [e0]; clear e0
    simp only [tSeq, tIfS, tTest, tRet, tRetN, tNext, tDrop, tAsg, tPar, tPar3, tAug, tVar, tC, tOp, tUn, rI, rI0, rU, tB, tAnd, tOr, tNot, tAndV, tOrV, tNotV, tIf, gName, gNil, gCons, gTup, gSub, tCB, tCons, tNil, tCall, tChain, ipI, tIsN, tNotN, tBM, tyV, tTup, tLst, rAppend, rCat, scal_ii, scal_bb, scal_ss, scal_ni, scal_in, rEq, rNe, List.getElem?_cons_zero, List.getElem?_cons_succ, List.set_cons_zero, List.set_cons_succ, eq_self, and_assoc, Option.some.injEq, V.int.injEq, V.bl.injEq, V.ref.injEq, V.str.injEq, List.cons.injEq, exists_eq_left', exists_eq_left, exists_and_left, List.nil_append, List.cons_append, List.append_nil, true_and, and_true, decide_eq_true_eq, Bool.not_eq_true', decide_eq_false_iff_not, if_true, if_false, Bool.not_true, Bool.not_false, Bool.false_eq_true, reduceCtorEq, decide_true, decide_false, ite_true, ite_false, rSetL, rIxL, tRaise, jCons, jNil, tFmt, tDNew, rCount, rIndex, tCont, tBreak, Int.reduceToNat, Int.reducePow]
    obtain ⟨WI, hWI⟩ : ∃ WI : Nat → St → Hp → Prop, ∀ i σ H', WI i σ H' ↔ SameX Pt H H' ∧ TabOk H' Pt qL ∧ ∃ v1 v2 v3 v4 v5 v6 v7 v8 v9, σ = [some (.ref sa), v1, v2, v3, v4, v5, v6, v7, v8, v9] := ⟨_, fun _ _ _ => Iff.rfl⟩
    refine ⟨_, rfl, sa, rfl, _, .inl hS, _, _, rfl, _, _, rfl, _, rfl, ?_, ?_, for_range WI ((hWI _ _ _).mpr ⟨SameX.refl _ _, tabOk_new hT, none, none, none, none, none, none, none, none, none, rfl⟩) ?_ ?_⟩
    · rw [List.length_map]; repeat' split
      all_goals omega
    · rw [List.length_map]; repeat' split
      all_goals omega
    · intro i σ H1 hi hw
      obtain ⟨S, TB, v1, v2, v3, v4, v5, v6, v7, v8, v9, rfl⟩ := (hWI _ _ _).mp hw
      clear hw
      simp only [tSeq, tIfS, tTest, tRet, tRetN, tNext, tDrop, tAsg, tPar, tPar3, tAug, tVar, tC, tOp, tUn, rI, rI0, rU, tB, tAnd, tOr, tNot, tAndV, tOrV, tNotV, tIf, gName, gNil, gCons, gTup, gSub, tCB, tCons, tNil, tCall, tChain, ipI, tIsN, tNotN, tBM, tyV, tTup, tLst, rAppend, rCat, scal_ii, scal_bb, scal_ss, scal_ni, scal_in, rEq, rNe, List.getElem?_cons_zero, List.getElem?_cons_succ, List.set_cons_zero, List.set_cons_succ, eq_self, and_assoc, Option.some.injEq, V.int.injEq, V.bl.injEq, V.ref.injEq, V.str.injEq, List.cons.injEq, exists_eq_left', exists_eq_left, exists_and_left, List.nil_append, List.cons_append, List.append_nil, true_and, and_true, decide_eq_true_eq, Bool.not_eq_true', decide_eq_false_iff_not, if_true, if_false, Bool.not_true, Bool.not_false, Bool.false_eq_true, reduceCtorEq, decide_true, decide_false, ite_true, ite_false, rSetL, rIxL, tRaise, jCons, jNil, tFmt, tDNew, rCount, rIndex, tCont, tBreak, Int.reduceToNat, Int.reducePow]
      refine ⟨sa, ns, _, rfl, S.seq hT hS, hlen, by omega, fun a x y y0 y1 ha => ?_⟩
      simp only [tSeq, tIfS, tTest, tRet, tRetN, tNext, tDrop, tAsg, tPar, tPar3, tAug, tVar, tC, tOp, tUn, rI, rI0, rU, tB, tAnd, tOr, tNot, tAndV, tOrV, tNotV, tIf, gName, gNil, gCons, gTup, gSub, tCB, tCons, tNil, tCall, tChain, ipI, tIsN, tNotN, tBM, tyV, tTup, tLst, rAppend, rCat, scal_ii, scal_bb, scal_ss, scal_ni, scal_in, rEq, rNe, List.getElem?_cons_zero, List.getElem?_cons_succ, List.set_cons_zero, List.set_cons_succ, eq_self, and_assoc, Option.some.injEq, V.int.injEq, V.bl.injEq, V.ref.injEq, V.str.injEq, List.cons.injEq, exists_eq_left', exists_eq_left, exists_and_left, List.nil_append, List.cons_append, List.append_nil, true_and, and_true, decide_eq_true_eq, Bool.not_eq_true', decide_eq_false_iff_not, if_true, if_false, Bool.not_true, Bool.not_false, Bool.false_eq_true, reduceCtorEq, decide_true, decide_false, ite_true, ite_false, rSetL, rIxL, tRaise, jCons, jNil, tFmt, tDNew, rCount, rIndex, tCont, tBreak, Int.reduceToNat, Int.reducePow]
      have nb : ∀ b o, b ≠ Pt → H b = some o → b ≠ a := fun b o hb e => ne_of_none (S b o hb e) ha
      have S0 : SameX Pt H (upd H1 a (.lst [.int x, .int y])) := fun b o hb e => by rw [upd_ne (nb b o hb e)]; exact S b o hb e
      have TB0 : TabOk (upd H1 a (.lst [.int x, .int y])) Pt qL := TB.same fun b o e => by rw [upd_ne (ne_of_none e ha)]; exact e
      have st0 : StAt (upd H1 a (.lst [.int x, .int y])) a := ⟨x, y, upd_same, y0, y1⟩
      generalize upd H1 a (.lst [.int x, .int y]) = H2 at S0 TB0 st0 ⊢
      refine ⟨a, _, 30011, rfl, ⟨by decide, pr_30011, by decide, by decide⟩, st0, fun ph H3 ph1 ph2 T1 => ⟨by show 2 ≤ sizeLine; decide, fun l0 hl0 => ?_⟩⟩
      have sl0 : Same H3 (upd H3 l0 (.lst [.int 40, .int 30000])) := fun b o e => keep e hl0
      have al0 : l0 ≠ a := fun z => by
        obtain ⟨u, v, e', _⟩ := T1.st
        rw [z, e'] at hl0
        cases hl0
      refine ⟨a, _, rfl, ⟨by decide, by decide⟩, (T1.same sl0).st, fun r H4 r0 r1 T2 => ?_⟩
      obtain ⟨m, hm, m1, m2⟩ : ∃ m : Int, atI [V.int 40, V.int 30000] r = some (.int m) ∧ 0 < m ∧ m + 1 ≤ 30011 := by
        rcases (by omega : r = 0 ∨ r = 1) with rfl | rfl
        · exact ⟨40, rfl, by decide, by decide⟩
        · exact ⟨30000, rfl, by decide, by decide⟩
      refine ⟨_, r, rfl, SqL.of (T2.but _ _ al0 upd_same), _, hm, a, m, 30011, rfl, ⟨m1, pr_30011, m2, by decide⟩, T2.st, fun ot H5 ot1 ot2 T3 => ?_⟩
      refine ⟨⟨by decide, by decide, by decide⟩, a, _, 999999937, rfl, ⟨by decide, pr_big, by decide, by decide⟩, T3.st, fun gr H6 gr1 gr2 T4 => ?_⟩
      have T6 : Step a H2 H6 := ((T1.same sl0).trans T2).trans (T3.trans T4)
      clear T1 T2 T3 T4 sl0 al0 hl0
      have p2 := ph1.1
      have o2 := ot1.1
      have g2 := gr1.1
      simp only [tSeq, tIfS, tTest, tRet, tRetN, tNext, tDrop, tAsg, tPar, tPar3, tAug, tVar, tC, tOp, tUn, rI, rI0, rU, tB, tAnd, tOr, tNot, tAndV, tOrV, tNotV, tIf, gName, gNil, gCons, gTup, gSub, tCB, tCons, tNil, tCall, tChain, ipI, tIsN, tNotN, tBM, tyV, tTup, tLst, rAppend, rCat, scal_ii, scal_bb, scal_ss, scal_ni, scal_in, rEq, rNe, List.getElem?_cons_zero, List.getElem?_cons_succ, List.set_cons_zero, List.set_cons_succ, eq_self, and_assoc, Option.some.injEq, V.int.injEq, V.bl.injEq, V.ref.injEq, V.str.injEq, List.cons.injEq, exists_eq_left', exists_eq_left, exists_and_left, List.nil_append, List.cons_append, List.append_nil, true_and, and_true, decide_eq_true_eq, Bool.not_eq_true', decide_eq_false_iff_not, if_true, if_false, Bool.not_true, Bool.not_false, Bool.false_eq_true, reduceCtorEq, decide_true, decide_false, ite_true, ite_false, rSetL, rIxL, tRaise, jCons, jNil, tFmt, tDNew, rCount, rIndex, tCont, tBreak, Int.reduceToNat, Int.reducePow]
      refine ⟨_, rfl, _, rfl, _, rfl, _, rfl, _, rfl, ph, ot, rfl, rfl, .inr ⟨by omega, by omega⟩, _, rfl, _, rfl, ph, ph, rfl, rfl, .inr ⟨by omega, by omega⟩, _, rfl, a, _, rfl, ⟨by decide, by decide⟩, T6.st, fun e8 H7 e0 e1 T7 => ⟨1, e8, rfl, rfl, by show 8 ≤ sizeLine; decide, fun L hL => ?_⟩⟩
      have eL : (upd H7 L (.lst [.int ph, .int gr, .int ot, .int (ph * ot), .int (ph * ph), .int 1, .int 2, .int (1 + e8)])) L = some (.lst ([ph, gr, ot, ph * ot, ph * ph, 1, 2, 1 + e8].map V.int)) := upd_same
      have sL : Same H7 (upd H7 L (.lst [.int ph, .int gr, .int ot, .int (ph * ot), .int (ph * ph), .int 1, .int 2, .int (1 + e8)])) := fun b o e => keep e hL
      generalize (upd H7 L (.lst [.int ph, .int gr, .int ot, .int (ph * ot), .int (ph * ph), .int 1, .int 2, .int (1 + e8)])) = HC at eL sL ⊢
      have T8 : Step a H2 HC := (T6.trans T7).same sL
      clear T6 T7 sL hL
      have pos : ∀ n ∈ [ph, gr, ot, ph * ot, ph * ph, 1, 2, 1 + e8], 1 ≤ n := by
        have q1 := Int.mul_le_mul (show 1 ≤ ph by omega) (show 1 ≤ ot by omega) (by omega) (by omega)
        have q2 := Int.mul_le_mul (show 1 ≤ ph by omega) (show 1 ≤ ph by omega) (by omega) (by omega)
        intro n hn
        simp only [List.mem_cons, List.not_mem_nil, or_false] at hn
        rcases hn with rfl | rfl | rfl | rfl | rfl | rfl | rfl | rfl <;> omega
      generalize [ph, gr, ot, ph * ot, ph * ph, 1, 2, 1 + e8] = ls at eL pos
      obtain ⟨WJ, hWJ⟩ : ∃ WJ : Nat → St → Hp → Prop, ∀ j σ H', WJ j σ H' ↔ Same HC H' ∧ ∃ u6 u7 u8, σ = [some (.ref sa), some (.int (0 + (i : Int))), some (.ref a), some (.int ph), some (.int ot), some (.int gr), u6, u7, u8, v9] := ⟨_, fun _ _ _ => Iff.rfl⟩
      refine ⟨L, rfl, ⟨_, SqL.of eL⟩, for_list (xs := ls.map V.int) WJ ((hWJ _ _ _).mpr ⟨fun _ _ e => e, _, _, _, rfl⟩) (fun _ _ _ _ h => SqL.of (((hWJ _ _ _).mp h).1 _ _ eL)) ?_ ?_⟩
      · intro j x σ H' hx hw
        obtain ⟨sx, u6, u7, u8, rfl⟩ := (hWJ _ _ _).mp hw
        clear hw
        rw [List.getElem?_map] at hx
        obtain ⟨n, hn, rfl⟩ := Option.map_eq_some_iff.mp hx
        have n1 := pos n (List.mem_of_getElem? hn)
        simp only [tSeq, tIfS, tTest, tRet, tRetN, tNext, tDrop, tAsg, tPar, tPar3, tAug, tVar, tC, tOp, tUn, rI, rI0, rU, tB, tAnd, tOr, tNot, tAndV, tOrV, tNotV, tIf, gName, gNil, gCons, gTup, gSub, tCB, tCons, tNil, tCall, tChain, ipI, tIsN, tNotN, tBM, tyV, tTup, tLst, rAppend, rCat, scal_ii, scal_bb, scal_ss, scal_ni, scal_in, rEq, rNe, List.getElem?_cons_zero, List.getElem?_cons_succ, List.set_cons_zero, List.set_cons_succ, eq_self, and_assoc, Option.some.injEq, V.int.injEq, V.bl.injEq, V.ref.injEq, V.str.injEq, List.cons.injEq, exists_eq_left', exists_eq_left, exists_and_left, List.nil_append, List.cons_append, List.append_nil, true_and, and_true, decide_eq_true_eq, Bool.not_eq_true', decide_eq_false_iff_not, if_true, if_false, Bool.not_true, Bool.not_false, Bool.false_eq_true, reduceCtorEq, decide_true, decide_false, ite_true, ite_false, rSetL, rIxL, tRaise, jCons, jNil, tFmt, tDNew, rCount, rIndex, tCont, tBreak, Int.reduceToNat, Int.reducePow]
        refine ⟨⟨by decide, by decide, by decide⟩, ?_⟩
        refine ite2 (fun h9 => ?_) (fun h9 => ?_)
        · refine ⟨n, rfl, h9, fun due HD SD RD => ?_⟩
          obtain ⟨d1, d2, d3⟩ := due_facts (n := n) h9
          obtain ⟨WK, hWK⟩ : ∃ WK : Nat → St → Hp → Prop, ∀ j σ H', WK j σ H' ↔ Same HD H' ∧ ∃ u8, σ = [some (.ref sa), some (.int (0 + (i : Int))), some (.ref a), some (.int ph), some (.int ot), some (.int gr), some (.int n), some due, u8, v9] := ⟨_, fun _ _ _ => Iff.rfl⟩
          refine ⟨_, rfl, by decide, by decide, for_range WK ((hWK _ _ _).mpr ⟨fun _ _ e => e, _, rfl⟩) ?_ ?_⟩
          · intro j2 σ H4 hj hw
            obtain ⟨s4, w8, rfl⟩ := (hWK _ _ _).mp hw
            clear hw
            simp only [tSeq, tIfS, tTest, tRet, tRetN, tNext, tDrop, tAsg, tPar, tPar3, tAug, tVar, tC, tOp, tUn, rI, rI0, rU, tB, tAnd, tOr, tNot, tAndV, tOrV, tNotV, tIf, gName, gNil, gCons, gTup, gSub, tCB, tCons, tNil, tCall, tChain, ipI, tIsN, tNotN, tBM, tyV, tTup, tLst, rAppend, rCat, scal_ii, scal_bb, scal_ss, scal_ni, scal_in, rEq, rNe, List.getElem?_cons_zero, List.getElem?_cons_succ, List.set_cons_zero, List.set_cons_succ, eq_self, and_assoc, Option.some.injEq, V.int.injEq, V.bl.injEq, V.ref.injEq, V.str.injEq, List.cons.injEq, exists_eq_left', exists_eq_left, exists_and_left, List.nil_append, List.cons_append, List.append_nil, true_and, and_true, decide_eq_true_eq, Bool.not_eq_true', decide_eq_false_iff_not, if_true, if_false, Bool.not_true, Bool.not_false, Bool.false_eq_true, reduceCtorEq, decide_true, decide_false, ite_true, ite_false, rSetL, rIxL, tRaise, jCons, jNil, tFmt, tDNew, rCount, rIndex, tCont, tBreak, Int.reduceToNat, Int.reducePow]
            have same : ∀ v H5, Same H4 H5 → Rep K H5 (dueD n) v → spSameD 91 K [v, due] H5 (fun x H6 => ∃ c, x = V.bl c ∧ if c = false then Q (V.bl false) H6 else WK (j2 + 1) [some (.ref sa), some (.int (0 + (i : Int))), some (.ref a), some (.int ph), some (.int ot), some (.int gr), some (.int n), some due, some (.int (0 + (j2 : Int))), v9] H6) E0 := fun v H5 s5 r5 => ⟨v, due, _, rfl, r5, Rep.mono (s4.trans s5).tk _ d3 RD, d1, d2, d3, fun H6 s6 => ⟨true, rfl, by rw [if_neg (by decide)]; exact (hWK _ _ _).mpr ⟨(s4.trans s5).trans s6, _, rfl⟩⟩⟩
            refine ⟨.int n, _, rfl, .int _, fun h => (by rw [isBet_of n1 h9] at h; cases h), fun n' en _ _ => ?_⟩
            cases en
            exact ⟨fun hp H5 s5 => same .non H5 s5 (by rw [dueD_no hp]; rfl), fun hp v H5 s5 r => same v H5 s5 (by rw [dueD_pr hp]; exact r)⟩
          · intro σ H4 hw
            obtain ⟨s4, w8, rfl⟩ := (hWK _ _ _).mp hw
            exact (hWJ _ _ _).mpr ⟨(sx.trans SD).trans s4, _, _, _, rfl⟩
        · exact (hWJ _ _ _).mpr ⟨sx, _, _, _, rfl⟩
      · intro σ H' hw
        obtain ⟨sx, u6, u7, u8, rfl⟩ := (hWJ _ _ _).mp hw
        clear hw
        simp only [tSeq, tIfS, tTest, tRet, tRetN, tNext, tDrop, tAsg, tPar, tPar3, tAug, tVar, tC, tOp, tUn, rI, rI0, rU, tB, tAnd, tOr, tNot, tAndV, tOrV, tNotV, tIf, gName, gNil, gCons, gTup, gSub, tCB, tCons, tNil, tCall, tChain, ipI, tIsN, tNotN, tBM, tyV, tTup, tLst, rAppend, rCat, scal_ii, scal_bb, scal_ss, scal_ni, scal_in, rEq, rNe, List.getElem?_cons_zero, List.getElem?_cons_succ, List.set_cons_zero, List.set_cons_succ, eq_self, and_assoc, Option.some.injEq, V.int.injEq, V.bl.injEq, V.ref.injEq, V.str.injEq, List.cons.injEq, exists_eq_left', exists_eq_left, exists_and_left, List.nil_append, List.cons_append, List.append_nil, true_and, and_true, decide_eq_true_eq, Bool.not_eq_true', decide_eq_false_iff_not, if_true, if_false, Bool.not_true, Bool.not_false, Bool.false_eq_true, reduceCtorEq, decide_true, decide_false, ite_true, ite_false, rSetL, rIxL, tRaise, jCons, jNil, tFmt, tDNew, rCount, rIndex, tCont, tBreak, Int.reduceToNat, Int.reducePow]
        have T9 : Step a H2 H' := T8.same sx
        refine ⟨⟨by decide, by decide, by decide⟩, a, _, _, rfl, ⟨by decide, by decide, by decide⟩, T9.st, fun non HN TN yN bN => ?_⟩
        have TB3 : TabOk HN Pt qL := (T9.trans TN).tab st0 TB0
        refine ⟨TB3, fun f1 c1 ct1 M1 hf1 sx1 tb1 lam1 cod1 b hc => ?_⟩
        have f1P : f1 ≠ Pt := fun z => by
          obtain ⟨ps, e3, _⟩ := tb1
          rw [z, e3] at lam1
          exact nomatch Option.some.inj lam1
        have c1P : c1 ≠ Pt := fun z => by
          obtain ⟨ps, e3, _⟩ := tb1
          rw [z, e3] at cod1
          exact nomatch Option.some.inj cod1
        have g1 : Lm Pt Pt qL M1 f1 _ c1 := ⟨f1P, f1P, c1P, c1P, lam1, cod1⟩
        obtain ⟨⟨nm', ty⟩, _⟩ := yN
        have nP : ∀ p, non = .ref p → p ≠ Pt := fun p e z => by
          subst e
          obtain ⟨o, e1, e2⟩ := TyOf.has ty
          obtain ⟨ps, e3, _⟩ := TB3
          rw [z, e3] at e1
          cases e1
          exact e2 _ rfl
        have tyN : TyOf K M1 non (.type nm') := TyOf.keepK ty fun p o e q => sx1 p o (nP p e) q
        refine word_of hc g1 (Same.refl M1) W0 (.inl rfl) (N := ["_law_none_here"]) (js := [9]) (vs := [non]) rfl (cells_nodup _ _ [] (by simp) (by simp)) (fun x hx => cell_has hx) rfl (fun i j v e1 e2 => match i, e1, e2 with | 0, e1, e2 => by cases e1; cases e2; rfl | _ + 1, e1, _ => by cases e1) (fun _ _ _ => rfl) (sp := fun H Q E => spPaper K cl [non] H Q E) (fun A outer s H Q E hr hsp => ⟨_, (pe_call ((B_full_paper b).mono (by decide)) hr rfl D_full_paper.mgx D_full_paper.fn.kp D_full_paper.bd .nil (passes_lam (fun _ _ _ h => h)) (pa_cons (pv 0) pa_nil)), ⟨_, rfl, hsp⟩⟩) (fun R hR => ?_) (fun H'' s2' => ?_) rfl
        · exact ⟨non, _, rfl, tyN, fun _ => hR, fun n' en h1 h2 => by rw [en, isBet_of h1 h2] at bN; cases bN⟩
        · refine ⟨rfl, ?_⟩
          rw [if_neg (fun h => h rfl)]
          exact (hWI _ _ _).mpr ⟨fun b o hb e => s2' b o (sx1 b o hb ((T9.trans TN).but b o (nb b o hb e) (S0 b o hb e))), tb1.same s2', _, _, _, _, _, _, _, _, _, rfl⟩
    · intro σ H1 hw
      obtain ⟨S, TB, v1, v2, v3, v4, v5, v6, v7, v8, v9, rfl⟩ := (hWI _ _ _).mp hw
      clear hw
      simp only [tSeq, tIfS, tTest, tRet, tRetN, tNext, tDrop, tAsg, tPar, tPar3, tAug, tVar, tC, tOp, tUn, rI, rI0, rU, tB, tAnd, tOr, tNot, tAndV, tOrV, tNotV, tIf, gName, gNil, gCons, gTup, gSub, tCB, tCons, tNil, tCall, tChain, ipI, tIsN, tNotN, tBM, tyV, tTup, tLst, rAppend, rCat, scal_ii, scal_bb, scal_ss, scal_ni, scal_in, rEq, rNe, List.getElem?_cons_zero, List.getElem?_cons_succ, List.set_cons_zero, List.set_cons_succ, eq_self, and_assoc, Option.some.injEq, V.int.injEq, V.bl.injEq, V.ref.injEq, V.str.injEq, List.cons.injEq, exists_eq_left', exists_eq_left, exists_and_left, List.nil_append, List.cons_append, List.append_nil, true_and, and_true, decide_eq_true_eq, Bool.not_eq_true', decide_eq_false_iff_not, if_true, if_false, Bool.not_true, Bool.not_false, Bool.false_eq_true, reduceCtorEq, decide_true, decide_false, ite_true, ite_false, rSetL, rIxL, tRaise, jCons, jNil, tFmt, tDNew, rCount, rIndex, tCont, tBreak, Int.reduceToNat, Int.reducePow]
      refine ⟨.int 7, _, rfl, .int _, fun h => (by rw [isBet_of (by decide) (by decide)] at h; cases h), fun n' en _ _ => ⟨fun h => (by cases en; exact absurd isPr7 h), fun _ v H2 S2 R2 => ?_⟩⟩
      cases en
      rw [pap7] at R2
      intro u H3 S3 R3
      have dd : L2.dep sevenD ≤ 91 := pap7 ▸ dep_pap 30 7
      have nn : noL sevenD = true := pap7 ▸ noL_pap 30 7
      refine ⟨_, _, .inl ⟨Rep.mono S3.tk _ nn R2, R3⟩, Nat.le_trans (Nat.le_of_succ_le dd) (by decide), ?_⟩
      rw [eqDL_self]
      exact k _
end
end PP
set_option Elab.async false
set_option linter.all false
set_option maxRecDepth 100000
set_option maxHeartbeats 4000000
namespace L2
open PySem PySem.Spec PyProof.Rows
theorem loose_int {p : Program} {lv : List (Str × PySem.W.WData)} {mg : Str → Option Value} {h : Heap} {n : Str} {i : Int} (x : PySem.W.XL p lv mg h) (hm : (n, PySem.W.WData.int i) ∈ lv) : ∃ t, mg n = some (.int i t) := by
  obtain ⟨v, a, b⟩ := x.2.val _ hm
  cases b
  exact ⟨_, a⟩
end L2
set_option Elab.async false
set_option linter.all false
set_option maxRecDepth 100000
namespace OP
open PySem PySem.W PySem.Calls PyProof.Rows
noncomputable def topRunT (tb : String → Option Builtin) (p : Program) (w : World) (n₀ : Nat) (ann : Option Value) : Nat → SharedT → Thread → Option SharedT
  | 0, _, _ => none
  | n + 1, s, t => match through t with
    | true => some s
    | false => match stepOk n₀ ann t with
      | false => none
      | true => match stepT (denote tb) p w s t with
        | some (s', t') => topRunT tb p w n₀ ann n s' t'
        | none => none
theorem topRun_of {tb : String → Option Builtin} {p : Program} {w : World} {n₀ : Nat} {ann : Option Value} : ∀ {n : Nat} {s s' : SharedT} {t : Thread}, topRunT tb p w n₀ ann n s t = some s' → topRun tb p w n₀ ann n s.abs t = some s'.abs
  | 0, _, _, _, h => by cases h
  | n + 1, s, s', t, h => by
    unfold topRunT at h
    unfold topRun
    cases he : through t with
    | true => rw [he] at h; cases h; rfl
    | false =>
      rw [he] at h
      cases hk : stepOk n₀ ann t with
      | false => rw [hk] at h; cases h
      | true =>
        rw [hk] at h
        cases hs : stepT (denote tb) p w s t with
        | none => rw [hs] at h; cases h
        | some r => obtain ⟨s₂, t₂⟩ := r; rw [hs] at h; rw [stepT_spec hs]; exact topRun_of h
noncomputable def bootT (P : Params) : BT :=
  .node (boot_o_0 P)
    (.node (boot_o_1 P) (.node (boot_o_3 P) (.node (boot_o_7 P) .nil .nil) .nil) (.node (boot_o_5 P) (.node (boot_o_9 P) .nil .nil) .nil))
    (.node (boot_o_2 P) (.node (boot_o_4 P) (.node (boot_o_8 P) .nil .nil) .nil) (.node (boot_o_6 P) (.node (boot_o_10 P) .nil .nil) .nil))
noncomputable def bootS (P : Params) (os : OsState) : SharedT := ⟨bootT P, 11, (boot_heap P).life, Array.mk [], boot_drawn, boot_toks, os⟩
theorem bootS_abs (P : Params) (os : OsState) : (bootS P os).abs = ⟨boot_heap P, Array.mk [], boot_drawn, boot_toks, os⟩ := rfl
noncomputable def annOf (P : Params) : Option Value := (boot_heap P).nsMap mainGlobals "__annotations__"
theorem boot_size (P : Params) : ((boot_heap P).isNs mainGlobals && (Array.mk [] : Array GenState).size == 0) = true := by kernel_rfl
noncomputable def goT {α : Type} (h₀ : Heap) (ann : Option Value) (s₀ : SharedT) (p q : Program) (loose : List Str) (Xt : Shared → Bool) (Yf : Shared → α) (M : Nat) (w : World) :=
  (topRunT treeTable p w 11 ann M s₀ (topStub p)).map fun s =>
    ((staticsOk (importedModules p.main.body) h₀ s.abs.heap && namesBound p s.abs.heap && gensDone s.abs && laidKept h₀ s.abs.heap),
      openSeen q loose (importedModules p.main.body) Xt true s.abs, Yf s.abs)
theorem left_of_run {p q : Program} {loose : List Str} {Xt : Shared → Bool} {α : Type} {Yf : Shared → α} {Ya : World → α} {N M : Nat}
    (e : opening p = plainProg p.main.scope.names) (hN : Nat.ble 600 N = true) (f : ∀ s, fenceModules? p s = some s)
    (run : ∀ (w : World) (os : OsState), goT (boot_heap w.params) (annOf w.params) (bootS w.params os) p q loose Xt Yf M w = some (true, openGood q loose, Ya w)) (le : Nat.ble M N = true) : LeftO p q loose Xt Yf Ya N := fun w => by
  obtain ⟨⟨h, gs, d, k, os⟩, e1, e2⟩ := Option.map_eq_some_iff.mp (boot_open e hN f w)
  obtain ⟨rfl, rfl, rfl, rfl⟩ : h = boot_heap w.params ∧ gs = Array.mk [] ∧ d = boot_drawn ∧ k = boot_toks := by simpa using e2
  obtain ⟨s, hs, hl⟩ := Option.map_eq_some_iff.mp (run w os)
  have r := topRun_mono (N - M) _ _ _ _ (topRun_of hs)
  rw [show M + (N - M) = N by have := Nat.le_of_ble_eq_true le; omega, bootS_abs] at r
  obtain ⟨l1, l2, l3⟩ : _ ∧ _ ∧ _ := by simpa only [Prod.mk.injEq] using hl
  have t : topFrom treeTable p w N ⟨boot_heap w.params, Array.mk [], boot_drawn, boot_toks, os⟩ = some s.abs := by
    unfold topFrom
    dsimp only
    rw [boot_size]
    dsimp only
    rw [show (boot_heap w.params).objs.size = 11 from rfl]
    unfold annOf at r
    rw [r]
    show (match staticsOk (importedModules p.main.body) (boot_heap w.params) s.abs.heap && namesBound p s.abs.heap && gensDone s.abs && laidKept (boot_heap w.params) s.abs.heap with | true => _ | false => _) = _
    rw [l1]
  unfold openEnds
  rw [e1]
  show (topFrom treeTable p w N _).map _ = _
  rw [t]
  exact congrArg some (Prod.ext l2 l3)
end OP
set_option maxHeartbeats 0
lay_quick OP.goT
namespace OP
open PySem PySem.W PySem.Calls PyProof.Rows
noncomputable def qOf (n : Nat) (p : Program) : Program := { p with main := { p.main with body := [p.main.body.getD n (.Pass ⟨0, 0, 0, 0⟩)] } }
theorem left_tw {p p' : Program} {n : Nat} {loose : List Str} {lv : List (Str × WData)} {R : WRecords} {α : Type} {Yf : Shared → α} {Ya : World → α} {N : Nat} (M : Nat) (hp : p = p')
    (e : opening p = plainProg p.main.scope.names) (hN : Nat.ble 600 N = true) (f : ∀ s, fenceModules? p s = some s) (le : Nat.ble M N = true)
    (run : ∀ (w : World) (os : OsState), PySem.W.Fast.tw9285885503168683399 (boot_heap w.params) (annOf w.params) (bootS w.params os) p' (qOf n p') loose (fun s => xlAt (qOf n p') lv s && recOk R s) Yf M w = some (true, openGood (qOf n p') loose, Ya w)) :
    LeftO p (qOf n p) loose (fun s => xlAt (qOf n p) lv s && recOk R s) Yf Ya N := by
  subst hp
  refine left_of_run e hN f (fun w os => ?_) le
  rw [PySem.W.Fast.te9285885503168683399]
  exact run w os
end OP
set_option Elab.async false
set_option linter.all false
set_option maxRecDepth 100000
set_option maxHeartbeats 4000000
namespace L2
open PySem PySem.Spec PyProof.Rows
theorem walk_ofP {l : PySem.W.OpenLaw} {n k : Nat} {q : Program} {loose : List Str} {XP : (Str → Option Value) → Heap → Prop} {YP : World → Heap → Prop} {d : DefRec} {K : Params → PySem.W.Frag} {CX : World → CXT} {sp : Addr → World → PySem.W.Frag → Sp} {x : Str} {Pt : Addr}
    (hn : l.most = some n) (hn2 : n ≤ sizeLine) (hdf : d.params.defaults = []) (hr : Room k callerA)
    (hY : ∀ (w : World) (h : Heap), YP w h → (K w.params).In h ∧ h.get? Pt = some (PySem.W.tabObj #[]))
    (F : ∀ (w : World) (mg : Str → Option Value) (fa : Addr) (h : Heap), (K w.params).In h → h.Ns mainGlobals mg → XP mg h → mg d.name = some (.ref fa) →
      ∃ (fd : FuncData) (c : Addr), PySem.W.codeHdIn (K w.params) c Pt = true ∧ (K w.params).lookup Pt = none ∧ (∀ (s : Shared) (u : Value), BindsTo s fd ⟨[u], []⟩ [(x, u)]) ∧
        ∀ base : Heap, (K w.params).In base → base.Ns mainGlobals mg → base.BuiltinsAt mg Pt → FnOk l.prog w (K w.params) mg base (CX w) k fa fd [x] (sp Pt w (K w.params)))
    (hsp : ∀ (w : World) (K : PySem.W.Frag) (H : Hp) (a : Addr) (ns : List Int), ns.length ≤ n → OnlyT Pt H → SqL K H a (ns.map V.int) → H Pt = some (.tbl #[]) → sp Pt w K [.ref a] H (fun v _ => v = .bl true) fun _ _ _ => False)
    (hCX : ∀ (w : World) (H : Hp) (s : Shared) (e : Value) (s' : Shared), CX w [] H s (fun _ _ _ => False) e s' → False) :
    PySem.W.WalkO q loose XP YP l.row.toRowW d [] (fun f vs => PySem.call f vs) := by
  exact walk_ofT (sp := sp Pt) hn hn2 hdf hr hY F hsp hCX
end L2
set_option Elab.async false
set_option linter.all false
set_option maxRecDepth 100000
set_option maxHeartbeats 8000000
namespace PP
open PySem L2 MM
theorem def_mk {K : PySem.W.Frag} {h : Heap} {mg : Str → Option Value} {x : Str} {st : Stmt} {ps : List Str} {f : Addr} {oc : Value} {od an : Option Addr} {osl : Array (Option Value)} {kV doc pm cdv ct : Value} (X : K.In h) (G : h.Ns mainGlobals mg)
    (a : PySem.W.nsIn K mainGlobals x = some (some (.ref f))) (l : K.lookup f = some ⟨oc, od, .func (PySem.W.fnOf x x (defArgs st) (defBody st) (defScope st) .none kV doc pm an cdv ct), osl⟩) (c : PySem.W.codeIn K cdv x = true) (k : PySem.W.keepIn K (.ref f) = true)
    (hb : ∀ (kV doc pm : Value) (an : Option Addr) (cdv ct : Value) (us : List Value), us.length = ps.length → bindArgs (PySem.W.fnOf x x (defArgs st) (defBody st) (defScope st) .none kV doc pm an cdv ct) ⟨us, []⟩ = pure (ps.zip us)) : ∃ fd, Def K mg x st ps f fd := by
  have F := fun_mk (st := st) l c k
  exact ⟨_, F, F.binds hb, PySem.W.mg_of X G a⟩
section
variable {P : Program} {w : World} {K : PySem.W.Frag} {mg : Str → Option Value} {base : Heap}
theorem all_ok {t1 : Tok} {cl : Cl} {fa c Pt : Addr} {oc kV doc pm ct : Value} {od an : Option Addr} {osl : Array (Option Value)}
    (lk : K.lookup fa = some ⟨oc, od, .func (PySem.W.fnOf "law" "law" (defArgs s_law) (defBody s_law) (defScope s_law) .none kV doc pm an (.ref c) ct), osl⟩) (hcd : PySem.W.codeIn K (.ref c) "law" = true) (hd : PySem.W.CodeHd base c Pt) (bm : base.BuiltinsAt mg Pt)
    (T : Txt K mg t1 cl) (W0 : WordC K cl cl.nn 0) (d_is_whole : ∃ f fd, Df_is_whole K mg f fd) (d_is_between : ∃ f fd, Df_is_between K mg f fd) (d_want_between : ∃ f fd, Df_want_between K mg f fd) (d_want_tried : ∃ f fd, Df_want_tried K mg f fd) (d_least_part : ∃ f fd, Df_least_part K mg f fd) (d_is_prime : ∃ f fd, Df_is_prime K mg f fd) (d_parts_of : ∃ f fd, Df_parts_of K mg f fd) (d_primes_of : ∃ f fd, Df_primes_of K mg f fd) (d_power_rest : ∃ f fd, Df_power_rest K mg f fd) (d_is_base : ∃ f fd, Df_is_base K mg f fd) (d_least_base : ∃ f fd, Df_least_base K mg f fd) (d_full_rows : ∃ f fd, Df_full_rows K mg f fd) (d_full_of_prime : ∃ f fd, Df_full_of_prime K mg f fd) (d_full_paper : ∃ f fd, Df_full_paper K mg f fd) (d_law_cell_at : ∃ f fd, Df_law_cell_at K mg f fd) (d_law_state : ∃ f fd, Df_law_state K mg f fd) (d_law_take : ∃ f fd, Df_law_take K mg f fd) (d_law_parts : ∃ f fd, Df_law_parts K mg f fd) (d_law_is_prime : ∃ f fd, Df_law_is_prime K mg f fd) (d_law_prime : ∃ f fd, Df_law_prime K mg f fd) (d_law_none : ∃ f fd, Df_law_none K mg f fd) (d_law_bits : ∃ f fd, Df_law_bits K mg f fd) (d_law_power : ∃ f fd, Df_law_power K mg f fd) (d_law_least : ∃ f fd, Df_law_least K mg f fd) (d_law_same : ∃ f fd, Df_law_same K mg f fd) (d_law_word : ∃ f fd, Df_law_word K mg f fd) : FnOk P w K mg base CX0 94 fa (PySem.W.fnOf "law" "law" (defArgs s_law) (defBody s_law) (defScope s_law) .none kV doc pm an (.ref c) ct) ["_law_script"] (spLaw K Pt) := by
  obtain ⟨f_is_whole, fd_is_whole, D_is_whole⟩ := d_is_whole
  obtain ⟨f_is_between, fd_is_between, D_is_between⟩ := d_is_between
  obtain ⟨f_want_between, fd_want_between, D_want_between⟩ := d_want_between
  obtain ⟨f_want_tried, fd_want_tried, D_want_tried⟩ := d_want_tried
  obtain ⟨f_least_part, fd_least_part, D_least_part⟩ := d_least_part
  obtain ⟨f_is_prime, fd_is_prime, D_is_prime⟩ := d_is_prime
  obtain ⟨f_parts_of, fd_parts_of, D_parts_of⟩ := d_parts_of
  obtain ⟨f_primes_of, fd_primes_of, D_primes_of⟩ := d_primes_of
  obtain ⟨f_power_rest, fd_power_rest, D_power_rest⟩ := d_power_rest
  obtain ⟨f_is_base, fd_is_base, D_is_base⟩ := d_is_base
  obtain ⟨f_least_base, fd_least_base, D_least_base⟩ := d_least_base
  obtain ⟨f_full_rows, fd_full_rows, D_full_rows⟩ := d_full_rows
  obtain ⟨f_full_of_prime, fd_full_of_prime, D_full_of_prime⟩ := d_full_of_prime
  obtain ⟨f_full_paper, fd_full_paper, D_full_paper⟩ := d_full_paper
  obtain ⟨f_law_cell_at, fd_law_cell_at, D_law_cell_at⟩ := d_law_cell_at
  obtain ⟨f_law_state, fd_law_state, D_law_state⟩ := d_law_state
  obtain ⟨f_law_take, fd_law_take, D_law_take⟩ := d_law_take
  obtain ⟨f_law_parts, fd_law_parts, D_law_parts⟩ := d_law_parts
  obtain ⟨f_law_is_prime, fd_law_is_prime, D_law_is_prime⟩ := d_law_is_prime
  obtain ⟨f_law_prime, fd_law_prime, D_law_prime⟩ := d_law_prime
  obtain ⟨f_law_none, fd_law_none, D_law_none⟩ := d_law_none
  obtain ⟨f_law_bits, fd_law_bits, D_law_bits⟩ := d_law_bits
  obtain ⟨f_law_power, fd_law_power, D_law_power⟩ := d_law_power
  obtain ⟨f_law_least, fd_law_least, D_law_least⟩ := d_law_least
  obtain ⟨f_law_same, fd_law_same, D_law_same⟩ := d_law_same
  obtain ⟨f_law_word, fd_law_word, D_law_word⟩ := d_law_word
  have O_is_whole : ∃ f fd, Df_is_whole K mg f fd ∧ FnOk P w K mg base CX0 1 f fd _ _ := ⟨_, _, D_is_whole, ok_is_whole D_is_whole T⟩
  have O_is_between : ∃ f fd, Df_is_between K mg f fd ∧ FnOk P w K mg base CX0 2 f fd _ _ := ⟨_, _, D_is_between, ok_is_between D_is_between T D_is_whole⟩
  have O_want_between : ∃ f fd, Df_want_between K mg f fd ∧ FnOk P w K mg base (CXE P w) 3 f fd _ _ := ⟨_, _, D_want_between, ok_want_between D_want_between T O_is_between⟩
  have O_want_tried : ∃ f fd, Df_want_tried K mg f fd ∧ FnOk P w K mg base (CXE P w) 4 f fd _ _ := ⟨_, _, D_want_tried, ok_want_tried D_want_tried T O_want_between⟩
  have O_least_part : ∃ f fd, Df_least_part K mg f fd ∧ FnOk P w K mg base CX0 1 f fd _ _ := ⟨_, _, D_least_part, ok_least_part D_least_part T⟩
  have O_is_prime : ∃ f fd, Df_is_prime K mg f fd ∧ FnOk P w K mg base (CXE P w) 5 f fd _ _ := ⟨_, _, D_is_prime, ok_is_prime D_is_prime T O_want_between O_least_part⟩
  have O_parts_of : ∃ f fd, Df_parts_of K mg f fd ∧ FnOk P w K mg base (CXE P w) 5 f fd _ _ := ⟨_, _, D_parts_of, ok_parts_of D_parts_of T O_want_tried O_least_part⟩
  have O_primes_of : ∃ f fd, Df_primes_of K mg f fd ∧ FnOk P w K mg base CX0 6 f fd _ _ := ⟨_, _, D_primes_of, ok_primes_of D_primes_of T O_parts_of⟩
  have O_power_rest : ∃ f fd, Df_power_rest K mg f fd ∧ FnOk P w K mg base CX0 1 f fd _ _ := ⟨_, _, D_power_rest, ok_power_rest D_power_rest T⟩
  have O_is_base : ∃ f fd, Df_is_base K mg f fd ∧ FnOk P w K mg base CX0 2 f fd _ _ := ⟨_, _, D_is_base, ok_is_base D_is_base T O_power_rest⟩
  have O_least_base : ∃ f fd, Df_least_base K mg f fd ∧ FnOk P w K mg base CX0 3 f fd _ _ := ⟨_, _, D_least_base, ok_least_base D_least_base T O_is_base⟩
  have B_full_of_prime : ∀ b, FnOk P w K mg b CX0 66 f_full_of_prime fd_full_of_prime _ _ := fun b => ok_full D_full_of_prime T (fun b => ⟨_, _, D_parts_of, ok_parts_of D_parts_of T ⟨_, _, D_want_tried, ok_want_tried D_want_tried T ⟨_, _, D_want_between, ok_want_between D_want_between T ⟨_, _, D_is_between, ok_is_between D_is_between T D_is_whole⟩⟩⟩ ⟨_, _, D_least_part, ok_least_part D_least_part T⟩⟩) (fun b => ⟨_, _, D_primes_of, ok_primes_of D_primes_of T ⟨_, _, D_parts_of, ok_parts_of D_parts_of T ⟨_, _, D_want_tried, ok_want_tried D_want_tried T ⟨_, _, D_want_between, ok_want_between D_want_between T ⟨_, _, D_is_between, ok_is_between D_is_between T D_is_whole⟩⟩⟩ ⟨_, _, D_least_part, ok_least_part D_least_part T⟩⟩⟩) (fun b => ⟨_, _, D_least_base, ok_least_base D_least_base T ⟨_, _, D_is_base, ok_is_base D_is_base T ⟨_, _, D_power_rest, ok_power_rest D_power_rest T⟩⟩⟩) D_full_rows 30 b
  have O_full_of_prime : ∃ f fd, Df_full_of_prime K mg f fd ∧ FnOk P w K mg base CX0 66 f fd _ _ := ⟨_, _, D_full_of_prime, B_full_of_prime base⟩
  have O_full_paper : ∃ f fd, Df_full_paper K mg f fd ∧ FnOk P w K mg base (CXE P w) 67 f fd _ _ := ⟨_, _, D_full_paper, ok_full_paper D_full_paper T O_want_tried O_is_prime O_full_of_prime⟩
  have OB_full_paper : OB_full_paper P w K mg cl := ⟨_, _, D_full_paper, fun b => ok_full_paper D_full_paper T ⟨_, _, D_want_tried, ok_want_tried D_want_tried T ⟨_, _, D_want_between, ok_want_between D_want_between T ⟨_, _, D_is_between, ok_is_between D_is_between T D_is_whole⟩⟩⟩ ⟨_, _, D_is_prime, ok_is_prime D_is_prime T ⟨_, _, D_want_between, ok_want_between D_want_between T ⟨_, _, D_is_between, ok_is_between D_is_between T D_is_whole⟩⟩ ⟨_, _, D_least_part, ok_least_part D_least_part T⟩⟩ ⟨_, _, D_full_of_prime, ok_full D_full_of_prime T (fun b => ⟨_, _, D_parts_of, ok_parts_of D_parts_of T ⟨_, _, D_want_tried, ok_want_tried D_want_tried T ⟨_, _, D_want_between, ok_want_between D_want_between T ⟨_, _, D_is_between, ok_is_between D_is_between T D_is_whole⟩⟩⟩ ⟨_, _, D_least_part, ok_least_part D_least_part T⟩⟩) (fun b => ⟨_, _, D_primes_of, ok_primes_of D_primes_of T ⟨_, _, D_parts_of, ok_parts_of D_parts_of T ⟨_, _, D_want_tried, ok_want_tried D_want_tried T ⟨_, _, D_want_between, ok_want_between D_want_between T ⟨_, _, D_is_between, ok_is_between D_is_between T D_is_whole⟩⟩⟩ ⟨_, _, D_least_part, ok_least_part D_least_part T⟩⟩⟩) (fun b => ⟨_, _, D_least_base, ok_least_base D_least_base T ⟨_, _, D_is_base, ok_is_base D_is_base T ⟨_, _, D_power_rest, ok_power_rest D_power_rest T⟩⟩⟩) D_full_rows 30 b⟩⟩
  have O_law_cell_at : ∃ f fd, Df_law_cell_at K mg f fd ∧ FnOk P w K mg base CX0 1 f fd _ _ := ⟨_, _, D_law_cell_at, ok_law_cell_at D_law_cell_at T⟩
  have O_law_state : ∃ f fd, Df_law_state K mg f fd ∧ FnOk P w K mg base CX0 2 f fd _ _ := ⟨_, _, D_law_state, ok_law_state D_law_state T O_law_cell_at⟩
  have O_law_take : ∃ f fd, Df_law_take K mg f fd ∧ FnOk P w K mg base CX0 1 f fd _ _ := ⟨_, _, D_law_take, ok_law_take D_law_take T⟩
  have O_law_parts : ∃ f fd, Df_law_parts K mg f fd ∧ FnOk P w K mg base CX0 1 f fd _ _ := ⟨_, _, D_law_parts, ok_law_parts D_law_parts T⟩
  have O_law_is_prime : ∃ f fd, Df_law_is_prime K mg f fd ∧ FnOk P w K mg base CX0 2 f fd _ _ := ⟨_, _, D_law_is_prime, ok_law_is_prime D_law_is_prime T O_law_parts⟩
  have O_law_prime : ∃ f fd, Df_law_prime K mg f fd ∧ FnOk P w K mg base CX0 3 f fd _ _ := ⟨_, _, D_law_prime, ok_law_prime D_law_prime T O_law_take O_law_is_prime⟩
  have O_law_none : ∃ f fd, Df_law_none K mg f fd ∧ FnOk P w K mg base CX0 2 f fd _ _ := ⟨_, _, D_law_none, ok_law_none D_law_none T O_law_take⟩
  have O_law_bits : ∃ f fd, Df_law_bits K mg f fd ∧ FnOk P w K mg base CX0 1 f fd _ _ := ⟨_, _, D_law_bits, ok_law_bits D_law_bits T⟩
  have O_law_power : ∃ f fd, Df_law_power K mg f fd ∧ FnOk P w K mg base CX0 2 f fd _ _ := ⟨_, _, D_law_power, ok_law_power D_law_power T O_law_bits⟩
  have OB_law_power : OB_law_power P w K mg cl := ⟨_, _, D_law_power, fun b => ok_law_power D_law_power T ⟨_, _, D_law_bits, ok_law_bits D_law_bits T⟩⟩
  have B_law_least : ∀ b, FnOk P w K mg b CX0 37 f_law_least fd_law_least _ _ := ok_law_least D_law_least T (fun b => ⟨_, _, D_law_parts, ok_law_parts D_law_parts T⟩) OB_law_power 30 (by decide)
  have O_law_least : ∃ f fd, Df_law_least K mg f fd ∧ FnOk P w K mg base CX0 37 f fd _ _ := ⟨_, _, D_law_least, B_law_least base⟩
  have B_law_same : ∀ b, FnOk P w K mg b CX0 92 f_law_same fd_law_same _ _ := ok_law_same D_law_same T 91
  have O_law_same : ∃ f fd, Df_law_same K mg f fd ∧ FnOk P w K mg base CX0 92 f fd _ _ := ⟨_, _, D_law_same, B_law_same base⟩
  have O_law_word : ∃ f fd, Df_law_word K mg f fd ∧ FnOk P w K mg base CX0 69 f fd _ _ := ⟨_, _, D_law_word, ok_law_word D_law_word T⟩
  have OB_law_word : OB_law_word P w K mg cl := ⟨_, _, D_law_word, fun b => ok_law_word D_law_word T⟩
  exact ok_law lk hcd hd bm T W0 O_law_state O_law_prime O_law_least O_law_take O_law_same O_law_is_prime O_law_none OB_full_paper OB_law_word
theorem cl_mk {KK : PySem.W.Frag} {h : Heap} {mg : Str → Option Value} {pe nn np pa pp nb nt nl nm nd tg : Addr} (X : KK.In h) (G : h.Ns mainGlobals mg) (a0 : PySem.W.nsIn KK mainGlobals "PrimeError" = some (some (.ref pe))) (a1 : PySem.W.nsIn KK mainGlobals "NoNumber" = some (some (.ref nn))) (a2 : PySem.W.nsIn KK mainGlobals "NoPrime" = some (some (.ref np))) (a3 : PySem.W.nsIn KK mainGlobals "NoPair" = some (some (.ref pa))) (a4 : PySem.W.nsIn KK mainGlobals "NoPaper" = some (some (.ref pp))) (a5 : PySem.W.nsIn KK mainGlobals "NoBases" = some (some (.ref nb))) (a6 : PySem.W.nsIn KK mainGlobals "NoText" = some (some (.ref nt))) (a7 : PySem.W.nsIn KK mainGlobals "NoLine" = some (some (.ref nl))) (a8 : PySem.W.nsIn KK mainGlobals "NoName" = some (some (.ref nm))) (a9 : PySem.W.nsIn KK mainGlobals "NoDeed" = some (some (.ref nd))) (a10 : PySem.W.nsIn KK mainGlobals "TooGreat" = some (some (.ref tg))) (x0 : ExcC KK nn) (w0 : WordC KK ⟨pe, nn, np, pa, pp, nb, nt, nl, nm, nd, tg⟩ nn 0) : ∃ cl : Cl, (mg "PrimeError" = some (.ref cl.pe) ∧ mg "NoNumber" = some (.ref cl.nn) ∧ mg "NoPrime" = some (.ref cl.np) ∧ mg "NoPair" = some (.ref cl.pa) ∧ mg "NoPaper" = some (.ref cl.pp) ∧ mg "NoBases" = some (.ref cl.nb) ∧ mg "NoText" = some (.ref cl.nt) ∧ mg "NoLine" = some (.ref cl.nl) ∧ mg "NoName" = some (.ref cl.nm) ∧ mg "NoDeed" = some (.ref cl.nd) ∧ mg "TooGreat" = some (.ref cl.tg)) ∧ ExcC KK cl.nn ∧ WordC KK cl cl.nn 0 :=
  ⟨⟨pe, nn, np, pa, pp, nb, nt, nl, nm, nd, tg⟩, ⟨PySem.W.mg_of X G a0, PySem.W.mg_of X G a1, PySem.W.mg_of X G a2, PySem.W.mg_of X G a3, PySem.W.mg_of X G a4, PySem.W.mg_of X G a5, PySem.W.mg_of X G a6, PySem.W.mg_of X G a7, PySem.W.mg_of X G a8, PySem.W.mg_of X G a9, PySem.W.mg_of X G a10⟩, x0, w0⟩
theorem fin_of {Pr : Program} {w : World} {KK : PySem.W.Frag} {mg : Str → Option Value} {fa fl c Pt : Addr} {oc kV doc pm ct : Value} {od an : Option Addr} {osl : Array (Option Value)} (hmg : mg "law" = some (.ref fa)) (hm : mg "law" = some (.ref fl))
    (hl : KK.lookup fl = some ⟨oc, od, .func (PySem.W.fnOf "law" "law" (defArgs s_law) (defBody s_law) (defScope s_law) .none kV doc pm an (.ref c) ct), osl⟩) (hc : PySem.W.codeIn KK (.ref c) "law" = true) (hh : PySem.W.codeHdIn KK c Pt = true) (hn : KK.lookup Pt = none)
    (all : ∀ base : Heap, KK.In base → base.BuiltinsAt mg Pt → KK.lookup fl = some ⟨oc, od, .func (PySem.W.fnOf "law" "law" (defArgs s_law) (defBody s_law) (defScope s_law) .none kV doc pm an (.ref c) ct), osl⟩ → PySem.W.codeIn KK (.ref c) "law" = true → PySem.W.CodeHd base c Pt → FnOk Pr w KK mg base CX0 94 fl (PySem.W.fnOf "law" "law" (defArgs s_law) (defBody s_law) (defScope s_law) .none kV doc pm an (.ref c) ct) ["_law_script"] (spLaw KK Pt)) :
    ∃ (fd : FuncData) (c : Addr), PySem.W.codeHdIn KK c Pt = true ∧ KK.lookup Pt = none ∧ (∀ (s : Shared) (u : Value), BindsTo s fd ⟨[u], []⟩ [("_law_script", u)]) ∧ ∀ base : Heap, KK.In base → base.Ns mainGlobals mg → base.BuiltinsAt mg Pt → FnOk Pr w KK mg base CX0 94 fa fd ["_law_script"] (spLaw KK Pt) := by
  have e0 := hmg.symm.trans hm
  cases e0
  exact ⟨_, c, hh, hn, fun s u => .of_eq rfl, fun base kb nb bm => all base kb bm hl hc (PySem.W.codeHd_of_K kb hh)⟩
end
end PP
set_option maxHeartbeats 0
noncomputable def OP.lo : List PySem.Str := [PySem.Str.ofString "__name__", PySem.Str.ofString "PrimeError", PySem.Str.ofString "NoNumber", PySem.Str.ofString "NoPrime", PySem.Str.ofString "NoPair", PySem.Str.ofString "NoPaper", PySem.Str.ofString "NoBases", PySem.Str.ofString "NoText", PySem.Str.ofString "NoLine", PySem.Str.ofString "NoName", PySem.Str.ofString "NoDeed", PySem.Str.ofString "TooGreat", PySem.Str.ofString "MOST_TRIED", PySem.Str.ofString "is_whole", PySem.Str.ofString "is_between", PySem.Str.ofString "want_between", PySem.Str.ofString "want_tried", PySem.Str.ofString "is_prime", PySem.Str.ofString "parts_of", PySem.Str.ofString "primes_of", PySem.Str.ofString "least_part", PySem.Str.ofString "power_rest", PySem.Str.ofString "least_base", PySem.Str.ofString "is_base", PySem.Str.ofString "full_paper", PySem.Str.ofString "full_of_prime", PySem.Str.ofString "full_rows", PySem.Str.ofString "_law_cell_at", PySem.Str.ofString "_law_state", PySem.Str.ofString "_law_take", PySem.Str.ofString "_law_same", PySem.Str.ofString "_law_word", PySem.Str.ofString "_law_none", PySem.Str.ofString "_law_bits", PySem.Str.ofString "_law_power", PySem.Str.ofString "_law_parts", PySem.Str.ofString "_law_is_prime", PySem.Str.ofString "_law_prime", PySem.Str.ofString "_law_least"]
theorem OP.pwe : PySem.Challenge.pw_primepapers_k21_full_papers_told = PySem.Challenge.pw_primepapers_k21_full_papers_told := rfl
name_quick pT for PySem.Challenge.pw_primepapers_k21_full_papers_told by OP.pwe
open PySem PySem.W PyProof.Rows in
local macro_rules | `(tactic| o_head $H) => `(tactic| (
  refine PySem.W.holds_open (q := (OP.qOf 45 PySem.Challenge.pw_primepapers_k21_full_papers_told)) (loose := OP.lo) (Xt := fun s => xlAt (OP.qOf 45 PySem.Challenge.pw_primepapers_k21_full_papers_told) ([("MOST_TRIED", PySem.W.WData.int 1000000000)] : List (PySem.Str × PySem.W.WData)) s && recOk (PySem.Challenge.rw_primepapers_k21_full_papers_told.row.records) s) (XP := XL (OP.qOf 45 PySem.Challenge.pw_primepapers_k21_full_papers_told) ([("MOST_TRIED", PySem.W.WData.int 1000000000)] : List (PySem.Str × PySem.W.WData))) (Yf := Hook.obs $H) (Ya := Hook.val $H) (YP := Hook.says $H) (N := 20000)
    (OP.left_tw 20000 PySem.W.Fast.pT_eq (by kernel_rfl) (by decide) (fun s => by kernel_rfl) (by decide) (fun w os => by kernel_rfl))
    (Hook.of $H) (Hook.keeps $H) (fun s e => xl_of s (Bool.and_eq_true_iff.mp e).1) XL.keeps (by rfl) (by rfl) (by rfl) (fun s e => recFacts_of (Bool.and_eq_true_iff.mp e).2) (by rfl) (by first | assumption | decide +kernel) (by decide +kernel) ⟨rfl, rfl, rfl, rfl, rfl, by decide +kernel⟩ ?hw ?hc))
open PySem PySem.W PyProof.Rows
set_option maxRecDepth 100000 in
set_option maxHeartbeats 0 in
theorem PySem.Challenge.cw_primepapers_k21_full_papers_told_holds : PySem.Challenge.rw_primepapers_k21_full_papers_told.Holds := by
  w_on; o_law; k_head; (case hw => w_witness2)
  k_fill
  refine L2.walk_ofP (l := PySem.Challenge.rw_primepapers_k21_full_papers_told) (n := 63) (k := 94) (x := "_law_script") (CX := fun _ => L2.CX0) (sp := fun Pt _ K => PP.spLaw K Pt) rfl (by decide) rfl ⟨rfl, by decide, by decide, rfl⟩ (fun w h Y => ⟨PySem.W.km_in_of Y, PySem.W.km_tabs_of Y _ (List.Mem.head _)⟩) ?F ?S ?C
  case S => exact fun w K H a ns hl _ hS hT => ⟨a, ns, rfl, hS, hl, hT, fun _ => rfl⟩
  case C => exact fun _ _ _ _ _ z => z
  case F =>
    intro w mg fa h KX G hX hmg
    have d_is_whole : ∃ f fd, PP.Df_is_whole (L2.KOf KX) mg f fd := by
      dsimp only [L2.KOf]
      refine' ⟨_, PP.def_mk KX G ?a ?l ?c ?k ?b⟩
      (case a => k_is); (case l => k_is); (case c => k_is); (case k => k_is)
      case b => exact fun _ _ _ _ _ _ us hl => match us, hl with | [_], _ => rfl
    have d_is_between : ∃ f fd, PP.Df_is_between (L2.KOf KX) mg f fd := by
      dsimp only [L2.KOf]
      refine' ⟨_, PP.def_mk KX G ?a ?l ?c ?k ?b⟩
      (case a => k_is); (case l => k_is); (case c => k_is); (case k => k_is)
      case b => exact fun _ _ _ _ _ _ us hl => match us, hl with | [_, _, _], _ => rfl
    have d_want_between : ∃ f fd, PP.Df_want_between (L2.KOf KX) mg f fd := by
      dsimp only [L2.KOf]
      refine' ⟨_, PP.def_mk KX G ?a ?l ?c ?k ?b⟩
      (case a => k_is); (case l => k_is); (case c => k_is); (case k => k_is)
      case b => exact fun _ _ _ _ _ _ us hl => match us, hl with | [_, _, _, _], _ => rfl
    have d_want_tried : ∃ f fd, PP.Df_want_tried (L2.KOf KX) mg f fd := by
      dsimp only [L2.KOf]
      refine' ⟨_, PP.def_mk KX G ?a ?l ?c ?k ?b⟩
      (case a => k_is); (case l => k_is); (case c => k_is); (case k => k_is)
      case b => exact fun _ _ _ _ _ _ us hl => match us, hl with | [_, _], _ => rfl
    have d_least_part : ∃ f fd, PP.Df_least_part (L2.KOf KX) mg f fd := by
      dsimp only [L2.KOf]
      refine' ⟨_, PP.def_mk KX G ?a ?l ?c ?k ?b⟩
      (case a => k_is); (case l => k_is); (case c => k_is); (case k => k_is)
      case b => exact fun _ _ _ _ _ _ us hl => match us, hl with | [_, _], _ => rfl
    have d_is_prime : ∃ f fd, PP.Df_is_prime (L2.KOf KX) mg f fd := by
      dsimp only [L2.KOf]
      refine' ⟨_, PP.def_mk KX G ?a ?l ?c ?k ?b⟩
      (case a => k_is); (case l => k_is); (case c => k_is); (case k => k_is)
      case b => exact fun _ _ _ _ _ _ us hl => match us, hl with | [_], _ => rfl
    have d_parts_of : ∃ f fd, PP.Df_parts_of (L2.KOf KX) mg f fd := by
      dsimp only [L2.KOf]
      refine' ⟨_, PP.def_mk KX G ?a ?l ?c ?k ?b⟩
      (case a => k_is); (case l => k_is); (case c => k_is); (case k => k_is)
      case b => exact fun _ _ _ _ _ _ us hl => match us, hl with | [_], _ => rfl
    have d_primes_of : ∃ f fd, PP.Df_primes_of (L2.KOf KX) mg f fd := by
      dsimp only [L2.KOf]
      refine' ⟨_, PP.def_mk KX G ?a ?l ?c ?k ?b⟩
      (case a => k_is); (case l => k_is); (case c => k_is); (case k => k_is)
      case b => exact fun _ _ _ _ _ _ us hl => match us, hl with | [_], _ => rfl
    have d_power_rest : ∃ f fd, PP.Df_power_rest (L2.KOf KX) mg f fd := by
      dsimp only [L2.KOf]
      refine' ⟨_, PP.def_mk KX G ?a ?l ?c ?k ?b⟩
      (case a => k_is); (case l => k_is); (case c => k_is); (case k => k_is)
      case b => exact fun _ _ _ _ _ _ us hl => match us, hl with | [_, _, _], _ => rfl
    have d_is_base : ∃ f fd, PP.Df_is_base (L2.KOf KX) mg f fd := by
      dsimp only [L2.KOf]
      refine' ⟨_, PP.def_mk KX G ?a ?l ?c ?k ?b⟩
      (case a => k_is); (case l => k_is); (case c => k_is); (case k => k_is)
      case b => exact fun _ _ _ _ _ _ us hl => match us, hl with | [_, _, _], _ => rfl
    have d_least_base : ∃ f fd, PP.Df_least_base (L2.KOf KX) mg f fd := by
      dsimp only [L2.KOf]
      refine' ⟨_, PP.def_mk KX G ?a ?l ?c ?k ?b⟩
      (case a => k_is); (case l => k_is); (case c => k_is); (case k => k_is)
      case b => exact fun _ _ _ _ _ _ us hl => match us, hl with | [_, _], _ => rfl
    have d_full_rows : ∃ f fd, PP.Df_full_rows (L2.KOf KX) mg f fd := by
      dsimp only [L2.KOf]
      refine' ⟨_, PP.def_mk KX G ?a ?l ?c ?k ?b⟩
      (case a => k_is); (case l => k_is); (case c => k_is); (case k => k_is)
      case b => exact fun _ _ _ _ _ _ us hl => match us, hl with | [_], _ => rfl
    have d_full_of_prime : ∃ f fd, PP.Df_full_of_prime (L2.KOf KX) mg f fd := by
      dsimp only [L2.KOf]
      refine' ⟨_, PP.def_mk KX G ?a ?l ?c ?k ?b⟩
      (case a => k_is); (case l => k_is); (case c => k_is); (case k => k_is)
      case b => exact fun _ _ _ _ _ _ us hl => match us, hl with | [_], _ => rfl
    have d_full_paper : ∃ f fd, PP.Df_full_paper (L2.KOf KX) mg f fd := by
      dsimp only [L2.KOf]
      refine' ⟨_, PP.def_mk KX G ?a ?l ?c ?k ?b⟩
      (case a => k_is); (case l => k_is); (case c => k_is); (case k => k_is)
      case b => exact fun _ _ _ _ _ _ us hl => match us, hl with | [_], _ => rfl
    have d_law_cell_at : ∃ f fd, PP.Df_law_cell_at (L2.KOf KX) mg f fd := by
      dsimp only [L2.KOf]
      refine' ⟨_, PP.def_mk KX G ?a ?l ?c ?k ?b⟩
      (case a => k_is); (case l => k_is); (case c => k_is); (case k => k_is)
      case b => exact fun _ _ _ _ _ _ us hl => match us, hl with | [_, _], _ => rfl
    have d_law_state : ∃ f fd, PP.Df_law_state (L2.KOf KX) mg f fd := by
      dsimp only [L2.KOf]
      refine' ⟨_, PP.def_mk KX G ?a ?l ?c ?k ?b⟩
      (case a => k_is); (case l => k_is); (case c => k_is); (case k => k_is)
      case b => exact fun _ _ _ _ _ _ us hl => match us, hl with | [_, _], _ => rfl
    have d_law_take : ∃ f fd, PP.Df_law_take (L2.KOf KX) mg f fd := by
      dsimp only [L2.KOf]
      refine' ⟨_, PP.def_mk KX G ?a ?l ?c ?k ?b⟩
      (case a => k_is); (case l => k_is); (case c => k_is); (case k => k_is)
      case b => exact fun _ _ _ _ _ _ us hl => match us, hl with | [_, _], _ => rfl
    have d_law_parts : ∃ f fd, PP.Df_law_parts (L2.KOf KX) mg f fd := by
      dsimp only [L2.KOf]
      refine' ⟨_, PP.def_mk KX G ?a ?l ?c ?k ?b⟩
      (case a => k_is); (case l => k_is); (case c => k_is); (case k => k_is)
      case b => exact fun _ _ _ _ _ _ us hl => match us, hl with | [_], _ => rfl
    have d_law_is_prime : ∃ f fd, PP.Df_law_is_prime (L2.KOf KX) mg f fd := by
      dsimp only [L2.KOf]
      refine' ⟨_, PP.def_mk KX G ?a ?l ?c ?k ?b⟩
      (case a => k_is); (case l => k_is); (case c => k_is); (case k => k_is)
      case b => exact fun _ _ _ _ _ _ us hl => match us, hl with | [_], _ => rfl
    have d_law_prime : ∃ f fd, PP.Df_law_prime (L2.KOf KX) mg f fd := by
      dsimp only [L2.KOf]
      refine' ⟨_, PP.def_mk KX G ?a ?l ?c ?k ?b⟩
      (case a => k_is); (case l => k_is); (case c => k_is); (case k => k_is)
      case b => exact fun _ _ _ _ _ _ us hl => match us, hl with | [_, _], _ => rfl
    have d_law_none : ∃ f fd, PP.Df_law_none (L2.KOf KX) mg f fd := by
      dsimp only [L2.KOf]
      refine' ⟨_, PP.def_mk KX G ?a ?l ?c ?k ?b⟩
      (case a => k_is); (case l => k_is); (case c => k_is); (case k => k_is)
      case b => exact fun _ _ _ _ _ _ us hl => match us, hl with | [_, _, _], _ => rfl
    have d_law_bits : ∃ f fd, PP.Df_law_bits (L2.KOf KX) mg f fd := by
      dsimp only [L2.KOf]
      refine' ⟨_, PP.def_mk KX G ?a ?l ?c ?k ?b⟩
      (case a => k_is); (case l => k_is); (case c => k_is); (case k => k_is)
      case b => exact fun _ _ _ _ _ _ us hl => match us, hl with | [_], _ => rfl
    have d_law_power : ∃ f fd, PP.Df_law_power (L2.KOf KX) mg f fd := by
      dsimp only [L2.KOf]
      refine' ⟨_, PP.def_mk KX G ?a ?l ?c ?k ?b⟩
      (case a => k_is); (case l => k_is); (case c => k_is); (case k => k_is)
      case b => exact fun _ _ _ _ _ _ us hl => match us, hl with | [_, _, _], _ => rfl
    have d_law_least : ∃ f fd, PP.Df_law_least (L2.KOf KX) mg f fd := by
      dsimp only [L2.KOf]
      refine' ⟨_, PP.def_mk KX G ?a ?l ?c ?k ?b⟩
      (case a => k_is); (case l => k_is); (case c => k_is); (case k => k_is)
      case b => exact fun _ _ _ _ _ _ us hl => match us, hl with | [_], _ => rfl
    have d_law_same : ∃ f fd, PP.Df_law_same (L2.KOf KX) mg f fd := by
      dsimp only [L2.KOf]
      refine' ⟨_, PP.def_mk KX G ?a ?l ?c ?k ?b⟩
      (case a => k_is); (case l => k_is); (case c => k_is); (case k => k_is)
      case b => exact fun _ _ _ _ _ _ us hl => match us, hl with | [_, _], _ => rfl
    have d_law_word : ∃ f fd, PP.Df_law_word (L2.KOf KX) mg f fd := by
      dsimp only [L2.KOf]
      refine' ⟨_, PP.def_mk KX G ?a ?l ?c ?k ?b⟩
      (case a => k_is); (case l => k_is); (case c => k_is); (case k => k_is)
      case b => exact fun _ _ _ _ _ _ us hl => match us, hl with | [_], _ => rfl
    have c_MOST_TRIED : ∃ t, mg "MOST_TRIED" = some (.int 1000000000 t) := by
      exact L2.loose_int hX (by simp)
    have n_len : mg "len" = none := by
      refine' PySem.W.mg_none_of KX G ?a
      (case a => k_is)
    have n_isinstance : mg "isinstance" = none := by
      refine' PySem.W.mg_none_of KX G ?a
      (case a => k_is)
    have n_int : mg "int" = none := by
      refine' PySem.W.mg_none_of KX G ?a
      (case a => k_is)
    have n_bool : mg "bool" = none := by
      refine' PySem.W.mg_none_of KX G ?a
      (case a => k_is)
    have n_range : mg "range" = none := by
      refine' PySem.W.mg_none_of KX G ?a
      (case a => k_is)
    have n_max : mg "max" = none := by
      refine' PySem.W.mg_none_of KX G ?a
      (case a => k_is)
    have n_min : mg "min" = none := by
      refine' PySem.W.mg_none_of KX G ?a
      (case a => k_is)
    have n_str : mg "str" = none := by
      refine' PySem.W.mg_none_of KX G ?a
      (case a => k_is)
    have n_tuple : mg "tuple" = none := by
      refine' PySem.W.mg_none_of KX G ?a
      (case a => k_is)
    have n_list : mg "list" = none := by
      refine' PySem.W.mg_none_of KX G ?a
      (case a => k_is)
    have n_zip : mg "zip" = none := by
      refine' PySem.W.mg_none_of KX G ?a
      (case a => k_is)
    have n_all : mg "all" = none := by
      refine' PySem.W.mg_none_of KX G ?a
      (case a => k_is)
    have n_ValueError : mg "ValueError" = none := by
      refine' PySem.W.mg_none_of KX G ?a
      (case a => k_is)
    have d_cl : ∃ cl : PP.Cl, (mg "PrimeError" = some (.ref cl.pe) ∧ mg "NoNumber" = some (.ref cl.nn) ∧ mg "NoPrime" = some (.ref cl.np) ∧ mg "NoPair" = some (.ref cl.pa) ∧ mg "NoPaper" = some (.ref cl.pp) ∧ mg "NoBases" = some (.ref cl.nb) ∧ mg "NoText" = some (.ref cl.nt) ∧ mg "NoLine" = some (.ref cl.nl) ∧ mg "NoName" = some (.ref cl.nm) ∧ mg "NoDeed" = some (.ref cl.nd) ∧ mg "TooGreat" = some (.ref cl.tg)) ∧ L2.ExcC (L2.KOf KX) cl.nn ∧ PP.WordC (L2.KOf KX) cl cl.nn 0 := by
      dsimp only [L2.KOf]
      refine' PP.cl_mk KX G ?a0 ?a1 ?a2 ?a3 ?a4 ?a5 ?a6 ?a7 ?a8 ?a9 ?a10 ?x0 ?w0
      (case a0 => k_is)
      (case a1 => k_is)
      (case a2 => k_is)
      (case a3 => k_is)
      (case a4 => k_is)
      (case a5 => k_is)
      (case a6 => k_is)
      (case a7 => k_is)
      (case a8 => k_is)
      (case a9 => k_is)
      (case a10 => k_is)
      (case x0 => kernel_rfl)
      case w0 =>
        refine ⟨⟨?_, ?_, ?_, ?_, ?_, ?_, ?_, ?_⟩, ?_, ?_, ?_, ?_, ?_, ?_, ?_, ?_, ?_, ?_, ?_, ?_⟩ <;> kernel_rfl
    obtain ⟨t_MOST_TRIED, c_MOST_TRIED⟩ := c_MOST_TRIED
    obtain ⟨cl, ⟨m_PrimeError, m_NoNumber, m_NoPrime, m_NoPair, m_NoPaper, m_NoBases, m_NoText, m_NoLine, m_NoName, m_NoDeed, m_TooGreat⟩, x_NoNumber, W0⟩ := d_cl
    have T : PP.Txt (L2.KOf KX) mg t_MOST_TRIED cl := ⟨c_MOST_TRIED, n_len, n_isinstance, n_int, n_bool, n_range, n_max, n_min, n_str, n_tuple, n_list, n_zip, n_all, n_ValueError, m_PrimeError, m_NoNumber, m_NoPrime, m_NoPair, m_NoPaper, m_NoBases, m_NoText, m_NoLine, m_NoName, m_NoDeed, m_TooGreat, x_NoNumber⟩
    try dsimp only [L2.KOf]
    dsimp only [L2.KOf] at T W0 d_is_whole d_is_between d_want_between d_want_tried d_least_part d_is_prime d_parts_of d_primes_of d_power_rest d_is_base d_least_base d_full_rows d_full_of_prime d_full_paper d_law_cell_at d_law_state d_law_take d_law_parts d_law_is_prime d_law_prime d_law_none d_law_bits d_law_power d_law_least d_law_same d_law_word
    refine' PP.fin_of hmg (PySem.W.mg_of KX G ?a) ?l ?c ?d ?e (fun base kb bm lk hcd hd => PP.all_ok lk hcd hd bm T W0 d_is_whole d_is_between d_want_between d_want_tried d_least_part d_is_prime d_parts_of d_primes_of d_power_rest d_is_base d_least_base d_full_rows d_full_of_prime d_full_paper d_law_cell_at d_law_state d_law_take d_law_parts d_law_is_prime d_law_prime d_law_none d_law_bits d_law_power d_law_least d_law_same d_law_word)
    (case a => k_is); (case l => k_is); (case c => k_is)
    case d => kernel_rfl
    case e => kernel_rfl
