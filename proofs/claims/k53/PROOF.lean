import PyProof.Rows.All
import Wide.All
import OpenK.AllK
import Wide.FinOn
import Lean
import PyProof.EqAt
import PyProof.EqKinds
import PyProof.TupleCall
import PySem.Challenge.RW_primepapers_k53_numbers_that_fool_all
import KE.KLam
import PyProof.NeKinds
import KE.KNestM
import PyProof.ReprRoads
import PyProof.ReprLen
import PyProof.CompUse
import PyProof.Conv_int_bool
import PyProof.WalkInts
import PyProof.Rows.Range3
set_option genSizeOfSpec false
set_option genSizeOf false
set_option Elab.async false
set_option linter.all false
set_option maxRecDepth 100000
namespace L2
open PySem PySem.Spec PyProof.Rows
noncomputable abbrev Key := Sum Int Str
noncomputable def keyIs : Key → Value → Bool
  | .inl k, v => Value.isInt k v
  | .inr x, v => Value.isStrOf x v
noncomputable def keyH (w : World) : Key → Int
  | .inl k => hashInt k
  | .inr x => hashStr w x
theorem keyIs_shape : ∀ {k : Key} {v : Value}, keyIs k v = true → (∃ i t, k = Sum.inl i ∧ v = Value.int i t) ∨ (∃ x t, k = Sum.inr x ∧ v = Value.str x t)
  | .inl i, v, h => by
    obtain ⟨t, e⟩ := Value.isInt_shape (k := i) (v := v) h
    exact .inl ⟨i, t, rfl, e⟩
  | .inr x, v, h => by
    obtain ⟨t, e⟩ := Value.isStrOf_shape (x := x) (v := v) h
    exact .inr ⟨x, t, rfl, e⟩
theorem key_ll (a b : Int) : decide ((Sum.inl a : Key) = Sum.inl b) = (a == b) := by
  by_cases e : a = b
  · subst e; simp
  · have h : ¬ (Sum.inl a : Key) = Sum.inl b := fun q => e (Sum.inl.inj q)
    rw [decide_eq_false h]
    exact (beq_eq_false_iff_ne.mpr e).symm
theorem key_rr (a b : Str) : decide ((Sum.inr a : Key) = Sum.inr b) = decide (a = b) := by
  by_cases e : a = b
  · subst e; simp
  · have h : ¬ (Sum.inr a : Key) = Sum.inr b := fun q => e (Sum.inr.inj q)
    rw [decide_eq_false h, decide_eq_false e]
theorem key_lr (a : Int) (b : Str) : decide ((Sum.inl a : Key) = Sum.inr b) = false := decide_eq_false (fun q => nomatch q)
theorem key_rl (a : Str) (b : Int) : decide ((Sum.inr a : Key) = Sum.inl b) = false := decide_eq_false (fun q => nomatch q)
noncomputable def mixKind (prog : Program) (w : World) : PySem.KeyKind prog w Key where
  is := keyIs
  hash := keyH w
  inj := fun v a b ha hb => by
    rcases keyIs_shape ha with ⟨i, t, rfl, rfl⟩ | ⟨x, t, rfl, rfl⟩
    · rcases keyIs_shape hb with ⟨j, u, rfl, e⟩ | ⟨y, u, rfl, e⟩
      · injection e with e1 _; rw [e1]
      · exact nomatch e
    · rcases keyIs_shape hb with ⟨j, u, rfl, e⟩ | ⟨y, u, rfl, e⟩
      · exact nomatch e
      · injection e with e1 _; rw [e1]
  byValue := fun k v h => by
    rcases keyIs_shape h with ⟨i, t, rfl, rfl⟩ | ⟨x, t, rfl, rfl⟩ <;> rfl
  pyHash := fun hv h => by
    rcases keyIs_shape hv with ⟨i, t, rfl, rfl⟩ | ⟨x, t, rfl, rfl⟩
    · exact wpAny_pyHash_int h
    · exact wpAny_pyHash_str h
  eqBool := fun hu hv h => by
    rcases keyIs_shape hu with ⟨i, t, rfl, rfl⟩ | ⟨x, t, rfl, rfl⟩
    · rcases keyIs_shape hv with ⟨j, u, rfl, rfl⟩ | ⟨y, u, rfl, rfl⟩
      · rw [key_ll] at h; exact wpAny_eqBool_int h
      · rw [key_lr] at h; exact SeqAt.EqAt.int_str i t y u _ _ _ _ h
    · rcases keyIs_shape hv with ⟨j, u, rfl, rfl⟩ | ⟨y, u, rfl, rfl⟩
      · rw [key_rl] at h; exact SeqAt.EqAt.str_int x t j u _ _ _ _ h
      · rw [key_rr] at h; exact wpAny_eqBool_str h
  «strs» := fun k x t v h => by
    rcases keyIs_shape h with ⟨i, u, rfl, e⟩ | ⟨y, u, rfl, e⟩
    · exact nomatch e
    · injection e with e1 _
      subst e1
      cases v <;> rfl
end L2
namespace L2
open PySem PySem.Spec PyProof.Rows
inductive V where
  | non | bl (b : Bool) | int (i : Int) | str (x : Str) | byt (b : Array UInt8) | flt (b : UInt64) | ref (a : Addr) | ty (n : String)
  deriving DecidableEq
noncomputable def RelV : V → Value → Prop
  | .non, u => u = Value.none
  | .bl b, u => u = Value.bool b
  | .int i, u => ∃ t, u = Value.int i t
  | .str x, u => ∃ t, u = Value.str x t
  | .byt b, u => ∃ t, u = Value.bytes b t
  | .flt b, u => ∃ t, u = Value.float b t
  | .ref a, u => u = Value.ref a
  | .ty n, u => u = Value.type n
noncomputable abbrev Vals : List V → List Value → Prop := Paired RelV
theorem Vals.length {xs : List V} {us : List Value} (r : Vals xs us) : xs.length = us.length := Paired.length r
theorem Vals.get : ∀ {xs : List V} {us : List Value} {i : Nat} {x : V}, Vals xs us → xs[i]? = some x → ∃ u, us[i]? = some u ∧ RelV x u
  | _, _, _, _, .nil, e => by simp at e
  | _, _, 0, _, .cons r _, e => by simp at e; subst e; exact ⟨_, rfl, r⟩
  | _, _, i + 1, x, .cons _ t, e => by
    obtain ⟨u, h1, h2⟩ := Vals.get (i := i) (x := x) t (by simpa using e)
    exact ⟨u, by simpa using h1, h2⟩
theorem Vals.set {x : V} {u : Value} (r : RelV x u) : ∀ {xs : List V} {us : List Value} (i : Nat), Vals xs us → Vals (xs.set i x) (us.set i u)
  | _, _, _, .nil => .nil
  | _, _, 0, .cons _ t => .cons r t
  | _, _, i + 1, .cons q t => .cons q (Vals.set r i t)
theorem Vals.append : ∀ {xs ys : List V} {us ws : List Value}, Vals xs us → Vals ys ws → Vals (xs ++ ys) (us ++ ws)
  | _, _, _, _, .nil, s => s
  | _, _, _, _, .cons r t, s => .cons r (Vals.append t s)
theorem Vals.take : ∀ {xs : List V} {us : List Value} (n : Nat), Vals xs us → Vals (xs.take n) (us.take n)
  | _, _, 0, _ => .nil
  | _, _, _ + 1, .nil => .nil
  | _, _, n + 1, .cons r t => .cons r (Vals.take n t)
theorem Vals.drop : ∀ {xs : List V} {us : List Value} (n : Nat), Vals xs us → Vals (xs.drop n) (us.drop n)
  | _, _, 0, r => r
  | _, _, _ + 1, .nil => .nil
  | _, _, n + 1, .cons _ t => Vals.drop n t
noncomputable def RelO : Option V → Option Value → Prop
  | some v, some u => RelV v u
  | none, none => True
  | _, _ => False
noncomputable def KV {κ : Type} : List (κ × V) → List (κ × Value) → Prop := Paired fun (p : κ × V) (q : κ × Value) => p.1 = q.1 ∧ RelV p.2 q.2
noncomputable def kV : Key → V
  | .inl i => .int i
  | .inr x => .str x
inductive HO where
  
  | lst (xs : List V)
  
  | tup (xs : List V)
  
  | dK (kvs : List (Key × V)) | dT (kvs : List (List Key × V))
  
  | set (S : Int → Bool) (n : Nat)
  
  | ins (C dx : Addr) (fs : List (Str × V))
  
  | own (x : Addr)
  
  | xd (fs : List (Str × V))
  
  | met (f x : Addr)
  
  | rng (lo hi : Int)
  
  | frz (o : Obj) (u : HO)
  
  | tbl (ps : Array Value)
  
  | ext (φ : Heap → Prop)
noncomputable abbrev Hp := Addr → Option HO
noncomputable def upd (H : Hp) (a : Addr) (o : HO) : Hp := fun b => if b = a then some o else H b
theorem upd_same {H : Hp} {a : Addr} {o : HO} : upd H a o a = some o := by unfold upd; rw [if_pos rfl]
theorem upd_ne {H : Hp} {a b : Addr} {o : HO} (h : b ≠ a) : upd H a o b = H b := by unfold upd; rw [if_neg h]
theorem ne_of_none {H : Hp} {a b : Addr} {o : HO} (h : H a = some o) (h' : H b = none) : a ≠ b := by
  intro e; subst e; rw [h] at h'; cases h'
section
variable (P : Program) (w : World)
noncomputable def ObjOk (H : Hp) (h : Heap) (a : Addr) : HO → Prop
  | .lst xs => xs.length ≤ sizeLine ∧ ∃ (its : List Value) (n : Nat), Vals xs its ∧ h.get? a = some { cls := .type "list", data := .seq its.toArray n }
  | .tup xs => xs.length ≤ sizeLine ∧ ∃ its : List Value, Vals xs its ∧ IsTup h a its.toArray
  | .dK kvs => kvs.length ≤ sizeLine ∧ (a == sysModules) = false ∧ ∃ vs, KV kvs vs ∧ h.DictOf (mixKind P w) a vs
  | .dT kvs => kvs.length ≤ sizeLine ∧ (a == sysModules) = false ∧ ∃ xs : List (List Key × Addr × Value),
      Paired (fun (p : List Key × V) (q : List Key × Addr × Value) => p.1 = q.1 ∧ H q.2.1 = some (.tup (p.1.map kV)) ∧ RelV p.2 q.2.2) kvs xs ∧
      ∃ o es ep, h.get? a = some o ∧ o.ExactDict ∧ o.data = .dict es ep ∧ es.toList = xs.map (entryOfKey (tupleKind (mixKind P w))) ∧ (xs.map (·.1)).Nodup
  | .set S n => h.SetOf (intKind P w) a S n
  | .ins C dx fs => H dx = some (.own a) ∧ fs.length ≤ 1000 ∧ dx ≠ a ∧ h.get? a = some (PySem.W.instObj C dx) ∧
      ∃ mA, h.Ns1 dx mA ∧ (∀ f, RelO (fs.lookup f) (mA f)) ∧ PySem.Within mA (fs.map (·.1))
  | .own _ => ∃ o, h.get? a = some o
  | .xd fs => ∃ mA, h.Ns1 a mA ∧ ∀ f, RelO (fs.lookup f) (mA f)
  | .rng lo hi => ∃ t u v, h.get? a = some { cls := .type "range", data := .fields #[.int lo t, .int hi u, .int 1 v] }
  | .frz o u => h.get? a = some o ∧ ObjOk H h a u
  | .tbl ps => h.get? a = some { cls := .none, data := .fields ps }
  | .met f x => h.get? a = some (PySem.W.methodObj (.ref f) (.ref x))
  | .ext φ => φ h ∧ (∃ o, h.get? a = some o) ∧ ∀ h1 h2 : Heap, φ h1 → (∀ o, h1.get? a = some o → h2.get? a = some o) → φ h2
noncomputable def HOk (H : Hp) (h : Heap) : Prop := ∀ a o, H a = some o → ObjOk P w H h a o
end
section
variable {P : Program} {w : World} {H H' : Hp} {h h' : Heap} {a : Addr} {o : HO}
theorem ObjOk.lt (x : ObjOk P w H h a o) : a < h.objs.size := by
  cases o with
  | lst xs => obtain ⟨_, _, _, _, e⟩ := x; exact Heap.lt_size e
  | tup xs => obtain ⟨_, _, _, p⟩ := x; exact p.lt
  | dK kvs => obtain ⟨_, _, _, _, o, _, _, e, _⟩ := x; exact Heap.lt_size e
  | dT kvs => obtain ⟨_, _, _, _, o, _, _, e, _⟩ := x; exact Heap.lt_size e
  | set S n => obtain ⟨o, _, _, _, e, _⟩ := x; exact Heap.lt_size e
  | ins C dx fs => obtain ⟨_, _, _, e, _⟩ := x; exact Heap.lt_size e
  | own y => obtain ⟨_, e⟩ := x; exact Heap.lt_size e
  | xd fs => obtain ⟨_, ⟨_, _, _, e, _⟩, _⟩ := x; exact Heap.lt_size e
  | rng lo hi => obtain ⟨_, _, _, e⟩ := x; exact Heap.lt_size e
  | frz ob u => obtain ⟨e, _⟩ := x; exact Heap.lt_size e
  | tbl ps => exact Heap.lt_size (show h.get? a = some _ from x)
  | met f y => exact Heap.lt_size (show h.get? a = some _ from x)
  | ext φ => obtain ⟨_, ⟨_, e⟩, _⟩ := x; exact Heap.lt_size e
theorem Paired.mapP {α β : Type} {F G : α → β → Prop} : ∀ {l₁ : List α} {l₂ : List β}, Paired F l₁ l₂ → (∀ a b, F a b → G a b) → Paired G l₁ l₂
  | _, _, .nil, _ => .nil
  | _, _, .cons r t, f => .cons (f _ _ r) (Paired.mapP t f)
theorem ObjOk.stay (x : ObjOk P w H h a o) (k : ∀ b u, (b = a ∨ H b = some (.own a)) → h.get? b = some u → h'.get? b = some u)
    (ho : ∀ b, H b = some (.own a) → H' b = some (.own a)) (ht : ∀ b xs, H b = some (.tup xs) → H' b = some (.tup xs)) : ObjOk P w H' h' a o := by
  induction o with
  | lst xs => obtain ⟨z, its, n, r, e⟩ := x; exact ⟨z, its, n, r, k _ _ (.inl rfl) e⟩
  | tup xs => obtain ⟨z, its, r, ob, e, c⟩ := x; exact ⟨z, its, r, ob, k _ _ (.inl rfl) e, c⟩
  | dK kvs => obtain ⟨z, y, vs, r, ob, es, ep, e, c⟩ := x; exact ⟨z, y, vs, r, ob, es, ep, k _ _ (.inl rfl) e, c⟩
  | dT kvs =>
    obtain ⟨z, y, xs, r, ob, es, ep, e, c⟩ := x
    exact ⟨z, y, xs, Paired.mapP r fun p q z => ⟨z.1, ht _ _ z.2.1, z.2.2⟩, ob, es, ep, k _ _ (.inl rfl) e, c⟩
  | set S n => obtain ⟨ob, es, ep, t, e, c⟩ := x; exact ⟨ob, es, ep, t, k _ _ (.inl rfl) e, c⟩
  | ins C dx fs =>
    obtain ⟨d, z, ne, e, mA, ⟨od, es, ep, e2, c⟩, r⟩ := x
    exact ⟨ho _ d, z, ne, k _ _ (.inl rfl) e, mA, ⟨od, es, ep, k _ _ (.inr d) e2, c⟩, r⟩
  | own y => obtain ⟨ob, e⟩ := x; exact ⟨ob, k _ _ (.inl rfl) e⟩
  | xd fs => obtain ⟨mA, ⟨od, es, ep, e, c⟩, r⟩ := x; exact ⟨mA, ⟨od, es, ep, k _ _ (.inl rfl) e, c⟩, r⟩
  | rng lo hi => obtain ⟨t, u, v, e⟩ := x; exact ⟨t, u, v, k _ _ (.inl rfl) e⟩
  | frz ob u ih => obtain ⟨e, q⟩ := x; exact ⟨k _ _ (.inl rfl) e, ih q⟩
  | tbl ps =>
    have e : h.get? a = some { cls := .none, data := .fields ps } := x
    show h'.get? a = some { cls := .none, data := .fields ps }
    exact k a _ (.inl rfl) e
  | met f y =>
    have e : h.get? a = some (PySem.W.methodObj (.ref f) (.ref y)) := x
    show h'.get? a = some (PySem.W.methodObj (.ref f) (.ref y))
    exact k a _ (.inl rfl) e
  | ext φ => obtain ⟨p, ⟨o, e⟩, st⟩ := x; exact ⟨st _ _ p fun o q => k _ _ (.inl rfl) q, ⟨o, k _ _ (.inl rfl) e⟩, st⟩
theorem HOk.lt (x : HOk P w H h) (e : H a = some o) : a < h.objs.size := (x a o e).lt
theorem HOk.fresh (x : HOk P w H h) (e : h.objs.size ≤ a) : H a = none := by
  cases q : H a with
  | none => rfl
  | some u => exact absurd (Nat.lt_of_lt_of_le (x.lt q) e) (Nat.lt_irrefl _)
theorem HOk.kept (x : HOk P w H h) (k : ∀ b u, h.get? b = some u → h'.get? b = some u) : HOk P w H h' := fun a o e =>
  (x a o e).stay (fun b u _ q => k b u q) (fun _ q => q) fun _ _ q => q
theorem HOk.laid (x : HOk P w H h) (k : ∀ b u, h.get? b = some u → h'.get? b = some u) (hp : h.objs.size ≤ a) (new : ObjOk P w (upd H a o) h' a o) : HOk P w (upd H a o) h' := fun b u e => by
  have hn := x.fresh hp
  by_cases hb : b = a
  · subst hb; rw [upd_same] at e; cases e; exact new
  · rw [upd_ne hb] at e
    exact (x b u e).stay (fun c v _ q => k c v q) (fun c q => by rw [upd_ne (ne_of_none q hn)]; exact q) fun c xs q => by rw [upd_ne (ne_of_none q hn)]; exact q
end
noncomputable def Rd (H : Hp) (a : Addr) (u : HO) : Prop := H a = some u ∨ ∃ o, H a = some (.frz o u)
theorem Rd.of {H : Hp} {a : Addr} {u : HO} (h : H a = some u) : Rd H a u := .inl h
theorem Rd.ok {P : Program} {w : World} {H : Hp} {h : Heap} {a : Addr} {u : HO} (r : Rd H a u) (x : HOk P w H h) : ObjOk P w H h a u := by
  rcases r with r | ⟨o, r⟩
  · exact x a u r
  · obtain ⟨_, q⟩ := x a _ r
    exact q
noncomputable def Mut : Option HO → Prop
  | some (.lst _) => True
  | some (.dK _) => True
  | some (.dT _) => True
  | some (.set _ _) => True
  | some (.ins _ _ _) => True
  | some (.ext _) => True
  | _ => False
section
variable {P : Program} {w : World} {H : Hp} {h h' : Heap} {x e : Addr} {o' : HO}
theorem HOk.write (ok : HOk P w H h) (mu : Mut (H x)) (he : e = x ∨ H e = some (.own x)) (k : ∀ b u, b ≠ e → h.get? b = some u → h'.get? b = some u) (heo : ∃ u, h'.get? e = some u)
    (new : ObjOk P w (upd H x o') h' x o') : HOk P w (upd H x o') h' := fun b u q => by
  have nown : ∀ c y, H c = some (.own y) → c ≠ x := fun c y r z => by subst z; rw [r] at mu; exact mu
  have ntup : ∀ c xs, H c = some (.tup xs) → c ≠ x := fun c xs r z => by subst z; rw [r] at mu; exact mu
  by_cases hb : b = x
  · subst hb; rw [upd_same] at q; cases q; exact new
  · rw [upd_ne hb] at q
    by_cases hbe : b = e
    · have q' : H b = some (.own x) := by
        rcases he with z | z
        · exact absurd (hbe.trans z) hb
        · rw [hbe]; exact z
      rw [q] at q'; cases q'
      obtain ⟨v, hv⟩ := heo
      exact ⟨v, by rw [hbe]; exact hv⟩
    · refine (ok b u q).stay (fun c v hc r => k c v ?_ r) (fun c r => by rw [upd_ne (nown c b r)]; exact r) fun c xs r => by rw [upd_ne (ntup c xs r)]; exact r
      rcases hc with rfl | hc
      · exact hbe
      · rintro rfl
        rcases he with z | z
        · exact nown c b hc z
        · rw [hc] at z; cases z; exact hb rfl
end
structure Un (fs ex : List Addr) (H H' : Hp) (h h' : Heap) : Prop where
  keep : ∀ b o, h.get? b = some o → H b = none → b ∉ fs → b ∉ ex → h'.get? b = some o
  slot : ∀ b o, h.get? b = some o → H b = none → b ∈ fs → b ∉ ex → ∃ sl, h'.get? b = some { o with slots := sl }
  free : ∀ b o, h.get? b = some o → H b = none → b ∉ ex → H' b = none
  there : ∀ b o, h.get? b = some o → b ∉ ex → ∃ o', h'.get? b = some o'
  tups : ∀ b xs, H b = some (.tup xs) → H' b = some (.tup xs)
  frzs : ∀ b o u, H b = some (.frz o u) → H' b = some (.frz o u)
  tbls : ∀ b ps, H b = some (.tbl ps) → ∃ more, H' b = some (.tbl (ps ++ more))
section
variable {fs fs' ex ex' : List Addr} {H H1 H2 : Hp} {h h1 h2 h' : Heap} {a x e : Addr} {o : HO}
theorem Un.any (u : Un fs ex H H1 h h1) {b : Addr} {ob : Obj} (q : h.get? b = some ob) (n : H b = none) (hx : b ∉ ex) : ∃ sl, h1.get? b = some { ob with slots := sl } := by
  by_cases hb : b ∈ fs
  · exact u.slot b ob q n hb hx
  · exact ⟨ob.slots, u.keep b ob q n hb hx⟩
theorem Un.trans (a : Un fs ex H H1 h h1) (b : Un fs ex H1 H2 h1 h2) : Un fs ex H H2 h h2 where
  keep := fun c ob q n hc hx => b.keep c ob (a.keep c ob q n hc hx) (a.free c ob q n hx) hc hx
  slot := fun c ob q n hc hx => by
    obtain ⟨sl, e1⟩ := a.slot c ob q n hc hx
    obtain ⟨sl', e2⟩ := b.slot c _ e1 (a.free c ob q n hx) hc hx
    exact ⟨sl', e2⟩
  free := fun c ob q n hx => by
    obtain ⟨o', e1⟩ := a.there c ob q hx
    exact b.free c o' e1 (a.free c ob q n hx) hx
  there := fun c ob q hx => by
    obtain ⟨o', e1⟩ := a.there c ob q hx
    exact b.there c o' e1 hx
  tups := fun c xs q => b.tups c xs (a.tups c xs q)
  frzs := fun c ob xs q => b.frzs c ob xs (a.frzs c ob xs q)
  tbls := fun c ps q => by
    obtain ⟨m1, e1⟩ := a.tbls c ps q
    obtain ⟨m2, e2⟩ := b.tbls c _ e1
    exact ⟨m1 ++ m2, by rw [e2, Array.append_assoc]⟩
theorem Un.kept (k : ∀ b u, h.get? b = some u → h'.get? b = some u) : Un fs ex H H h h' :=
  ⟨fun b ob q _ _ _ => k b ob q, fun b ob q _ _ _ => ⟨ob.slots, k b ob q⟩, fun _ _ _ n _ => n, fun b ob q _ => ⟨ob, k b ob q⟩, fun _ _ q => q, fun _ _ _ q => q, fun _ ps q => ⟨#[], by rw [q]; simp⟩⟩
theorem Un.refl : Un fs ex H H h h := Un.kept fun _ _ q => q
theorem Un.laid (k : ∀ b u, h.get? b = some u → h'.get? b = some u) (hp : h.objs.size ≤ a) (hn : H a = none) : Un fs ex H (upd H a o) h h' where
  keep := fun b u q _ _ _ => k b u q
  slot := fun b u q _ _ _ => ⟨u.slots, k b u q⟩
  free := fun b u q n _ => by rw [upd_ne (Nat.ne_of_lt (Nat.lt_of_lt_of_le (Heap.lt_size q) hp))]; exact n
  there := fun b u q _ => ⟨u, k b u q⟩
  tups := fun b xs q => by rw [upd_ne (ne_of_none q hn)]; exact q
  frzs := fun b u xs q => by rw [upd_ne (ne_of_none q hn)]; exact q
  tbls := fun b ps q => ⟨#[], by rw [upd_ne (ne_of_none q hn), q]; simp⟩
theorem Un.write (mu : Mut (H x)) (he : e = x ∨ H e = some (.own x)) (k : ∀ b u, b ≠ e → h.get? b = some u → h'.get? b = some u) (heo : ∃ u, h'.get? e = some u) : Un fs ex H (upd H x o) h h' := by
  have hx : ∀ b, H b = none → b ≠ x := fun b n z => by subst z; rw [n] at mu; exact mu
  have hb : ∀ b, H b = none → b ≠ e := fun b n z => by
    subst z
    rcases he with r | r
    · exact hx b n r
    · rw [n] at r; cases r
  have hm : ∀ b u, H b = some u → ¬ Mut (some u) → b ≠ x := fun b u q nm z => by subst z; rw [q] at mu; exact nm mu
  refine ⟨fun b u q n _ _ => k b u (hb b n) q, fun b u q n _ _ => ⟨u.slots, k b u (hb b n) q⟩, fun b u q n _ => by rw [upd_ne (hx b n)]; exact n, fun b u q _ => ?_,
    fun b xs q => by rw [upd_ne (hm b _ q fun z => z)]; exact q, fun b u xs q => by rw [upd_ne (hm b _ q fun z => z)]; exact q, fun b ps q => ⟨#[], by rw [upd_ne (hm b _ q fun z => z), q]; simp⟩⟩
  by_cases hbe : b = e
  · subst hbe; exact heo
  · exact ⟨u, k b u hbe q⟩
theorem Un.mono (u : Un fs ex H H1 h h1) (hs : ∀ b ∈ fs, b ∈ fs') (hx : ∀ b ∈ ex, b ∈ ex') : Un fs' ex' H H1 h h1 :=
  ⟨fun b ob q n hb he => u.keep b ob q n (fun z => hb (hs b z)) fun z => he (hx b z), fun _ _ q n _ he => u.any q n fun z => he (hx _ z), fun b ob q n he => u.free b ob q n fun z => he (hx b z), fun b ob q he => u.there b ob q fun z => he (hx b z), u.tups, u.frzs, u.tbls⟩
end
noncomputable def trk (h : Heap) (H : Hp) : List Addr := (List.range h.objs.size).filter fun a => (H a).isSome
noncomputable def hidT (h : Heap) (H : Hp) : Heap := PySem.W.hideAll h (trk h H)
theorem hidT_size (h : Heap) (H : Hp) : (hidT h H).objs.size = h.objs.size := PySem.W.hideAll_size _ _
theorem hidT_get {h : Heap} {H : Hp} {b : Addr} {o : Obj} (e : h.get? b = some o) (n : H b = none) : (hidT h H).get? b = some o :=
  PySem.W.hideAll_get _ e fun hm => by
    have q : (H b).isSome = true := (List.mem_filter.mp hm).2
    rw [n] at q; simp at q
theorem of_hidT {h : Heap} {H : Hp} {b : Addr} {o : Obj} (e : (hidT h H).get? b = some o) : h.get? b = some o ∧ H b = none := by
  have e' : h.get? b = some o := PySem.W.of_hideAll (trk h H) e
  refine ⟨e', ?_⟩
  cases q : H b with
  | none => rfl
  | some x =>
    have hm : b ∈ trk h H := List.mem_filter.mpr ⟨List.mem_range.mpr (Heap.lt_size e'), by simp [q]⟩
    have z : (hidT h H).get? b = none := PySem.W.hideAll_none (trk h H) hm
    rw [z] at e; cases e
noncomputable def allNews (g h : Heap) (L : Addr) : List (Addr × Obj) := (List.range h.objs.size).filterMap fun a => if a = L ∨ (g.get? a).isSome = true then none else (h.get? a).map fun o => (a, o)
noncomputable def rest (g h : Heap) (L d : Addr) : List (Addr × Obj) := (allNews g h L).filter fun p => decide (p.1 ≠ d)
end L2
namespace L2
open PySem PySem.Spec PyProof.Rows
structure Mod (K : PySem.W.Frag) (mg : Str → Option Value) (base : Heap) : Prop where
  kin : K.In base
  glob : base.Ns mainGlobals mg
  blt : ∃ mb, base.Ns builtinsNs mb ∧ ∀ x : Str, x ≠ "__name__" → mb x = bootBuiltins x
  nolimit : base.NoLimit
structure Cx where
  prog : Program
  w : World
  K : PySem.W.Frag
  mg : Str → Option Value
  base : Heap
  A : Around
  N : List Str
  s₀ : Shared
  H₀ : Hp
  env : Env
  outer : List Env
  stack : List Env
  ex : List Addr
  fn : Str → Bool
  calm : Bool
  pn : List (Addr × Obj)
  xe : Value → Shared → Prop
noncomputable def frs (l : List Env) : List Addr := l.filterMap (·.frame)
noncomputable abbrev Cx.fs (X : Cx) : List Addr := frs X.outer
noncomputable def Vis (sc : Scope) (x : Str) : Prop := sc.names.lookup x = some .local ∨ sc.names.lookup x = some .cell ∨ sc.names.lookup x = some .free
noncomputable def Loc (sc : Scope) (x : Str) : Prop := sc.names.lookup x = some .local ∨ sc.names.lookup x = some .cell
noncomputable def Look (env : Env) (h : Heap) (m : Str → Option Value) (x : Str) (u : Value) : Prop :=
  (env.kindOf x = some .local ∧ m x = some u) ∨ ((env.kindOf x = some .cell ∨ env.kindOf x = some .free) ∧ ∃ c, env.cells.lookup x = some c ∧ h.IsCell c (some u))
structure Cx.Ok (X : Cx) : Prop where
  mod : Mod X.K X.mg X.base
  kind : X.env.scope.kind = .function
  glob : X.env.globals = mainGlobals
  blt : X.env.builtins = builtinsNs
  above : X.s₀.heap.objs.size ≤ X.env.locals
  inj : ∀ x y c, X.env.cells.lookup x = some c → X.env.cells.lookup y = some c → x = y
  has : ∀ x, (X.env.kindOf x = some .cell ∨ X.env.kindOf x = some .free) → ∃ c, X.env.cells.lookup x = some c
  cab : ∀ x c, X.fn x = true → X.env.cells.lookup x = some c → X.s₀.heap.objs.size ≤ c
  hd : X.calm = true → X.A.handled = none
  frames : X.A.frames = some X.stack
  stk : X.stack = X.outer ∨ (X.stack = X.env :: X.outer ∧ X.env.frame = some X.env.locals)
  exf : ∀ b ∈ X.ex, b ≠ X.env.locals ∧ ∀ x c, X.env.cells.lookup x = some c → c ≠ b
  bs : ∀ b o, X.base.get? b = some o → X.s₀.heap.get? b = some o ∧ X.H₀ b = none
  bsz : X.base.objs.size ≤ X.s₀.heap.objs.size
  noex : ∀ b o, X.base.get? b = some o → b ∉ X.ex
  exfs : ∀ b ∈ X.ex, b ∉ X.fs
  funs : X.s₀.heap.FunFrames X.base X.outer
  frf : ∀ b ∈ X.fs, X.H₀ b = none
structure Inv (X : Cx) (pins : List (Addr × Obj)) (σ : List (Option V)) (H : Hp) (s : Shared) : Prop where
  ok : X.Ok
  os : s.os = X.s₀.os
  bare : AllBare s.gens
  base : Un X.fs X.ex X.H₀ H X.s₀.heap s.heap
  loc : ∃ m, s.heap.Ns X.env.locals m ∧ ∀ (i : Nat) (x : Str) (v : V), X.N[i]? = some x → σ[i]? = some (some v) → Vis X.env.scope x → ∃ u, RelV v u ∧ Look X.env s.heap m x u
  cell : ∀ x c, X.env.cells.lookup x = some c → ∃ v, s.heap.IsCell c v
  free : H X.env.locals = none
  freeC : ∀ x c, X.env.cells.lookup x = some c → H c = none
  pin : ∀ p ∈ X.pn ++ pins, s.heap.get? p.1 = some p.2 ∧ H p.1 = none ∧ p.1 ≠ X.env.locals ∧ p.1 ∉ X.fs ∧ ∀ v, p.2.data ≠ .cell v
  hok : HOk X.prog X.w H s.heap
  len : σ.length = X.N.length
section
variable {X : Cx} {pins : List (Addr × Obj)} {σ : List (Option V)} {H H' : Hp} {s : Shared} {h' : Heap}
theorem Cx.Ok.nofr (ok : X.Ok) {b : Addr} {o : Obj} (e : X.base.get? b = some o) : b ∉ X.fs := fun hb => by
  have := (ok.funs.mem hb).1
  rw [e] at this; cases this
theorem Inv.bs (I : Inv X pins σ H s) : ∀ b o, X.base.get? b = some o → s.heap.get? b = some o ∧ H b = none := fun b o e =>
  ⟨I.base.keep b o (I.ok.bs b o e).1 (I.ok.bs b o e).2 (I.ok.nofr e) (I.ok.noex b o e), I.base.free b o (I.ok.bs b o e).1 (I.ok.bs b o e).2 (I.ok.noex b o e)⟩
theorem Inv.bk (I : Inv X pins σ H s) : ∀ b o, X.base.get? b = some o → s.heap.get? b = some o := fun b o e => (I.bs b o e).1
theorem Inv.mod (I : Inv X pins σ H s) : Mod X.K X.mg X.base := I.ok.mod
theorem Inv.kIn (I : Inv X pins σ H s) : X.K.In s.heap := I.ok.mod.kin.keeps I.bk
theorem Inv.nolimit (I : Inv X pins σ H s) : s.heap.NoLimit := I.ok.mod.nolimit.keeps I.bk
theorem Inv.fr (I : Inv X pins σ H s) : ∃ m, Fr X.base X.env.locals s.heap m :=
  let ⟨m, hn, _⟩ := I.loc
  ⟨m, hn, I.bk, Nat.le_trans I.ok.bsz I.ok.above⟩
theorem Inv.lt (I : Inv X pins σ H s) : X.env.locals < s.heap.objs.size := let ⟨_, hn, _⟩ := I.loc; hn.lt
theorem Inv.sz (I : Inv X pins σ H s) : X.s₀.heap.objs.size ≤ s.heap.objs.size := Nat.le_trans I.ok.above (Nat.le_of_lt I.lt)
theorem Inv.nofs (I : Inv X pins σ H s) {a : Addr} (h : s.heap.objs.size ≤ a) : a ∉ X.fs := fun hb => by
  obtain ⟨_, o, ho, _⟩ := I.ok.funs.mem hb
  exact absurd (Nat.lt_of_lt_of_le (Heap.lt_size ho) (Nat.le_trans I.sz h)) (Nat.lt_irrefl _)
theorem Inv.cne (I : Inv X pins σ H s) : ∀ x c, X.env.cells.lookup x = some c → c ≠ X.env.locals := fun x c e z => by
  obtain ⟨v, o, ho, hd⟩ := I.cell x c e
  obtain ⟨m, ⟨o', es, ep, ho', hd', _⟩, _⟩ := I.loc
  rw [z, ho'] at ho; cases ho; rw [hd'] at hd; cases hd
theorem Inv.funs (I : Inv X pins σ H s) : s.heap.FunFrames X.base X.outer := by
  have all : ∀ (l : List Env), (∀ b ∈ frs l, b ∈ X.fs) → X.s₀.heap.FunFrames X.base l → s.heap.FunFrames X.base l := by
    intro l
    induction l with
    | nil => intro _ _; trivial
    | cons env r ih =>
      intro hs hl
      obtain ⟨hk, ⟨L, o, hf, hn, ho, hd⟩, hr⟩ := hl
      have hL : L ∈ X.fs := hs L (by unfold frs; rw [List.filterMap_cons, hf]; exact List.mem_cons_self)
      obtain ⟨sl, e⟩ := I.base.slot L o ho (I.ok.frf L hL) hL fun z => I.ok.exfs L z hL
      exact ⟨hk, ⟨L, _, hf, hn, e, hd⟩, ih (fun b hb => hs b (by unfold frs; rw [List.filterMap_cons, hf]; exact List.mem_cons_of_mem _ hb)) hr⟩
  exact all X.outer (fun _ hb => hb) I.ok.funs
theorem Inv.stack (I : Inv X pins σ H s) : s.heap.FunFrames X.base X.stack := by
  rcases I.ok.stk with e | ⟨e, hf⟩
  · rw [e]; exact I.funs
  · rw [e]
    obtain ⟨m, hn, _⟩ := I.loc
    refine .cons (by rw [I.ok.kind]; decide) hf hn ?_ I.funs
    exact Heap.get?_none_of_le (Nat.le_trans I.ok.bsz I.ok.above)
theorem Inv.stkSub (I : Inv X pins σ H s) : ∀ b ∈ frs X.stack, b ∈ X.env.locals :: X.fs := fun b hb => by
  rcases I.ok.stk with e | ⟨e, hf⟩
  · rw [e] at hb; exact List.mem_cons_of_mem _ hb
  · rw [e] at hb
    unfold frs at hb
    rw [List.filterMap_cons, hf] at hb
    exact hb
theorem Inv.stkFree (I : Inv X pins σ H s) : ∀ b ∈ frs X.stack, H b = none := fun b hb => by
  rcases List.mem_cons.mp (I.stkSub b hb) with e | hb
  · rw [e]; exact I.free
  · obtain ⟨_, o, ho, _⟩ := I.ok.funs.mem hb
    exact I.base.free b o ho (I.ok.frf b hb) fun z => I.ok.exfs b z hb
theorem Inv.step {g' : Array GenState} {t' : Nat} {d' : Drawn} {ch : List Addr} (I : Inv X pins σ H s)
    (hch : ∀ b ∈ ch, (b ∈ X.ex ∨ X.s₀.heap.objs.size ≤ b) ∧ b ≠ X.env.locals ∧ (∀ x c, X.env.cells.lookup x = some c → c ≠ b) ∧ ∀ p ∈ X.pn ++ pins, p.1 ≠ b)
    (keep : ∀ b o, b ≠ X.env.locals → b ∉ X.fs → b ∉ ch → s.heap.get? b = some o → H b = none → h'.get? b = some o)
    (slot : ∀ b o, b ≠ X.env.locals → b ∈ X.fs → b ∉ ch → s.heap.get? b = some o → H b = none → ∃ sl, h'.get? b = some { o with slots := sl }) (free : ∀ b o, b ∉ ch → s.heap.get? b = some o → H b = none → H' b = none)
    (there : ∀ b o, b ∉ ch → s.heap.get? b = some o → ∃ o', h'.get? b = some o')
    (tups : ∀ b xs, H b = some (.tup xs) → H' b = some (.tup xs)) (frzs : ∀ b o u, H b = some (.frz o u) → H' b = some (.frz o u)) (tbls : ∀ b ps, H b = some (.tbl ps) → ∃ more, H' b = some (.tbl (ps ++ more)))
    (ns : ∀ m, s.heap.Ns X.env.locals m → h'.Ns X.env.locals m) (hok : HOk X.prog X.w H' h') (hg : AllBare g') :
    Inv X pins σ H' { s with heap := h', gens := g', drawn := d', toks := t' } := by
  have neL : ∀ b o, X.s₀.heap.get? b = some o → b ≠ X.env.locals := fun b o e => Nat.ne_of_lt (Nat.lt_of_lt_of_le (Heap.lt_size e) I.ok.above)
  have neC : ∀ b o, X.s₀.heap.get? b = some o → b ∉ X.ex → b ∉ ch := fun b o e hx hb => by
    rcases (hch b hb).1 with z | z
    · exact hx z
    · exact absurd (Nat.lt_of_lt_of_le (Heap.lt_size e) z) (Nat.lt_irrefl _)
  have cellK : ∀ x c, X.env.cells.lookup x = some c → ∀ v, s.heap.IsCell c v → h'.IsCell c v := fun x c e v ⟨o, ho, hd⟩ => by
    have nch : c ∉ ch := fun z => (hch c z).2.2.1 x c e rfl
    by_cases hc : c ∈ X.fs
    · obtain ⟨sl, q⟩ := slot c o (I.cne x c e) hc nch ho (I.freeC x c e)
      exact ⟨_, q, hd⟩
    · exact ⟨o, keep c o (I.cne x c e) hc nch ho (I.freeC x c e), hd⟩
  refine ⟨I.ok, I.os, hg, ⟨fun b o e n hb hx => ?_, fun b o e n hb hx => ?_, fun b o e n hx => ?_, fun b o e hx => ?_, fun b xs e => tups b xs (I.base.tups b xs e), fun b o xs e => frzs b o xs (I.base.frzs b o xs e), fun b ps e => ?_⟩, ?_, fun x c e => ?_, ?_, fun x c e => ?_, fun p hp => ?_, hok, I.len⟩
  · exact keep b o (neL b o e) hb (neC b o e hx) (I.base.keep b o e n hb hx) (I.base.free b o e n hx)
  · obtain ⟨sl, e1⟩ := I.base.slot b o e n hb hx
    obtain ⟨sl', e2⟩ := slot b _ (neL b o e) hb (neC b o e hx) e1 (I.base.free b o e n hx)
    exact ⟨sl', e2⟩
  · obtain ⟨o', e1⟩ := I.base.there b o e hx
    exact free b o' (neC b o e hx) e1 (I.base.free b o e n hx)
  · obtain ⟨o', e1⟩ := I.base.there b o e hx
    exact there b o' (neC b o e hx) e1
  · obtain ⟨m1, e1⟩ := I.base.tbls b ps e
    obtain ⟨m2, e2⟩ := tbls b _ e1
    exact ⟨m1 ++ m2, by rw [e2, Array.append_assoc]⟩
  · obtain ⟨m, hn, hl⟩ := I.loc
    refine ⟨m, ns m hn, fun i x v e1 e2 e3 => ?_⟩
    obtain ⟨u, r, l⟩ := hl i x v e1 e2 e3
    refine ⟨u, r, ?_⟩
    rcases l with l | ⟨k, c, e, z⟩
    · exact .inl l
    · exact .inr ⟨k, c, e, cellK x c e _ z⟩
  · obtain ⟨v, z⟩ := I.cell x c e
    exact ⟨v, cellK x c e v z⟩
  · obtain ⟨m, ⟨o, _, _, ho, _⟩, _⟩ := I.loc
    exact free _ o (fun z => (hch _ z).2.1 rfl) ho I.free
  · obtain ⟨v, o, ho, hd⟩ := I.cell x c e
    exact free c o (fun z => (hch c z).2.2.1 x c e rfl) ho (I.freeC x c e)
  · obtain ⟨e, n, ne, nf, d⟩ := I.pin p hp
    have nch : p.1 ∉ ch := fun z => (hch p.1 z).2.2.2 p hp rfl
    exact ⟨keep p.1 p.2 ne nf nch e n, free p.1 p.2 nch e n, ne, nf, d⟩
theorem Inv.un {t' : Nat} (I : Inv X pins σ H s) (u : Un X.fs [] H H' s.heap h') (hok : HOk X.prog X.w H' h') : Inv X pins σ H' { s with heap := h', toks := t' } := by
  obtain ⟨m, ⟨o, es, ep, ho, r⟩, _⟩ := id I.loc
  obtain ⟨sl, hL⟩ := u.any ho I.free (by simp)
  exact I.step (g' := s.gens) (d' := s.drawn) (ch := []) (fun _ z => nomatch z) (fun b o _ hb _ e n => u.keep b o e n hb (by simp)) (fun b o _ hb _ e n => u.slot b o e n hb (by simp)) (fun b o _ e n => u.free b o e n (by simp)) (fun b o _ e => u.there b o e (by simp)) u.tups u.frzs u.tbls (fun m' hm => by
    obtain ⟨o', es', ep', ho', r'⟩ := hm
    rw [ho] at ho'; cases ho'
    exact ⟨_, es', ep', hL, r'⟩) hok I.bare
theorem Inv.call {g' : Array GenState} {t' : Nat} {d' : Drawn} {ch : List Addr} (I : Inv X pins σ H s) (u : Un (frs X.stack) ch H H' s.heap h') (hok : HOk X.prog X.w H' h') (hg : AllBare g')
    (hch : ∀ b ∈ ch, (b ∈ X.ex ∨ X.s₀.heap.objs.size ≤ b) ∧ b ≠ X.env.locals ∧ (∀ x c, X.env.cells.lookup x = some c → c ≠ b) ∧ ∀ p ∈ X.pn ++ pins, p.1 ≠ b) :
    Inv X pins σ H' { s with heap := h', gens := g', drawn := d', toks := t' } := by
  obtain ⟨m, ⟨o, es, ep, ho, r⟩, _⟩ := id I.loc
  obtain ⟨sl, hL⟩ := u.any ho I.free fun z => (hch _ z).2.1 rfl
  exact I.step (ch := ch) hch (fun b o hL hb hc e n => u.keep b o e n (fun z => (List.mem_cons.mp (I.stkSub b z)).elim hL hb) hc) (fun b o _ _ hc e n => u.any e n hc) (fun b o hc e n => u.free b o e n hc) (fun b o hc e => u.there b o e hc) u.tups u.frzs u.tbls (fun m' hm => by
    obtain ⟨o', es', ep', ho', r'⟩ := hm
    rw [ho] at ho'; cases ho'
    exact ⟨_, es', ep', hL, r'⟩) hok hg
theorem Inv.turned {t' : Nat} {it : Addr} (I : Inv X pins σ H s) (k : ∀ b o, b ≠ it → s.heap.get? b = some o → h'.get? b = some o) (hn : H it = none) (hL : it ≠ X.env.locals)
    (h1 : it ∈ X.ex ∨ X.s₀.heap.objs.size ≤ it) (h2 : ∀ x c, X.env.cells.lookup x = some c → c ≠ it) (h3 : ∀ p ∈ X.pn ++ pins, p.1 ≠ it) : Inv X pins σ H { s with heap := h', toks := t' } := by
  have nit : ∀ b u, H b = some u → b ≠ it := fun b u e z => by rw [z, hn] at e; cases e
  refine I.step (g' := s.gens) (d' := s.drawn) (ch := [it]) (fun b hb => ?_) (fun b o _ _ hc e _ => k b o (fun z => hc (by simp [z])) e) (fun b o _ _ hc e _ => ⟨o.slots, k b o (fun z => hc (by simp [z])) e⟩) (fun _ _ _ _ n => n)
    (fun b o hc e => ⟨o, k b o (fun z => hc (by simp [z])) e⟩) (fun _ _ e => e) (fun _ _ _ e => e) (fun b ps e => ⟨#[], by rw [e]; simp⟩) (fun m hm => ?_) (fun b u e => ?_) I.bare
  · have e : b = it := by simpa using hb
    subst e
    exact ⟨h1, hL, h2, h3⟩
  · obtain ⟨o, es, ep, ho, r⟩ := hm
    exact ⟨o, es, ep, k _ o (Ne.symm hL) ho, r⟩
  · refine (I.hok b u e).stay (fun c v hc q => k c v ?_ q) (fun _ q => q) fun _ _ q => q
    rcases hc with z | z
    · rw [z]; exact nit b u e
    · exact nit c _ z
theorem Inv.tok (I : Inv X pins σ H s) (t : Nat) : Inv X pins σ H { s with toks := t } := I.un (h' := s.heap) (t' := t) Un.refl I.hok
theorem Inv.kept {t' : Nat} (I : Inv X pins σ H s) (k : ∀ b u, s.heap.get? b = some u → h'.get? b = some u) : Inv X pins σ H { s with heap := h', toks := t' } := I.un (Un.kept k) (I.hok.kept k)
theorem Inv.laid {a : Addr} {o : HO} {t' : Nat} (I : Inv X pins σ H s) (k : ∀ b u, s.heap.get? b = some u → h'.get? b = some u) (hp : s.heap.objs.size ≤ a) (new : ObjOk X.prog X.w (upd H a o) h' a o) :
    Inv X pins σ (upd H a o) { s with heap := h', toks := t' } := I.un (Un.laid k hp (I.hok.fresh hp)) (I.hok.laid k hp new)
theorem Inv.write {x e : Addr} {o : HO} {t' : Nat} (I : Inv X pins σ H s) (mu : Mut (H x)) (he : e = x ∨ H e = some (.own x)) (k : ∀ b u, b ≠ e → s.heap.get? b = some u → h'.get? b = some u) (heo : ∃ u, h'.get? e = some u)
    (new : ObjOk X.prog X.w (upd H x o) h' x o) : Inv X pins σ (upd H x o) { s with heap := h', toks := t' } := I.un (Un.write mu he k heo) (I.hok.write mu he k heo new)
theorem Inv.pins_of {pins' : List (Addr × Obj)} (I : Inv X pins σ H s) (h : ∀ p ∈ pins', s.heap.get? p.1 = some p.2 ∧ H p.1 = none ∧ p.1 ≠ X.env.locals ∧ p.1 ∉ X.fs ∧ ∀ v, p.2.data ≠ .cell v) : Inv X pins' σ H s :=
  ⟨I.ok, I.os, I.bare, I.base, I.loc, I.cell, I.free, I.freeC, fun p hp => (List.mem_append.mp hp).elim (fun z => I.pin p (List.mem_append_left _ z)) (h p), I.hok, I.len⟩
theorem nodup_ix {N : List Str} (hN : N.Nodup) {i j : Nat} {x : Str} (a : N[i]? = some x) (b : N[j]? = some x) : i = j := by
  obtain ⟨h1, e1⟩ := List.getElem?_eq_some_iff.mp a
  obtain ⟨h2, e2⟩ := List.getElem?_eq_some_iff.mp b
  exact (List.getElem_inj hN).mp (e1.trans e2.symm)
theorem store_ok2 {M : Model} {A : Around} {E : Value → Shared → Prop} {i : Nat} {x : Str} {v : V} {u : Value} {Q : Unit → Shared → Prop} (I : Inv X pins σ H s) (hN : X.N.Nodup) (hi : X.N[i]? = some x) (hx : Loc X.env.scope x) (r : RelV v u)
    (h : ∀ s', Inv X pins (σ.set i (some v)) H s' → (∃ a, Heap.SameBut a s.heap s'.heap ∧ (a = X.env.locals ∨ X.env.cells.lookup x = some a)) → Q () s') (hf : X.fn x = true ∨ X.env.scope.names.lookup x = some .local := by first | exact .inl rfl | exact .inr rfl | assumption) : wpAny M A (storeName X.env x u) Q E s := by
  obtain ⟨m, hn, hl⟩ := id I.loc
  have hcls : (X.env.scope.kind == .class || (X.env.scope.kind == .module && X.env.locals != X.env.globals)) = false := by rw [I.ok.kind]; rfl
  have hiσ : i < σ.length := by rw [I.len]; exact (List.getElem?_eq_some_iff.mp hi).1
  have cne := I.cne
  have tracked : ∀ {a : Addr} {h' : Heap}, (∃ o, s.heap.get? a = some o ∧ H a = none) → Heap.SameBut a s.heap h' → HOk X.prog X.w H h' := fun {a h'} ha hs b ob e => by
    obtain ⟨_, _, hfree⟩ := ha
    refine (I.hok b ob e).stay (fun c w' hc q => (hs.2 c ?_).trans q) (fun _ q => q) fun _ _ q => q
    rintro rfl
    rcases hc with rfl | hc
    · rw [hfree] at e; cases e
    · rw [hfree] at hc; cases hc
  rcases hx with hk | hk
  · refine wpAny_storeName_local hk hn (fun h' hn' hs => ?_) hcls
    obtain ⟨oL, _, _, hoL, _⟩ := id hn
    refine h _ ⟨I.ok, I.os, I.bare, ⟨fun b o e n hb hx => ?_, fun b o e n hb hx => ?_, I.base.free, fun b o e hx => ?_, I.base.tups, I.base.frzs, I.base.tbls⟩, ⟨_, hn', fun j y v' e1 e2 e3 => ?_⟩, fun y c e => ?_, I.free, I.freeC, fun p hp => ?_, tracked ⟨oL, hoL, I.free⟩ hs, by simpa using I.len⟩ ⟨_, hs, .inl rfl⟩
    · exact (hs.2 b (Nat.ne_of_lt (Nat.lt_of_lt_of_le (Heap.lt_size e) I.ok.above))).trans (I.base.keep b o e n hb hx)
    · obtain ⟨sl, e1⟩ := I.base.slot b o e n hb hx
      exact ⟨sl, (hs.2 b (Nat.ne_of_lt (Nat.lt_of_lt_of_le (Heap.lt_size e) I.ok.above))).trans e1⟩
    · obtain ⟨o', e1⟩ := I.base.there b o e hx
      exact ⟨o', (hs.2 b (Nat.ne_of_lt (Nat.lt_of_lt_of_le (Heap.lt_size e) I.ok.above))).trans e1⟩
    · by_cases hj : j = i
      · subst hj
        rw [hi] at e1; cases e1
        rw [List.getElem?_set_self hiσ] at e2
        cases e2
        exact ⟨u, r, .inl ⟨hk, by simp⟩⟩
      · rw [List.getElem?_set_ne (Ne.symm hj)] at e2
        obtain ⟨u', r', q⟩ := hl j y v' e1 e2 e3
        refine ⟨u', r', ?_⟩
        rcases q with ⟨k, e⟩ | ⟨k, c, e, z⟩
        · refine .inl ⟨k, ?_⟩
          have : y ≠ x := fun e => hj (nodup_ix hN e1 (e ▸ hi))
          simp [this, e]
        · exact .inr ⟨k, c, e, z.sameBut hs (cne y c e)⟩
    · obtain ⟨w', z⟩ := I.cell y c e
      exact ⟨w', z.sameBut hs (cne y c e)⟩
    · obtain ⟨e, n, ne, nf, d⟩ := I.pin p hp
      exact ⟨(hs.2 p.1 ne).trans e, n, ne, nf, d⟩
  · have hfn : X.fn x = true := by
      rcases hf with z | z
      · exact z
      · rw [z] at hk; cases hk
    obtain ⟨c, hc⟩ := I.ok.has x (.inl hk)
    obtain ⟨w', z⟩ := I.cell x c hc
    refine wpAny_storeName_cell I.ok.kind hk hc z (fun h' hc' hs => ?_)
    obtain ⟨oc, hoc, hocd⟩ := id z
    refine h { s with heap := h' } ⟨I.ok, I.os, I.bare, ⟨fun b o e n hb hx => ?_, fun b o e n hb hx => ?_, I.base.free, fun b o e hx => ?_, I.base.tups, I.base.frzs, I.base.tbls⟩, ⟨m, hn.sameBut hs (Ne.symm (cne x c hc)), fun j y v' e1 e2 e3 => ?_⟩, fun y c' e => ?_, I.free, I.freeC, fun p hp => ?_, tracked ⟨oc, hoc, I.freeC x c hc⟩ hs, by simpa using I.len⟩ ⟨c, hs, .inr hc⟩
    · exact (hs.2 b (Nat.ne_of_lt (Nat.lt_of_lt_of_le (Heap.lt_size e) (I.ok.cab x c hfn hc)))).trans (I.base.keep b o e n hb hx)
    · obtain ⟨sl, e1⟩ := I.base.slot b o e n hb hx
      exact ⟨sl, (hs.2 b (Nat.ne_of_lt (Nat.lt_of_lt_of_le (Heap.lt_size e) (I.ok.cab x c hfn hc)))).trans e1⟩
    · obtain ⟨o', e1⟩ := I.base.there b o e hx
      exact ⟨o', (hs.2 b (Nat.ne_of_lt (Nat.lt_of_lt_of_le (Heap.lt_size e) (I.ok.cab x c hfn hc)))).trans e1⟩
    · by_cases hj : j = i
      · subst hj
        rw [hi] at e1; cases e1
        rw [List.getElem?_set_self hiσ] at e2
        cases e2
        exact ⟨u, r, .inr ⟨.inl hk, c, hc, hc'⟩⟩
      · rw [List.getElem?_set_ne (Ne.symm hj)] at e2
        obtain ⟨u', r', q⟩ := hl j y v' e1 e2 e3
        refine ⟨u', r', ?_⟩
        rcases q with q | ⟨k, c', e, z'⟩
        · exact .inl q
        · refine .inr ⟨k, c', e, z'.sameBut hs ?_⟩
          rintro rfl
          exact hj (nodup_ix hN e1 (I.ok.inj _ _ _ e hc ▸ hi))
    · by_cases hcc : c' = c
      · subst hcc; exact ⟨_, hc'⟩
      · obtain ⟨w2, z2⟩ := I.cell y c' e
        exact ⟨w2, z2.sameBut hs hcc⟩
    · obtain ⟨e, n, ne, nf, d⟩ := I.pin p hp
      refine ⟨(hs.2 p.1 ?_).trans e, n, ne, nf, d⟩
      intro q
      rw [q, hoc] at e
      have q' : oc = p.2 := Option.some.inj e
      exact d w' (by rw [← q']; exact hocd)
theorem store_ok {M : Model} {A : Around} {E : Value → Shared → Prop} {i : Nat} {x : Str} {v : V} {u : Value} {Q : Unit → Shared → Prop} (I : Inv X pins σ H s) (hN : X.N.Nodup) (hi : X.N[i]? = some x) (hx : Loc X.env.scope x) (r : RelV v u)
    (h : ∀ s', Inv X pins (σ.set i (some v)) H s' → Q () s') (hf : X.fn x = true ∨ X.env.scope.names.lookup x = some .local := by first | exact .inl rfl | exact .inr rfl | assumption) : wpAny M A (storeName X.env x u) Q E s :=
  store_ok2 I hN hi hx r (fun s' I' _ => h s' I') hf
theorem Inv.call' {s' : Shared} {ch : List Addr} (I : Inv X pins σ H s) (ho : s'.os = s.os) (u : Un (frs X.stack) ch H H' s.heap s'.heap) (hok : HOk X.prog X.w H' s'.heap) (hg : AllBare s'.gens)
    (hch : ∀ b ∈ ch, (b ∈ X.ex ∨ X.s₀.heap.objs.size ≤ b) ∧ b ≠ X.env.locals ∧ (∀ x c, X.env.cells.lookup x = some c → c ≠ b) ∧ ∀ p ∈ X.pn ++ pins, p.1 ≠ b) : Inv X pins σ H' s' := by
  obtain ⟨h', g', d', t', o'⟩ := s'
  have e : o' = s.os := ho
  subst e
  exact I.call (g' := g') (t' := t') (d' := d') u hok hg hch
end
noncomputable abbrev XK := Value → Option Addr → Hp → Prop
noncomputable abbrev St := List (Option V)
noncomputable abbrev VK := V → Hp → Prop
noncomputable abbrev TE := St → Hp → VK → Prop
noncomputable abbrev TT := St → Hp → (Bool → Hp → Prop) → Prop
noncomputable abbrev TA := St → Hp → (List V → Hp → Prop) → Prop
structure Ends where
  nx : St → Hp → Prop
  rt : VK
  bk : St → Hp → Prop := fun _ _ => False
  ct : St → Hp → Prop := fun _ _ => False
noncomputable abbrev TS := Ends → St → Hp → Prop
noncomputable def EP (X : Cx) (pins : List (Addr × Obj)) (σ : St) (Q : VK) (u : Value) (s' : Shared) : Prop := ∃ v H', Inv X pins σ H' s' ∧ RelV v u ∧ Q v H'
noncomputable def TP (X : Cx) (pins : List (Addr × Obj)) (σ : St) (Q : Bool → Hp → Prop) (b : Bool) (s' : Shared) : Prop := ∃ H', Inv X pins σ H' s' ∧ Q b H'
noncomputable def AP (X : Cx) (pins : List (Addr × Obj)) (σ : St) (Q : List V → Hp → Prop) (us : List Value) (s' : Shared) : Prop := ∃ vs H', Inv X pins σ H' s' ∧ Vals vs us ∧ Q vs H'
noncomputable def SP (X : Cx) (pins : List (Addr × Obj)) (D : Ends) (f : Flow) (s' : Shared) : Prop :=
  match f with
  | .next => ∃ σ' H', Inv X pins σ' H' s' ∧ D.nx σ' H'
  | .brk => ∃ σ' H', Inv X pins σ' H' s' ∧ D.bk σ' H'
  | .cont => ∃ σ' H', Inv X pins σ' H' s' ∧ D.ct σ' H'
  | .ret u => ∃ v σ' H', Inv X pins σ' H' s' ∧ RelV v u ∧ D.rt v H'
noncomputable def PE (X : Cx) (e : Expr) (t : TE) : Prop :=
  ∀ (pins : List (Addr × Obj)) (s : Shared) (σ : St) (H : Hp) (Q : VK), Inv X pins σ H s → t σ H Q → wpAny (model X.prog X.w) X.A (eval e X.env) (EP X pins σ Q) X.xe s
noncomputable def PT (X : Cx) (e : Expr) (t : TT) : Prop :=
  ∀ (pins : List (Addr × Obj)) (s : Shared) (σ : St) (H : Hp) (Q : Bool → Hp → Prop), Inv X pins σ H s → t σ H Q → wpAny (model X.prog X.w) X.A (isTrue e X.env (eval e X.env)) (TP X pins σ Q) X.xe s
noncomputable def PW (X : Cx) (e : Expr) (t : TT) : Prop :=
  ∀ (whole : Sem Value) (pins : List (Addr × Obj)) (s : Shared) (σ : St) (H : Hp) (Q : Bool → Hp → Prop), Inv X pins σ H s → t σ H Q → wpAny (model X.prog X.w) X.A (isTrue e X.env whole) (TP X pins σ Q) X.xe s
theorem PW.pt {X : Cx} {e : Expr} {t : TT} (h : PW X e t) : PT X e t := h _
noncomputable def PA (X : Cx) (es : List Expr) (t : TA) : Prop :=
  ∀ (pos : Pos) (pins : List (Addr × Obj)) (s : Shared) (σ : St) (H : Hp) (Q : List V → Hp → Prop), Inv X pins σ H s → t σ H Q → wpAny (model X.prog X.w) X.A (spliced (backTo pos (starEach es X.env))) (AP X pins σ Q) X.xe s
noncomputable def PS (X : Cx) (st : Stmt) (t : TS) : Prop :=
  ∀ (pins : List (Addr × Obj)) (s : Shared) (σ : St) (H : Hp) (D : Ends), Inv X pins σ H s → t D σ H → wpAny (model X.prog X.w) X.A (exec st X.env) (SP X pins D) X.xe s
noncomputable def PSs (X : Cx) (st : List Stmt) (t : TS) : Prop :=
  ∀ (pins : List (Addr × Obj)) (s : Shared) (σ : St) (H : Hp) (D : Ends), Inv X pins σ H s → t D σ H → wpAny (model X.prog X.w) X.A (execs st X.env) (SP X pins D) X.xe s
theorem thn {α : Type} {t : Sem α} {Q Q' : α → Shared → Prop} {M : Model} {A : Around} {E : Value → Shared → Prop} {s : Shared} (h : wpAny M A t Q E s) (hQ : ∀ a s, Q a s → Q' a s) : wpAny M A t Q' E s := wpAny_mono h hQ fun _ _ x => x
end L2
namespace L2
open PySem PySem.Spec PyProof.Rows
section
variable {X : Cx}
noncomputable def tVar (i : Nat) : TE := fun σ H Q => ∃ v, σ[i]? = some (some v) ∧ Q v H
noncomputable def tC (v : V) : TE := fun _ H Q => Q v H
theorem pe_var {i : Nat} {x : Str} {pos : Pos} (hN : X.N[i]? = some x) (hv : Vis X.env.scope x) (hd : (x == ("__debug__" : Str)) = false := by decide) (hcd : (x == ("__classdict__" : Str)) = false := by decide) : PE X (.Name x pos) (tVar i) := by
  intro pins s σ H Q I h
  obtain ⟨v, e, h⟩ := h
  obtain ⟨m, hn, hl⟩ := I.loc
  obtain ⟨u, r, l⟩ := hl i x v hN e hv
  have fin : EP X pins σ Q u s := ⟨v, H, I, r, h⟩
  rcases l with ⟨hk, hm⟩ | ⟨hk, c, hc, hcell⟩
  · exact wpAny_Name (wpAny_loadName_local I.ok.kind hk hn hm fin) hd
  · rcases hk with hk | hk
    · exact wpAny_Name (wpAny_loadName_cell I.ok.kind hk hc hcell fin) hd
    · exact wpAny_Name (wpAny_loadName_free I.ok.kind hk hc hcell fin hcd) hd
theorem pe_int {i j pos} : PE X (.Constant (.int i) j pos) (tC (.int i)) := fun _ _ _ H _ I h => wpAny_Constant_int ⟨.int i, H, I.tok _, ⟨_, rfl⟩, h⟩
theorem pe_bl {b j pos} : PE X (.Constant (.bool b) j pos) (tC (.bl b)) := fun _ _ _ H _ I h => Constant_bool ⟨.bl b, H, I, rfl, h⟩
theorem pe_non {j pos} : PE X (.Constant .none j pos) (tC .non) := fun _ _ _ H _ I h => Constant_none ⟨.non, H, I, rfl, h⟩
theorem pe_str {x j pos} : PE X (.Constant (.str x) j pos) (tC (.str x)) := fun _ _ _ H _ I h => Calls.Constant_str ⟨.str x, H, I.tok _, ⟨_, rfl⟩, h⟩
noncomputable def Gl (X : Cx) (x : Str) : Prop := X.env.kindOf x = some .globalImplicit
theorem ld_glob {E : Value → Shared → Prop} {pins : List (Addr × Obj)} {s : Shared} {σ : St} {H : Hp} {x : Str} {u : Value} {pos : Pos} {Q : Value → Shared → Prop} (I : Inv X pins σ H s) (hg : Gl X x) (hm : X.mg x = some u) (h : Q u s)
    (hd : (x == ("__debug__" : Str)) = false := by decide) : wpAny (model X.prog X.w) X.A (eval (.Name x pos) X.env) Q E s :=
  Calls.Name_function_global I.ok.kind hg (Calls.loadGlobal_global (by rw [I.ok.glob]; exact I.mod.glob.keeps I.bk) hm h) hd
theorem ld_blt {E : Value → Shared → Prop} {pins : List (Addr × Obj)} {s : Shared} {σ : St} {H : Hp} {x : Str} {u : Value} {pos : Pos} {Q : Value → Shared → Prop} (I : Inv X pins σ H s) (hg : Gl X x) (hm : X.mg x = none) (hv : bootBuiltins x = some u) (h : Q u s)
    (hn : x ≠ "__name__" := by decide) (hd : (x == ("__debug__" : Str)) = false := by decide) : wpAny (model X.prog X.w) X.A (eval (.Name x pos) X.env) Q E s := by
  obtain ⟨mb, h1, h2⟩ := I.mod.blt
  exact Calls.Name_function_global I.ok.kind hg (Calls.loadGlobal_builtin (by rw [I.ok.glob]; exact I.mod.glob.keeps I.bk) hm (by rw [I.ok.blt]; exact h1.keeps I.bk) ((h2 x hn).trans hv) h) hd
theorem pe_glob {x : Str} {v : V} {u : Value} {pos : Pos} (hg : Gl X x) (hm : X.mg x = some u) (r : RelV v u) (hd : (x == ("__debug__" : Str)) = false := by decide) : PE X (.Name x pos) (tC v) :=
  fun _ _ _ H _ I h => ld_glob I hg hm ⟨v, H, I, r, h⟩ hd
theorem pe_bltn {x : Str} {v : V} {u : Value} {pos : Pos} (hg : Gl X x) (hm : X.mg x = none) (hv : bootBuiltins x = some u) (r : RelV v u) (hn : x ≠ "__name__" := by decide) (hd : (x == ("__debug__" : Str)) = false := by decide) : PE X (.Name x pos) (tC v) :=
  fun _ _ _ H _ I h => ld_blt I hg hm hv ⟨v, H, I, r, h⟩ hn hd
noncomputable def t2I (ta tb : TE) (k : Int → Int → Hp → Prop) : St → Hp → Prop := fun σ H => ta σ H fun x H1 => tb σ H1 fun y H2 => ∃ i j, x = .int i ∧ y = .int j ∧ k i j H2
noncomputable def tAdd (ta tb : TE) : TE := fun σ H Q => t2I ta tb (fun i j H2 => Q (.int (i + j)) H2) σ H
noncomputable def tSub (ta tb : TE) : TE := fun σ H Q => t2I ta tb (fun i j H2 => Q (.int (i - j)) H2) σ H
noncomputable def tMul (ta tb : TE) : TE := fun σ H Q => t2I ta tb (fun i j H2 => (-(2 ^ 64) < i ∧ i < 2 ^ 64) ∧ Q (.int (i * j)) H2) σ H
variable {a b : Expr} {ta tb : TE} {pos : Pos}
noncomputable def PC (X : Cx) (op : CmpOp) (a b : Expr) (t : TE) : Prop :=
  ∀ (pins : List (Addr × Obj)) (s : Shared) (σ : St) (H : Hp) (Q : VK), Inv X pins σ H s → t σ H Q →
    wpAny (model X.prog X.w) X.A (eval a X.env) (fun v s₁ => wpAny (model X.prog X.w) X.A (eval b X.env) (fun u s₂ => wpAny (model X.prog X.w) X.A (compareOp op v u) (EP X pins σ Q) X.xe s₂) X.xe s₁) X.xe s
noncomputable def tCmp (p : Int → Int → Bool) (ta tb : TE) : TE := fun σ H Q => t2I ta tb (fun i j H2 => Q (.bl (p i j)) H2) σ H
noncomputable abbrev tLt : TE → TE → TE := tCmp fun i j => decide (i < j)
noncomputable abbrev tLe : TE → TE → TE := tCmp fun i j => decide (i ≤ j)
noncomputable abbrev tGt : TE → TE → TE := tCmp fun i j => decide (j < i)
noncomputable abbrev tGe : TE → TE → TE := tCmp fun i j => decide (j ≤ i)
noncomputable abbrev tEqI : TE → TE → TE := tCmp fun i j => decide (i = j)
noncomputable abbrev tNeI : TE → TE → TE := tCmp fun i j => !decide (i = j)
noncomputable def tIsN (ta : TE) : TE := fun σ H Q => ta σ H fun x H1 => Q (.bl (decide (x = .non))) H1
noncomputable def tNotN (ta : TE) : TE := fun σ H Q => ta σ H fun x H1 => Q (.bl (!decide (x = .non))) H1
noncomputable def tB (t : TE) : TT := fun σ H Q => t σ H fun x H1 => ∃ c, x = .bl c ∧ Q c H1
theorem pt_val {e : Expr} {t : TE} (h : PE X e t) (he : ∀ whole, isTrue e X.env whole = (do let v ← whole; standAt e.pos; holding [v] (truthy v)) := by intro _; rfl) : PT X e (tB t) := by
  intro pins s σ H Q I hw
  refine isTrue_plain (thn (h pins s σ H _ I hw) fun v s1 ⟨x, H1, I1, r1, q1⟩ => ?_) (he _)
  obtain ⟨d, rfl, q⟩ := q1
  cases r1
  exact wpAny_truthy_bool ⟨H1, I1, q⟩
variable {tA tB' : TT} {rest : List Expr}
noncomputable def tAnd (t u : TT) : TT := fun σ H Q => t σ H fun c H1 => if c = true then u σ H1 Q else Q false H1
noncomputable def tOr (t u : TT) : TT := fun σ H Q => t σ H fun c H1 => if c = true then Q true H1 else u σ H1 Q
noncomputable def tNot (t : TT) : TT := fun σ H Q => t σ H fun c H1 => Q (!c) H1
theorem pw_and1 (ha : PT X a tA) : PW X (.BoolOp .And [a] pos) tA := by
  intro wh pins s σ H Q I h
  refine isTrue_and (thn (ha pins s σ H Q I h) fun c s1 e => ?_)
  cases c with
  | true => exact isTrue_and_nil e
  | false => exact e
theorem pw_or1 (ha : PT X a tA) : PW X (.BoolOp .Or [a] pos) tA := by
  intro wh pins s σ H Q I h
  refine isTrue_or (thn (ha pins s σ H Q I h) fun c s1 e => ?_)
  cases c with
  | false => exact isTrue_or_nil e
  | true => exact e
theorem pw_and (ha : PT X a tA) (hb : PW X (.BoolOp .And (b :: rest) pos) tB') : PW X (.BoolOp .And (a :: b :: rest) pos) (tAnd tA tB') := by
  intro wh pins s σ H Q I h
  refine isTrue_and (thn (ha pins s σ H _ I h) fun c s1 ⟨H1, I1, q1⟩ => ?_)
  cases c with
  | true => exact hb wh pins s1 σ H1 Q I1 q1
  | false => exact ⟨H1, I1, q1⟩
theorem pw_or (ha : PT X a tA) (hb : PW X (.BoolOp .Or (b :: rest) pos) tB') : PW X (.BoolOp .Or (a :: b :: rest) pos) (tOr tA tB') := by
  intro wh pins s σ H Q I h
  refine isTrue_or (thn (ha pins s σ H _ I h) fun c s1 ⟨H1, I1, q1⟩ => ?_)
  cases c with
  | true => exact ⟨H1, I1, q1⟩
  | false => exact hb wh pins s1 σ H1 Q I1 q1
theorem pt_not (ha : PT X a tA) : PT X (.UnaryOp .Not a pos) (tNot tA) := by
  intro pins s σ H Q I h
  exact isTrue_not (ha pins s σ H (fun c H1 => Q (!c) H1) I h)
noncomputable def tAndV (ta tb : TE) : TE := fun σ H Q => ta σ H fun x H1 => ∃ c, x = .bl c ∧ if c = true then tb σ H1 Q else Q (.bl false) H1
noncomputable def tOrV (ta tb : TE) : TE := fun σ H Q => ta σ H fun x H1 => ∃ c, x = .bl c ∧ if c = true then Q (.bl true) H1 else tb σ H1 Q
noncomputable def tNotV (ta : TE) : TE := fun σ H Q => ta σ H fun x H1 => ∃ c, x = .bl c ∧ Q (.bl (!c)) H1
theorem pe_one {op} {t : TE} (h : PE X a t) : PE X (.BoolOp op [a] pos) t := fun pins s σ H Q I hw => BoolOp_one (h pins s σ H Q I hw)
theorem pe_and (ha : PE X a ta) (hb : PE X (.BoolOp .And (b :: rest) pos) tb) : PE X (.BoolOp .And (a :: b :: rest) pos) (tAndV ta tb) := by
  intro pins s σ H Q I h
  refine BoolOp_and (thn (ha pins s σ H _ I h) fun v s1 ⟨x, H1, I1, r1, q1⟩ => ?_)
  obtain ⟨c, rfl, q1⟩ := q1
  cases r1
  refine wpAny_truthy_bool ?_
  cases c with
  | true => exact hb pins s1 σ H1 Q I1 q1
  | false => exact ⟨.bl false, H1, I1, rfl, q1⟩
theorem pe_not (ha : PE X a ta) : PE X (.UnaryOp .Not a pos) (tNotV ta) := by
  intro pins s σ H Q I h
  refine UnaryOp_ (thn (ha pins s σ H _ I h) fun v s1 ⟨x, H1, I1, r1, q1⟩ => ?_)
  obtain ⟨c, rfl, q1⟩ := q1
  cases r1
  exact not_of (wpAny_truthy_bool ⟨.bl (!c), H1, I1, rfl, q1⟩)
noncomputable def tIf (t : TT) (ta tb : TE) : TE := fun σ H Q => t σ H fun c H1 => if c = true then ta σ H1 Q else tb σ H1 Q
end
end L2
namespace L2
open PySem PySem.Spec PyProof.Rows
noncomputable def SqL (K : PySem.W.Frag) (H : Hp) (a : Addr) (xs : List V) : Prop :=
  Rd H a (.lst xs) ∨
    ∃ (o : Obj) (its : Array Value) (n : Nat), K.lookup a = some o ∧ o.cls = .type "list" ∧ o.dict = none ∧ o.data = .seq its n ∧ its.size ≤ sizeLine ∧ Vals xs its.toList
noncomputable def SqT (K : PySem.W.Frag) (H : Hp) (a : Addr) (xs : List V) : Prop :=
  Rd H a (.tup xs) ∨
    ∃ (o : Obj) (its : Array Value) (n : Nat), K.lookup a = some o ∧ o.cls = .type "tuple" ∧ o.data = .seq its n ∧ its.size ≤ sizeLine ∧ Vals xs its.toList
noncomputable def absV : Value → Option V
  | .none => some .non
  | .bool b => some (.bl b)
  | .int i _ => some (.int i)
  | .str x _ => some (.str x)
  | .bytes b _ => some (.byt b)
  | .float b _ => some (.flt b)
  | .ref a => some (.ref a)
  | .type n => some (.ty n)
  | _ => none
theorem RelV.abs {x : V} {u : Value} (r : RelV x u) : absV u = some x := by
  cases x with
  | non => cases r; rfl
  | bl _ => cases r; rfl
  | int _ => obtain ⟨t, rfl⟩ := r; rfl
  | str _ => obtain ⟨t, rfl⟩ := r; rfl
  | byt _ => obtain ⟨t, rfl⟩ := r; rfl
  | flt _ => obtain ⟨t, rfl⟩ := r; rfl
  | ref _ => cases r; rfl
  | ty _ => cases r; rfl
theorem RelV.inj {x y : V} {u : Value} (r : RelV x u) (q : RelV y u) : x = y := Option.some.inj (r.abs.symm.trans q.abs)
theorem Vals.inj : ∀ {xs ys : List V} {us : List Value}, Vals xs us → Vals ys us → xs = ys
  | _, _, _, .nil, .nil => rfl
  | _, _, _, .cons r t, .cons r' t' => by rw [r.inj r', Vals.inj t t']
section
variable {X : Cx} {pins : List (Addr × Obj)} {σ : St} {H : Hp} {s : Shared} {a : Addr} {xs ys : List V}
theorem SqL.of {K : PySem.W.Frag} (h : H a = some (.lst xs)) : SqL K H a xs := .inl (.inl h)
theorem SqT.of {K : PySem.W.Frag} (h : H a = some (.tup xs)) : SqT K H a xs := .inl (.inl h)
theorem Inv.list (I : Inv X pins σ H s) (h : SqL X.K H a xs) : ∃ its : List Value, Vals xs its ∧ PlainL s.heap a its.toArray ∧ xs.length ≤ sizeLine := by
  rcases h with h | ⟨o, its, n, hk, hc, hd, hs, hz, r⟩
  · obtain ⟨z, its, n, r, e⟩ := h.ok I.hok
    exact ⟨its, r, ⟨_, n, e, rfl, rfl, rfl⟩, z⟩
  · refine ⟨its.toList, r, ⟨o, n, I.kIn a o hk, hc, hd, by simpa using hs⟩, ?_⟩
    have e := r.length
    simp only [Array.length_toList] at e
    omega
theorem Inv.tuple (I : Inv X pins σ H s) (h : SqT X.K H a xs) : ∃ its : List Value, Vals xs its ∧ IsTup s.heap a its.toArray ∧ xs.length ≤ sizeLine := by
  rcases h with h | ⟨o, its, n, hk, hc, hs, hz, r⟩
  · obtain ⟨z, its, r, p⟩ := h.ok I.hok
    exact ⟨its, r, p, z⟩
  · refine ⟨its.toList, r, ⟨o, I.kIn a o hk, hc, n, by simpa using hs⟩, ?_⟩
    have e := r.length
    simp only [Array.length_toList] at e
    omega
theorem Inv.list_inj (I : Inv X pins σ H s) (h : SqL X.K H a xs) (h' : SqL X.K H a ys) : xs = ys := by
  obtain ⟨its, r, ⟨o, n, e, _, _, d⟩, _⟩ := I.list h
  obtain ⟨its', r', ⟨o', n', e', _, _, d'⟩, _⟩ := I.list h'
  rw [e] at e'; cases e'
  rw [d] at d'
  injection d' with d1 _
  have : its = its' := by simpa using congrArg Array.toList d1
  subst this
  exact r.inj r'
theorem Inv.tuple_inj (I : Inv X pins σ H s) (h : SqT X.K H a xs) (h' : SqT X.K H a ys) : xs = ys := by
  obtain ⟨its, r, ⟨o, e, _, n, d⟩, _⟩ := I.tuple h
  obtain ⟨its', r', ⟨o', e', _, n', d'⟩, _⟩ := I.tuple h'
  rw [e] at e'; cases e'
  rw [d] at d'
  injection d' with d1 _
  have : its = its' := by simpa using congrArg Array.toList d1
  subst this
  exact r.inj r'
end
noncomputable abbrev Cx.wish (X : Cx) (E : Value → Shared → Prop) : Cx := { X with xe := E }
noncomputable abbrev Cx.nox (X : Cx) : Cx := X.wish fun _ _ => False
theorem Cx.Ok.wish {X : Cx} (ok : X.Ok) (E : Value → Shared → Prop) : (X.wish E).Ok :=
  ⟨ok.mod, ok.kind, ok.glob, ok.blt, ok.above, ok.inj, ok.has, ok.cab, ok.hd, ok.frames, ok.stk, ok.exf, ok.bs, ok.bsz, ok.noex, ok.exfs, ok.funs, ok.frf⟩
theorem Cx.Ok.unwish {X : Cx} {E : Value → Shared → Prop} (ok : (X.wish E).Ok) : X.Ok :=
  ⟨ok.mod, ok.kind, ok.glob, ok.blt, ok.above, ok.inj, ok.has, ok.cab, ok.hd, ok.frames, ok.stk, ok.exf, ok.bs, ok.bsz, ok.noex, ok.exfs, ok.funs, ok.frf⟩
section
variable {X : Cx} {pins : List (Addr × Obj)} {σ : St} {H : Hp} {s : Shared} {E : Value → Shared → Prop}
theorem Inv.wish (I : Inv X pins σ H s) (E : Value → Shared → Prop) : Inv (X.wish E) pins σ H s := ⟨I.ok.wish E, I.os, I.bare, I.base, I.loc, I.cell, I.free, I.freeC, I.pin, I.hok, I.len⟩
theorem Inv.unwish (I : Inv (X.wish E) pins σ H s) : Inv X pins σ H s := ⟨I.ok.unwish, I.os, I.bare, I.base, I.loc, I.cell, I.free, I.freeC, I.pin, I.hok, I.len⟩
theorem SP.unwish {D : Ends} {f : Flow} {s' : Shared} (h : SP (X.wish E) pins D f s') : SP X pins D f s' := by
  cases f with
  | next => obtain ⟨σ', H', I, q⟩ := h; exact ⟨σ', H', I.unwish, q⟩
  | brk => obtain ⟨σ', H', I, q⟩ := h; exact ⟨σ', H', I.unwish, q⟩
  | cont => obtain ⟨σ', H', I, q⟩ := h; exact ⟨σ', H', I.unwish, q⟩
  | ret u => obtain ⟨v, σ', H', I, r, q⟩ := h; exact ⟨v, σ', H', I.unwish, r, q⟩
theorem PE.nox {e : Expr} {t : TE} (h : PE X.nox e t) : PE X e t := fun pins s σ H Q I hw =>
  wpAny_mono (h pins s σ H Q (I.wish _) hw) (fun _ _ ⟨v, H', I', r, q⟩ => ⟨v, H', I'.unwish, r, q⟩) fun _ _ z => False.elim z
theorem PT.nox {e : Expr} {t : TT} (h : PT X.nox e t) : PT X e t := fun pins s σ H Q I hw =>
  wpAny_mono (h pins s σ H Q (I.wish _) hw) (fun _ _ ⟨H', I', q⟩ => ⟨H', I'.unwish, q⟩) fun _ _ z => False.elim z
theorem PSs.nox {st : List Stmt} {t : TS} (h : PSs X.nox st t) : PSs X st t := fun pins s σ H D I hw =>
  wpAny_mono (h pins s σ H D (I.wish _) hw) (fun _ _ q => q.unwish) fun _ _ z => False.elim z
end
section
variable {X : Cx} {st : Stmt} {rest : List Stmt} {t u : TS} {e : Expr} {te : TE} {pos : Pos}
noncomputable def tNext : TS := fun D σ H => D.nx σ H
noncomputable def tSeq (t u : TS) : TS := fun D σ H => t { D with nx := u D } σ H
theorem pss_nil : PSs X [] tNext := fun _ _ σ H _ I h => wpAny_execs_nil ⟨σ, H, I, h⟩
theorem pss_cons (h1 : PS X st t) (h2 : PSs X rest u) : PSs X (st :: rest) (tSeq t u) := by
  intro pins s σ H D I h
  refine wpAny_execs_cons (thn (h1 pins s σ H { D with nx := u D } I h) fun f s1 q => ?_)
  cases f with
  | next =>
    obtain ⟨σ', H', I', q⟩ := q
    exact h2 pins s1 σ' H' D I' q
  | ret v => exact q
  | brk => exact q
  | cont => exact q
theorem pss_one (h1 : PS X st t) : PSs X [st] t := by
  intro pins s σ H D I h
  refine wpAny_execs_cons (thn (h1 pins s σ H D I h) fun f s1 q => ?_)
  cases f with
  | next => exact wpAny_execs_nil q
  | ret v => exact q
  | brk => exact q
  | cont => exact q
noncomputable def tBreak : TS := fun D σ H => D.bk σ H
noncomputable def tCont : TS := fun D σ H => D.ct σ H
theorem Inv.quiet {pins : List (Addr × Obj)} {σ : St} {H : Hp} {s : Shared} (I : Inv X pins σ H s) : interactive X.env = false := by simp [interactive, I.ok.kind]
noncomputable def tDrop (te : TE) : TS := fun D σ H => te σ H fun _ H1 => D.nx σ H1
theorem ps_expr (he : PE X e te) (hs : swapsWith e none pos.line X.env = pure false := by rfl) : PS X (.Expr e pos) (tDrop te) := by
  intro pins s σ H D I h
  exact wpAny_Expr_any (thn (he pins s σ H _ I h) fun v s1 ⟨x, H1, I1, r1, q1⟩ => ⟨σ, H1, I1, q1⟩) I.quiet hs
noncomputable def tRet (te : TE) : TS := fun D σ H => te σ H D.rt
theorem ps_ret (he : PE X e te) : PS X (.Return (some e) pos) (tRet te) := by
  intro pins s σ H D I h
  exact wpAny_Return_some (thn (he pins s σ H _ I h) fun v s1 ⟨x, H1, I1, r1, q1⟩ => ⟨x, σ, H1, I1, r1, q1⟩)
noncomputable def tRetN : TS := fun D _ H => D.rt .non H
noncomputable def tIfS (c : TT) (t u : TS) : TS := fun D σ H => c σ H fun b H1 => if b = true then t D σ H1 else u D σ H1
theorem ps_if {c : Expr} {a b : List Stmt} {tc : TT} (hc : PT X c tc) (ha : PSs X a t) (hb : PSs X b u) : PS X (.If c a b pos) (tIfS tc t u) := by
  intro pins s σ H D I h
  refine wpAny_If (thn (hc pins s σ H _ I h) fun d s1 ⟨H1, I1, q1⟩ => ?_)
  cases d with
  | true => exact ha pins s1 σ H1 D I1 q1
  | false => exact hb pins s1 σ H1 D I1 q1
noncomputable def tNever : TS := fun _ _ _ => False
end
noncomputable abbrev TG := V → St → Hp → (St → Hp → Prop) → Prop
noncomputable abbrev TGs := List V → St → Hp → (St → Hp → Prop) → Prop
noncomputable def PG (X : Cx) (target : Expr) (t : TG) : Prop :=
  ∀ (pins : List (Addr × Obj)) (s : Shared) (σ : St) (H : Hp) (v : V) (u : Value) (Q : St → Hp → Prop), Inv X pins σ H s → RelV v u → t v σ H Q →
    wpAny (model X.prog X.w) X.A (assign target X.env u) (fun _ s' => ∃ σ' H', Inv X pins σ' H' s' ∧ Q σ' H') X.xe s
noncomputable def PGs (X : Cx) (ts : List Expr) (t : TGs) : Prop :=
  ∀ (pins : List (Addr × Obj)) (s : Shared) (σ : St) (H : Hp) (vs : List V) (us : List Value) (Q : St → Hp → Prop), Inv X pins σ H s → Vals vs us → t vs σ H Q →
    wpAny (model X.prog X.w) X.A (assignInOrder ((assignEach ts X.env).map (·.2)) us) (fun _ s' => ∃ σ' H', Inv X pins σ' H' s' ∧ Q σ' H') X.xe s
noncomputable abbrev TSet := V → V → V → Hp → (Hp → Prop) → Prop
noncomputable def PSet (X : Cx) (t : TSet) : Prop :=
  ∀ (pins : List (Addr × Obj)) (s : Shared) (σ : St) (H : Hp) (o i v : V) (ov iv u : Value) (Q : Hp → Prop), Inv X pins σ H s → RelV o ov → RelV i iv → RelV v u → t o i v H Q →
    wpAny (model X.prog X.w) X.A (setItem ov iv u) (fun _ s' => ∃ H', Inv X pins σ H' s' ∧ Q H') X.xe s
noncomputable abbrev TIp := V → V → Hp → VK → Prop
noncomputable def PIp (X : Cx) (op : Operator) (t : TIp) : Prop :=
  ∀ (pins : List (Addr × Obj)) (s : Shared) (σ : St) (H : Hp) (x y : V) (v u : Value) (Q : VK), Inv X pins σ H s → RelV x v → RelV y u → t x y H Q →
    wpAny (model X.prog X.w) X.A (inplaceOp op v u) (EP X pins σ Q) X.xe s
section
variable {X : Cx} {pos : Pos}
noncomputable def gName (i : Nat) : TG := fun v σ H Q => Q (σ.set i (some v)) H
theorem pg_name {i : Nat} {x : Str} (hN : X.N.Nodup) (hi : X.N[i]? = some x) (hx : Loc X.env.scope x) (hf : X.fn x = true ∨ X.env.scope.names.lookup x = some .local := by first | exact .inl rfl | exact .inr rfl | assumption) : PG X (.Name x pos) (gName i) := by
  intro pins s σ H v u Q I r h
  exact wpAny_assign_Name (store_ok I hN hi hx r (fun s' I' => ⟨_, H, I', h⟩) hf)
noncomputable def gNil : TGs := fun vs σ H Q => vs = [] ∧ Q σ H
noncomputable def gCons (t : TG) (u : TGs) : TGs := fun vs σ H Q => ∃ v r, vs = v :: r ∧ t v σ H fun σ' H' => u r σ' H' Q
theorem pgs_nil : PGs X [] gNil := by
  intro pins s σ H vs us Q I r h
  obtain ⟨e, h⟩ := h
  subst e
  cases r
  exact assignInOrder_nil ⟨σ, H, I, h⟩
theorem pgs_cons {e : Expr} {es : List Expr} {t : TG} {u : TGs} (h1 : PG X e t) (h2 : PGs X es u)
    (hs : (assignEach (e :: es) X.env).map (·.2) = assign e X.env :: (assignEach es X.env).map (·.2) := by rfl) : PGs X (e :: es) (gCons t u) := by
  intro pins s σ H vs us Q I r h
  obtain ⟨v, vr, e1, h⟩ := h
  subst e1
  cases r with
  | cons r rr =>
    rw [hs]
    refine assignInOrder_cons (thn (h1 pins s σ H _ _ _ I r h) fun _ s1 ⟨σ1, H1, I1, q1⟩ => ?_)
    exact h2 pins s1 σ1 H1 _ _ Q I1 rr q1
noncomputable def gTup (K : PySem.W.Frag) (n : Nat) (t : TGs) : TG := fun v σ H Q => ∃ a xs, v = .ref a ∧ SqT K H a xs ∧ xs.length = n ∧ t xs σ H Q
theorem pg_tup {es : List Expr} {k : Nat} {t : TGs} {n : Nat} (hc : X.calm = true) (h : PGs X es t)
    (hn : (assignEach es X.env).length = n := by rfl) (hst : (assignEach es X.env).findIdx? (·.1) = none := by rfl) : PG X (.Tuple es k pos) (gTup X.K n t) := by
  intro pins s σ H v u Q I r hw
  obtain ⟨a, xs, e1, hq, hl, hw⟩ := hw
  subst e1
  cases r
  obtain ⟨its, rv, ht, hz⟩ := I.tuple hq
  refine assign_Tuple_tuple (I.ok.hd hc) ht (by simp [hn, ← hl, rv.length]) hst fun h' hx => ?_
  have I1 : Inv X pins σ H { s with heap := h' } := I.kept (t' := s.toks) fun b o e => hx b o (Nat.ne_of_lt (Heap.lt_size e)) e
  exact h pins _ σ H xs _ Q I1 (by simpa using rv) hw
noncomputable def gSub (to ti : TE) (t : TSet) : TG := fun v σ H Q => to σ H fun o H1 => ti σ H1 fun i H2 => t o i v H2 fun H3 => Q σ H3
theorem pg_sub {o i : Expr} {to ti : TE} {t : TSet} (ho : PE X o to) (hi : PE X i ti) (hs : PSet X t)
    (ha : ∀ v, assign (.Subscript o i pos) X.env v = (do
      let ov ← holding [v] (eval o X.env)
      let iv ← holding [v, ov] (eval i X.env)
      standAt pos
      holding [v, ov, iv] (setItem ov iv v)
      release [v, ov, iv] []) := by intro _; rfl) : PG X (.Subscript o i pos) (gSub to ti t) := by
  intro pins s σ H v u Q I r h
  rw [ha]
  refine wpAny_bind (wpAny_holding (thn (ho pins s σ H _ I h) fun ov s1 ⟨x, H1, I1, r1, q1⟩ => ?_))
  refine wpAny_bind (wpAny_holding (thn (hi pins s1 σ H1 _ I1 q1) fun iv s2 ⟨y, H2, I2, r2, q2⟩ => ?_))
  refine wpAny_bind (wpAny_standAt (wpAny_bind (wpAny_holding (thn (hs pins s2 σ H2 x y v ov iv u _ I2 r1 r2 r q2) fun _ s3 ⟨H3, I3, q3⟩ => ?_))))
  exact wpAny_release ⟨σ, H3, I3, q3⟩
noncomputable def tAsg (te : TE) (g : TG) : TS := fun D σ H => te σ H fun x H1 => g x σ H1 D.nx
theorem ps_asg {tg e : Expr} {te : TE} {g : TG} (he : PE X e te) (hg : PG X tg g) (hs : swapsWithSole [tg] e pos.line X.env = pure false := by rfl) (hw : swappedStores [tg] e X.env = pure none := by rfl)
    (h1 : (assignEach [tg] X.env).map (·.2) = [assign tg X.env] := by rfl) : PS X (.Assign [tg] e pos) (tAsg te g) := by
  intro pins s σ H D I h
  refine wpAny_Assign_stores (thn (he pins s σ H _ I h) fun v s1 ⟨x, H1, I1, r1, q1⟩ => ?_) hs hw
  rw [h1]
  exact thn (hg pins s1 σ H1 x v _ I1 r1 q1) fun _ s2 q => q
theorem ps_set {i : Nat} {x : Str} {e : Expr} {te : TE} {pos' : Pos} (hN : X.N.Nodup) (hi : X.N[i]? = some x) (hx : Loc X.env.scope x) (he : PE X e te) (hs : swapsWith e (some (.Name x pos')) pos.line X.env = pure false := by rfl) (hf : X.fn x = true ∨ X.env.scope.names.lookup x = some .local := by first | exact .inl rfl | exact .inr rfl | assumption) :
    PS X (.Assign [.Name x pos'] e pos) (tAsg te (gName i)) := by
  intro pins s σ H D I h
  refine wpAny_Assign_Name (thn (he pins s σ H _ I h) fun v s1 ⟨y, H1, I1, r1, q1⟩ => ?_) hs
  exact store_ok I1 hN hi hx r1 (fun s2 I2 => ⟨_, H1, I2, q1⟩) hf
noncomputable def tPar (i j : Nat) (ta : TA) : TS := fun D σ H => ta σ H fun vs H1 => ∃ v w, vs = [v, w] ∧ D.nx ((σ.set i (some v)).set j (some w)) H1
theorem ps_par {i j : Nat} {x y : Str} {a b : Expr} {ta : TA} {px py pt : Pos} {kt k2 pt2} (hc : X.calm = true) (hN : X.N.Nodup) (hi : X.N[i]? = some x) (hj : X.N[j]? = some y) (hij : i ≠ j)
    (hx : X.env.scope.names.lookup x = some .local) (hy : X.env.scope.names.lookup y = some .local) (ha : PA X [a, b] ta)
    (hw : swappedStores [.Tuple [.Name x px, .Name y py] kt pt] (.Tuple [a, b] k2 pt2) X.env = pure (some [x, y]))
    (hs : swapsWithSole [.Tuple [.Name x px, .Name y py] kt pt] (.Tuple [a, b] k2 pt2) pos.line X.env = pure false := by rfl) :
    PS X (.Assign [.Tuple [.Name x px, .Name y py] kt pt] (.Tuple [a, b] k2 pt2) pos) (tPar i j ta) := by
  intro pins s σ H D I h
  rw [exec_Assign_arm]
  refine wpAny_bind (wpAny_standAt ?_)
  rw [hs]
  refine wpAny_bind (wpAny_pure ?_)
  rw [if_neg (by decide)]
  refine wpAny_bind (Tuple_ (thn (ha _ pins s σ H _ I h) fun us s1 ⟨vs, H1, I1, r1, q1⟩ => ?_))
  obtain ⟨v, w, e1, q1⟩ := q1
  subst e1
  obtain ⟨u1, u2, rfl, rv, rw'⟩ : ∃ u1 u2, us = [u1, u2] ∧ RelV v u1 ∧ RelV w u2 := by
    cases r1 with
    | cons p q =>
      cases q with
      | cons p' q' =>
        cases q'
        exact ⟨_, _, rfl, p, p'⟩
  refine wpAny_newObj_type ?_ (by show 2 ≤ sizeLine; decide)
  have I2 : Inv X pins σ H1 { s1 with heap := s1.heap.push { cls := .type "tuple", data := .seq [u1, u2].toArray } } := I1.kept (t' := s1.toks) fun b o e => Heap.get?_push_of_some _ e
  rw [hw]
  refine wpAny_bind (wpAny_pure ?_)
  show wpAny (model X.prog X.w) X.A (do rule "assign.swapped-stores"; let items ← unpackItems (.ref s1.heap.objs.size) 2 none; assignInOrder [fun v => bindName X.env y v, fun v => bindName X.env x v] items.reverse; pure Flow.next) _ _ _
  refine wpAny_bind (wpAny_rule (wpAny_bind (unpackItems_tuple (items := #[u1, u2]) (I.ok.hd hc) (IsTup.new s1.heap _) fun h' hx' => ?_)))
  have I3 := I2.kept (h' := h') (t' := s1.toks) fun b o e => hx' b o (Nat.ne_of_lt (Heap.lt_size e)) e
  show wpAny _ _ (assignInOrder [fun v => bindName X.env y v, fun v => bindName X.env x v] [u2, u1] >>= fun _ => pure Flow.next) _ _ _
  refine wpAny_bind (assignInOrder_cons (wpAny_bindName (store_ok I3 hN hj (.inl hy) rw' (fun s2 I4 => ?_) (.inr hy))))
  refine assignInOrder_cons (wpAny_bindName (store_ok I4 hN hi (.inl hx) rv (fun s3 I5 => assignInOrder_nil (wpAny_pure ?_)) (.inr hx)))
  rw [List.set_comm _ _ (Ne.symm hij)] at I5
  exact ⟨_, H1, I5, q1⟩
noncomputable def tAug (i : Nat) (te : TE) (ti : TIp) : TS := fun D σ H => ∃ x, σ[i]? = some (some x) ∧ te σ H fun y H1 => ti x y H1 fun z H2 => D.nx (σ.set i (some z)) H2
theorem ps_aug {i : Nat} {x : Str} {e : Expr} {te : TE} {op : Operator} {ti : TIp} {pos' : Pos} (hN : X.N.Nodup) (hi : X.N[i]? = some x) (hx : Loc X.env.scope x) (he : PE X e te) (ho : PIp X op ti) (hf : X.fn x = true ∨ X.env.scope.names.lookup x = some .local := by first | exact .inl rfl | exact .inr rfl | assumption) :
    PS X (.AugAssign (.Name x pos') op e pos) (tAug i te ti) := by
  intro pins s σ H D I h
  obtain ⟨v, e1, h⟩ := h
  obtain ⟨m, hn, hl⟩ := I.loc
  have vis : Vis X.env.scope x := by rcases hx with k | k; exact .inl k; exact .inr (.inl k)
  obtain ⟨u, r, l⟩ := hl i x v hi e1 vis
  refine wpAny_AugAssign_Name ?_
  have go : wpAny (model X.prog X.w) X.A (eval e X.env) (fun w s₂ => wpAny (model X.prog X.w) X.A (inplaceOp op u w) (fun r s₃ => wpAny (model X.prog X.w) X.A (storeName X.env x r) (fun _ => SP X pins D .next) X.xe s₃) X.xe s₂) X.xe s := by
    refine thn (he pins s σ H _ I h) fun w s1 ⟨y, H1, I1, r1, q1⟩ => ?_
    refine thn (ho pins s1 σ H1 v y u w _ I1 r r1 q1) fun z s2 ⟨zv, H2, I2, r2, q2⟩ => ?_
    exact store_ok I2 hN hi hx r2 (fun s3 I3 => ⟨_, H2, I3, q2⟩) hf
  rcases l with ⟨hk, hm⟩ | ⟨hk, c, hc, hcell⟩
  · exact wpAny_loadName_local I.ok.kind hk hn hm go
  · rcases hk with hk | hk
    · exact wpAny_loadName_cell I.ok.kind hk hc hcell go
    · rcases hx with k | k
      · have : X.env.scope.names.lookup x = some .free := hk
        rw [k] at this; cases this
      · have : X.env.scope.names.lookup x = some .free := hk
        rw [k] at this; cases this
noncomputable def tAugS (to ti te : TE) (tget : V → V → Hp → VK → Prop) (tip : TIp) (tset : TSet) : TS := fun D σ H => to σ H fun o H1 => ti σ H1 fun i H2 => tget o i H2 fun x H3 => te σ H3 fun y H4 => tip x y H4 fun z H5 => tset o i z H5 fun H6 => D.nx σ H6
noncomputable def PGet (X : Cx) (t : V → V → Hp → VK → Prop) : Prop :=
  ∀ (pins : List (Addr × Obj)) (s : Shared) (σ : St) (H : Hp) (o i : V) (ov iv : Value) (Q : VK), Inv X pins σ H s → RelV o ov → RelV i iv → t o i H Q →
    wpAny (model X.prog X.w) X.A (getItem ov iv) (EP X pins σ Q) X.xe s
noncomputable def ipI (f : Int → Int → Int) : TIp := fun x y H Q => ∃ i j, x = .int i ∧ y = .int j ∧ Q (.int (f i j)) H
theorem ip_add : PIp X .Add (ipI fun i j => i + j) := by
  intro pins s σ H x y v u Q I r1 r2 h
  obtain ⟨i, j, e1, e2, q⟩ := h
  subst e1; subst e2
  obtain ⟨t, rfl⟩ := r1
  obtain ⟨t', rfl⟩ := r2
  exact iadd_int ⟨.int _, H, I.tok _, ⟨_, rfl⟩, q⟩
end
section
variable {X : Cx} {pos : Pos}
noncomputable def tWhile (c : TT) (tb : TS) : TS := fun D σ H => ∃ W : Nat → St → Hp → Prop, (∃ m, W m σ H) ∧ ∀ m σ H, W m σ H →
  c σ H fun b H1 => if b = true then ∃ N : St → Hp → Prop, (∀ σ' H', N σ' H' → ∃ m', m' < m ∧ W m' σ' H') ∧ tb { D with nx := N, ct := N, bk := D.nx } σ H1 else D.nx σ H1
theorem ps_while {c : Expr} {body : List Stmt} {tc : TT} {tb : TS} (hp : PassesOwn (model X.prog X.w) X.A X.env X.xe) (hc : PT X c tc) (hb : PSs X body tb) : PS X (.While c body [] pos) (tWhile tc tb) := by
  intro pins s σ H D I h
  obtain ⟨W, ⟨m0, w0⟩, turn⟩ := h
  refine wpAny_While (codeAny_whileLoop (fun n s' => ∃ σ' H', Inv X pins σ' H' s' ∧ W n σ' H') ?_ m0 ⟨σ, H, I, w0⟩)
  rintro n s1 ⟨σ1, H1, I1, w1⟩
  refine wpAny_passesOwn hp (thn (hc pins s1 σ1 H1 _ I1 (turn n σ1 H1 w1)) fun b s2 ⟨H2, I2, q2⟩ => ?_)
  cases b with
  | true =>
    obtain ⟨N, hN, q2⟩ := q2
    rw [if_pos rfl]
    refine wpAny_passesOwn hp (thn (hb pins s2 σ1 H2 _ I2 q2) fun f s3 q3 => ?_)
    cases f with
    | next =>
      obtain ⟨σ3, H3, I3, n3⟩ := q3
      obtain ⟨m', hm, w3⟩ := hN σ3 H3 n3
      exact ⟨m', hm, σ3, H3, I3, w3⟩
    | cont =>
      obtain ⟨σ3, H3, I3, n3⟩ := q3
      obtain ⟨m', hm, w3⟩ := hN σ3 H3 n3
      exact ⟨m', hm, σ3, H3, I3, w3⟩
    | brk => exact q3
    | ret v => exact q3
  | false =>
    rw [if_neg Bool.false_ne_true]
    exact wpAny_execs_nil ⟨σ1, H2, I2, q2⟩
end
structure It where
  go : Nat → Hp → Prop
  yld : Nat → Hp → V → Hp → Prop
  stop : Nat → Hp → Prop
noncomputable def FpOk (X : Cx) (pins : List (Addr × Obj)) (H : Hp) (b : Addr) : Prop :=
  H b = none ∧ b ≠ X.env.locals ∧ b ∉ X.fs ∧ (b ∈ X.ex ∨ X.s₀.heap.objs.size ≤ b) ∧ (∀ x c, X.env.cells.lookup x = some c → c ≠ b) ∧ ∀ p ∈ X.pn ++ pins, p.1 ≠ b
theorem Inv.fpOk {X : Cx} {pins : List (Addr × Obj)} {σ : St} {H H' : Hp} {s : Shared} {b : Addr} (I : Inv X pins σ H s) (hb : s.heap.objs.size ≤ b) (hn : H' b = none) : FpOk X pins H' b := by
  refine ⟨hn, Nat.ne_of_gt (Nat.lt_of_lt_of_le I.lt hb), I.nofs hb, .inr (Nat.le_trans I.sz hb), fun x c e z => ?_, fun p hp z => ?_⟩
  · obtain ⟨v, q⟩ := I.cell x c e
    exact absurd (Nat.lt_of_lt_of_le q.lt (by rw [z]; exact hb)) (Nat.lt_irrefl _)
  · exact absurd (Nat.lt_of_lt_of_le (Heap.lt_size (I.pin p hp).1) (by rw [z]; exact hb)) (Nat.lt_irrefl _)
structure Turn (P : Program) (w : World) (K : PySem.W.Frag) (tg : Expr) (J : It) (fp : List Addr) (it : Addr) (tn : Nat → Heap → Prop) : Prop where
  mem : it ∈ fp
  obj : ∀ i h, tn i h → ∀ b ∈ fp, ∃ o, h.get? b = some o ∧ ∀ v, o.data ≠ .cell v
  keep : ∀ i h h', tn i h → (∀ b ∈ fp, ∀ o, h.get? b = some o → h'.get? b = some o) → tn i h'
  item : ∀ (X : Cx), X.prog = P → X.w = w → X.K = K → X.calm = true → ∀ (i : Nat) (pins : List (Addr × Obj)) (s : Shared) (σ : St) (H : Hp) (E : Value → Shared → Prop), Inv X pins σ H s → (∀ b ∈ fp, FpOk X pins H b) → tn i s.heap → J.go i H →
    wpAny (model P w) X.A (pyNext (.ref it)) (fun r s1 => ∃ u, r = some u ∧
      wpAny (model P w) X.A (letOwnedTupleGo tg (.ref it) u) (fun _ s2 => ∃ x H', Inv X pins σ H' s2 ∧ RelV x u ∧ J.yld i H x H' ∧ tn (i + 1) s2.heap ∧ ∀ b ∈ fp, H' b = none) E s1) E s
  done : ∀ (X : Cx), X.prog = P → X.w = w → X.K = K → X.calm = true → ∀ (i : Nat) (pins : List (Addr × Obj)) (s : Shared) (σ : St) (H : Hp) (E : Value → Shared → Prop), Inv X pins σ H s → (∀ b ∈ fp, FpOk X pins H b) → tn i s.heap → J.stop i H →
    wpAny (model P w) X.A (pyNext (.ref it)) (fun r s1 => r = none ∧ Inv X pins σ H s1) E s
  self : ∀ (A : Around) (i : Nat) (s : Shared) (Q : Value → Shared → Prop) (E : Value → Shared → Prop), tn i s.heap → Q (.ref it) s → wpAny (model P w) A (pyIter (.ref it)) Q E s
noncomputable abbrev TI := St → Hp → (It → Hp → Prop) → Prop
noncomputable def PIE (X : Cx) (pins : List (Addr × Obj)) (σ : St) (tg : Expr) (R : It → Hp → Prop) (itv : Value) (s2 : Shared) : Prop :=
  ∃ (it : Addr) (fp : List Addr) (tn : Nat → Heap → Prop) (J : It) (H' : Hp), itv = .ref it ∧ Inv X pins σ H' s2 ∧ Turn X.prog X.w X.K tg J fp it tn ∧ tn 0 s2.heap ∧ (∀ b ∈ fp, FpOk X pins H' b) ∧ R J H'
noncomputable def PI (X : Cx) (tg iter : Expr) (wi : TI) : Prop :=
  ∀ (pins : List (Addr × Obj)) (s : Shared) (σ : St) (H : Hp) (R : It → Hp → Prop), Inv X pins σ H s → wi σ H R →
    wpAny (model X.prog X.w) X.A (eval iter X.env) (fun v s1 => wpAny (model X.prog X.w) X.A (pyIter v) (PIE X pins σ tg R) X.xe s1) X.xe s
theorem go_of {M : Model} {A : Around} {E : Value → Shared → Prop} {s : Shared} {tg : Expr} {it : Addr} {u : Value} {o : Obj} {n : String} {vs : Array Value} {Q : Unit → Shared → Prop} (ho : s.heap.get? it = some o) (hc : o.cls = .type n) (hd : o.data = .fields vs)
    (hn : ["enumerate", "zip", "dict_itemiterator", "dict_reverseitemiterator", "odict_iterator", "itertools.zip_longest", "itertools.pairwise"].contains n = false) (hQ : Q () s) : wpAny M A (letOwnedTupleGo tg (.ref it) u) Q E s := by
  unfold letOwnedTupleGo
  cases tg <;> first
    | exact wpAny_pure hQ
    | (cases u <;> first
        | exact wpAny_pure hQ
        | (refine wpAny_bind (wpAny_load ho ?_)
           rw [hc, hd]
           show wpAny M A (if (["enumerate", "zip", "dict_itemiterator", "dict_reverseitemiterator", "odict_iterator", "itertools.zip_longest", "itertools.pairwise"].contains n && vs[0]? == some (rawInt _)) = true then _ else _) Q E s
           rw [if_neg (by intro h; rw [hn, Bool.false_and] at h; cases h)]
           exact wpAny_pure hQ))
noncomputable def Itl (K : PySem.W.Frag) (a : Addr) : It :=
  ⟨fun i H => ∃ xs x, SqL K H a xs ∧ xs[i]? = some x, fun i H x H' => H' = H ∧ ∀ xs, SqL K H a xs → xs[i]? = some x, fun i H => ∃ xs, SqL K H a xs ∧ xs.length ≤ i⟩
noncomputable def Itt (K : PySem.W.Frag) (a : Addr) : It :=
  ⟨fun i H => ∃ xs x, SqT K H a xs ∧ xs[i]? = some x, fun i H x H' => H' = H ∧ ∀ xs, SqT K H a xs → xs[i]? = some x, fun i H => ∃ xs, SqT K H a xs ∧ xs.length ≤ i⟩
noncomputable def Itr (lo : Int) (n : Nat) : It := ⟨fun i _ => i < n, fun i H x H' => H' = H ∧ x = .int (lo + i), fun i _ => n ≤ i⟩
theorem turn_list {P : Program} {w : World} {K : PySem.W.Frag} {tg : Expr} (a it : Addr) : Turn P w K tg (Itl K a) [it] it (fun i h => h.IsListIter it a i) where
  mem := by simp
  obj := fun i h st b hb => by
    have e : b = it := by simpa using hb
    subst e
    obtain ⟨o, e, c, d⟩ := st
    exact ⟨o, e, fun v z => by rw [d] at z; cases z⟩
  keep := fun i h h' st k => st.at fun o e => k it (by simp) o e
  item := by
    intro X hP hw hK hc i pins s σ H E I hf st hg
    subst hP hw hK
    obtain ⟨xs, x, hq, hx⟩ := hg
    obtain ⟨its, rv, p, hz⟩ := I.list hq
    obtain ⟨u, hu, ru⟩ := rv.get hx
    obtain ⟨f0, f1, f2, f3, f4, f5⟩ := hf it (by simp)
    refine wpAny_pyNext_list_item st p.isList (x := u) (by simpa using hu) fun h' st' sb => ?_
    have I1 : Inv X pins σ H { s with heap := h' } := I.turned (t' := s.toks) (fun b o hb e => (sb.2 b hb).trans e) f0 f1 f3 f4 f5
    obtain ⟨o, e, c, d⟩ := id st'
    exact ⟨u, rfl, go_of (s := { s with heap := h' }) e c d (by decide) ⟨x, H, I1, ru, ⟨rfl, fun ys hy => by rw [I.list_inj hy hq]; exact hx⟩, st', fun b hb => (hf b hb).1⟩⟩
  done := by
    intro X hP hw hK hc i pins s σ H E I hf st hg
    subst hP hw hK
    obtain ⟨xs, hq, hx⟩ := hg
    obtain ⟨its, rv, p, hz⟩ := I.list hq
    obtain ⟨f0, f1, f2, f3, f4, f5⟩ := hf it (by simp)
    have hl := rv.length
    exact wpAny_pyNext_list_end (I.ok.hd hc) st p.isList (by simp; omega) fun h' eb => ⟨rfl, I.turned (t' := s.toks) (fun b o hb e => eb b o hb e) f0 f1 f3 f4 f5⟩
  self := fun _ _ _ _ _ st h => wpAny_pyIter_listiter st h
theorem turn_tuple {P : Program} {w : World} {K : PySem.W.Frag} {tg : Expr} (a it : Addr) : Turn P w K tg (Itt K a) [it] it (fun i h => h.IsTupleIter it a i) where
  mem := by simp
  obj := fun i h st b hb => by
    have e : b = it := by simpa using hb
    subst e
    obtain ⟨o, e, c, d⟩ := st
    exact ⟨o, e, fun v z => by rw [d] at z; cases z⟩
  keep := fun i h h' st k => st.at fun o e => k it (by simp) o e
  item := by
    intro X hP hw hK hc i pins s σ H E I hf st hg
    subst hP hw hK
    obtain ⟨xs, x, hq, hx⟩ := hg
    obtain ⟨its, rv, p, hz⟩ := I.tuple hq
    obtain ⟨u, hu, ru⟩ := rv.get hx
    obtain ⟨f0, f1, f2, f3, f4, f5⟩ := hf it (by simp)
    refine wpAny_pyNext_tuple_item st (show s.heap.IsTuple a its.toArray from p) (x := u) (by simpa using hu) fun h' st' sb => ?_
    have I1 : Inv X pins σ H { s with heap := h' } := I.turned (t' := s.toks) (fun b o hb e => (sb.2 b hb).trans e) f0 f1 f3 f4 f5
    obtain ⟨o, e, c, d⟩ := id st'
    exact ⟨u, rfl, go_of (s := { s with heap := h' }) e c d (by decide) ⟨x, H, I1, ru, ⟨rfl, fun ys hy => by rw [I.tuple_inj hy hq]; exact hx⟩, st', fun b hb => (hf b hb).1⟩⟩
  done := by
    intro X hP hw hK hc i pins s σ H E I hf st hg
    subst hP hw hK
    obtain ⟨xs, hq, hx⟩ := hg
    obtain ⟨its, rv, p, hz⟩ := I.tuple hq
    obtain ⟨f0, f1, f2, f3, f4, f5⟩ := hf it (by simp)
    have hl := rv.length
    exact wpAny_pyNext_tuple_end (I.ok.hd hc) st (show s.heap.IsTuple a its.toArray from p) (by simp; omega) fun h' eb => ⟨rfl, I.turned (t' := s.toks) (fun b o hb e => eb b o hb e) f0 f1 f3 f4 f5⟩
  self := fun _ _ _ _ _ st h => wpAny_pyIter_tupleiter st h
theorem turn_range {P : Program} {w : World} {K : PySem.W.Frag} {tg : Expr} (it : Addr) (lo : Int) (n : Nat) : Turn P w K tg (Itr lo n) [it] it (fun i h => IsRangeIter h it (lo + (i : Nat) * 1) ((n : Int) - (i : Nat)) 1) where
  mem := by simp
  obj := fun i h st b hb => by
    have e : b = it := by simpa using hb
    subst e
    exact ⟨_, st, fun v z => by
      have z' : Data.fields _ = Data.cell v := z
      cases z'⟩
  keep := fun i h h' st k => k it (by simp) _ st
  item := by
    intro X hP hw hK hc i pins s σ H E I hf st hg
    subst hP hw hK
    obtain ⟨f0, f1, f2, f3, f4, f5⟩ := hf it (by simp)
    have W := Walks.range (prog := X.prog) (w := X.w) (I.ok.hd hc) it lo 1 n
    refine W.item i s _ _ hg st fun v h' tk hv st' kk => ?_
    obtain ⟨t, rfl⟩ := hv
    have I1 : Inv X pins σ H { s with heap := h', toks := tk } := I.turned (fun b o hb e => kk b o (by simpa using hb) e) f0 f1 f3 f4 f5
    refine ⟨_, rfl, go_of (s := { s with heap := h', toks := tk }) (n := "range_iterator") st' rfl rfl (by decide) ⟨.int (lo + i), H, I1, ⟨t, ?_⟩, ⟨rfl, rfl⟩, st', fun b hb => (hf b hb).1⟩⟩
    rw [Int.mul_one]
  done := by
    intro X hP hw hK hc i pins s σ H E I hf st hg
    subst hP hw hK
    obtain ⟨f0, f1, f2, f3, f4, f5⟩ := hf it (by simp)
    exact wpAny_pyNext_range_end (I.ok.hd hc) st (by have : n ≤ i := hg; omega) fun h' eb => ⟨rfl, I.turned (t' := s.toks) (fun b o hb e => eb b o hb e) f0 f1 f3 f4 f5⟩
  self := fun _ _ _ _ _ st h => wpAny_pyIter_rangeiter st h
end L2
namespace L2
open PySem PySem.Spec PyProof.Rows
section
variable {X : Cx} {tg : Expr}
noncomputable def iList (K : PySem.W.Frag) (tl : TE) : TI := fun σ H R => tl σ H fun x H1 => ∃ a, x = .ref a ∧ (∃ xs, SqL K H1 a xs) ∧ R (Itl K a) H1
noncomputable def iTup (K : PySem.W.Frag) (tl : TE) : TI := fun σ H R => tl σ H fun x H1 => ∃ a, x = .ref a ∧ (∃ xs, SqT K H1 a xs) ∧ R (Itt K a) H1
theorem pi_list {l : Expr} {tl : TE} (hl : PE X l tl) : PI X tg l (iList X.K tl) := by
  intro pins s σ H R I h
  refine thn (hl pins s σ H _ I h) fun v s1 ⟨x, H1, I1, r1, q1⟩ => ?_
  obtain ⟨a, e, ⟨xs, hq⟩, q⟩ := q1
  subst e
  cases r1
  obtain ⟨its, rv, p, hz⟩ := I1.list hq
  refine wpAny_pyIter_list p.isList ?_
  refine ⟨s1.heap.objs.size, [s1.heap.objs.size], _, _, H1, rfl, I1.kept (t' := s1.toks) fun b o e => Heap.get?_push_of_some _ e, turn_list a _, ⟨_, Heap.get?_push_size _ rfl, rfl, rfl⟩, fun b hb => ?_, q⟩
  have e : b = s1.heap.objs.size := by simpa using hb
  subst e
  exact I1.fpOk (Nat.le_refl _) (I1.hok.fresh (Nat.le_refl _))
theorem pi_tup {l : Expr} {tl : TE} (hl : PE X l tl) : PI X tg l (iTup X.K tl) := by
  intro pins s σ H R I h
  refine thn (hl pins s σ H _ I h) fun v s1 ⟨x, H1, I1, r1, q1⟩ => ?_
  obtain ⟨a, e, ⟨xs, hq⟩, q⟩ := q1
  subst e
  cases r1
  obtain ⟨its, rv, p, hz⟩ := I1.tuple hq
  refine wpAny_pyIter_tuple (show s1.heap.IsTuple a its.toArray from p) ?_
  refine ⟨s1.heap.objs.size, [s1.heap.objs.size], _, _, H1, rfl, I1.kept (t' := s1.toks) fun b o e => Heap.get?_push_of_some _ e, turn_tuple a _, ⟨_, Heap.get?_push_size _ rfl, rfl, rfl⟩, fun b hb => ?_, q⟩
  have e : b = s1.heap.objs.size := by simpa using hb
  subst e
  exact I1.fpOk (Nat.le_refl _) (I1.hok.fresh (Nat.le_refl _))
theorem range_it {pins : List (Addr × Obj)} {σ : St} {H : Hp} {s : Shared} {R : It → Hp → Prop} {E : Value → Shared → Prop} {lo hi : Int} {t u v : Tok} {tk : Nat} (I : Inv X pins σ H s) (h1 : -(2 ^ 62) ≤ lo) (h2 : lo < 2 ^ 62) (h3 : -(2 ^ 62) ≤ hi) (h4 : hi < 2 ^ 62)
    (q : R (Itr lo (hi - lo).toNat) H) : wpAny (model X.prog X.w) X.A (pyIter (.ref s.heap.objs.size)) (PIE X pins σ tg R) E { s with heap := s.heap.push { cls := .type "range", data := .fields #[.int lo t, .int hi u, .int 1 v] }, toks := tk } := by
  refine wpAny_pyIter_range (IsRange.new ..) (small_one h1 h2 h3 h4) ?_
  have I1 : Inv X pins σ H { s with heap := s.heap.push { cls := .type "range", data := .fields #[.int lo t, .int hi u, .int 1 v] }, toks := tk } := I.kept fun b o e => Heap.get?_push_of_some _ e
  refine ⟨(s.heap.push { cls := .type "range", data := .fields #[.int lo t, .int hi u, .int 1 v] }).objs.size, [(s.heap.push { cls := .type "range", data := .fields #[.int lo t, .int hi u, .int 1 v] }).objs.size], _, _, H, rfl,
    I1.kept (t' := tk) fun b o e => Heap.get?_push_of_some _ e, turn_range _ lo (hi - lo).toNat, ?_, fun b hb => ?_, q⟩
  · have e1 : lo + ((0 : Nat) : Int) * 1 = lo := by simp
    have e2 : (((hi - lo).toNat : Nat) : Int) - ((0 : Nat) : Int) = Builtin.Range.rangeSize lo hi 1 := by rw [rangeSize_one]; split <;> omega
    show IsRangeIter _ _ (lo + ((0 : Nat) : Int) * 1) ((((hi - lo).toNat : Nat) : Int) - ((0 : Nat) : Int)) 1
    rw [e1, e2]
    exact Heap.get?_push_size _ rfl
  · have e : b = (s.heap.push { cls := .type "range", data := .fields #[.int lo t, .int hi u, .int 1 v] }).objs.size := by simpa using hb
    subst e
    exact I1.fpOk (Nat.le_refl _) (I1.hok.fresh (Nat.le_refl _))
noncomputable def iRng1 (ta : TA) : TI := fun σ H R => ta σ H fun vs H1 => ∃ j : Int, vs = [.int j] ∧ -(2 ^ 62) ≤ j ∧ j < 2 ^ 62 ∧ R (Itr 0 j.toNat) H1
noncomputable def iRng2 (ta : TA) : TI := fun σ H R => ta σ H fun vs H1 => ∃ i j : Int, vs = [.int i, .int j] ∧ (-(2 ^ 62) ≤ i ∧ i < 2 ^ 62 ∧ -(2 ^ 62) ≤ j ∧ j < 2 ^ 62) ∧ R (Itr i (j - i).toNat) H1
theorem pi_range1 {a : Expr} {ta : TA} {p pos : Pos} (hg : Gl X "range") (hm : X.mg "range" = none) (ha : PA X [a] ta) (hs : starEach [a] X.env = [(false, eval a X.env)] := by rfl) : PI X tg (.Call (.Name "range" p) [a] [] pos) (iRng1 ta) := by
  intro pins s σ H R I h
  refine Call_ (ld_blt I hg hm boot_range (PyProof.Rows.callWith_type1 (thn (ha pos pins s σ H _ I h) fun us s1 ⟨vs, H1, I1, r1, q1⟩ => ?_) hs rfl))
  obtain ⟨j, e, q1, q2, q⟩ := q1
  subst e
  cases r1 with
  | cons r rr =>
    cases rr
    obtain ⟨t, rfl⟩ := r
    exact call_range_1 (range_it I1 (by omega) (by omega) q1 q2 (by simpa using q))
theorem pi_range2 {a b : Expr} {ta : TA} {p pos : Pos} (hg : Gl X "range") (hm : X.mg "range" = none) (ha : PA X [a, b] ta) (hs : starEach [a, b] X.env = [(false, eval a X.env), (false, eval b X.env)] := by rfl) (hs2 : starEach [b] X.env = [(false, eval b X.env)] := by rfl) :
    PI X tg (.Call (.Name "range" p) [a, b] [] pos) (iRng2 ta) := by
  intro pins s σ H R I h
  refine Call_ (ld_blt I hg hm boot_range (PyProof.Rows.callWith_type1 (thn (ha pos pins s σ H _ I h) fun us s1 ⟨vs, H1, I1, r1, q1⟩ => ?_) (by rw [hs, hs2]) (by rw [hs2]; rfl)))
  obtain ⟨i, j, e, ⟨q1, q2, q3, q4⟩, q⟩ := q1
  subst e
  cases r1 with
  | cons r rr =>
    cases rr with
    | cons r' rr =>
      cases rr
      obtain ⟨t, rfl⟩ := r
      obtain ⟨t', rfl⟩ := r'
      exact call_range_2 (range_it I1 q1 q2 q3 q4 q)
noncomputable def tFor (wi : TI) (g : TG) (tb : TS) : TS := fun D σ H => wi σ H fun J H1 => ∃ W : Nat → Nat → St → Hp → Prop, (∃ m, W 0 m σ H1) ∧ ∀ i m σ H, W i m σ H →
  (J.stop i H ∧ D.nx σ H) ∨ (J.go i H ∧ ∃ N : St → Hp → Prop, (∀ σ' H', N σ' H' → ∃ m', m' < m ∧ W (i + 1) m' σ' H') ∧ ∀ x H', J.yld i H x H' → g x σ H' fun σ2 H2 => tb { D with nx := N, ct := N, bk := D.nx } σ2 H2)
noncomputable def pinsAt (fp : List Addr) (h : Heap) : List (Addr × Obj) := fp.filterMap fun b => (h.get? b).map fun o => (b, o)
theorem mem_pinsAt {fp : List Addr} {h : Heap} {b : Addr} {o : Obj} (hb : b ∈ fp) (e : h.get? b = some o) : (b, o) ∈ pinsAt fp h := List.mem_filterMap.mpr ⟨b, hb, by rw [e]; rfl⟩
theorem of_pinsAt {fp : List Addr} {h : Heap} {p : Addr × Obj} (hp : p ∈ pinsAt fp h) : p.1 ∈ fp ∧ h.get? p.1 = some p.2 := by
  obtain ⟨b, hb, e⟩ := List.mem_filterMap.mp hp
  cases q : h.get? b with
  | none => rw [q] at e; cases e
  | some o =>
    rw [q] at e
    have e' : (b, o) = p := Option.some.inj e
    subst e'
    exact ⟨hb, q⟩
theorem Inv.pinned {pins : List (Addr × Obj)} {σ : St} {H : Hp} {s : Shared} {fp : List Addr} (I : Inv X pins σ H s) (hf : ∀ b ∈ fp, FpOk X pins H b) (ho : ∀ b ∈ fp, ∃ o, s.heap.get? b = some o ∧ ∀ v, o.data ≠ .cell v) : Inv X (pins ++ pinsAt fp s.heap) σ H s :=
  I.pins_of fun p hp => (List.mem_append.mp hp).elim (fun z => I.pin p (List.mem_append_right _ z)) fun z => by
    obtain ⟨hb, e⟩ := of_pinsAt z
    obtain ⟨f0, f1, f2, _⟩ := hf p.1 hb
    obtain ⟨o, e', d⟩ := ho p.1 hb
    rw [e] at e'; cases e'
    exact ⟨e, f0, f1, f2, d⟩
theorem Inv.unpinned {pins pl : List (Addr × Obj)} {σ : St} {H : Hp} {s : Shared} (I : Inv X (pins ++ pl) σ H s) : Inv X pins σ H s := I.pins_of fun p hp => I.pin p (List.mem_append_right _ (List.mem_append_left _ hp))
theorem ps_for {iter : Expr} {body : List Stmt} {wi : TI} {g : TG} {tb : TS} {pos : Pos} (hp : PassesOwn (model X.prog X.w) X.A X.env X.xe) (hc : X.calm = true) (hi : PI X tg iter wi) (hg : PG X tg g) (hb : PSs X body tb)
    (hs : ∀ x, foldedSetIterable iter X.env x = pure x := by intro _; rfl) : PS X (.For tg iter body [] pos) (tFor wi g tb) := by
  intro pins s σ H D I h
  refine wpAny_For (thn (hi pins s σ H _ I h) fun v s1 h1 => thn h1 fun itv s2 h2 => ?_) hs
  obtain ⟨it, fp, tn, J, H2, e, I2, T, st2, f2, W, ⟨m0, w0⟩, turn⟩ := h2
  subst e
  have stat : ∀ {H' : Hp}, (∀ b ∈ fp, H' b = none) → ∀ b ∈ fp, FpOk X pins H' b := fun hn b hb => ⟨hn b hb, (f2 b hb).2⟩
  refine codeAny_forLoop_any (fun n s' => ∃ i σ' H', Inv X pins σ' H' s' ∧ tn i s'.heap ∧ (∀ b ∈ fp, H' b = none) ∧ W i n σ' H') ?_ m0 ⟨0, σ, H2, I2, st2, fun b hb => (f2 b hb).1, w0⟩
  rintro n s3 ⟨i, σ3, H3, I3, st3, fr3, w3⟩
  rcases turn i n σ3 H3 w3 with ⟨stop, qn⟩ | ⟨go, N, hN, step⟩
  · refine wpAny_passesOwn hp (thn (T.done X rfl rfl rfl hc i pins s3 σ3 H3 X.xe I3 (stat fr3) st3 stop) fun r s4 ⟨hr, I4⟩ => ?_)
    subst hr
    exact wpAny_execs_nil ⟨σ3, H3, I4, qn⟩
  · refine wpAny_passesOwn hp (thn (T.item X rfl rfl rfl hc i pins s3 σ3 H3 X.xe I3 (stat fr3) st3 go) fun r s4 ⟨u, hr, h4⟩ => ?_)
    subst hr
    refine wpAny_passesOwn hp (thn h4 fun _ s5 ⟨x, H5, I5, r5, y5, st5, fr5⟩ => ?_)
    have I5' := I5.pinned (stat fr5) (T.obj _ _ st5)
    refine wpAny_passesOwn hp (thn (hg _ s5 σ3 H5 x u _ I5' r5 (step x H5 y5)) fun _ s6 ⟨σ6, H6, I6, q6⟩ => ?_)
    refine wpAny_passesOwn hp (thn (hb _ s6 σ6 H6 _ I6 q6) fun f s7 q7 => ?_)
    have again : ∀ {σ7 : St} {H7 : Hp}, Inv X (pins ++ pinsAt fp s5.heap) σ7 H7 s7 → N σ7 H7 → ∃ m, m < n ∧ ∃ i σ' H', Inv X pins σ' H' s7 ∧ tn i s7.heap ∧ (∀ b ∈ fp, H' b = none) ∧ W i m σ' H' := fun {σ7 H7} I7 n7 => by
      obtain ⟨m', hm, w7⟩ := hN σ7 H7 n7
      refine ⟨m', hm, i + 1, σ7, H7, I7.unpinned, T.keep _ _ _ st5 fun b hb o e => (I7.pin (b, o) (List.mem_append_right _ (List.mem_append_right _ (mem_pinsAt hb e)))).1, fun b hb => ?_, w7⟩
      obtain ⟨o, e, d⟩ := T.obj _ _ st5 b hb
      exact (I7.pin (b, o) (List.mem_append_right _ (List.mem_append_right _ (mem_pinsAt hb e)))).2.1
    cases f with
    | next => obtain ⟨σ7, H7, I7, n7⟩ := q7; exact again I7 n7
    | cont => obtain ⟨σ7, H7, I7, n7⟩ := q7; exact again I7 n7
    | brk => obtain ⟨σ7, H7, I7, q7⟩ := q7; exact ⟨σ7, H7, I7.unpinned, q7⟩
    | ret v => obtain ⟨x7, σ7, H7, I7, r7, q7⟩ := q7; exact ⟨x7, σ7, H7, I7.unpinned, r7, q7⟩
end
theorem for_list {K : PySem.W.Frag} {a : Addr} {xs : List V} {g : TG} {tb : TS} {D : Ends} {σ : St} {H : Hp} (Pv : Nat → St → Hp → Prop) (h0 : Pv 0 σ H) (hl : ∀ i σ H, i ≤ xs.length → Pv i σ H → SqL K H a xs)
    (hs : ∀ i x σ H, xs[i]? = some x → Pv i σ H → g x σ H fun σ2 H2 => tb { D with nx := Pv (i + 1), ct := Pv (i + 1), bk := D.nx } σ2 H2) (hd : ∀ σ H, Pv xs.length σ H → D.nx σ H) :
    ∃ W : Nat → Nat → St → Hp → Prop, (∃ m, W 0 m σ H) ∧ ∀ i m σ H, W i m σ H →
      ((Itl K a).stop i H ∧ D.nx σ H) ∨ ((Itl K a).go i H ∧ ∃ N : St → Hp → Prop, (∀ σ' H', N σ' H' → ∃ m', m' < m ∧ W (i + 1) m' σ' H') ∧ ∀ x H', (Itl K a).yld i H x H' → g x σ H' fun σ2 H2 => tb { D with nx := N, ct := N, bk := D.nx } σ2 H2) := by
  refine ⟨fun i m σ H => m = xs.length - i ∧ i ≤ xs.length ∧ Pv i σ H, ⟨xs.length, by simp, Nat.zero_le _, h0⟩, ?_⟩
  rintro i m σ H ⟨rfl, hi, p⟩
  have q := hl i σ H hi p
  by_cases hlt : i < xs.length
  · refine .inr ⟨⟨xs, xs[i], q, by simp [hlt]⟩, Pv (i + 1), fun σ' H' p' => ⟨xs.length - (i + 1), by omega, rfl, hlt, p'⟩, fun x H' y => ?_⟩
    obtain ⟨e, y⟩ := y
    subst e
    exact hs i x σ _ (y xs q) p
  · have e : i = xs.length := by omega
    subst e
    exact .inl ⟨⟨xs, q, Nat.le_refl _⟩, hd σ H p⟩
theorem for_tup {K : PySem.W.Frag} {a : Addr} {xs : List V} {g : TG} {tb : TS} {D : Ends} {σ : St} {H : Hp} (Pv : Nat → St → Hp → Prop) (h0 : Pv 0 σ H) (hl : ∀ i σ H, i ≤ xs.length → Pv i σ H → SqT K H a xs)
    (hs : ∀ i x σ H, xs[i]? = some x → Pv i σ H → g x σ H fun σ2 H2 => tb { D with nx := Pv (i + 1), ct := Pv (i + 1), bk := D.nx } σ2 H2) (hd : ∀ σ H, Pv xs.length σ H → D.nx σ H) :
    ∃ W : Nat → Nat → St → Hp → Prop, (∃ m, W 0 m σ H) ∧ ∀ i m σ H, W i m σ H →
      ((Itt K a).stop i H ∧ D.nx σ H) ∨ ((Itt K a).go i H ∧ ∃ N : St → Hp → Prop, (∀ σ' H', N σ' H' → ∃ m', m' < m ∧ W (i + 1) m' σ' H') ∧ ∀ x H', (Itt K a).yld i H x H' → g x σ H' fun σ2 H2 => tb { D with nx := N, ct := N, bk := D.nx } σ2 H2) := by
  refine ⟨fun i m σ H => m = xs.length - i ∧ i ≤ xs.length ∧ Pv i σ H, ⟨xs.length, by simp, Nat.zero_le _, h0⟩, ?_⟩
  rintro i m σ H ⟨rfl, hi, p⟩
  have q := hl i σ H hi p
  by_cases hlt : i < xs.length
  · refine .inr ⟨⟨xs, xs[i], q, by simp [hlt]⟩, Pv (i + 1), fun σ' H' p' => ⟨xs.length - (i + 1), by omega, rfl, hlt, p'⟩, fun x H' y => ?_⟩
    obtain ⟨e, y⟩ := y
    subst e
    exact hs i x σ _ (y xs q) p
  · have e : i = xs.length := by omega
    subst e
    exact .inl ⟨⟨xs, q, Nat.le_refl _⟩, hd σ H p⟩
theorem for_range {lo : Int} {n : Nat} {g : TG} {tb : TS} {D : Ends} {σ : St} {H : Hp} (Pv : Nat → St → Hp → Prop) (h0 : Pv 0 σ H)
    (hs : ∀ i σ H, i < n → Pv i σ H → g (.int (lo + i)) σ H fun σ2 H2 => tb { D with nx := Pv (i + 1), ct := Pv (i + 1), bk := D.nx } σ2 H2) (hd : ∀ σ H, Pv n σ H → D.nx σ H) :
    ∃ W : Nat → Nat → St → Hp → Prop, (∃ m, W 0 m σ H) ∧ ∀ i m σ H, W i m σ H →
      ((Itr lo n).stop i H ∧ D.nx σ H) ∨ ((Itr lo n).go i H ∧ ∃ N : St → Hp → Prop, (∀ σ' H', N σ' H' → ∃ m', m' < m ∧ W (i + 1) m' σ' H') ∧ ∀ x H', (Itr lo n).yld i H x H' → g x σ H' fun σ2 H2 => tb { D with nx := N, ct := N, bk := D.nx } σ2 H2) := by
  refine ⟨fun i m σ H => m = n - i ∧ i ≤ n ∧ Pv i σ H, ⟨n, by simp, Nat.zero_le _, h0⟩, ?_⟩
  rintro i m σ H ⟨rfl, hi, p⟩
  by_cases hlt : i < n
  · refine .inr ⟨hlt, Pv (i + 1), fun σ' H' p' => ⟨n - (i + 1), by omega, rfl, hlt, p'⟩, fun x H' y => ?_⟩
    obtain ⟨e, y⟩ := y
    subst e y
    exact hs i σ _ hlt p
  · have e : i = n := by omega
    subst e
    exact .inl ⟨Nat.le_refl _, hd σ H p⟩
end L2
namespace L2
open PySem PySem.Spec PyProof.Rows
noncomputable abbrev R2 := V → V → Hp → VK → Prop
noncomputable def OpR (X : Cx) (f : Value → Value → Sem Value) (r : R2) : Prop :=
  ∀ (pins : List (Addr × Obj)) (s : Shared) (σ : St) (H : Hp) (x y : V) (v u : Value) (Q : VK), Inv X pins σ H s → RelV x v → RelV y u → r x y H Q →
    wpAny (model X.prog X.w) X.A (f v u) (EP X pins σ Q) X.xe s
noncomputable def UnR (X : Cx) (f : Value → Sem Value) (r : V → Hp → VK → Prop) : Prop :=
  ∀ (pins : List (Addr × Obj)) (s : Shared) (σ : St) (H : Hp) (x : V) (v : Value) (Q : VK), Inv X pins σ H s → RelV x v → r x H Q →
    wpAny (model X.prog X.w) X.A (f v) (EP X pins σ Q) X.xe s
noncomputable def CallR (X : Cx) (f : Value) (r : List V → Hp → VK → Prop) : Prop :=
  ∀ (pins : List (Addr × Obj)) (s : Shared) (σ : St) (H : Hp) (xs : List V) (us : List Value) (Q : VK), Inv X pins σ H s → Vals xs us → r xs H Q →
    wpAny (model X.prog X.w) X.A (call f us) (EP X pins σ Q) X.xe s
noncomputable def TruR (X : Cx) (r : V → Hp → (Bool → Hp → Prop) → Prop) : Prop :=
  ∀ (pins : List (Addr × Obj)) (s : Shared) (σ : St) (H : Hp) (x : V) (v : Value) (Q : Bool → Hp → Prop), Inv X pins σ H s → RelV x v → r x H Q →
    wpAny (model X.prog X.w) X.A (truthy v) (TP X pins σ Q) X.xe s
noncomputable def tOp (r : R2) (ta tb : TE) : TE := fun σ H Q => ta σ H fun x H1 => tb σ H1 fun y H2 => r x y H2 Q
noncomputable def tUn (r : V → Hp → VK → Prop) (ta : TE) : TE := fun σ H Q => ta σ H fun x H1 => r x H1 Q
noncomputable def rI (C : Int → Int → Prop) (g : Int → Int → V) : R2 := fun x y H Q => ∃ i j, x = .int i ∧ y = .int j ∧ C i j ∧ Q (g i j) H
noncomputable def rI0 (g : Int → Int → V) : R2 := fun x y H Q => ∃ i j, x = .int i ∧ y = .int j ∧ Q (g i j) H
noncomputable def rU (g : Int → V) : V → Hp → VK → Prop := fun x H Q => ∃ i, x = .int i ∧ Q (g i) H
section
variable {X : Cx} {a b c : Expr} {ta tb tc : TE} {pos : Pos}
theorem binT (ha : PE X a ta) (hb : PE X b tb) {pins : List (Addr × Obj)} {s : Shared} {σ : St} {H : Hp} {R : V → V → Hp → Prop} (I : Inv X pins σ H s)
    (h : ta σ H fun x H1 => tb σ H1 fun y H2 => R x y H2) {Q : Value → Shared → Prop} {f : Value → Value → Sem Value}
    (hf : ∀ v u s2 x y H2, Inv X pins σ H2 s2 → RelV x v → RelV y u → R x y H2 → wpAny (model X.prog X.w) X.A (f v u) Q X.xe s2) :
    wpAny (model X.prog X.w) X.A (eval a X.env) (fun v s₁ => wpAny (model X.prog X.w) X.A (eval b X.env) (fun u s₂ => wpAny (model X.prog X.w) X.A (f v u) Q X.xe s₂) X.xe s₁) X.xe s := by
  refine thn (ha pins s σ H _ I h) fun v s1 ⟨x, H1, I1, r1, q1⟩ => ?_
  refine thn (hb pins s1 σ H1 _ I1 q1) fun u s2 ⟨y, H2, I2, r2, q2⟩ => ?_
  exact hf v u s2 x y H2 I2 r1 r2 q2
theorem pe_op {op : Operator} {r : R2} (ho : OpR X (binaryOp op) r) (ha : PE X a ta) (hb : PE X b tb) : PE X (.BinOp a op b pos) (tOp r ta tb) := by
  intro pins s σ H Q I h
  exact wpAny_BinOp (binT ha hb I h fun v u s2 x y H2 I2 rx ry q => ho pins s2 σ H2 x y v u Q I2 rx ry q)
theorem pe_un {op : UnaryOp} {r : V → Hp → VK → Prop} (ho : UnR X (unaryOp op) r) (ha : PE X a ta) : PE X (.UnaryOp op a pos) (tUn r ta) := by
  intro pins s σ H Q I h
  exact UnaryOp_ (thn (ha pins s σ H _ I h) fun v s1 ⟨x, H1, I1, r1, q1⟩ => ho pins s1 σ H1 x v Q I1 r1 q1)
theorem opI {f : Value → Value → Sem Value} {C : Int → Int → Prop} {g : Int → Int → Int}
    (rule : ∀ (i j : Int) (t u : Tok) (s : Shared) (Q : Value → Shared → Prop) (E : Value → Shared → Prop), C i j → Q (.int (g i j) s.toks) { s with toks := s.toks + 1 } → wpAny (model X.prog X.w) X.A (f (.int i t) (.int j u)) Q E s) :
    OpR X f (rI C fun i j => .int (g i j)) := by
  intro pins s σ H x y v u Q I rx ry h
  obtain ⟨i, j, rfl, rfl, hc, q⟩ := h
  obtain ⟨t, rfl⟩ := rx
  obtain ⟨t', rfl⟩ := ry
  exact rule i j t t' s _ _ hc ⟨.int (g i j), H, I.tok _, ⟨_, rfl⟩, q⟩
theorem opI0 {f : Value → Value → Sem Value} {g : Int → Int → Int}
    (rule : ∀ (i j : Int) (t u : Tok) (s : Shared) (Q : Value → Shared → Prop) (E : Value → Shared → Prop), Q (.int (g i j) s.toks) { s with toks := s.toks + 1 } → wpAny (model X.prog X.w) X.A (f (.int i t) (.int j u)) Q E s) :
    OpR X f (rI0 fun i j => .int (g i j)) := by
  intro pins s σ H x y v u Q I rx ry h
  obtain ⟨i, j, rfl, rfl, q⟩ := h
  obtain ⟨t, rfl⟩ := rx
  obtain ⟨t', rfl⟩ := ry
  exact rule i j t t' s _ _ ⟨.int (g i j), H, I.tok _, ⟨_, rfl⟩, q⟩
theorem opB0 {f : Value → Value → Sem Value} {g : Int → Int → Bool}
    (rule : ∀ (i j : Int) (t u : Tok) (s : Shared) (Q : Value → Shared → Prop) (E : Value → Shared → Prop), Q (.bool (g i j)) s → wpAny (model X.prog X.w) X.A (f (.int i t) (.int j u)) Q E s) :
    OpR X f (rI0 fun i j => .bl (g i j)) := by
  intro pins s σ H x y v u Q I rx ry h
  obtain ⟨i, j, rfl, rfl, q⟩ := h
  obtain ⟨t, rfl⟩ := rx
  obtain ⟨t', rfl⟩ := ry
  exact rule i j t t' s _ _ ⟨.bl (g i j), H, I, rfl, q⟩
noncomputable def CDiv (i j : Int) : Prop := 0 < j ∧ j < 1073741824
noncomputable def CDivN (i j : Int) : Prop := j ≠ 0 ∧ j.natAbs < 1073741824
noncomputable def CPow (i j : Int) : Prop := 0 ≤ j ∧ j ≤ 1000000 ∧ i.natAbs < 2 ^ 64
noncomputable def CMul (i j : Int) : Prop := (-(2 ^ 64) < i ∧ i < 2 ^ 64) ∨ (-(2 ^ 64) < j ∧ j < 2 ^ 64)
theorem CMul.ok {i j : Int} (h : CMul i j) : IntMulOk i j := by
  rcases h with ⟨h1, h2⟩ | ⟨h1, h2⟩
  · exact .of_left (intBits_le_64 h1 h2)
  · exact .of_right (intBits_le_64 h1 h2)
theorem op_add : OpR X (binaryOp .Add) (rI0 fun i j => .int (i + j)) := opI0 fun _ _ _ _ _ _ _ q => add_int q
theorem op_sub : OpR X (binaryOp .Sub) (rI0 fun i j => .int (i - j)) := opI0 fun _ _ _ _ _ _ _ q => sub_int q
theorem op_mod : OpR X (binaryOp .Mod) (rI (fun _ j => 0 < j) fun i j => .int (i % j)) := opI fun i j _ _ _ _ _ hc q => by
  have h1 : (0 : Int) < j := hc
  exact mod_int' (by omega) (by rw [Int.fmod_eq_emod_of_nonneg i (by omega)]; exact q)
theorem op_pow : OpR X (binaryOp .Pow) (rI CPow fun i j => .int (i ^ j.toNat)) := opI fun _ _ _ _ _ _ _ hc q => pow_int_small hc.1 hc.2.1 hc.2.2 q
theorem unI {f : Value → Sem Value} {g : Int → Int}
    (rule : ∀ (i : Int) (t : Tok) (s : Shared) (Q : Value → Shared → Prop) (E : Value → Shared → Prop), Q (.int (g i) s.toks) { s with toks := s.toks + 1 } → wpAny (model X.prog X.w) X.A (f (.int i t)) Q E s) :
    UnR X f (rU fun i => .int (g i)) := by
  intro pins s σ H x v Q I rx h
  obtain ⟨i, rfl, q⟩ := h
  obtain ⟨t, rfl⟩ := rx
  exact rule i t s _ _ ⟨.int (g i), H, I.tok _, ⟨_, rfl⟩, q⟩
theorem un_neg : UnR X (unaryOp .USub) (rU fun i => .int (-i)) := unI fun _ _ _ _ _ q => neg_int q
end
noncomputable def scal : V → V → Bool
  | .non, .non => true | .non, .int _ => true | .int _, .non => true | .non, .bl _ => true | .bl _, .non => true | .non, .str _ => true | .str _, .non => true
  | .int _, .int _ => true | .bl _, .bl _ => true | .str _, .str _ => true | .byt _, .byt _ => true
  | .int _, .str _ => true | .str _, .int _ => true | .bl _, .str _ => true | .str _, .bl _ => true
  | _, _ => false
noncomputable def rEq : R2 := fun x y H Q => scal x y = true ∧ Q (.bl (decide (x = y))) H
noncomputable def rNe : R2 := fun x y H Q => scal x y = true ∧ Q (.bl (!decide (x = y))) H
theorem dec_int {i j : Int} : decide (V.int i = V.int j) = (i == j) := by
  rw [Bool.eq_iff_iff]
  simp
theorem dec_bl {i j : Bool} : decide (V.bl i = V.bl j) = (i == j) := by
  rw [Bool.eq_iff_iff]
  simp
theorem dec_str {i j : Str} : decide (V.str i = V.str j) = (i == j) := by
  rw [Bool.eq_iff_iff]
  simp
theorem dec_byt {i j : Array UInt8} : decide (V.byt i = V.byt j) = (i.toList == j.toList) := by
  rw [Bool.eq_iff_iff]
  cases i
  cases j
  simp
section
variable {X : Cx} {a b c : Expr} {ta tb tc : TE} {pos : Pos}
theorem fin_bl {pins : List (Addr × Obj)} {σ : St} {H : Hp} {s : Shared} {Q : VK} {k k' : Bool} (I : Inv X pins σ H s) (q : Q (.bl k) H) (e : k = k') : EP X pins σ Q (.bool k') s := by
  subst e
  exact ⟨.bl k, H, I, rfl, q⟩
theorem op_eq : OpR X (compareOp .Eq) rEq := by
  intro pins s σ H x y v u Q I rx ry h
  obtain ⟨hs, q⟩ := h
  cases x with
  | non =>
    cases rx
    cases y with
    | non => cases ry; exact PySem.EqNone.eq_none_none (fin_bl I q (by simp))
    | bl j => cases ry; exact PySem.EqNone.eq_none_bool (fin_bl I q (by simp))
    | int j => obtain ⟨t', rfl⟩ := ry; exact PySem.EqNone.eq_none_int (fin_bl I q (by simp))
    | str j => obtain ⟨t', rfl⟩ := ry; exact PySem.EqNone.eq_none_str (fin_bl I q (by simp))
    | _ => exact absurd (show false = true from hs) Bool.false_ne_true
  | bl i =>
    cases rx
    cases y with
    | non => cases ry; exact PySem.EqNone.eq_bool_none (fin_bl I q (by simp))
    | bl j => cases ry; exact eq_bool (fin_bl I q dec_bl)
    | str j => obtain ⟨t', rfl⟩ := ry; exact PySem.EqMixed.eq_bool_str (fin_bl I q (by simp))
    | _ => exact absurd (show false = true from hs) Bool.false_ne_true
  | int i =>
    obtain ⟨t, rfl⟩ := rx
    cases y with
    | non => cases ry; exact PySem.EqNone.eq_int_none (fin_bl I q (by simp))
    | int j => obtain ⟨t', rfl⟩ := ry; exact eq_int (fin_bl I q dec_int)
    | str j => obtain ⟨t', rfl⟩ := ry; exact PySem.EqMixed.eq_int_str (fin_bl I q (by simp))
    | _ => exact absurd (show false = true from hs) Bool.false_ne_true
  | str i =>
    obtain ⟨t, rfl⟩ := rx
    cases y with
    | non => cases ry; exact PySem.EqNone.eq_str_none (fin_bl I q (by simp))
    | bl j => cases ry; exact PySem.EqMixed.eq_str_bool (fin_bl I q (by simp))
    | int j => obtain ⟨t', rfl⟩ := ry; exact PySem.EqMixed.eq_str_int (fin_bl I q (by simp))
    | str j => obtain ⟨t', rfl⟩ := ry; exact eq_str (fin_bl I q dec_str)
    | _ => exact absurd (show false = true from hs) Bool.false_ne_true
  | byt i =>
    obtain ⟨t, rfl⟩ := rx
    cases y with
    | byt j => obtain ⟨t', rfl⟩ := ry; exact PySem.W.eq_bytes (fin_bl I q dec_byt)
    | _ => exact absurd (show false = true from hs) Bool.false_ne_true
  | _ => cases y <;> exact absurd (show false = true from hs) Bool.false_ne_true
theorem op_ne : OpR X (compareOp .NotEq) rNe := by
  intro pins s σ H x y v u Q I rx ry h
  obtain ⟨hs, q⟩ := h
  cases x with
  | non =>
    cases rx
    cases y with
    | non => cases ry; exact PySem.EqNone.ne_none_none (fin_bl I q (by simp))
    | bl j => cases ry; exact PySem.EqNone.ne_none_bool (fin_bl I q (by simp))
    | int j => obtain ⟨t', rfl⟩ := ry; exact PySem.EqNone.ne_none_int (fin_bl I q (by simp))
    | str j => obtain ⟨t', rfl⟩ := ry; exact PySem.EqNone.ne_none_str (fin_bl I q (by simp))
    | _ => exact absurd (show false = true from hs) Bool.false_ne_true
  | bl i =>
    cases rx
    cases y with
    | non => cases ry; exact PySem.EqNone.ne_bool_none (fin_bl I q (by simp))
    | bl j => cases ry; exact ne_bool (fin_bl I q (congrArg not dec_bl))
    | str j => obtain ⟨t', rfl⟩ := ry; exact PySem.EqMixed.ne_bool_str (fin_bl I q (by simp))
    | _ => exact absurd (show false = true from hs) Bool.false_ne_true
  | int i =>
    obtain ⟨t, rfl⟩ := rx
    cases y with
    | non => cases ry; exact PySem.EqNone.ne_int_none (fin_bl I q (by simp))
    | int j => obtain ⟨t', rfl⟩ := ry; exact ne_int (fin_bl I q (congrArg not dec_int))
    | str j => obtain ⟨t', rfl⟩ := ry; exact PySem.EqMixed.ne_int_str (fin_bl I q (by simp))
    | _ => exact absurd (show false = true from hs) Bool.false_ne_true
  | str i =>
    obtain ⟨t, rfl⟩ := rx
    cases y with
    | non => cases ry; exact PySem.EqNone.ne_str_none (fin_bl I q (by simp))
    | bl j => cases ry; exact PySem.EqMixed.ne_str_bool (fin_bl I q (by simp))
    | int j => obtain ⟨t', rfl⟩ := ry; exact PySem.EqMixed.ne_str_int (fin_bl I q (by simp))
    | str j => obtain ⟨t', rfl⟩ := ry; exact ne_str (fin_bl I q (congrArg not dec_str))
    | _ => exact absurd (show false = true from hs) Bool.false_ne_true
  | byt i =>
    obtain ⟨t, rfl⟩ := rx
    cases y with
    | byt j => obtain ⟨t', rfl⟩ := ry; exact PySem.W.ne_bytes (fin_bl I q (congrArg not dec_byt))
    | _ => exact absurd (show false = true from hs) Bool.false_ne_true
  | _ => cases y <;> exact absurd (show false = true from hs) Bool.false_ne_true
theorem op_lt : OpR X (compareOp .Lt) (rI0 fun i j => .bl (decide (i < j))) := opB0 fun _ _ _ _ _ _ _ q => lt_int q
theorem op_le : OpR X (compareOp .LtE) (rI0 fun i j => .bl (decide (i ≤ j))) := opB0 fun _ _ _ _ _ _ _ q => le_int q
theorem op_gt : OpR X (compareOp .Gt) (rI0 fun i j => .bl (decide (j < i))) := opB0 fun _ _ _ _ _ _ _ q => gt_int q
noncomputable def isObj : HO → Bool
  | .lst _ => true
  | .ins _ _ _ => true
  | _ => false
theorem OpR.or {f : Value → Value → Sem Value} {r r' : R2} (h : OpR X f r) (h' : OpR X f r') : OpR X f (fun x y H Q => r x y H Q ∨ r' x y H Q) := by
  intro pins s σ H x y v u Q I rx ry q
  rcases q with q | q
  · exact h pins s σ H x y v u Q I rx ry q
  · exact h' pins s σ H x y v u Q I rx ry q
theorem nomark (b : Expr) {op : CmpOp} (h : op ≠ .In := by decide) (h2 : op ≠ .NotIn := by decide) : behindInMarks op b = false := by
  have e1 : (op == CmpOp.In) = false := by cases op <;> first | rfl | exact absurd rfl h
  have e2 : (op == CmpOp.NotIn) = false := by cases op <;> first | rfl | exact absurd rfl h2
  cases b <;> simp [behindInMarks, e1, e2]
theorem pe_cmpR {op : CmpOp} {r : R2} (ho : OpR X (compareOp op) r) (ha : PE X a ta) (hb : PE X b tb) (hm : behindInMarks op b = false) : PE X (.Compare a [op] [b] pos) (tOp r ta tb) := by
  intro pins s σ H Q I h
  exact wpAny_Compare1 (binT ha hb I h fun v u s2 x y H2 I2 rx ry q => ho pins s2 σ H2 x y v u Q I2 rx ry q) hm
noncomputable def tTest (t : TE) : TT := fun σ H Q => t σ H fun x H' => ∃ k, x = .bl k ∧ Q k H'
theorem pt_cmpR {op : CmpOp} {r : R2} (ho : OpR X (compareOp op) r) (ha : PE X a ta) (hb : PE X b tb) (hm : behindInMarks op b = false) : PT X (.Compare a [op] [b] pos) (tTest (tOp r ta tb)) := by
  intro pins s σ H Q I h
  refine wpAny_isTrue_Compare1 (thn (ha pins s σ H _ I h) fun v s1 ⟨x, H1, I1, r1, q1⟩ => thn (hb pins s1 σ H1 _ I1 q1) fun u s2 ⟨y, H2, I2, r2, q2⟩ =>
    thn (ho pins s2 σ H2 x y v u _ I2 r1 r2 q2) fun c s3 ⟨z, H3, I3, r3, k, e, q3⟩ => ?_) hm
  subst e
  cases r3
  exact wpAny_truthy_bool ⟨H3, I3, q3⟩
noncomputable def tChain (r r' : R2) (ta tb tc : TE) : TE := fun σ H Q => ta σ H fun x H1 => tb σ H1 fun y H2 => r x y H2 fun z H3 => ∃ k, z = .bl k ∧
  (if k = true then tc σ H3 fun w' H4 => r' y w' H4 Q else Q (.bl false) H3)
theorem pe_chain {op op' : CmpOp} {r r' : R2} (ho : OpR X (compareOp op) r) (ho' : OpR X (compareOp op') r') (ha : PE X a ta) (hb : PE X b tb) (hc : PE X c tc)
    (hm : lastMarks [op, op'] [b, c] = false := by with_unfolding_all rfl) : PE X (.Compare a [op, op'] [b, c] pos) (tChain r r' ta tb tc) := by
  intro pins s σ H Q I h
  refine Compare_chain (thn (ha pins s σ H _ I h) fun v s1 ⟨x, H1, I1, r1, q1⟩ => chain_link (thn (hb pins s1 σ H1 _ I1 q1) fun u s2 ⟨y, H2, I2, r2, q2⟩ =>
    thn (ho pins s2 σ H2 x y v u _ I2 r1 r2 q2) fun d s3 ⟨z, H3, I3, r3, k, e, q3⟩ => ?_)) hm
  subst e
  cases r3
  refine wpAny_truthy_bool ?_
  cases k with
  | false => exact ite_ff ⟨.bl false, H3, I3, rfl, q3⟩
  | true => exact ite_tt (chain_last (thn (hc pins s3 σ H3 _ I3 q3) fun w' s4 ⟨z', H4, I4, r4, q4⟩ => ho' pins s4 σ H4 y z' u w' Q I4 r2 r4 q4))
noncomputable def TruV (K : PySem.W.Frag) (x : V) (H : Hp) (k : Bool) : Prop :=
  match x with
  | .non => k = false
  | .bl b => k = b
  | .int i => k = (i != 0)
  | .str y => y.length ≤ sizeLine ∧ k = ((y.length : Int) != 0)
  | .byt y => y.size ≤ sizeLine ∧ k = ((y.size : Int) != 0)
  | .ref p => (∃ xs, SqL K H p xs ∧ k = !xs.isEmpty) ∨ (∃ xs, SqT K H p xs ∧ k = !xs.isEmpty) ∨ ∃ kvs, H p = some (.dK kvs) ∧ k = !kvs.isEmpty
  | _ => False
theorem line63 : (sizeLine : Nat) < 2 ^ 63 := by rw [sizeLine_eq]; decide
noncomputable def PlainIxT (b : Expr) : Prop := ∀ o i, subscripted b false o i = operate [o, i] (getItem o i)
theorem vals1 {x : V} {us : List Value} (r : Vals [x] us) : ∃ u, us = [u] ∧ RelV x u := by
  cases r with
  | cons r1 r2 => cases r2; exact ⟨_, rfl, r1⟩
theorem vals2 {x y : V} {us : List Value} (r : Vals [x, y] us) : ∃ u w', us = [u, w'] ∧ RelV x u ∧ RelV y w' := by
  cases r with
  | cons r1 r2 =>
    cases r2 with
    | cons r3 r4 => cases r4; exact ⟨_, _, rfl, r1, r3⟩
theorem call_max2 (hc : X.calm = true) : CallR X (.builtin "max") (fun xs H Q => ∃ i j, xs = [.int i, .int j] ∧ Q (.int (if j > i then j else i)) H) := by
  intro pins s σ H xs us Q I r h
  obtain ⟨i, j, rfl, q⟩ := h
  obtain ⟨u, w', rfl, ⟨t, rfl⟩, ⟨t', rfl⟩⟩ := vals2 r
  refine max_two_ints (I.ok.hd hc) fun h' tk k => ⟨_, H, I.kept k, ?_, q⟩
  by_cases hj : j > i
  · rw [if_pos hj, if_pos hj]; exact ⟨_, rfl⟩
  · rw [if_neg hj, if_neg hj]; exact ⟨_, rfl⟩
theorem call_min2 (hc : X.calm = true) : CallR X (.builtin "min") (fun xs H Q => ∃ i j, xs = [.int i, .int j] ∧ Q (.int (if j < i then j else i)) H) := by
  intro pins s σ H xs us Q I r h
  obtain ⟨i, j, rfl, q⟩ := h
  obtain ⟨u, w', rfl, ⟨t, rfl⟩, ⟨t', rfl⟩⟩ := vals2 r
  refine min_two_ints (I.ok.hd hc) fun h' tk k => ⟨_, H, I.kept k, ?_, q⟩
  by_cases hj : j < i
  · rw [if_pos hj, if_pos hj]; exact ⟨_, rfl⟩
  · rw [if_neg hj, if_neg hj]; exact ⟨_, rfl⟩
noncomputable def LenV (K : PySem.W.Frag) (x : V) (H : Hp) (n : Nat) : Prop :=
  match x with
  | .str y => y.length ≤ sizeLine ∧ n = y.length
  | .byt y => y.size ≤ sizeLine ∧ n = y.size
  | .ref p => (∃ xs, SqL K H p xs ∧ n = xs.length) ∨ ∃ xs, SqT K H p xs ∧ n = xs.length
  | _ => False
end
end L2
namespace L2
open PySem PySem.Spec PyProof.Rows
structure ObjM (h : Heap) (x dx C : Addr) (mA : Str → Option Value) : Prop where
  obj : h.get? x = some (PySem.W.instObj C dx)
  ns : h.Ns1 dx mA
  ne : dx ≠ x
theorem lookIn_ns {h : Heap} {dx : Addr} {mA : Str → Option Value} (n : h.Ns1 dx mA) : ∃ od, h.get? dx = some od ∧ ∀ name, PySem.W.lookIn name od = some (mA name) := by
  obtain ⟨o, es, ep, ho, hd, hk, _, hm⟩ := n
  refine ⟨o, ho, fun name => ?_⟩
  have e := hm name
  unfold nsFind findBy at e
  rw [← Array.find?_toList] at e
  unfold PySem.W.lookIn
  rw [hd]
  dsimp only
  split
  · rename_i y q
    rw [q] at e
    exact congrArg some e
  · rename_i q
    rw [q] at e
    have a : es.toList.any (·.refKey) = false := by
      rw [List.any_eq_false]
      intro y hy
      obtain ⟨z, t, hkey⟩ := hk y (Array.mem_toList_iff.mp hy)
      simp [DictEntry.refKey, hkey]
    have a' : ¬ es.toList.any (·.refKey) = true := by rw [a]; exact Bool.false_ne_true
    rw [if_neg a']
    exact congrArg some e
theorem ObjM.look {h : Heap} {x dx C : Addr} {mA : Str → Option Value} (I : ObjM h x dx C mA) : ∃ od, PySem.W.InstAt h x (PySem.W.instObj C dx) C (some od) ∧ ∀ name, PySem.W.lookIn name od = some (mA name) :=
  let ⟨od, ho, hl⟩ := lookIn_ns I.ns
  ⟨od, ⟨I.obj, rfl, rfl, ho⟩, hl⟩
section
variable {prog : Program} {w : World} {A : Around} {E : Value → Shared → Prop} {s : Shared} {K : PySem.W.Frag} {x dx C f : Addr} {mA : Str → Option Value} {name : Str} {v : Value}
end
noncomputable def putF (f : Str) (v : V) : List (Str × V) → List (Str × V)
  | [] => [(f, v)]
  | (g, x) :: r => if g = f then (g, v) :: r else (g, x) :: putF f v r
theorem RelO.some_of {v : V} {o : Option Value} (r : RelO (some v) o) : ∃ u, o = some u ∧ RelV v u := by
  cases o with
  | none => exact (show False from r).elim
  | some u => exact ⟨u, rfl, r⟩
theorem handed_of {v : V} {u : Value} (r : RelV v u) : PySem.W.handedIn u = true := by
  cases v with
  | non => cases (show u = Value.none from r); rfl
  | bl b => cases (show u = Value.bool b from r); rfl
  | int i => obtain ⟨t, e⟩ := (show ∃ t, u = Value.int i t from r); cases e; rfl
  | str x => obtain ⟨t, e⟩ := (show ∃ t, u = Value.str x t from r); cases e; rfl
  | byt b => obtain ⟨t, e⟩ := (show ∃ t, u = Value.bytes b t from r); cases e; rfl
  | flt b => obtain ⟨t, e⟩ := (show ∃ t, u = Value.float b t from r); cases e; rfl
  | ref a => cases (show u = Value.ref a from r); rfl
  | ty n => cases (show u = Value.type n from r); rfl
section
variable {P : Program} {w : World} {H H' : Hp} {h h' : Heap} {a C dx : Addr} {fs fs' : List (Str × V)}
theorem ins_get (hok : HOk P w H h) (e : H a = some (.ins C dx fs)) : ∃ mA, ObjM h a dx C mA ∧ (∀ f, RelO (fs.lookup f) (mA f)) ∧ PySem.Within mA (fs.map (·.1)) ∧ fs.length ≤ 1000 ∧ H dx = some (.own a) := by
  obtain ⟨d, z, ne, ob, mA, n, r, q⟩ := (show ObjOk P w H h a (.ins C dx fs) from hok a _ e)
  exact ⟨mA, ⟨ob, n, ne⟩, r, q, z, d⟩
end
structure Cls (K : PySem.W.Frag) (C : Addr) : Prop where
  pg : PySem.W.plainGet K C Str.empty = true
  hd : PySem.W.hasDictIn K C = true
  po : PySem.W.plainOver K C = true
  sa : PySem.W.findIn K (.ref C) "__setattr__" = some (some (.builtin "object.__setattr__"))
theorem Cls.get {K : PySem.W.Frag} {C : Addr} (c : Cls K C) (f : Str) : PySem.W.plainGet K C f = true := c.pg
noncomputable def NoAttr (K : PySem.W.Frag) (C : Addr) (f : Str) : Prop := PySem.W.findIn K (.ref C) f = some none
structure Con (K : PySem.W.Frag) (C : Addr) (f : Str) (v : V) (u : Value) : Prop where
  at_ : PySem.W.findIn K (.ref C) f = some (some u)
  rel : RelV v u
  get : PySem.W.specialIn K u "__get__" = some none
  cp : PySem.W.copiedNames.contains f = false
structure Meth (K : PySem.W.Frag) (C : Addr) (m : Str) (f : Addr) : Prop where
  at_ : PySem.W.findIn K (.ref C) m = some (some (.ref f))
  fn : PySem.W.isFn K (.ref f) = true
  kp : PySem.W.keepIn K (.ref f) = true
section
variable {X : Cx} {pins : List (Addr × Obj)} {σ : St} {H : Hp} {s : Shared} {a C dx : Addr} {fs : List (Str × V)} {f : Str} {v : V} {A : Around} {E : Value → Shared → Prop}
theorem Inv.made (I : Inv X pins σ H s) : Inv X pins σ (upd (upd H s.heap.objs.size (.own (s.heap.objs.size + 1))) (s.heap.objs.size + 1) (.ins C s.heap.objs.size []))
    { s with heap := (s.heap.push PySem.W.emptyDict).push (PySem.W.instObj C s.heap.objs.size) } := by
  have e1 : (s.heap.push PySem.W.emptyDict).get? s.heap.objs.size = some PySem.W.emptyDict := Heap.get?_push_size s.heap rfl
  have e2 : ((s.heap.push PySem.W.emptyDict).push (PySem.W.instObj C s.heap.objs.size)).get? (s.heap.objs.size + 1) = some (PySem.W.instObj C s.heap.objs.size) := by
    have := Heap.get?_push_size (s.heap.push PySem.W.emptyDict) (o := PySem.W.instObj C s.heap.objs.size) rfl
    rwa [Heap.size_push] at this
  have e3 : (s.heap.push PySem.W.emptyDict).Ns s.heap.objs.size (fun _ => none) := ⟨PySem.W.emptyDict, #[], _, e1, rfl, (fun e he => absurd he (by simp)), fun _ => rfl⟩
  have I1 := I.laid (a := s.heap.objs.size) (o := .own (s.heap.objs.size + 1)) (h' := s.heap.push PySem.W.emptyDict) (t' := s.toks) (fun b u q => Heap.get?_push_of_some _ q) (Nat.le_refl _) ⟨_, e1⟩
  refine I1.laid (a := s.heap.objs.size + 1) (o := .ins C s.heap.objs.size []) (t' := s.toks) (fun b u q => Heap.get?_push_of_some _ q) (Nat.le_of_eq (Heap.size_push _ _)) ?_
  have ne : s.heap.objs.size ≠ s.heap.objs.size + 1 := Nat.ne_of_lt (Nat.lt_succ_self _)
  refine ⟨by rw [upd_ne ne, upd_same], Nat.zero_le _, ne, e2, fun _ => none, (Heap.Ns1.of_empty e3).at fun o q => Heap.get?_push_of_some _ q, fun _ => True.intro, fun y hy => absurd rfl hy⟩
theorem attr_of {prog : Program} {w : World} {env : Env} {e : Expr} {f : Str} {pos : Pos} {s : Shared} {Q : Value → Shared → Prop} (hb : attributeBase e f env (eval e env) = eval e env)
    (h : wpAny (model prog w) A (eval e env) (fun o s₁ => wpAny (model prog w) A (getAttr o f true) Q E s₁) E s) : wpAny (model prog w) A (eval (.Attribute e f pos) env) Q E s :=
  Attribute_any_ h (by rw [arm_eval_Attribute, hb])
end
noncomputable def tFld (K : PySem.W.Frag) (ta : TE) (f : Str) : TE := fun σ H Q => ta σ H fun x H1 => ∃ a C dx fs v, x = .ref a ∧ H1 a = some (.ins C dx fs) ∧ Cls K C ∧ NoAttr K C f ∧ fs.lookup f = some v ∧ Q v H1
noncomputable def tCon (K : PySem.W.Frag) (ta : TE) (f : Str) : TE := fun σ H Q => ta σ H fun x H1 => ∃ a C dx fs v u, x = .ref a ∧ H1 a = some (.ins C dx fs) ∧ Cls K C ∧ Con K C f v u ∧ fs.lookup f = none ∧ Q v H1
noncomputable def sFld (K : PySem.W.Frag) (ta tv : TE) (f : Str) : TS := fun D σ H => tv σ H fun y H1 => ta σ H1 fun x H2 => ∃ a C dx fs, x = .ref a ∧ H2 a = some (.ins C dx fs) ∧ Cls K C ∧ NoAttr K C f ∧ fs.length < 1000 ∧
  D.nx σ (upd H2 a (.ins C dx (putF f y fs)))
noncomputable def InOp (X : Cx) (op : Operator) (rd : V → V → Hp → VK → Prop) : Prop :=
  ∀ (pins : List (Addr × Obj)) (s : Shared) (σ : St) (H : Hp) (x y : V) (u v : Value) (Q : VK), Inv X pins σ H s → RelV x u → RelV y v → rd x y H Q → wpAny (model X.prog X.w) X.A (inplaceOp op u v) (EP X pins σ Q) X.xe s
noncomputable def sFldAug (K : PySem.W.Frag) (ta tv : TE) (rd : V → V → Hp → VK → Prop) (f : Str) : TS := fun D σ H => ta σ H fun x H1 => ∃ a C dx fs v, x = .ref a ∧ H1 a = some (.ins C dx fs) ∧ Cls K C ∧ NoAttr K C f ∧ fs.lookup f = some v ∧
  tv σ H1 fun y H2 => rd v y H2 fun z H3 => ∃ dx' fs', H3 a = some (.ins C dx' fs') ∧ fs'.length < 1000 ∧ D.nx σ (upd H3 a (.ins C dx' (putF f z fs')))
section
variable {X : Cx} {o e value : Expr} {f : Str} {pos pos' tpos : Pos} {ta tv : TE}
noncomputable def rAdd : V → V → Hp → VK → Prop := fun x y H Q => ∃ i j, x = .int i ∧ y = .int j ∧ Q (.int (i + j)) H
noncomputable def rSub : V → V → Hp → VK → Prop := fun x y H Q => ∃ i j, x = .int i ∧ y = .int j ∧ Q (.int (i - j)) H
end
section
variable {X : Cx} {pins : List (Addr × Obj)} {σ : St} {H : Hp} {s : Shared} {A : Around} {E : Value → Shared → Prop} {Q : Value → Shared → Prop} {c : Value} {b : Bool}
inductive TyOf (K : PySem.W.Frag) (H : Hp) : V → Value → Prop where
  | non : TyOf K H .non (.type "NoneType")
  | bl (x : Bool) : TyOf K H (.bl x) (.type "bool")
  | int (i : Int) : TyOf K H (.int i) (.type "int")
  | str (x : Str) : TyOf K H (.str x) (.type "str")
  | flt (x : UInt64) : TyOf K H (.flt x) (.type "float")
  | lst {a : Addr} {xs : List V} (e : H a = some (.lst xs)) : TyOf K H (.ref a) (.type "list")
  | frz {a : Addr} {o : Obj} {xs : List V} (e : H a = some (.frz o (.lst xs))) : TyOf K H (.ref a) (.type "list")
  | tup {a : Addr} {xs : List V} (e : H a = some (.tup xs)) : TyOf K H (.ref a) (.type "tuple")
  | dK {a : Addr} {kvs : List (Key × V)} (e : H a = some (.dK kvs)) : TyOf K H (.ref a) (.type "dict")
  | dT {a : Addr} {kvs : List (List Key × V)} (e : H a = some (.dT kvs)) : TyOf K H (.ref a) (.type "dict")
  | ins {a C dx : Addr} {fs : List (Str × V)} (e : H a = some (.ins C dx fs)) (cl : Cls K C) (ha : PySem.W.findIn K (.ref C) "__class__" = some (some (.builtin "object.__class__")))
      (hn : PySem.W.specialIn K (.builtin "object.__class__") "__get__" = some (some (.builtin "getset_descriptor.__get__"))) (htk : PySem.W.takesIn K (.builtin "object.__class__") = some true)
      (hm : PySem.W.mroIn K C (.type "object") = some true) : TyOf K H (.ref a) (.ref C)
end
end L2
namespace L2
open PySem PySem.Spec PyProof.Rows
structure Room (k : Nat) (A : Around) : Prop where
  hd : A.handled = none
  dp : A.depth + 3 * k + 5 < recursionLimit
  un : A.units + 16 * k + 200 < cLine
  gd : A.guards = some []
theorem Room.mono {j k : Nat} {A : Around} (r : Room k A) (h : j ≤ k) : Room j A := ⟨r.hd, by have := r.dp; omega, by have := r.un; omega, r.gd⟩
theorem Room.deeper {k : Nat} {A : Around} (r : Room (k + 1) A) (env : Env) : Room k (A.deeper env) :=
  ⟨r.hd, by have := r.dp; show A.depth + 1 + 3 * k + 5 < _; omega, by have := r.un; show A.units + 3 + 16 * k + 200 < _; omega, r.gd⟩
theorem Room.in1 {k : Nat} {A : Around} (r : Room (k + 1) A) : Room k A.in1 :=
  ⟨r.hd, by have := r.dp; show A.depth + 3 * k + 5 < _; omega, by have := r.un; show A.units + 1 + 16 * k + 200 < _; omega, r.gd⟩
theorem Room.depth {k : Nat} {A : Around} (r : Room k A) : A.depth < recursionLimit := by have := r.dp; omega
theorem Room.units {k : Nat} {A : Around} (r : Room k A) : A.units + 64 < cLine := by have := r.un; omega
noncomputable def tNil : TA := fun _ H Q => Q [] H
noncomputable def tCons (ta : TE) (tr : TA) : TA := fun σ H Q => ta σ H fun x H1 => tr σ H1 fun xs H2 => Q (x :: xs) H2
section
variable {X : Cx} {e : Expr} {es : List Expr} {te : TE} {t : TA} {pos : Pos}
theorem pa_nil : PA X [] tNil := fun _ _ _ _ H Q I h => Calls.spliced_nil ⟨[], H, I, .nil, h⟩
theorem pa_cons (ha : PE X e te) (hr : PA X es t) (hs : starEach (e :: es) X.env = (false, eval e X.env) :: starEach es X.env := by rfl) : PA X (e :: es) (tCons te t) := by
  intro pos pins s σ H Q I h
  rw [hs]
  show wpAny _ _ (spliced ((false, eval e X.env) :: backTo pos (starEach es X.env))) _ _ s
  refine Calls.spliced_cons (thn (ha pins s σ H _ I h) fun u s1 ⟨x, H1, I1, r1, q1⟩ => ?_)
  exact thn (hr pos pins s1 σ H1 _ I1 q1) fun us s2 ⟨xs, H2, I2, r2, q2⟩ => ⟨x :: xs, H2, I2, .cons r1 r2, q2⟩
noncomputable def tTup (t : TA) : TE := fun σ H Q => t σ H fun xs H1 => xs.length ≤ sizeLine ∧ ∀ p, H1 p = none → Q (.ref p) (upd H1 p (.tup xs))
noncomputable def tLst (t : TA) : TE := fun σ H Q => t σ H fun xs H1 => xs.length ≤ sizeLine ∧ ∀ p, H1 p = none → Q (.ref p) (upd H1 p (.lst xs))
theorem pe_tup {x1} (h : PA X es t) : PE X (.Tuple es x1 pos) (tTup t) := by
  intro pins s σ H Q I hq
  refine wpAny_Tuple_spliced (thn (h pos pins s σ H _ I hq) fun us s1 ⟨xs, H1, I1, r, z, q⟩ => ⟨by rw [← r.length]; exact z, ?_⟩)
  have hf : H1 s1.heap.objs.size = none := I1.hok.fresh (Nat.le_refl _)
  refine ⟨.ref s1.heap.objs.size, upd H1 s1.heap.objs.size (.tup xs), I1.laid (t' := s1.toks) (fun b u e => Heap.get?_push_of_some _ e) (Nat.le_refl _) ?_, rfl, q _ hf⟩
  exact ⟨z, us, r, ⟨_, Heap.get?_push_size _ rfl, rfl, _, rfl⟩⟩
theorem pe_lst (h : PA X es t) : PE X (.List es pos) (tLst t) := by
  intro pins s σ H Q I hq
  refine wpAny_List_spliced (thn (h pos pins s σ H _ I hq) fun us s1 ⟨xs, H1, I1, r, z, q⟩ => ⟨by rw [← r.length]; exact z, ?_⟩)
  have hf : H1 s1.heap.objs.size = none := I1.hok.fresh (Nat.le_refl _)
  refine ⟨.ref s1.heap.objs.size, upd H1 s1.heap.objs.size (.lst xs), I1.laid (t' := s1.toks) (fun b u e => Heap.get?_push_of_some _ e) (Nat.le_refl _) ?_, rfl, q _ hf⟩
  exact ⟨z, us, 0, r, Heap.get?_push_size _ rfl⟩
end
noncomputable abbrev Sp := List V → Hp → VK → XK → Prop
noncomputable abbrev CXT := List Env → Hp → Shared → XK → Value → Shared → Prop
structure Env0 (P : Program) (w : World) (K : PySem.W.Frag) (mg : Str → Option Value) (base : Heap) (A : Around) (outer : List Env) (s : Shared) (H : Hp) : Prop where
  frames : A.frames = some outer
  mod : Mod K mg base
  bs : ∀ b o, base.get? b = some o → s.heap.get? b = some o ∧ H b = none
  bsz : base.objs.size ≤ s.heap.objs.size
  funs : s.heap.FunFrames base outer
  frf : ∀ b ∈ frs outer, H b = none
  hok : HOk P w H s.heap
  bare : AllBare s.gens
noncomputable def CE (outer : List Env) (P : Program) (w : World) (H : Hp) (s : Shared) (Q : VK) (u : Value) (s' : Shared) : Prop :=
  ∃ v H', s'.os = s.os ∧ AllBare s'.gens ∧ Un (frs outer) [] H H' s.heap s'.heap ∧ HOk P w H' s'.heap ∧ RelV v u ∧ Q v H'
noncomputable def CR (CX : CXT) (outer : List Env) (P : Program) (w : World) (H : Hp) (s : Shared) (Q : VK) (E : XK) (r : Result) (s' : Shared) : Prop :=
  match r with
  | .ok (.ret u) => CE outer P w H s Q u s'
  | .ok _ => False
  | .error e => CX outer H s E e s'
structure FnOk (P : Program) (w : World) (K : PySem.W.Frag) (mg : Str → Option Value) (base : Heap) (CX : CXT) (k : Nat) (f : Addr) (fd : FuncData) (ps : List Str) (sp : Sp) : Prop where
  len : ∀ vs H Q E, sp vs H Q E → vs.length = ps.length
  run : ∀ (A : Around) (outer : List Env) (s : Shared) (H : Hp) (args : Args) (us : List Value) (vs : List V) (Q : VK) (E : XK), Room k A → Env0 P w K mg base A outer s H → BindsTo s fd args (ps.zip us) → Vals vs us → sp vs H Q E →
    codeAny (model P w) A (.call (.ref f) args) (CR CX outer P w H s Q E) s
theorem FnOk.mono {P : Program} {w : World} {K : PySem.W.Frag} {mg : Str → Option Value} {base : Heap} {CX : CXT} {j k : Nat} {f : Addr} {fd : FuncData} {ps : List Str} {sp : Sp} (F : FnOk P w K mg base CX j f fd ps sp) (h : j ≤ k) :
    FnOk P w K mg base CX k f fd ps sp := ⟨F.len, fun A outer s H args us vs Q E hr => F.run A outer s H args us vs Q E (hr.mono h)⟩
theorem Env0.in1 {P : Program} {w : World} {K : PySem.W.Frag} {mg : Str → Option Value} {base : Heap} {A : Around} {outer : List Env} {s : Shared} {H : Hp} (e : Env0 P w K mg base A outer s H) :
    Env0 P w K mg base A.in1 outer s H := ⟨e.frames, e.mod, e.bs, e.bsz, e.funs, e.frf, e.hok, e.bare⟩
section
variable {X : Cx} {pins : List (Addr × Obj)} {σ : St} {H : Hp} {s s' : Shared}
theorem Inv.env0 (I : Inv X pins σ H s) : Env0 X.prog X.w X.K X.mg X.base X.A X.stack s H :=
  ⟨I.ok.frames, I.ok.mod, I.bs, Nat.le_trans I.ok.bsz I.sz, I.stack, I.stkFree, I.hok, I.bare⟩
theorem Inv.after {Q : VK} {u : Value} (I : Inv X pins σ H s) (h : CE X.stack X.prog X.w H s Q u s') : EP X pins σ Q u s' := by
  obtain ⟨v, H', os, bare, un, hok, r, q⟩ := h
  obtain ⟨hh, g, d, t, os'⟩ := s'
  obtain rfl : os' = s.os := os
  exact ⟨v, H', I.call (h' := hh) (g' := g) (d' := d) (t' := t) (ch := []) un hok bare (fun b z => absurd z (by simp)), r, q⟩
end
noncomputable def tCall (sp : Sp) (dvs : List V) (E : XK) (t : TA) : TE := fun σ H Q => t σ H fun vs H1 => sp (vs ++ dvs) H1 Q E
noncomputable def tMeth (C : Addr) (m : Str) (sp : Sp) (dvs : List V) (E : XK) (ta : TE) (t : TA) : TE := fun σ H Q => ta σ H fun x H1 => ∃ a dx fs, x = .ref a ∧ H1 a = some (.ins C dx fs) ∧ fs.lookup m = none ∧
  t σ H1 fun vs H2 => sp (x :: (vs ++ dvs)) H2 Q E
noncomputable def tMake (C : Addr) (sp : Sp) (dvs : List V) (E : XK) (t : TA) : TE := fun σ H Q => t σ H fun vs H1 => ∀ x dx, H1 x = none → H1 dx = none → dx ≠ x →
  sp (.ref x :: (vs ++ dvs)) (upd (upd H1 dx (.own x)) x (.ins C dx [])) (fun v H2 => v = .non ∧ Q (.ref x) H2) E
noncomputable def Binds (K : PySem.W.Frag) (fd : FuncData) (ps : List Str) (ds : List Value) : Prop :=
  ∀ (s : Shared) (us : List Value), K.In s.heap → (us ++ ds).length = ps.length → BindsTo s fd ⟨us, []⟩ (ps.zip (us ++ ds))
theorem Binds.all {K : PySem.W.Frag} {fd : FuncData} {ps : List Str} (h : ∀ us : List Value, us.length = ps.length → bindArgs fd ⟨us, []⟩ = pure (ps.zip us)) : Binds K fd ps [] := fun s us _ hl => by
  rw [List.append_nil] at hl ⊢
  exact .of_eq (h us hl)
noncomputable def Passes (CX : CXT) (X : Cx) (E : XK) : Prop := ∀ (pins : List (Addr × Obj)) (σ : St) (H : Hp) (s : Shared) (e : Value) (s' : Shared), Inv X pins σ H s → CX X.stack H s E e s' → X.xe e s'
section
variable {X : Cx} {CX : CXT} {k : Nat} {f C : Addr} {fd : FuncData} {ps : List Str} {sp : Sp} {dvs : List V} {ds : List Value} {E : XK} {x m : Str} {p pos apos : Pos} {e o : Expr} {es : List Expr} {ta : TE} {t : TA}
theorem run_fn {pins : List (Addr × Obj)} {σ : St} {H : Hp} {s : Shared} {Q : VK} {us : List Value} {vs : List V} (F : FnOk X.prog X.w X.K X.mg X.base CX k f fd ps sp) (hr : Room k X.A) (hb : Binds X.K fd ps ds) (hd : Vals dvs ds) (hx : Passes CX X E)
    (I : Inv X pins σ H s) (r : Vals vs us) (h : sp (vs ++ dvs) H Q E) : wpAny (model X.prog X.w) X.A (call (.ref f) us) (EP X pins σ Q) X.xe s := by
  have r2 : Vals (vs ++ dvs) (us ++ ds) := r.append hd
  have hl : (us ++ ds).length = ps.length := by rw [← r2.length]; exact F.len _ _ _ _ h
  refine wpAny_call (codeAny_mono (F.run X.A X.stack s H ⟨us, []⟩ (us ++ ds) (vs ++ dvs) Q E hr I.env0 (hb s us I.kIn hl) r2 h) fun r s' hq => ?_)
  cases r with
  | error e => exact hx pins σ H s e s' I hq
  | ok fl =>
    cases fl with
    | ret u => exact I.after hq
    | next => exact False.elim hq
    | brk => exact False.elim hq
    | cont => exact False.elim hq
theorem pe_call (F : FnOk X.prog X.w X.K X.mg X.base CX k f fd ps sp) (hr : Room k X.A) (hg : Gl X x) (hm : X.mg x = some (.ref f)) (hk : PySem.W.keepIn X.K (.ref f) = true) (hb : Binds X.K fd ps ds) (hd : Vals dvs ds) (hx : Passes CX X E)
    (ha : PA X (e :: es) t) (hdb : (x == ("__debug__" : Str)) = false := by decide) (he : starEach (e :: es) X.env = (false, eval e X.env) :: starEach es X.env := by rfl) (hpl : (backTo pos (starEach es X.env)).any (·.1) = false := by rfl) :
    PE X (.Call (.Name x p) (e :: es) [] pos) (tCall sp dvs E t) := by
  intro pins s σ H Q I h
  refine wpAny_Call_Name_kw (ld_glob I hg hm ?_ hdb)
  refine PySem.W.callWith_K (h₀ := X.base) I.ok.mod.kin hk (thn (ha pos pins s σ H _ I h) fun us s1 ⟨vs, H1, I1, r, q⟩ => ⟨I1.kIn, ?_⟩) he hpl
  exact run_fn F hr hb hd hx I1 r q
structure Mk (K : PySem.W.Frag) (C f : Addr) : Prop where
  makes : PySem.W.makesIn K C = true
  init : PySem.W.findIn K (.ref C) "__init__" = some (some (.ref f))
  fn : PySem.W.isFn K (.ref f) = true
  kp : PySem.W.keepIn K (.ref C) = true
end
noncomputable def PK (X : Cx) (kws : List Keyword) (t : TA) : Prop :=
  ∀ (pos : Pos) (pins : List (Addr × Obj)) (s : Shared) (σ : St) (H : Hp) (Q : List V → Hp → Prop), Inv X pins σ H s → t σ H Q → wpAny (model X.prog X.w) X.A (evalAll ((backToKw pos (keywordEach kws X.env)).map (·.2))) (AP X pins σ Q) X.xe s
section
variable {X : Cx} {CX : CXT} {k : Nat} {f C : Addr} {fd : FuncData} {ps ks : List Str} {sp : Sp} {E : XK} {x m : Str} {p pos apos kpos : Pos} {e o : Expr} {es : List Expr} {kws : List Keyword} {te ta : TE} {t tk : TA} {nm : Option Str}
structure KBinds (K : PySem.W.Frag) (fd : FuncData) (ps ks : List Str) (g : List Value → List Value → List Value) (gV : List V → List V → List V) : Prop where
  to : ∀ (s : Shared) (us ws : List Value), K.In s.heap → (g us ws).length = ps.length → BindsTo s fd ⟨us, ks.zip ws⟩ (ps.zip (g us ws))
  rel : ∀ {vs : List V} {us : List Value} {zs : List V} {ws : List Value}, Vals vs us → Vals zs ws → Vals (gV vs zs) (g us ws)
noncomputable def tCallK (sp : Sp) (gV : List V → List V → List V) (E : XK) (t tk : TA) : TE := fun σ H Q => t σ H fun vs H1 => tk σ H1 fun zs H2 => sp (gV vs zs) H2 Q E
variable {g : List Value → List Value → List Value} {gV : List V → List V → List V}
end
structure FnScope (N P : List Str) (sc : Scope) : Prop where
  kind : sc.kind = .function
  co : sc.isCoroutine = false
  gen : sc.isGenerator = false
  nd : N.Nodup
  pre : N.take P.length = P
  par : ∀ x ∈ P, sc.names.lookup x = some .local ∨ sc.names.lookup x = some .cell
  nofree : ∀ y ∈ sc.names, y.2 ≠ .free
theorem bindL_out {kindOf : Str → Option NameKind} {x : Str} : ∀ {binds : List (Str × Value)} {m : Str → Option Value}, (∀ v, (x, v) ∉ binds) → bindL kindOf binds m x = m x
  | [], _, _ => rfl
  | (n, v) :: r, m, h => by
    unfold bindL
    rw [bindL_out fun w hw => h w (List.mem_cons_of_mem _ hw)]
    split
    · have : x ≠ n := by rintro rfl; exact h v List.mem_cons_self
      simp [this]
    · rfl
theorem bindC_out {kindOf : Str → Option NameKind} {x : Str} : ∀ {binds : List (Str × Value)} {m : Str → Option Value}, (∀ v, (x, v) ∉ binds) → bindC kindOf binds m x = m x
  | [], _, _ => rfl
  | (n, v) :: r, m, h => by
    unfold bindC
    rw [bindC_out fun w hw => h w (List.mem_cons_of_mem _ hw)]
    split
    · rfl
    · have : x ≠ n := by rintro rfl; exact h v List.mem_cons_self
      simp [this]
theorem bindL_get {kindOf : Str → Option NameKind} {x : Str} {v : Value} : ∀ {P : List Str} {vs : List Value} {i : Nat} {m : Str → Option Value}, P.Nodup → P[i]? = some x → vs[i]? = some v → kindOf x = some .local →
    bindL kindOf (P.zip vs) m x = some v
  | [], _, _, _, _, h, _, _ => by simp at h
  | _ :: _, [], _, _, _, _, h, _ => by simp at h
  | p :: P, w :: vs, 0, m, nd, h1, h2, hk => by
    simp at h1 h2; subst h1; subst h2
    show bindL kindOf ((p, w) :: P.zip vs) m p = _
    unfold bindL
    rw [bindL_out fun v hv => (List.nodup_cons.mp nd).1 (List.of_mem_zip hv).1, if_pos hk]
    simp
  | p :: P, w :: vs, i + 1, m, nd, h1, h2, hk => by
    show bindL kindOf ((p, w) :: P.zip vs) m x = _
    unfold bindL
    exact bindL_get (i := i) (List.nodup_cons.mp nd).2 (by simpa using h1) (by simpa using h2) hk
theorem bindC_get {kindOf : Str → Option NameKind} {x : Str} {v : Value} : ∀ {P : List Str} {vs : List Value} {i : Nat} {m : Str → Option Value}, P.Nodup → P[i]? = some x → vs[i]? = some v → kindOf x ≠ some .local →
    bindC kindOf (P.zip vs) m x = some v
  | [], _, _, _, _, h, _, _ => by simp at h
  | _ :: _, [], _, _, _, _, h, _ => by simp at h
  | p :: P, w :: vs, 0, m, nd, h1, h2, hk => by
    simp at h1 h2; subst h1; subst h2
    show bindC kindOf ((p, w) :: P.zip vs) m p = _
    unfold bindC
    rw [bindC_out fun v hv => (List.nodup_cons.mp nd).1 (List.of_mem_zip hv).1, if_neg hk]
    simp
  | p :: P, w :: vs, i + 1, m, nd, h1, h2, hk => by
    show bindC kindOf ((p, w) :: P.zip vs) m x = _
    unfold bindC
    exact bindC_get (i := i) (List.nodup_cons.mp nd).2 (by simpa using h1) (by simpa using h2) hk
noncomputable def start (N : List Str) (vs : List V) : St := vs.map some ++ List.replicate (N.length - vs.length) none
noncomputable def cxOf (CX : CXT) (P : Program) (w : World) (K : PySem.W.Frag) (mg : Str → Option Value) (base : Heap) (N : List Str) (qual : Str) (scope : Scope) (f : Addr) (cd : Value) (A : Around) (outer : List Env) (s : Shared) (H : Hp) (E : XK) : Cx where
  prog := P
  w := w
  K := K
  mg := mg
  base := base
  A := A.deeper (envOfC qual scope s.heap.objs.size f cd)
  N := N
  s₀ := s
  H₀ := H
  env := envOfC qual scope s.heap.objs.size f cd
  outer := outer
  stack := envOfC qual scope s.heap.objs.size f cd :: outer
  ex := []
  calm := true
  fn := fun _ => true
  pn := []
  xe := fun e s' => wpAny (model P w) (A.deeper (envOfC qual scope s.heap.objs.size f cd)) (leaving (envOfC qual scope s.heap.objs.size f cd) e) (fun _ s'' => CX outer H s E e s'') (fun e' s'' => CX outer H s E e' s'') s'
theorem cell_has {sc : Scope} {n : Nat} {x : Str} (h : sc.names.lookup x = some .cell) : ∃ c, (cellsFrom n sc.names []).lookup x = some c := by
  have q := PySem.W.cellsFrom_some sc.names n [] (.inl h)
  exact Option.isSome_iff_exists.mp q
theorem inv_start {CX : CXT} {P : Program} {w : World} {K : PySem.W.Frag} {mg : Str → Option Value} {base : Heap} {N ps : List Str} {qual : Str} {scope : Scope} {f : Addr} {cd : Value} {A : Around} {outer : List Env} {s s1 : Shared} {H : Hp} {E : XK} {us : List Value} {vs : List V}
    (S : FnScope N ps scope) (hd : A.handled = none) (e0 : Env0 P w K mg base A outer s H) (hl : vs.length = ps.length) (r : Vals vs us)
    (x : InCallC s s.heap.objs.size (bindL (envOfC qual scope s.heap.objs.size f cd).kindOf (ps.zip us) fun _ => none) (cellsFrom (s.heap.objs.size + 1) scope.names []) (bindC (envOfC qual scope s.heap.objs.size f cd).kindOf (ps.zip us) fun _ => none) s1) :
    Inv (cxOf CX P w K mg base N qual scope f cd A outer s H E) [] (start N vs) H s1 := by
  have hpl : ps.length ≤ N.length := by have := congrArg List.length S.pre; rw [List.length_take] at this; omega
  obtain ⟨h1, tk, rfl, hk⟩ := x.done
  have noA : ∀ b : Addr, b ∉ (cxOf CX P w K mg base N qual scope f cd A outer s H E).ex := fun b z => absurd (show b ∈ ([] : List Addr) from z) (by simp)
  refine ⟨⟨e0.mod, S.kind, rfl, rfl, Nat.le_refl _, fun y z c h1 h2 => ?_, fun y hy => ?_, fun y c _ h => ?_, fun _ => hd, Around.frames_deeper e0.frames, .inr ⟨rfl, rfl⟩, fun b z => absurd z (noA b), e0.bs, e0.bsz, fun b _ _ => noA b, fun b z => absurd z (noA b), e0.funs, e0.frf⟩,
    rfl, e0.bare, Un.kept hk, ⟨_, x.toInCall.ns, fun i y v h1 h2 h3 => ?_⟩, fun y c h => ⟨_, x.cell y c h⟩, e0.hok.fresh (Nat.le_refl _), fun y c h => ?_, fun p hp => absurd (show p ∈ ([] : List (Addr × Obj)) from hp) (by simp), e0.hok.kept hk, ?_⟩
  · exact name_of_addr x.apart (PySem.mem_of_lookup h1) (PySem.mem_of_lookup h2)
  · have hy : scope.names.lookup y = some .cell ∨ scope.names.lookup y = some .free := hy
    rcases hy with hy | hy
    · exact cell_has hy
    · exact absurd rfl (S.nofree _ (PySem.mem_of_lookup hy))
  · exact Nat.le_of_lt (x.above y c (PySem.mem_of_lookup h))
  · have hi : i < vs.length := by
      unfold start at h2
      by_cases hi : i < vs.length
      · exact hi
      · rw [List.getElem?_append_right (by simpa using hi)] at h2
        rw [List.getElem?_replicate] at h2
        split at h2 <;> cases h2
    have ha : vs[i]? = some v := by
      unfold start at h2
      rw [List.getElem?_append_left (by simpa using hi), List.getElem?_map] at h2
      cases e : vs[i]? with
      | none => rw [e] at h2; cases h2
      | some a => rw [e] at h2; cases h2; rfl
    obtain ⟨u, hu, rv⟩ := r.get ha
    have hp : ps[i]? = some y := by
      rw [← S.pre, List.getElem?_take_of_lt (by omega)]; exact h1
    have ndP : ps.Nodup := by rw [← S.pre]; exact S.nd.sublist (List.take_sublist _ _)
    refine ⟨u, rv, ?_⟩
    rcases S.par y (List.mem_of_getElem? hp) with k | k
    · exact .inl ⟨k, bindL_get ndP hp hu k⟩
    · obtain ⟨c, e⟩ := cell_has (n := s.heap.objs.size + 1) k
      refine .inr ⟨.inl k, c, e, ?_⟩
      have q := x.cell y c e
      rw [bindC_get ndP hp hu (by show scope.names.lookup y ≠ _; rw [k]; decide)] at q
      exact q
  · exact e0.hok.fresh (Nat.le_of_lt (x.above y c (PySem.mem_of_lookup h)))
  · unfold start
    show _ = N.length
    rw [List.length_append, List.length_map, List.length_replicate]
    omega
theorem fn_of {CX : CXT} {P : Program} {w : World} {K : PySem.W.Frag} {mg : Str → Option Value} {base : Heap} {k : Nat} {f : Addr} {name qual : Str} {params : Arguments} {body : List Stmt} {scope : Scope} {dV kV doc pm cdv ct oc : Value} {an od : Option Addr}
    {osl : Array (Option Value)} {N ps : List Str} {sp : Sp} (lk : K.lookup f = some ⟨oc, od, .func (PySem.W.fnOf name qual params body scope dV kV doc pm an cdv ct), osl⟩) (hcd : PySem.W.codeIn K cdv qual = true) (S : FnScope N ps scope)
    (len : ∀ vs H Q E, sp vs H Q E → vs.length = ps.length)
    (hbody : ∀ (A : Around) (outer : List Env) (s : Shared) (H : Hp) (vs : List V) (Q : VK) (E : XK), Room k (A.deeper (envOfC qual scope s.heap.objs.size f cdv)) → sp vs H Q E →
      ∃ t, PSs (cxOf CX P w K mg base N qual scope f cdv A outer s H E) body t ∧ t { nx := fun _ H' => Q .non H', rt := Q } (start N vs) H) :
    FnOk P w K mg base CX (k + 1) f (PySem.W.fnOf name qual params body scope dV kV doc pm an cdv ct) ps sp := by
  refine ⟨len, fun A outer s H args us vs Q E hr e0 hb r hsp => ?_⟩
  have hl := len _ _ _ _ hsp
  have KX : K.In s.heap := e0.mod.kin.keeps fun b o e => (e0.bs b o e).1
  have lim : s.heap.NoLimit := e0.mod.nolimit.keeps fun b o e => (e0.bs b o e).1
  have hkind : ∀ y ∈ ps.zip us, scope.names.lookup y.1 = some .local ∨ (scope.names.lookup y.1 = some .cell ∧ ((cellsFrom (s.heap.objs.size + 1) scope.names []).lookup y.1).isSome = true) := fun ⟨n, v⟩ hy => by
    rcases S.par n (List.of_mem_zip hy).1 with q | q
    · exact .inl q
    · exact .inr ⟨q, PySem.W.cellsFrom_some _ _ _ (.inl q)⟩
  refine codeAny_call_function hr.depth (KX _ _ lk) rfl S.co S.gen rfl (PySem.W.codeRec_of KX hcd) (hb _ _ _ _ ?_)
  refine wpAny_newFunctionEnv_cells S.kind hkind fun env he s1 x => ?_
  subst he
  refine ⟨lim.keeps x.toInCall.keep, codeAny_func ?_⟩
  obtain ⟨t, ht, hq⟩ := hbody A outer s H vs Q E (hr.deeper _) hsp
  have I : Inv (cxOf CX P w K mg base N qual scope f cdv A outer s H E) [] (start N vs) H s1 := inv_start S hr.hd e0 hl r x
  refine wpAny_mono (ht [] s1 (start N vs) H _ I hq) (fun fl s' hs => ?_) fun e s' hs => hs
  have fin : ∀ {σ' : St} {H' : Hp} {v : V} {u : Value}, Inv (cxOf CX P w K mg base N qual scope f cdv A outer s H E) [] σ' H' s' → RelV v u → Q v H' → CE outer P w H s Q u s' :=
    fun {σ' H' v u} J rv q => ⟨v, H', J.os, J.bare, J.base, J.hok, rv, q⟩
  cases fl with
  | ret u =>
    obtain ⟨v, σ', H', J, rv, q⟩ := hs
    exact fin J rv q
  | next =>
    obtain ⟨σ', H', J, q⟩ := hs
    exact fin (v := V.non) (u := Value.none) J rfl q
  | brk =>
    obtain ⟨_, _, _, q⟩ := hs
    exact False.elim q
  | cont =>
    obtain ⟨_, _, _, q⟩ := hs
    exact False.elim q
end L2
namespace L2
open PySem PySem.Spec PyProof.Rows
section
variable {X : Cx} {x : Str} {p pos : Pos} {e : Expr} {es : List Expr} {t : TA} {id T : String} {r : List V → Hp → VK → Prop}
noncomputable def tCB (r : List V → Hp → VK → Prop) (t : TA) : TE := fun σ H Q => t σ H fun vs H1 => r vs H1 Q
theorem pe_callB (hc : CallR X (.builtin id) r) (hg : Gl X x) (hm : X.mg x = none) (hv : bootBuiltins x = some (.builtin id)) (ha : PA X (e :: es) t) (hn : x ≠ "__name__" := by decide) (hdb : (x == ("__debug__" : Str)) = false := by decide)
    (he : starEach (e :: es) X.env = (false, eval e X.env) :: starEach es X.env := by rfl) (hpl : (backTo pos (starEach es X.env)).any (·.1) = false := by rfl) : PE X (.Call (.Name x p) (e :: es) [] pos) (tCB r t) := by
  intro pins s σ H Q I h
  refine wpAny_Call_Name_kw (ld_blt I hg hm hv ?_ hn hdb)
  exact PyProof.Rows.callWith_builtin1 (thn (ha pos pins s σ H _ I h) fun us s1 ⟨vs, H1, I1, r1, q1⟩ => hc pins s1 σ H1 vs us Q I1 r1 q1) he hpl
theorem pe_callTy (hc : CallR X (.type T) r) (hg : Gl X x) (hm : X.mg x = none) (hv : bootBuiltins x = some (.type T)) (ha : PA X (e :: es) t) (hn : x ≠ "__name__" := by decide) (hdb : (x == ("__debug__" : Str)) = false := by decide)
    (he : starEach (e :: es) X.env = (false, eval e X.env) :: starEach es X.env := by rfl) (hpl : (backTo pos (starEach es X.env)).any (·.1) = false := by rfl) : PE X (.Call (.Name x p) (e :: es) [] pos) (tCB r t) := by
  intro pins s σ H Q I h
  refine wpAny_Call_Name_kw (ld_blt I hg hm hv ?_ hn hdb)
  exact PyProof.Rows.callWith_type1 (thn (ha pos pins s σ H _ I h) fun us s1 ⟨vs, H1, I1, r1, q1⟩ => hc pins s1 σ H1 vs us Q I1 r1 q1) he hpl
end
end L2
namespace HT
open PySem PyProof.Rows
noncomputable def lexLt : List Int → List Int → Bool
  | [], [] => false
  | [], _ :: _ => true
  | _ :: _, [] => false
  | x :: xs, y :: ys => if x = y then lexLt xs ys else decide (x < y)
section
open PySem.SeqAt
open PySem.AutoSeq1 (wpAny_loadPart')
open PySem.MeetsSeq PySem.MeetsSeq2 PySem.MeetsSeq3
end
section
variable {prog : Program} {w : World} {A : Around} {E : Value → Shared → Prop} {s : Shared}
noncomputable def sIx (n d : Nat) : Option Int → Nat
  | none => d
  | some v => if v < 0 then (v + (n : Int)).toNat else min v.toNat n
end
end HT
namespace L2
open PySem PySem.Spec PyProof.Rows
noncomputable abbrev TO := St → Hp → (Option Int → Hp → Prop) → Prop
noncomputable def PO (X : Cx) (e : Option Expr) (t : TO) : Prop :=
  ∀ (pins : List (Addr × Obj)) (s : Shared) (σ : St) (H : Hp) (Q : Option Int → Hp → Prop), Inv X pins σ H s → t σ H Q →
    wpAny (model X.prog X.w) X.A (evalPart e X.env) (fun u s' => ∃ o H', Inv X pins σ H' s' ∧ IsPart u o ∧ Q o H') X.xe s
noncomputable def tNoPart : TO := fun _ H Q => Q none H
noncomputable def tPart (t : TE) : TO := fun σ H Q => t σ H fun x H1 => ∃ i, x = .int i ∧ Q (some i) H1
section
variable {X : Cx} {e : Expr} {te : TE} {lo hi : Option Expr} {tl th : TO} {pos p2 : Pos}
theorem po_none : PO X none tNoPart := by
  intro pins s σ H Q I h
  rw [evalPart_none]
  exact wpAny_pure ⟨none, H, I, .none, h⟩
theorem po_some (h : PE X e te) : PO X (some e) (tPart te) := by
  intro pins s σ H Q I hw
  rw [evalPart_some]
  refine thn (h pins s σ H _ I hw) fun u s1 ⟨x, H1, I1, r1, q1⟩ => ?_
  obtain ⟨i, rfl, q⟩ := q1
  obtain ⟨t, rfl⟩ := r1
  exact ⟨some i, H1, I1, .int i t, q⟩
noncomputable def SlR (X : Cx) (r : V → Option Int → Option Int → Hp → VK → Prop) : Prop :=
  ∀ (pins : List (Addr × Obj)) (s : Shared) (σ : St) (H : Hp) (x : V) (v vl vu : Value) (lo hi : Option Int) (sl : Addr) (Q : VK), Inv X pins σ H s → RelV x v → s.heap.IsSliceOf sl vl vu .none → IsPart vl lo → IsPart vu hi → r x lo hi H Q →
    ∃ T id, typeLookup (.type T) "__getitem__" = pure (some (.builtin id)) ∧ s.TypeIs v T ∧ wpAny (model X.prog X.w) X.A (getItem v (.ref sl)) (EP X pins σ Q) X.xe s
theorem SlR.or {r r' : V → Option Int → Option Int → Hp → VK → Prop} (h : SlR X r) (h' : SlR X r') : SlR X (fun x lo hi H Q => r x lo hi H Q ∨ r' x lo hi H Q) := by
  intro pins s σ H x v vl vu lo hi sl Q I rx hs pl pu q
  rcases q with q | q
  · exact h pins s σ H x v vl vu lo hi sl Q I rx hs pl pu q
  · exact h' pins s σ H x v vl vu lo hi sl Q I rx hs pl pu q
noncomputable def tSl (r : V → Option Int → Option Int → Hp → VK → Prop) (te : TE) (tl th : TO) : TE := fun σ H Q => te σ H fun x H1 => tl σ H1 fun l H2 => th σ H2 fun u H3 => r x l u H3 Q
theorem pe_slice {r : V → Option Int → Option Int → Hp → VK → Prop} (hr : SlR X r) (he : PE X e te) (hl : PO X lo tl) (hu : PO X hi th) : PE X (.Subscript e (.Slice lo hi none p2) pos) (tSl r te tl th) := by
  intro pins s σ H Q I h
  refine Subscript_ (thn (he pins s σ H _ I h) fun v s1 ⟨x, H1, I1, r1, q1⟩ => ?_)
  refine wpAny_Slice (thn (hl pins s1 σ H1 _ I1 q1) fun vl s2 ⟨l, H2, I2, pl, q2⟩ => thn (hu pins s2 σ H2 _ I2 q2) fun vu s3 ⟨u, H3, I3, pu, q3⟩ => ?_)
  rw [evalPart_none]
  refine wpAny_pure ?_
  have I4 : Inv X pins σ H3 { s3 with heap := s3.heap.push { cls := .type "slice", data := .fields #[vl, vu, .none] } } := I3.kept (t' := s3.toks) fun b ob q => Heap.get?_push_of_some _ q
  obtain ⟨T, id, hT, ht, hg⟩ := hr pins { s3 with heap := s3.heap.push { cls := .type "slice", data := .fields #[vl, vu, .none] } } σ H3 x v vl vu l u s3.heap.objs.size Q I4 r1 (Heap.IsSliceOf.new ..) pl pu q3
  show wpAny (model X.prog X.w) X.A (subscriptTail e (.Slice lo hi none p2) v (.ref s3.heap.objs.size)) (EP X pins σ Q) X.xe { s3 with heap := s3.heap.push { cls := .type "slice", data := .fields #[vl, vu, .none] } }
  exact tail_any (ops := [.ref s3.heap.objs.size, v]) ht hT hg (by with_unfolding_all rfl)
noncomputable def cutV (xs : List V) (lo hi : Option Int) : List V := (xs.drop (HT.sIx xs.length 0 lo)).take (HT.sIx xs.length xs.length hi - HT.sIx xs.length 0 lo)
theorem cutV_length (xs : List V) (lo hi : Option Int) : (cutV xs lo hi).length ≤ xs.length := by
  unfold cutV
  rw [List.length_take, List.length_drop]
  omega
noncomputable def rSlT (K : PySem.W.Frag) : V → Option Int → Option Int → Hp → VK → Prop := fun x lo hi H Q => ∃ a xs, x = .ref a ∧ SqT K H a xs ∧
  ¬ (HT.sIx xs.length 0 lo = 0 ∧ HT.sIx xs.length xs.length hi = xs.length) ∧ ∀ p, H p = none → Q (.ref p) (upd H p (.tup (cutV xs lo hi)))
noncomputable def rLtT (K : PySem.W.Frag) : R2 := fun x y H Q => ∃ a b ns ms, x = .ref a ∧ y = .ref b ∧ SqT K H a (ns.map V.int) ∧ SqT K H b (ms.map V.int) ∧ Q (.bl (HT.lexLt ns ms)) H
noncomputable def rCatT (K : PySem.W.Frag) : R2 := fun x y H Q => ∃ a b xs ys, x = .ref a ∧ y = .ref b ∧ SqT K H a xs ∧ SqT K H b ys ∧ xs ≠ [] ∧ xs.length + ys.length ≤ sizeLine ∧
  (ys = [] → Q (.ref a) H) ∧ (ys ≠ [] → ∀ p, H p = none → Q (.ref p) (upd H p (.tup (xs ++ ys))))
end
end L2
namespace L2
open PySem PySem.Spec PyProof.Rows
noncomputable def ixN (n : Nat) (i : Int) : Option Nat := if 0 ≤ i then (if i < n then some i.toNat else none) else if -(n : Int) ≤ i then some (i + n).toNat else none
noncomputable def atI {α : Type} (xs : List α) (i : Int) : Option α := (ixN xs.length i).bind fun j => xs[j]?
theorem ixN_seq {n : Nat} {i : Int} {j : Nat} (h : ixN n i = some j) : seqIndex? i n = some j ∧ j < n ∧ -(n : Int) ≤ i ∧ i < n := by
  unfold ixN at h
  by_cases h0 : 0 ≤ i
  · rw [if_pos h0] at h
    by_cases h1 : i < n
    · rw [if_pos h1] at h
      have e : i.toNat = j := Option.some.inj h
      exact ⟨by rw [seqIndex_of h0 h1, e], by omega, by omega, h1⟩
    · rw [if_neg h1] at h; cases h
  · rw [if_neg h0] at h
    by_cases h1 : -(n : Int) ≤ i
    · rw [if_pos h1] at h
      have e : (i + n).toNat = j := Option.some.inj h
      exact ⟨by rw [seqIndex_neg (by omega) h1, e], by omega, h1, by omega⟩
    · rw [if_neg h1] at h; cases h
theorem atI_get {α : Type} {xs : List α} {i : Int} {v : α} (h : atI xs i = some v) : ∃ j, seqIndex? i xs.length = some j ∧ xs[j]? = some v ∧ j < xs.length ∧ -(xs.length : Int) ≤ i ∧ i < xs.length := by
  unfold atI at h
  cases e : ixN xs.length i with
  | none => rw [e] at h; cases h
  | some j =>
    rw [e] at h
    obtain ⟨h1, h2, h3, h4⟩ := ixN_seq e
    exact ⟨j, h1, h, h2, h3, h4⟩
theorem atI_nat {α : Type} {xs : List α} {j : Nat} {v : α} (h : xs[j]? = some v) : atI xs (j : Int) = some v := by
  have hj : j < xs.length := (List.getElem?_eq_some_iff.mp h).1
  have e : ixN xs.length (j : Int) = some j := by
    unfold ixN
    rw [if_pos (by omega), if_pos (by omega)]; simp
  unfold atI; rw [e]; exact h
noncomputable def PlainIx (b : Expr) : Prop := ∀ o i, subscripted b false o i = operate [o, i] (getItem o i)
noncomputable def IxR (X : Cx) (r : R2) : Prop :=
  ∀ (value slice : Expr) (pins : List (Addr × Obj)) (s : Shared) (σ : St) (H : Hp) (x y : V) (v u : Value) (Q : VK), Inv X pins σ H s → RelV x v → RelV y u → r x y H Q →
    subscripted slice false v u = operate [v, u] (getItem v u) → wpAny (model X.prog X.w) X.A (subscriptTail value slice v u) (EP X pins σ Q) X.xe s
noncomputable def MtR (X : Cx) (id : String) (r : V → List V → Hp → VK → Prop) : Prop :=
  ∀ (pins : List (Addr × Obj)) (s : Shared) (σ : St) (H : Hp) (x : V) (xs : List V) (v : Value) (us : List Value) (Q : VK), Inv X pins σ H s → RelV x v → Vals xs us → r x xs H Q →
    wpAny (model X.prog X.w) X.A (call (.builtin id) (v :: us)) (EP X pins σ Q) X.xe s
section
variable {X : Cx} {a b : Expr} {ta tb : TE} {pos : Pos}
theorem IxR.or {r r' : R2} (h : IxR X r) (h' : IxR X r') : IxR X (fun x y H Q => r x y H Q ∨ r' x y H Q) := by
  intro value slice pins s σ H x y v u Q I rx ry q hs
  rcases q with q | q
  · exact h value slice pins s σ H x y v u Q I rx ry q hs
  · exact h' value slice pins s σ H x y v u Q I rx ry q hs
theorem MtR.or {id : String} {r r' : V → List V → Hp → VK → Prop} (h : MtR X id r) (h' : MtR X id r') : MtR X id (fun x xs H Q => r x xs H Q ∨ r' x xs H Q) := by
  intro pins s σ H x xs v us Q I rx rs q
  rcases q with q | q
  · exact h pins s σ H x xs v us Q I rx rs q
  · exact h' pins s σ H x xs v us Q I rx rs q
theorem pe_ix {r : R2} (hr : IxR X r) (ha : PE X a ta) (hb : PE X b tb) (hs : PlainIx b) : PE X (.Subscript a b pos) (tOp r ta tb) := by
  intro pins s σ H Q I h
  exact Subscript_ (binT ha hb I h fun v u s2 x y H2 I2 rx ry q => hr a b pins s2 σ H2 x y v u Q I2 rx ry q (hs _ _))
noncomputable def rIxL (K : PySem.W.Frag) : R2 := fun x y H Q => ∃ p xs i v, x = .ref p ∧ y = .int i ∧ SqL K H p xs ∧ atI xs i = some v ∧ Q v H
noncomputable def rIxT (K : PySem.W.Frag) : R2 := fun x y H Q => ∃ p xs i v, x = .ref p ∧ y = .int i ∧ SqT K H p xs ∧ atI xs i = some v ∧ Q v H
noncomputable def rIxS : R2 := fun x y H Q => ∃ z i c, x = .str z ∧ y = .int i ∧ z.length ≤ sizeLine ∧ atI z.cps.toList i = some c ∧ Q (.str ⟨#[c]⟩) H
theorem ix_list : IxR X (rIxL X.K) := by
  intro value slice pins s σ H x y v u Q I rx ry h hs
  obtain ⟨p, xs, i, z, rfl, rfl, hq, he, q⟩ := h
  cases rx
  obtain ⟨t, rfl⟩ := ry
  obtain ⟨its, r, pl, hz⟩ := I.list hq
  obtain ⟨j, h1, h2, h3, h4, h5⟩ := atI_get he
  obtain ⟨w, ew, rw'⟩ := r.get h2
  have hl := r.length
  have hn := line63
  have fin : EP X pins σ Q w s := ⟨z, H, I, rw', q⟩
  by_cases h0 : 0 ≤ i
  · have hj : i.toNat = j := by
      rw [seqIndex_of h0 h5] at h1
      exact Option.some.inj h1
    exact item_listR pl.isList h0 (by omega) (by rw [hj]; simpa using ew) fin hs
  · have hj : (i + (its.toArray.size : Int)).toNat = j := by
      rw [seqIndex_neg (by omega) h4] at h1
      rw [List.size_toArray, ← hl]
      exact Option.some.inj h1
    exact subscriptTail_builtinR (x := w) pl.isList.typeIs slot_list_getitem.lookup
      (wpAny_getItem_list_neg (Q := fun r s' => r = w ∧ EP X pins σ Q r s') pl.isList (by omega) (by rw [List.size_toArray] <;> omega) (by omega) (by rw [hj]; simpa using ew) ⟨rfl, fin⟩) hs
noncomputable def rIx (K : PySem.W.Frag) : R2 := fun x y H Q => rIxL K x y H Q ∨ rIxT K x y H Q ∨ rIxS x y H Q
theorem mapSeq_set (its : List Value) (n j : Nat) (u : Value) : Obj.mapSeq (·.setIfInBounds j u) { cls := .type "list", data := .seq its.toArray n } = { cls := .type "list", data := .seq (its.set j u).toArray n } := by
  simp [Obj.mapSeq]
theorem Inv.lst {pins : List (Addr × Obj)} {σ : St} {H : Hp} {s : Shared} {p : Addr} {xs : List V} (I : Inv X pins σ H s) (h : H p = some (.lst xs)) :
    ∃ (its : List Value) (n : Nat), Vals xs its ∧ s.heap.get? p = some { cls := .type "list", data := .seq its.toArray n } ∧ xs.length ≤ sizeLine := by
  obtain ⟨z, its, n, r, e⟩ := I.hok p _ h
  exact ⟨its, n, r, e, z⟩
theorem Inv.lstUpd {pins : List (Addr × Obj)} {σ : St} {H : Hp} {s : Shared} {p : Addr} {xs ys : List V} {its its' : List Value} {n n' : Nat} {f : Obj → Obj} (I : Inv X pins σ H s) (h : H p = some (.lst xs))
    (ho : s.heap.get? p = some { cls := .type "list", data := .seq its.toArray n }) (hf : f { cls := .type "list", data := .seq its.toArray n } = { cls := .type "list", data := .seq its'.toArray n' }) (r : Vals ys its') (hz : ys.length ≤ sizeLine) (t : Nat) :
    Inv X pins σ (upd H p (.lst ys)) { s with heap := s.heap.update p f, toks := t } := by
  have e : (s.heap.update p f).get? p = some { cls := .type "list", data := .seq its'.toArray n' } := by
    rw [Heap.get?_update_self f ho (by rw [hf] <;> rfl), hf]
  refine I.write (x := p) (e := p) (by rw [h]; trivial) (.inl rfl) (fun b u hb q => (Heap.get?_update_other _ _ (Ne.symm hb)).trans q) ⟨_, e⟩ ?_
  exact ⟨hz, its', n', r, e⟩
noncomputable def rSetL : V → V → V → Hp → (Hp → Prop) → Prop := fun o i v H Q => ∃ p xs k j, o = .ref p ∧ i = .int k ∧ H p = some (.lst xs) ∧ ixN xs.length k = some j ∧ Q (upd H p (.lst (xs.set j v)))
theorem set_list : PSet X rSetL := by
  intro pins s σ H o i v ov iv u Q I ro ri rv h
  obtain ⟨p, xs, k, j, rfl, rfl, hp, hj, q⟩ := h
  cases ro
  obtain ⟨t, rfl⟩ := ri
  obtain ⟨its, n, r, ho, hz⟩ := I.lst hp
  obtain ⟨h1, h2, h3, h4⟩ := ixN_seq hj
  have hl := r.length
  have hn := line63
  have I' : Inv X pins σ (upd H p (.lst (xs.set j v))) { s with heap := s.heap.update p (Obj.mapSeq (·.setIfInBounds j u)) } :=
    I.lstUpd hp ho (mapSeq_set its n j u) (r.set rv j) (by rw [List.length_set]; exact hz) s.toks
  by_cases h0 : 0 ≤ k
  · have hk : k.toNat = j := by
      rw [seqIndex_of h0 h4] at h1
      exact Option.some.inj h1
    exact PySem.W.ki_setAt ho h0 (by omega) (by rw [List.size_toArray, ← hl]; exact h4) (by rw [hk]; exact ⟨_, I', q⟩)
  · have hk : (k + (its.toArray.size : Int)).toNat = j := by
      rw [seqIndex_neg (by omega) h3] at h1
      rw [List.size_toArray, ← hl]
      exact Option.some.inj h1
    exact PySem.W.ki_setBack ho (by omega) (by rw [List.size_toArray, ← hl]; exact h3) (by omega) (by rw [hk]; exact ⟨_, I', q⟩)
theorem slice_bounds (lo hi : Option Int) (n : Nat) : (sliceBounds lo hi none n).1 = ((HT.sIx n 0 lo : Nat) : Int) ∧ (sliceBounds lo hi none n).2.1 = ((HT.sIx n n hi : Nat) : Int) ∧ (sliceBounds lo hi none n).2.2 = 1 := by
  refine ⟨?_, ?_, rfl⟩
  · cases lo with
    | none => simp [sliceBounds, HT.sIx]
    | some i =>
      simp only [sliceBounds, HT.sIx, Option.getD_none, show (1 : Int) > 0 by decide, if_true]
      by_cases h : i < 0
      · simp only [h, if_true] <;> omega
      · simp only [h, if_false] <;> omega
  · cases hi with
    | none => simp [sliceBounds, HT.sIx]
    | some i =>
      simp only [sliceBounds, HT.sIx, Option.getD_none, show (1 : Int) > 0 by decide, if_true]
      by_cases h : i < 0
      · simp only [h, if_true] <;> omega
      · simp only [h, if_false] <;> omega
theorem slicePick_cut (its : List Value) (lo hi : Option Int) : slicePick its.toArray lo hi none = ((its.drop (HT.sIx its.length 0 lo)).take (HT.sIx its.length its.length hi - HT.sIx its.length 0 lo)).toArray := by
  obtain ⟨h1, h2, h3⟩ := slice_bounds lo hi its.toArray.size
  unfold slicePick
  rw [h1, h2, h3]
  simp only [sliceRange_one, pick_run, List.size_toArray] <;> rfl
noncomputable def rSlL (K : PySem.W.Frag) : V → Option Int → Option Int → Hp → VK → Prop := fun x lo hi H Q => ∃ a xs, x = .ref a ∧ SqL K H a xs ∧ ∀ p, H p = none → Q (.ref p) (upd H p (.lst (cutV xs lo hi)))
theorem sl_list : SlR X (rSlL X.K) := by
  intro pins s σ H x v vl vu lo hi sl Q I rx hs pl pu h
  obtain ⟨a, xs, rfl, hx, q⟩ := h
  cases rx
  obtain ⟨its, r, ht, hz⟩ := I.list hx
  have hlen := r.length
  refine ⟨"list", _, slot_list_getitem.lookup, ht.isList.typeIs, ?_⟩
  refine wpAny_getItem_list_slice ht.isList hs pl pu .none (by simp) ?_ (by rw [List.size_toArray] <;> omega)
  rw [slicePick_cut, ← hlen]
  refine ⟨.ref s.heap.objs.size, _, I.laid (t' := s.toks) (o := .lst (cutV xs lo hi)) (fun b ob q => Heap.get?_push_of_some _ q) (Nat.le_refl _) ?_, rfl, q _ (I.hok.fresh (Nat.le_refl _))⟩
  exact ⟨Nat.le_trans (cutV_length xs lo hi) hz, _, 0, (r.drop (HT.sIx xs.length 0 lo)).take (HT.sIx xs.length xs.length hi - HT.sIx xs.length 0 lo), Heap.get?_push_size _ rfl⟩
noncomputable def flatV : V → Bool
  | .non => true
  | .bl _ => true
  | .int _ => true
  | .str _ => true
  | _ => false
noncomputable def eqV : V → V → Bool
  | .non, .non => true
  | .bl a, .bl b => a == b
  | .bl a, .int b => (if a then 1 else 0) == b
  | .int a, .bl b => a == (if b then 1 else 0)
  | .int a, .int b => a == b
  | .str a, .str b => a == b
  | _, _ => false
noncomputable def eqU (x : V) (u : Value) : Bool := match u with
  | .none => eqV .non x
  | .bool b => eqV (.bl b) x
  | .int i _ => eqV (.int i) x
  | .str z _ => eqV (.str z) x
  | _ => false
noncomputable def inV (x : V) (xs : List V) : Bool := xs.any fun y => eqV y x
noncomputable def rIn (K : PySem.W.Frag) (neg : Bool) : R2 := fun x y H Q => ∃ p xs, y = .ref p ∧ (SqL K H p xs ∨ SqT K H p xs) ∧ flatV x = true ∧ xs.all flatV = true ∧ Q (.bl (if neg then !inV x xs else inV x xs)) H
theorem call_len_seq : CallR X (.builtin "len") (fun xs H Q => ∃ p ys, xs = [.ref p] ∧ (SqL X.K H p ys ∨ SqT X.K H p ys) ∧ Q (.int ys.length) H) := by
  intro pins s σ H xs us Q I r h
  obtain ⟨p, ys, rfl, hq, q⟩ := h
  obtain ⟨u, rfl, rx⟩ := vals1 r
  cases rx
  have hn := line63
  rcases hq with hq | hq
  · obtain ⟨its, r', pl, hz⟩ := I.list hq
    have hlen := r'.length
    exact Calls.call_len_list pl.isList (by simp only [List.size_toArray] <;> omega) ⟨.int ys.length, H, I.tok _, ⟨s.toks + 1, by rw [List.size_toArray, hlen]⟩, q⟩
  · obtain ⟨its, r', pl, hz⟩ := I.tuple hq
    have hlen := r'.length
    exact len_tuple pl (by simp only [List.size_toArray] <;> omega) ⟨.int ys.length, H, I.tok _, ⟨s.toks + 1, by rw [List.size_toArray, hlen]⟩, q⟩
theorem CallR.or {f : Value} {r r' : List V → Hp → VK → Prop} (h : CallR X f r) (h' : CallR X f r') : CallR X f (fun xs H Q => r xs H Q ∨ r' xs H Q) := by
  intro pins s σ H xs us Q I rs q
  rcases q with q | q
  · exact h pins s σ H xs us Q I rs q
  · exact h' pins s σ H xs us Q I rs q
theorem call_tuple_of : CallR X (.type "tuple") (fun xs H Q => ∃ p ys, xs = [.ref p] ∧ ((SqL X.K H p ys ∧ ∀ l, H l = none → Q (.ref l) (upd H l (.tup ys))) ∨ (SqT X.K H p ys ∧ Q (.ref p) H))) := by
  intro pins s σ H xs us Q I r h
  obtain ⟨p, ys, rfl, h⟩ := h
  obtain ⟨u, rfl, rx⟩ := vals1 r
  cases rx
  rcases h with ⟨hq, q⟩ | ⟨hq, q⟩
  · obtain ⟨its, r', pl, hz⟩ := I.list hq
    have hlen := r'.length
    refine call_tuple_list pl.isList (fun h' kp => ?_) (by simp only [List.size_toArray] <;> omega)
    have I1 : Inv X pins σ H { s with heap := h' } := I.kept (t' := s.toks) kp
    have I2 : Inv X pins σ (upd H h'.objs.size (.tup ys)) { s with heap := h'.push { cls := .type "tuple", data := .seq its.toArray } } :=
      I1.laid (t' := s.toks) (fun b o e => Heap.get?_push_of_some _ e) (Nat.le_refl _) (show ObjOk X.prog X.w _ _ _ (.tup ys) from ⟨hz, its, r', IsTup.new _ _⟩)
    exact ⟨.ref h'.objs.size, _, I2, rfl, q _ (I1.hok.fresh (Nat.le_refl _))⟩
  · obtain ⟨its, r', pl, hz⟩ := I.tuple hq
    exact call_tuple_same pl ⟨.ref p, H, I, rfl, q⟩
noncomputable def tyV (K : PySem.W.Frag) (T : String) (x : V) (H : Hp) : Prop := match x with
  | .str _ => T = "str"
  | .int _ => T = "int"
  | .ref p => (T = "list" ∧ ∃ xs, SqL K H p xs) ∨ (T = "tuple" ∧ ∃ o, K.lookup p = some o ∧ o.cls = .type "tuple" ∧ o.dict = none) ∨
      (T = "dict" ∧ ((∃ kvs, H p = some (.dK kvs)) ∨ ∃ kvs, H p = some (.dT kvs))) ∨ (T = "set" ∧ ∃ S n, H p = some (.set S n))
  | _ => False
theorem tyV_is {pins : List (Addr × Obj)} {σ : St} {H : Hp} {s : Shared} {T : String} {x : V} {v : Value} (I : Inv X pins σ H s) (r : RelV x v) (ty : tyV X.K T x H) :
    s.TypeIs v T ∧ ∀ a, v = .ref a → ∃ ob, s.heap.get? a = some ob ∧ ob.dict = none := by
  cases x with
  | str z =>
    obtain ⟨t, rfl⟩ := r
    cases (show T = "str" from ty)
    exact ⟨typeIs_str s z t, fun _ e => nomatch e⟩
  | int i =>
    obtain ⟨t, rfl⟩ := r
    cases (show T = "int" from ty)
    exact ⟨typeIs_int s i t, fun _ e => nomatch e⟩
  | ref p =>
    cases r
    rcases ty with ⟨rfl, xs, hq⟩ | ⟨rfl, o, hk, hc, hd⟩ | ⟨rfl, hk⟩ | ⟨rfl, S, n, hk⟩
    · obtain ⟨its, _, pl, _⟩ := I.list hq
      refine ⟨pl.isList.typeIs, fun a e => ?_⟩
      cases e
      obtain ⟨o, n, e, c, hd, _⟩ := pl
      exact ⟨o, e, hd⟩
    · refine ⟨⟨o, I.kIn p o hk, hc⟩, fun a e => ?_⟩
      cases e
      exact ⟨o, I.kIn _ o hk, hd⟩
    · have z : ∃ o, s.heap.get? p = some o ∧ o.ExactDict := by
        rcases hk with ⟨kvs, hk⟩ | ⟨kvs, hk⟩
        · obtain ⟨_, _, _, _, o, _, _, e, ex, _⟩ := I.hok p _ hk
          exact ⟨o, e, ex⟩
        · obtain ⟨_, _, _, _, o, _, _, e, ex, _⟩ := I.hok p _ hk
          exact ⟨o, e, ex⟩
      obtain ⟨o, e, ex⟩ := z
      refine ⟨⟨o, e, ex.1⟩, fun a e2 => ?_⟩
      cases e2
      exact ⟨o, e, ex.2.1⟩
    · obtain ⟨o, _, _, _, e, ex, _⟩ := I.hok p _ hk
      refine ⟨⟨o, e, ex.1⟩, fun a e2 => ?_⟩
      cases e2
      exact ⟨o, e, ex.2.1⟩
  | _ => exact False.elim ty
noncomputable def tBM0 (K : PySem.W.Frag) (T : String) (r : V → List V → Hp → VK → Prop) (to : TE) : TE := fun σ H Q => to σ H fun x H1 => tyV K T x H1 ∧ r x [] H1 Q
noncomputable def tBM (K : PySem.W.Frag) (T : String) (r : V → List V → Hp → VK → Prop) (to : TE) (t : TA) : TE := fun σ H Q => to σ H fun x H1 => tyV K T x H1 ∧ t σ H1 fun xs H2 => r x xs H2 Q
variable {o e : Expr} {es : List Expr} {to : TE} {t : TA} {name : Str} {apos cpos : Pos} {T id : String} {r : V → List V → Hp → VK → Prop}
theorem pe_bm (pa : PlainAttrs T) (slot : Slot T name id) (hty : typeOf (.builtin id) = pure (.type "method_descriptor")) (hm : MtR X id r) (ho : PE X o to) (ha : PA X (e :: es) t)
    (hbase : attributeBase o name X.env (eval o X.env) = eval o X.env := by rfl)
    (hfew : ((backTo cpos (starEach (e :: es) X.env)).all (fun x => !x.1) && (backToKw cpos (keywordEach [] X.env)).all (fun x => x.1.isSome)
      && decide ((e :: es).length + ([] : List Keyword).length + (if ([] : List Keyword).isEmpty then 0 else 1) < 30)) = true := by rfl)
    (hline : (apos.endLine == cpos.line) = true := by rfl) (hs : starEach (e :: es) X.env = (false, eval e X.env) :: starEach es X.env := by rfl) (hplain : (backTo cpos (starEach es X.env)).any (·.1) = false := by rfl) :
    PE X (.Call (.Attribute o name apos) (e :: es) [] cpos) (tBM X.K T r to t) := by
  intro pins s σ H Q I h
  refine wpAny_Call_method_late hbase hfew hline rfl (thn (ho pins s σ H _ I h) fun v s1 ⟨x, H1, I1, r1, ty, q1⟩ => ?_)
  obtain ⟨h1, h2⟩ := tyV_is I1 r1 ty
  refine ⟨T, id, pa, slot, hty, h1, h2, ?_⟩
  have hA := ha cpos pins s1 σ H1 _ I1 q1
  rw [hs] at hA ⊢
  refine Calls.callWith_builtin (by show (false || (backTo cpos (starEach es X.env)).any (·.1)) = false; rw [hplain] <;> rfl) (Calls.evalArgs_plain ?_)
  exact thn hA fun us s2 ⟨vs, H2, I2, r2, q2⟩ => hm pins s2 σ H2 x vs v us Q I2 r1 r2 q2
end
end L2
namespace L2
open PySem PySem.Spec PyProof.Rows
noncomputable def MtM (X : Cx) (id : String) (r : V → List V → Hp → VK → Prop) : Prop :=
  ∀ (pins : List (Addr × Obj)) (s : Shared) (σ : St) (H : Hp) (x : V) (xs : List V) (v : Value) (us : List Value) (Q : VK), Inv X pins σ H s → RelV x v → Vals xs us → r x xs H Q →
    wpAny (model X.prog X.w) X.A (call (.builtin id) (v :: us)) (EP X pins σ Q) X.xe s
theorem Vals.one {x : V} {us : List Value} (h : Vals [x] us) : ∃ u, us = [u] ∧ RelV x u := by
  cases h with
  | cons r t => cases t; exact ⟨_, rfl, r⟩
theorem Vals.two {x y : V} {us : List Value} (h : Vals [x, y] us) : ∃ u v, us = [u, v] ∧ RelV x u ∧ RelV y v := by
  cases h with
  | cons r t =>
    obtain ⟨v, rfl, q⟩ := Vals.one t
    exact ⟨_, _, rfl, r, q⟩
theorem Vals.zero : ∀ {us : List Value}, Vals [] us → us = []
  | _, .nil => rfl
theorem Vals.dropLast {xs : List V} {us : List Value} (h : Vals xs us) : Vals xs.dropLast us.dropLast := by
  induction h with
  | nil => exact .nil
  | cons r t ih =>
    cases t with
    | nil => exact .nil
    | cons q t' => exact .cons r ih
theorem Vals.eraseIdx : ∀ {xs : List V} {us : List Value} (i : Nat), Vals xs us → Vals (xs.eraseIdx i) (us.eraseIdx i)
  | _, _, _, .nil => .nil
  | _, _, 0, .cons _ t => t
  | _, _, i + 1, .cons r t => .cons r (Vals.eraseIdx i t)
theorem Vals.reverse {xs : List V} {us : List Value} (h : Vals xs us) : Vals xs.reverse us.reverse := by
  induction h with
  | nil => exact .nil
  | cons r t ih => rw [List.reverse_cons, List.reverse_cons]; exact Vals.append ih (.cons r .nil)
section
variable {X : Cx} {pins : List (Addr × Obj)} {σ : St} {H : Hp} {s : Shared} {l b : Addr} {xs ys zs : List V}
theorem Inv.lset {its its' : List Value} {n : Nat} {f : Array Value → Array Value} {t' : Nat} (I : Inv X pins σ H s) (hH : H l = some (.lst xs))
    (e : s.heap.get? l = some { cls := .type "list", data := .seq its.toArray n }) (hf : f its.toArray = its'.toArray) (hv : Vals ys its') (hz : ys.length ≤ sizeLine) :
    Inv X pins σ (upd H l (.lst ys)) { s with heap := s.heap.update l (Obj.mapSeq f), toks := t' } := by
  have q := PySem.IsL.update e f
  rw [hf] at q
  refine I.write (x := l) (e := l) (by rw [hH]; exact trivial) (.inl rfl) (fun b' u hb hu => (Heap.get?_update_other s.heap (Obj.mapSeq f) (Ne.symm hb)).trans hu) ⟨_, q⟩ ?_
  exact ⟨hz, its', _, hv, q⟩
theorem Inv.lnew {its : List Value} {t' : Nat} (I : Inv X pins σ H s) (hv : Vals ys its) (hz : ys.length ≤ sizeLine) :
    Inv X pins σ (upd H s.heap.objs.size (.lst ys)) { s with heap := s.heap.push { cls := .type "list", data := .seq its.toArray }, toks := t' } :=
  I.laid (fun _ _ q => Heap.get?_push_of_some _ q) (Nat.le_refl _) ⟨hz, its, 0, hv, Heap.get?_push_size _ rfl⟩
theorem Inv.fresh (I : Inv X pins σ H s) : H s.heap.objs.size = none := I.hok.fresh (Nat.le_refl _)
theorem Inv.lstM (I : Inv X pins σ H s) (hH : H l = some (.lst xs)) : xs.length ≤ sizeLine ∧ ∃ (its : List Value) (n : Nat), Vals xs its ∧ xs.length = its.length ∧ s.heap.get? l = some { cls := .type "list", data := .seq its.toArray n } := by
  obtain ⟨z, its, n, r, e⟩ := I.hok l _ hH
  exact ⟨z, its, n, r, r.length, e⟩
end
section
variable {X : Cx}
noncomputable def rAppend : V → List V → Hp → VK → Prop := fun x vs H Q => ∃ l xs y, x = .ref l ∧ vs = [y] ∧ H l = some (.lst xs) ∧ xs.length < sizeLine ∧ Q .non (upd H l (.lst (xs ++ [y])))
theorem mt_append : MtM X "list.append" rAppend := by
  intro pins s σ H x vs v us Q I rx rv h
  obtain ⟨l, xs, y, rfl, rfl, hH, hz, q⟩ := h
  cases rx
  obtain ⟨u, rfl, ru⟩ := rv.one
  obtain ⟨z, its, n, r, hl, e⟩ := I.lstM hH
  refine call_meets F.slot_list_append ⟨_, e, rfl⟩ F.entry_list_append (F.args_list_append_2 _ _) (PySem.list_append l its.toArray n u (by rw [List.size_toArray]; omega)) ⟨e, ?_⟩
  refine ⟨.non, _, I.lset (its' := its ++ [u]) hH e (by simp) (r.append (.cons ru .nil)) ?_, rfl, q⟩
  rw [List.length_append, List.length_singleton]
  omega
noncomputable def rExtend : V → List V → Hp → VK → Prop := fun x vs H Q => ∃ l b xs zs, x = .ref l ∧ vs = [.ref b] ∧ H l = some (.lst xs) ∧ H b = some (.lst zs) ∧ xs.length + zs.length ≤ sizeLine ∧ Q .non (upd H l (.lst (xs ++ zs)))
noncomputable def rPop : V → List V → Hp → VK → Prop := fun x vs H Q => ∃ l xs y, x = .ref l ∧ vs = [] ∧ H l = some (.lst xs) ∧ xs[xs.length - 1]? = some y ∧ Q y (upd H l (.lst xs.dropLast))
noncomputable def rPopAt : V → List V → Hp → VK → Prop := fun x vs H Q => ∃ l xs i k y, x = .ref l ∧ vs = [.int i] ∧ H l = some (.lst xs) ∧ -(2 ^ 63) ≤ i ∧ i < 2 ^ 63 ∧ seqIndex? i xs.length = some k ∧ xs[k]? = some y ∧ Q y (upd H l (.lst (xs.eraseIdx k)))
noncomputable def rReverse : V → List V → Hp → VK → Prop := fun x vs H Q => ∃ l xs, x = .ref l ∧ vs = [] ∧ H l = some (.lst xs) ∧ Q .non (upd H l (.lst xs.reverse))
noncomputable def rClear : V → List V → Hp → VK → Prop := fun x vs H Q => ∃ l xs, x = .ref l ∧ vs = [] ∧ H l = some (.lst xs) ∧ Q .non (upd H l (.lst []))
noncomputable def rCat : R2 := fun x y H Q => ∃ l b xs zs, x = .ref l ∧ y = .ref b ∧ H l = some (.lst xs) ∧ H b = some (.lst zs) ∧ xs.length + zs.length ≤ sizeLine ∧ ∀ p, H p = none → Q (.ref p) (upd H p (.lst (xs ++ zs)))
theorem op_cat : OpR X (binaryOp .Add) rCat := by
  intro pins s σ H x y v u Q I rx ry h
  obtain ⟨l, b, xs, zs, rfl, rfl, hH, hB, hz, q⟩ := h
  cases rx
  cases ry
  obtain ⟨z, its, n, r, hl, e⟩ := I.lstM hH
  obtain ⟨z2, its2, n2, r2, hl2, e2⟩ := I.lstM hB
  refine PySem.P.add_list e e2 ?_ (by rw [List.size_toArray, List.size_toArray]; omega)
  have ea : its.toArray ++ its2.toArray = (its ++ its2).toArray := by simp
  rw [ea]
  exact ⟨.ref _, _, I.lnew (t' := s.toks) (r.append r2) (by rw [List.length_append]; omega), rfl, q _ I.fresh⟩
noncomputable def rRep : R2 := fun x y H Q => ∃ l k xs, x = .ref l ∧ y = .int k ∧ H l = some (.lst xs) ∧ -(2 ^ 63) ≤ k ∧ k < 2 ^ 63 ∧ xs.length * k.toNat ≤ sizeLine ∧
  ∀ p, H p = none → Q (.ref p) (upd H p (.lst (List.replicate k.toNat xs).flatten))
end
section
variable {prog : Program} {w : World} {A : Around} {E : Value → Shared → Prop} {s : Shared}
set_option maxRecDepth 100000 in
end
section
variable {X : Cx}
end
end L2
namespace Att
open PySem PySem.W PySem.Calls PyProof.Rows
theorem ints_of_wellAll {P : Params} {h : Heap} : ∀ (ns : List Int) (vs : List Value), WellAll P h vs (ns.map WData.int) → IntsAre vs ns := by
  intro ns
  induction ns with
  | nil =>
    intro vs w
    rw [List.map_nil] at w
    cases w
    exact .nil
  | cons n ns ih =>
    intro vs w
    rw [List.map_cons] at w
    cases w with
    | cons a b =>
      cases a
      exact .cons _ _ (ih _ b)
theorem script_of {l : OpenLaw} {n : Nat} (hn : l.most = some n) {P : Params} {h : Heap} {args : List WData} {vals : List Value}
    (hpre : l.row.toRowW.claim.pre args = true) (hwl : WellAll P h vals args) :
    ∃ a vs ns, vals = [Value.ref a] ∧ args = [WData.list (ns.map WData.int)] ∧ h.get? a = some { cls := .type "list", data := .seq vs.toArray } ∧ IntsAre vs ns ∧ ns.length ≤ n := by
  have hsh : WShape.hasAll [] args [.list .int] = true := (pre_splitW hpre).1
  have hc : l.pre.holds [] { args := args } = true := (pre_splitW hpre).2
  obtain ⟨d, r, rfl, h1, h2⟩ := hasAllW_cons hsh
  obtain rfl := hasAllW_nil h2
  obtain ⟨xs, rfl, h3⟩ := hasW_list h1
  obtain ⟨ns, rfl⟩ := items_int h3
  have hlen : ns.length ≤ n := by
    unfold OpenLaw.pre at hc
    have h4 : (WTm.not (.lt (.lit (.int (n : Int))) (.len (.arg 0)))).holds [] { args := [.list (ns.map .int)] } = true := by
      have h4 := (holds_andW hc).1
      rw [hn] at h4
      exact h4
    have h5 := condW_of h4 (w_not (w_lt w_lit (w_len_list (w_arg rfl))))
    rw [List.length_map] at h5
    refine Nat.le_of_not_lt fun q => ?_
    have q' : (n : Int) < ((ns.length : Nat) : Int) := by omega
    first
      | (rw [decide_eq_true q'] at h5; exact absurd h5 (by decide))
      | (simp at h5; omega)
  cases hwl with
  | cons w1 w2 =>
    cases w2
    cases w1 with
    | list ho hall => exact ⟨_, _, ns, rfl, rfl, ho, ints_of_wellAll ns _ hall, hlen⟩
theorem post_true (l : OpenLaw) (args : List WData) : l.row.toRowW.claim.post args (.bool true) args = true :=
  postW_of (r := l.row.toRowW) (X := (true == true))
    (show WShape.has [] (.bool true) .bool = true by first | rfl | decide | simp [WShape.has, WShape.arms, WShape.armsAll])
    (show (WTm.eq .res (.lit (.bool true))).value [] { args := args, res := some (.bool true), after := args } = some (.bool (true == true)) from w_eq_bool (w_res rfl) w_lit) rfl
theorem attach_call {l : OpenLaw} {n : Nat} {q : Program} {loose : List Str} {XP : (Str → Option Value) → Heap → Prop} {YP : World → Heap → Prop} {d : DefRec}
    (hn : l.most = some n) (hdf : d.params.defaults = [])
    (call : ∀ (w : World) (s₀ s₁ : Shared) (mg mb : Str → Option Value) (fa : Addr) (o : Obj) (pm cd doc : Value) (a : Addr) (vs : List Value) (ns : List Int),
      Ground q loose [] XP w s₀ mg mb s₁.heap → YP w s₁.heap →
      s₁.heap.get? fa = some o → o.data = .func (docDef d.name d.params d.body d.scope pm cd doc) → s₁.heap.CodeRec cd d.name → mg d.name = some (.ref fa) →
      s₁.heap.get? a = some { cls := .type "list", data := .seq vs.toArray } → IntsAre vs ns → ns.length ≤ n → s₁.gens = #[] →
      codeAny (model l.prog w) callerA (.call (.ref fa) ⟨[.ref a], []⟩) (fun r s' => r = .ok (.ret (.bool true)) ∧ OldK s₁.heap s'.heap ∧ s'.os = s₁.os ∧ AllBare s'.gens) s₁) :
    WalkO q loose XP YP l.row.toRowW d [] (fun f vs => PySem.call f vs) := by
  intro w s₀ s₁ mg mb G Y fa o pm cd doc dV kV ho hd hcd hD hmg hg args vals as hpre hlay hrd hwl hlo
  obtain rfl : dV = .none := Dflts.none hD hdf
  obtain rfl : kV = .none := Dflts.noKw hD
  obtain ⟨a, vs, ns, rfl, rfl, hobj, hints, hlen⟩ := script_of hn hpre hwl
  refine enter_call (codeAny_mono (call w s₀ s₁ mg mb fa o pm cd doc a vs ns G Y ho (fd_plain hd) hcd hmg hobj hints hlen hg) fun r s' hq => ?_)
  obtain ⟨rfl, h2, h3, h4⟩ := hq
  exact ⟨.inl ⟨.bool true, .bool true, [], rfl, fun _ => rfl, .bool true, post_true l _, fun _ => ⟨List.Pairwise.nil, fun _ hm => (nomatch hm)⟩⟩, h2, h3, h4⟩
section
variable {prog : Program} {w : World} {A : Around} {E : Value → Shared → Prop} {s : Shared} {K : Frag}
noncomputable def noObjs (h : Heap) : Heap := { h with objs := #[] }
noncomputable def ledger (h : Heap) (L d : Addr) : List (Addr × Obj) := (List.range h.objs.size).filterMap fun a => if a = L ∨ a = d then none else (h.get? a).map fun o => (a, o)
end
end Att
namespace L2
open PySem PySem.Spec PyProof.Rows
theorem vals_ints : ∀ {vs : List Value} {ns : List Int}, IntsAre vs ns → Vals (ns.map V.int) vs
  | _, _, .nil => .nil
  | _, _, .cons n t h => .cons ⟨t, rfl⟩ (vals_ints h)
noncomputable def Only (H : Hp) : Prop := ∀ b, H b = none ∨ ∃ o xs, H b = some (.frz o (.lst xs))
theorem law_call {P : Program} {w : World} {K : PySem.W.Frag} {mg mb : Str → Option Value} {CX : CXT} {k : Nat} {fa a : Addr} {fd : FuncData} {x : Str} {sp : Sp} {s₁ : Shared} {vs : List Value} {ns : List Int}
    (KX : K.In s₁.heap) (hns : s₁.heap.Ns mainGlobals mg) (hb : s₁.heap.Ns builtinsNs mb) (hbb : ∀ x : Str, x ≠ "__name__" → mb x = bootBuiltins x) (hlim : s₁.heap.NoLimit) (hg : s₁.gens = #[])
    (ha : s₁.heap.get? a = some { cls := .type "list", data := .seq vs.toArray }) (hi : IntsAre vs ns) (hl : ns.length ≤ sizeLine) (hr : Room k callerA)
    (F : ∀ base : Heap, K.In base → base.Ns mainGlobals mg → FnOk P w K mg base CX k fa fd [x] sp) (hbind : ∀ (s : Shared) (u : Value), BindsTo s fd ⟨[u], []⟩ [(x, u)])
    (hsp : ∀ H : Hp, Only H → SqL K H a (ns.map V.int) → sp [.ref a] H (fun v _ => v = .bl true) fun _ _ _ => False)
    (hCX : ∀ H e s', CX [] H s₁ (fun _ _ _ => False) e s' → False) :
    codeAny (model P w) callerA (.call (.ref fa) ⟨[.ref a], []⟩) (fun r s' => r = .ok (.ret (.bool true)) ∧ OldK s₁.heap s'.heap ∧ s'.os = s₁.os ∧ AllBare s'.gens) s₁ := by
  have rv := vals_ints hi
  have lenV := hi.length
  have core : ∀ H : Hp, Only H → SqL K H a (ns.map V.int) → HOk P w H s₁.heap → (∀ b, H b ≠ none → b = a) → (H a ≠ none → K.lookup a = none) →
      codeAny (model P w) callerA (.call (.ref fa) ⟨[.ref a], []⟩) (fun r s' => r = .ok (.ret (.bool true)) ∧ OldK s₁.heap s'.heap ∧ s'.os = s₁.os ∧ AllBare s'.gens) s₁ := by
    intro H hO hS hok hA hK
    have base_of : ∀ {b : Addr} {o : Obj}, s₁.heap.get? b = some o → H b = none → (hidT s₁.heap H).get? b = some o := fun e n => hidT_get e n
    have noA : ∀ {b : Addr} {o : Obj} {es : Array DictEntry} {ep : Nat}, s₁.heap.get? b = some o → o.data = .dict es ep → H b = none := fun {b o es ep} e d => by
      cases q : H b with
      | none => rfl
      | some u =>
        have e' : b = a := hA b (by rw [q]; simp)
        subst e'
        rw [ha] at e; cases e
        have d' : Data.seq vs.toArray _ = Data.dict es ep := d
        cases d'
    have nsK : ∀ {b : Addr} {m : Str → Option Value}, s₁.heap.Ns b m → (hidT s₁.heap H).Ns b m := fun {b m} ⟨o, es, ep, e, d, r⟩ => ⟨o, es, ep, base_of e (noA e d), d, r⟩
    have hKb : K.In (hidT s₁.heap H) := fun b o e => base_of (KX b o e) (by
      cases q : H b with
      | none => rfl
      | some u =>
        have e' : b = a := hA b (by rw [q]; simp)
        subst e'
        rw [hK (by rw [q]; simp)] at e; cases e)
    have hM : Mod K mg (hidT s₁.heap H) := ⟨hKb, nsK hns, ⟨mb, nsK hb, hbb⟩, let ⟨mc, h1, h2⟩ := hlim; ⟨mc, nsK h1, h2⟩⟩
    have e0 : Env0 P w K mg (hidT s₁.heap H) callerA [] s₁ H := ⟨rfl, hM, fun b o e => of_hidT e, Nat.le_of_eq (hidT_size _ _), trivial, fun b hb => absurd (show b ∈ ([] : List Addr) from hb) (by simp), hok, .of_eq hg⟩
    refine codeAny_mono ((F _ hKb (nsK hns)).run callerA [] s₁ H ⟨[.ref a], []⟩ [.ref a] [.ref a] _ _ hr e0 (hbind s₁ (.ref a)) (.cons rfl .nil) (hsp H hO hS)) fun r s' h => ?_
    cases r with
    | error e => exact (hCX H e s' h).elim
    | ok fl =>
      cases fl with
      | next => exact False.elim h
      | brk => exact False.elim h
      | cont => exact False.elim h
      | ret u =>
        obtain ⟨v, H', os, bare, un, hok', r', q⟩ := h
        have q' : v = .bl true := q
        subst q'
        obtain rfl : u = Value.bool true := r'
        refine ⟨rfl, OldK.of_keep fun b o e => ?_, os, bare⟩
        cases q : H b with
        | none => exact un.keep b o e q (by intro z; exact absurd (show b ∈ ([] : List Addr) from z) (by simp)) (by simp)
        | some u =>
          rcases hO b with z | ⟨ob, xs, z⟩
          · rw [q] at z; cases z
          · have z2 := un.frzs b ob _ z
            obtain ⟨e1, _⟩ := hok b _ z
            obtain ⟨e2, _⟩ := hok' b _ z2
            rw [e] at e1; cases e1
            exact e2
  cases hk : K.lookup a with
  | some o =>
    have e := KX a o hk
    rw [ha] at e
    cases e
    refine core (fun _ => none) (fun _ => .inl rfl) (.inr ⟨_, vs.toArray, _, hk, rfl, rfl, rfl, by rw [List.size_toArray, lenV]; exact hl, by simpa using rv⟩) (fun b u z => by have z' : (none : Option HO) = some u := z; cases z') (fun b z => absurd rfl z) fun z => absurd rfl z
  | none =>
    refine core (fun b => if b = a then some (.frz { cls := .type "list", data := .seq vs.toArray } (.lst (ns.map V.int))) else none) (fun b => ?_) (.inl (.inr ⟨{ cls := .type "list", data := .seq vs.toArray }, if_pos rfl⟩)) (fun b u z => ?_) (fun b z => ?_) fun _ => hk
    · by_cases hb : b = a
      · exact .inr ⟨_, _, if_pos hb⟩
      · exact .inl (if_neg hb)
    · by_cases hb : b = a
      · have z' := (if_pos hb).symm.trans z
        cases z'
        subst hb
        exact ⟨ha, by rw [List.length_map]; exact hl, vs, _, rv, ha⟩
      · have z' := (if_neg hb).symm.trans z
        cases z'
    · by_cases hb : b = a
      · exact hb
      · exact absurd (if_neg hb) z
end L2
namespace L2
open PySem PySem.Spec PyProof.Rows
noncomputable abbrev KOf {K : PySem.W.Frag} {h : Heap} (_ : K.In h) : PySem.W.Frag := K
theorem walk_of {l : PySem.W.OpenLaw} {n k : Nat} {q : Program} {loose : List Str} {XP : (Str → Option Value) → Heap → Prop} {YP : World → Heap → Prop} {d : DefRec} {K : Params → PySem.W.Frag} {CX : World → CXT} {sp : World → Sp} {x : Str}
    (hn : l.most = some n) (hn2 : n ≤ sizeLine) (hdf : d.params.defaults = []) (hr : Room k callerA)
    (hY : ∀ (w : World) (h : Heap), YP w h → (K w.params).In h)
    (F : ∀ (w : World) (mg : Str → Option Value) (fa : Addr) (h : Heap), (K w.params).In h → h.Ns mainGlobals mg → mg d.name = some (.ref fa) →
      ∃ fd : FuncData, (∀ (s : Shared) (u : Value), BindsTo s fd ⟨[u], []⟩ [(x, u)]) ∧
        ∀ base : Heap, (K w.params).In base → base.Ns mainGlobals mg → FnOk l.prog w (K w.params) mg base (CX w) k fa fd [x] (sp w))
    (hsp : ∀ (w : World) (H : Hp) (a : Addr) (ns : List Int), ns.length ≤ n → Only H → SqL (K w.params) H a (ns.map V.int) → sp w [.ref a] H (fun v _ => v = .bl true) fun _ _ _ => False)
    (hCX : ∀ (w : World) (H : Hp) (s : Shared) (e : Value) (s' : Shared), CX w [] H s (fun _ _ _ => False) e s' → False) :
    PySem.W.WalkO q loose XP YP l.row.toRowW d [] (fun f vs => PySem.call f vs) := by
  refine Att.attach_call hn hdf fun w s₀ s₁ mg mb fa o pm cd doc a vs ns G Y ho hd hcd hmg hobj hints hlen hg => ?_
  have KX := hY w _ Y
  obtain ⟨fd, hb, hF⟩ := F w mg fa _ KX G.T.g hmg
  exact law_call KX G.T.g G.T.b G.T.builtins G.T.nolimit hg hobj hints (Nat.le_trans hlen hn2) hr hF hb (fun H hO hS => hsp w H a ns hlen hO hS) fun H e s' => hCX w H s₁ e s'
end L2
namespace L2
open PySem PySem.Spec PyProof.Rows
noncomputable def inClass (s : Stmt) (j : Nat) : Stmt := match s with
  | .ClassDef _ _ _ body _ _ _ _ _ _ _ => body.getD j (.Pass ⟨0, 0, 0, 0⟩)
  | _ => .Pass ⟨0, 0, 0, 0⟩
noncomputable def defArgs (s : Stmt) : Arguments := match s with
  | .FunctionDef _ a _ _ _ _ _ _ _ _ => a
  | _ => { posonlyargs := [], args := [], vararg := none, kwonlyargs := [], kw_defaults := [], kwarg := none, defaults := [] }
noncomputable def defBody (s : Stmt) : List Stmt := match s with
  | .FunctionDef _ _ b _ _ _ _ _ _ _ => b
  | _ => []
noncomputable def defScope (s : Stmt) : Scope := match s with
  | .FunctionDef _ _ _ _ _ _ sc _ _ _ => sc
  | _ => { kind := .function, names := [], isGenerator := false, isCoroutine := false }
noncomputable abbrev CX0 : CXT := fun _ _ _ _ _ _ => False
noncomputable abbrev E0 : XK := fun _ _ _ => False
theorem pass0 {X : Cx} : Passes CX0 X E0 := fun _ _ _ _ _ _ _ h => h.elim
structure Fun (K : PySem.W.Frag) (x qual : Str) (st : Stmt) (f : Addr) (fd : FuncData) : Prop where
  ex : ∃ (oc : Value) (od : Option Addr) (kV doc pm : Value) (an : Option Addr) (cdv ct : Value) (osl : Array (Option Value)),
    fd = PySem.W.fnOf x qual (defArgs st) (defBody st) (defScope st) .none kV doc pm an cdv ct ∧ K.lookup f = some ⟨oc, od, .func fd, osl⟩ ∧ PySem.W.codeIn K cdv qual = true
  kp : PySem.W.keepIn K (.ref f) = true
section
variable {P : Program} {w : World} {K : PySem.W.Frag} {mg : Str → Option Value} {base : Heap}
theorem Fun.ok {x qual : Str} {st : Stmt} {f : Addr} {fd : FuncData} {N ps : List Str} {k : Nat} {sp : Sp} (F : Fun K x qual st f fd) (S : FnScope N ps (defScope st)) (len : ∀ vs H Q E, sp vs H Q E → vs.length = ps.length)
    (hbody : ∀ (cdv : Value) (A : Around) (outer : List Env) (s : Shared) (H : Hp) (vs : List V) (Q : VK) (E : XK), Room k (A.deeper (envOfC qual (defScope st) s.heap.objs.size f cdv)) → sp vs H Q E →
      ∃ t, PSs (cxOf CX0 P w K mg base N qual (defScope st) f cdv A outer s H E).nox (defBody st) t ∧ t { nx := fun _ H' => Q .non H', rt := Q } (start N vs) H) : FnOk P w K mg base CX0 (k + 1) f fd ps sp := by
  obtain ⟨oc, od, kV, doc, pm, an, cdv, ct, osl, rfl, lk, hcd⟩ := F.ex
  refine fn_of lk hcd S len fun A outer s H vs Q E hr hsp => ?_
  obtain ⟨t, h, q⟩ := hbody cdv A outer s H vs Q E hr hsp
  exact ⟨t, h.nox, q⟩
theorem Fun.binds {x qual : Str} {st : Stmt} {f : Addr} {fd : FuncData} {ps : List Str} (F : Fun K x qual st f fd)
    (h : ∀ (kV doc pm : Value) (an : Option Addr) (cdv ct : Value) (us : List Value), us.length = ps.length → bindArgs (PySem.W.fnOf x qual (defArgs st) (defBody st) (defScope st) .none kV doc pm an cdv ct) ⟨us, []⟩ = pure (ps.zip us)) : Binds K fd ps [] := by
  obtain ⟨oc, od, kV, doc, pm, an, cdv, ct, osl, rfl, lk, hcd⟩ := F.ex
  exact .all (h kV doc pm an cdv ct)
theorem fun_mk {x qual : Str} {st : Stmt} {f : Addr} {oc : Value} {od an : Option Addr} {osl : Array (Option Value)} {kV doc pm cdv ct : Value} (l : K.lookup f = some ⟨oc, od, .func (PySem.W.fnOf x qual (defArgs st) (defBody st) (defScope st) .none kV doc pm an cdv ct), osl⟩)
    (c : PySem.W.codeIn K cdv qual = true) (k : PySem.W.keepIn K (.ref f) = true) : Fun K x qual st f (PySem.W.fnOf x qual (defArgs st) (defBody st) (defScope st) .none kV doc pm an cdv ct) := ⟨⟨oc, od, kV, doc, pm, an, cdv, ct, osl, rfl, l, c⟩, k⟩
end
theorem small1000 {n : Nat} (h : n ≤ 1000) : n < sizeLine := Nat.lt_of_le_of_lt h (by decide)
section
variable {X : Cx}
theorem pv (i : Nat) {x : Str} {pos : Pos} (hN : X.N[i]? = some x := by rfl) (hv : Vis X.env.scope x := by first | exact Or.inl rfl | exact Or.inr (Or.inl rfl) | exact Or.inr (Or.inr rfl)) (hd : (x == ("__debug__" : Str)) = false := by decide)
    (hcd : (x == ("__classdict__" : Str)) = false := by decide) : PE X (.Name x pos) (tVar i) := pe_var hN hv hd hcd
end
theorem iteF {A B : Prop} (h : B) : if false = true then A else B := by
  rw [if_neg Bool.false_ne_true]
  exact h
theorem iteT {A B : Prop} (h : A) : if true = true then A else B := by
  rw [if_pos rfl]
  exact h
theorem ite2 {c A B : Prop} [Decidable c] (h1 : c → A) (h2 : ¬ c → B) : if c then A else B := by
  by_cases h : c
  · rw [if_pos h]
    exact h1 h
  · rw [if_neg h]
    exact h2 h
noncomputable def Same (H H' : Hp) : Prop := ∀ b o, H b = some o → H' b = some o
theorem Same.refl (H : Hp) : Same H H := fun _ _ h => h
theorem Same.trans {H H1 H2 : Hp} (a : Same H H1) (b : Same H1 H2) : Same H H2 := fun c o h => b c o (a c o h)
theorem Same.free {H H' : Hp} (e : Same H H') {l : Addr} (h : H' l = Option.none) : H l = Option.none := by
  cases q : H l with
  | none => rfl
  | some o =>
    rw [e l o q] at h
    cases h
theorem Same.seq {K : PySem.W.Frag} {H H' : Hp} {a : Addr} {xs : List V} (e : Same H H') (h : SqL K H a xs) : SqL K H' a xs := by
  rcases h with (h | ⟨o, h⟩) | h
  · exact .inl (.inl (e _ _ h))
  · exact .inl (.inr ⟨o, e _ _ h⟩)
  · exact .inr h
end L2
set_option Elab.async false
set_option linter.all false
set_option maxRecDepth 100000
set_option maxHeartbeats 4000000
namespace L2
open PySem PySem.Spec PyProof.Rows
theorem scal_ii (i j : Int) : scal (.int i) (.int j) = true := rfl
theorem scal_bb (i j : Bool) : scal (.bl i) (.bl j) = true := rfl
theorem scal_ss (i j : Str) : scal (.str i) (.str j) = true := rfl
theorem scal_ni (i : Int) : scal .non (.int i) = true := rfl
theorem scal_in (i : Int) : scal (.int i) .non = true := rfl
theorem log2_small {i : Int} (h : i.natAbs < 10 ^ 100) : i.natAbs.log2 < 400 := by
  by_cases h0 : i.natAbs = 0
  · rw [h0]; decide
  · exact (Nat.log2_lt h0).mpr (Nat.lt_of_lt_of_le h (by decide +kernel))
theorem bits_small {i : Int} (h : i.natAbs < 10 ^ 100) : Builtin.Int.intBits i ≤ 2 ^ 20 := by
  unfold Builtin.Int.intBits
  split
  · exact Nat.zero_le _
  · have := log2_small h
    have e : (2 : Nat) ^ 20 = 1048576 := by decide
    omega
noncomputable def CMulB (i j : Int) : Prop := CMul i j ∨ (i.natAbs < 10 ^ 100 ∧ j.natAbs < 10 ^ 100)
theorem CMulB.ok {i j : Int} (h : CMulB i j) : IntMulOk i j := by
  rcases h with h | h
  · exact h.ok
  · exact .of_bits (bits_small h.1) (bits_small h.2)
noncomputable def CDivB (i j : Int) : Prop := 0 < j ∧ j.natAbs < 10 ^ 100
section
variable {X : Cx}
theorem op_mulB : OpR X (binaryOp .Mult) (rI CMulB fun i j => .int (i * j)) := opI fun _ _ _ _ _ _ _ hc q => mul_int q hc.ok
theorem op_fdivB : OpR X (binaryOp .FloorDiv) (rI CDivB fun i j => .int (i / j)) := opI fun i j _ _ _ _ _ hc q => by
  have e : i.fdiv j = i / j := Int.fdiv_eq_ediv_of_nonneg i (Int.le_of_lt hc.1)
  refine floordiv_int (by have := hc.1; omega) ?_ (.inl (PyProof.noPylong_of_log2 (Nat.lt_trans (log2_small hc.2) (by decide))))
  rw [e]
  exact q
noncomputable def KitV (X : Cx) (pins : List (Addr × Obj)) (σ : St) (H : Hp) (s : Shared) (u t : Value) : Prop := ∃ Hh : Heap → Prop, PySem.W.KitX X.K u t Hh ∧ Hh s.heap ∧ u ≠ .builtin "__main__.__loader__#opaque"
theorem TyOf.kit {pins : List (Addr × Obj)} {σ : St} {H : Hp} {s : Shared} {x : V} {u t : Value} (ty : TyOf X.K H x t) (I : Inv X pins σ H s) (rx : RelV x u) : KitV X pins σ H s u t := by
  cases ty with
  | non => cases (show u = Value.none from rx); exact ⟨_, PySem.W.kitx_none, True.intro, fun z => nomatch z⟩
  | bl y => cases (show u = Value.bool y from rx); exact ⟨_, PySem.W.kitx_bool, True.intro, fun z => nomatch z⟩
  | int i => obtain ⟨t, q⟩ := (show ∃ t, u = Value.int i t from rx); cases q; exact ⟨_, PySem.W.kitx_int, True.intro, fun z => nomatch z⟩
  | str y => obtain ⟨t, q⟩ := (show ∃ t, u = Value.str y t from rx); cases q; exact ⟨_, PySem.W.kitx_str, True.intro, fun z => nomatch z⟩
  | flt y => obtain ⟨t, q⟩ := (show ∃ t, u = Value.float y t from rx); cases q; exact ⟨_, PySem.W.kitx_float, True.intro, fun z => nomatch z⟩
  | @lst a xs ea =>
    cases (show u = Value.ref a from rx)
    obtain ⟨_, _, n, _, h1⟩ := (show ObjOk X.prog X.w H s.heap a (.lst xs) from I.hok a _ ea)
    exact ⟨_, PySem.W.kitx_list, ⟨_, h1, rfl⟩, fun z => nomatch z⟩
  | @frz a ob xs ea =>
    cases (show u = Value.ref a from rx)
    obtain ⟨_, _, _, n, _, h1⟩ := (show ObjOk X.prog X.w H s.heap a (.frz ob (.lst xs)) from I.hok a _ ea)
    exact ⟨_, PySem.W.kitx_list, ⟨_, h1, rfl⟩, fun z => nomatch z⟩
  | @tup a xs ea =>
    cases (show u = Value.ref a from rx)
    obtain ⟨_, _, _, p⟩ := (show ObjOk X.prog X.w H s.heap a (.tup xs) from I.hok a _ ea)
    obtain ⟨o, h1, h2, _⟩ := p
    exact ⟨_, PySem.W.kitx_tuple, ⟨o, h1, h2⟩, fun z => nomatch z⟩
  | @dK a kvs ea =>
    cases (show u = Value.ref a from rx)
    obtain ⟨_, _, vs, _, p⟩ := (show ObjOk X.prog X.w H s.heap a (.dK kvs) from I.hok a _ ea)
    obtain ⟨o, es, ep, h1, h2, _⟩ := p
    exact ⟨_, PySem.W.kitx_dict, ⟨o, h1, h2.1⟩, fun z => nomatch z⟩
  | @dT a kvs ea =>
    cases (show u = Value.ref a from rx)
    obtain ⟨_, _, xs, _, o, es, ep, h1, h2, _⟩ := (show ObjOk X.prog X.w H s.heap a (.dT kvs) from I.hok a _ ea)
    exact ⟨_, PySem.W.kitx_dict, ⟨o, h1, h2.1⟩, fun z => nomatch z⟩
  | @ins a C dx fs ea cl ha hn htk hm =>
    cases (show u = Value.ref a from rx)
    obtain ⟨mA, O, _⟩ := ins_get I.hok ea
    obtain ⟨od, J, _⟩ := O.look
    exact ⟨_, PySem.W.kitx_own (cl.get _) cl.hd ha hn htk hm, J, fun z => nomatch z⟩
noncomputable def clsV : V → Option Value
  | .ty n => some (.type n)
  | .ref a => some (.ref a)
  | _ => none
theorem clsV_rel {c : V} {u u' : Value} (h : clsV c = some u) (r : RelV c u') : u' = u := by
  cases c with
  | ty n => cases h; exact r
  | ref a => cases h; exact r
  | _ => cases h
noncomputable def rIsi (K : PySem.W.Frag) : List V → Hp → VK → Prop := fun xs H Q => ∃ x t c u b, xs = [x, c] ∧ TyOf K H x t ∧ clsV c = some u ∧ PySem.W.kitOne K t u = some b ∧ Q (.bl b) H
theorem call_isinst : CallR X (.builtin "isinstance") (rIsi X.K) := by
  intro pins s σ H xs us Q I r h
  obtain ⟨x, t, c, u', b, rfl, ty, ec, e, q⟩ := h
  obtain ⟨u, w', rfl, rx, rc⟩ := vals2 r
  obtain rfl := clsV_rel ec rc
  obtain ⟨Hh, Z, p, hx⟩ := ty.kit I rx
  exact PySem.W.kia_one Z I.kIn p e hx fun tk => ⟨.bl b, H, I.tok tk, rfl, q⟩
noncomputable def rIsi2 (K : PySem.W.Frag) : List V → Hp → VK → Prop := fun xs H Q => ∃ x t p c1 c2 u1 u2 b, xs = [x, .ref p] ∧ H p = some (.tup [c1, c2]) ∧ TyOf K H x t ∧ clsV c1 = some u1 ∧ clsV c2 = some u2 ∧ PySem.W.kitAny K t [u1, u2] = some b ∧ Q (.bl b) H
theorem kit_NoneType_int (K : PySem.W.Frag) : PySem.W.kitOne K (.type "NoneType") (.type "int") = some false := by kernel_rfl
theorem kit_NoneType_bool (K : PySem.W.Frag) : PySem.W.kitOne K (.type "NoneType") (.type "bool") = some false := by kernel_rfl
theorem kit_NoneType_tuple (K : PySem.W.Frag) : PySem.W.kitOne K (.type "NoneType") (.type "tuple") = some false := by kernel_rfl
theorem kit_NoneType_list (K : PySem.W.Frag) : PySem.W.kitOne K (.type "NoneType") (.type "list") = some false := by kernel_rfl
theorem kit_NoneType_str (K : PySem.W.Frag) : PySem.W.kitOne K (.type "NoneType") (.type "str") = some false := by kernel_rfl
theorem kit_NoneType_dict (K : PySem.W.Frag) : PySem.W.kitOne K (.type "NoneType") (.type "dict") = some false := by kernel_rfl
theorem kit_bool_int (K : PySem.W.Frag) : PySem.W.kitOne K (.type "bool") (.type "int") = some true := by kernel_rfl
theorem kit_bool_bool (K : PySem.W.Frag) : PySem.W.kitOne K (.type "bool") (.type "bool") = some true := by kernel_rfl
theorem kit_bool_tuple (K : PySem.W.Frag) : PySem.W.kitOne K (.type "bool") (.type "tuple") = some false := by kernel_rfl
theorem kit_bool_list (K : PySem.W.Frag) : PySem.W.kitOne K (.type "bool") (.type "list") = some false := by kernel_rfl
theorem kit_bool_str (K : PySem.W.Frag) : PySem.W.kitOne K (.type "bool") (.type "str") = some false := by kernel_rfl
theorem kit_bool_dict (K : PySem.W.Frag) : PySem.W.kitOne K (.type "bool") (.type "dict") = some false := by kernel_rfl
theorem kit_int_int (K : PySem.W.Frag) : PySem.W.kitOne K (.type "int") (.type "int") = some true := by kernel_rfl
theorem kit_int_bool (K : PySem.W.Frag) : PySem.W.kitOne K (.type "int") (.type "bool") = some false := by kernel_rfl
theorem kit_int_tuple (K : PySem.W.Frag) : PySem.W.kitOne K (.type "int") (.type "tuple") = some false := by kernel_rfl
theorem kit_int_list (K : PySem.W.Frag) : PySem.W.kitOne K (.type "int") (.type "list") = some false := by kernel_rfl
theorem kit_int_str (K : PySem.W.Frag) : PySem.W.kitOne K (.type "int") (.type "str") = some false := by kernel_rfl
theorem kit_int_dict (K : PySem.W.Frag) : PySem.W.kitOne K (.type "int") (.type "dict") = some false := by kernel_rfl
theorem kit_str_int (K : PySem.W.Frag) : PySem.W.kitOne K (.type "str") (.type "int") = some false := by kernel_rfl
theorem kit_str_bool (K : PySem.W.Frag) : PySem.W.kitOne K (.type "str") (.type "bool") = some false := by kernel_rfl
theorem kit_str_tuple (K : PySem.W.Frag) : PySem.W.kitOne K (.type "str") (.type "tuple") = some false := by kernel_rfl
theorem kit_str_list (K : PySem.W.Frag) : PySem.W.kitOne K (.type "str") (.type "list") = some false := by kernel_rfl
theorem kit_str_str (K : PySem.W.Frag) : PySem.W.kitOne K (.type "str") (.type "str") = some true := by kernel_rfl
theorem kit_str_dict (K : PySem.W.Frag) : PySem.W.kitOne K (.type "str") (.type "dict") = some false := by kernel_rfl
theorem kit_float_int (K : PySem.W.Frag) : PySem.W.kitOne K (.type "float") (.type "int") = some false := by kernel_rfl
theorem kit_float_bool (K : PySem.W.Frag) : PySem.W.kitOne K (.type "float") (.type "bool") = some false := by kernel_rfl
theorem kit_float_tuple (K : PySem.W.Frag) : PySem.W.kitOne K (.type "float") (.type "tuple") = some false := by kernel_rfl
theorem kit_float_list (K : PySem.W.Frag) : PySem.W.kitOne K (.type "float") (.type "list") = some false := by kernel_rfl
theorem kit_float_str (K : PySem.W.Frag) : PySem.W.kitOne K (.type "float") (.type "str") = some false := by kernel_rfl
theorem kit_float_dict (K : PySem.W.Frag) : PySem.W.kitOne K (.type "float") (.type "dict") = some false := by kernel_rfl
theorem kit_list_int (K : PySem.W.Frag) : PySem.W.kitOne K (.type "list") (.type "int") = some false := by kernel_rfl
theorem kit_list_bool (K : PySem.W.Frag) : PySem.W.kitOne K (.type "list") (.type "bool") = some false := by kernel_rfl
theorem kit_list_tuple (K : PySem.W.Frag) : PySem.W.kitOne K (.type "list") (.type "tuple") = some false := by kernel_rfl
theorem kit_list_list (K : PySem.W.Frag) : PySem.W.kitOne K (.type "list") (.type "list") = some true := by kernel_rfl
theorem kit_list_str (K : PySem.W.Frag) : PySem.W.kitOne K (.type "list") (.type "str") = some false := by kernel_rfl
theorem kit_list_dict (K : PySem.W.Frag) : PySem.W.kitOne K (.type "list") (.type "dict") = some false := by kernel_rfl
theorem kit_tuple_int (K : PySem.W.Frag) : PySem.W.kitOne K (.type "tuple") (.type "int") = some false := by kernel_rfl
theorem kit_tuple_bool (K : PySem.W.Frag) : PySem.W.kitOne K (.type "tuple") (.type "bool") = some false := by kernel_rfl
theorem kit_tuple_tuple (K : PySem.W.Frag) : PySem.W.kitOne K (.type "tuple") (.type "tuple") = some true := by kernel_rfl
theorem kit_tuple_list (K : PySem.W.Frag) : PySem.W.kitOne K (.type "tuple") (.type "list") = some false := by kernel_rfl
theorem kit_tuple_str (K : PySem.W.Frag) : PySem.W.kitOne K (.type "tuple") (.type "str") = some false := by kernel_rfl
theorem kit_tuple_dict (K : PySem.W.Frag) : PySem.W.kitOne K (.type "tuple") (.type "dict") = some false := by kernel_rfl
theorem kit_dict_int (K : PySem.W.Frag) : PySem.W.kitOne K (.type "dict") (.type "int") = some false := by kernel_rfl
theorem kit_dict_bool (K : PySem.W.Frag) : PySem.W.kitOne K (.type "dict") (.type "bool") = some false := by kernel_rfl
theorem kit_dict_tuple (K : PySem.W.Frag) : PySem.W.kitOne K (.type "dict") (.type "tuple") = some false := by kernel_rfl
theorem kit_dict_list (K : PySem.W.Frag) : PySem.W.kitOne K (.type "dict") (.type "list") = some false := by kernel_rfl
theorem kit_dict_str (K : PySem.W.Frag) : PySem.W.kitOne K (.type "dict") (.type "str") = some false := by kernel_rfl
theorem kit_dict_dict (K : PySem.W.Frag) : PySem.W.kitOne K (.type "dict") (.type "dict") = some true := by kernel_rfl
noncomputable def isaB (n c : String) : Bool := n == c || (n == "bool" && c == "int")
theorem TyOf.name {K : PySem.W.Frag} {H : Hp} {x : V} {n : String} (ty : TyOf K H x (.type n)) : n = "NoneType" ∨ n = "bool" ∨ n = "int" ∨ n = "str" ∨ n = "float" ∨ n = "list" ∨ n = "tuple" ∨ n = "dict" := by
  cases ty <;> simp
theorem kit_ty {K : PySem.W.Frag} {n c : String} (hn : n = "NoneType" ∨ n = "bool" ∨ n = "int" ∨ n = "str" ∨ n = "float" ∨ n = "list" ∨ n = "tuple" ∨ n = "dict") (hc : c = "int" ∨ c = "bool" ∨ c = "tuple" ∨ c = "list" ∨ c = "str" ∨ c = "dict") :
    PySem.W.kitOne K (.type n) (.type c) = some (isaB n c) := by
  rcases hn with rfl | rfl | rfl | rfl | rfl | rfl | rfl | rfl <;> rcases hc with rfl | rfl | rfl | rfl | rfl | rfl
  · exact kit_NoneType_int K
  · exact kit_NoneType_bool K
  · exact kit_NoneType_tuple K
  · exact kit_NoneType_list K
  · exact kit_NoneType_str K
  · exact kit_NoneType_dict K
  · exact kit_bool_int K
  · exact kit_bool_bool K
  · exact kit_bool_tuple K
  · exact kit_bool_list K
  · exact kit_bool_str K
  · exact kit_bool_dict K
  · exact kit_int_int K
  · exact kit_int_bool K
  · exact kit_int_tuple K
  · exact kit_int_list K
  · exact kit_int_str K
  · exact kit_int_dict K
  · exact kit_str_int K
  · exact kit_str_bool K
  · exact kit_str_tuple K
  · exact kit_str_list K
  · exact kit_str_str K
  · exact kit_str_dict K
  · exact kit_float_int K
  · exact kit_float_bool K
  · exact kit_float_tuple K
  · exact kit_float_list K
  · exact kit_float_str K
  · exact kit_float_dict K
  · exact kit_list_int K
  · exact kit_list_bool K
  · exact kit_list_tuple K
  · exact kit_list_list K
  · exact kit_list_str K
  · exact kit_list_dict K
  · exact kit_tuple_int K
  · exact kit_tuple_bool K
  · exact kit_tuple_tuple K
  · exact kit_tuple_list K
  · exact kit_tuple_str K
  · exact kit_tuple_dict K
  · exact kit_dict_int K
  · exact kit_dict_bool K
  · exact kit_dict_tuple K
  · exact kit_dict_list K
  · exact kit_dict_str K
  · exact kit_dict_dict K
theorem isi {K : PySem.W.Frag} {H : Hp} {x : V} {n c : String} {Q : VK} (ty : TyOf K H x (.type n)) (q : Q (.bl (isaB n c)) H) (hc : c = "int" ∨ c = "bool" ∨ c = "tuple" ∨ c = "list" ∨ c = "str" ∨ c = "dict" := by decide) : rIsi K [x, .ty c] H Q :=
  ⟨x, _, _, _, _, rfl, ty, rfl, kit_ty ty.name hc, q⟩
end
noncomputable def tPar3 (i j l : Nat) (ta : TA) : TS := fun D σ H => ta σ H fun vs H1 => ∃ v w u, vs = [v, w, u] ∧ D.nx (((σ.set i (some v)).set j (some w)).set l (some u)) H1
theorem vals3 {x y z : V} {us : List Value} (r : Vals [x, y, z] us) : ∃ u v w, us = [u, v, w] ∧ RelV x u ∧ RelV y v ∧ RelV z w := by
  cases r with
  | cons p q =>
    cases q with
    | cons p' q' =>
      cases q' with
      | cons p2 q2 =>
        cases q2
        exact ⟨_, _, _, rfl, p, p', p2⟩
section
variable {X : Cx} {pos : Pos}
theorem ps_par3 {i j l : Nat} {x y z : Str} {a b c : Expr} {ta : TA} {px py pz pt : Pos} {kt k2 pt2} (hc : X.calm = true) (hN : X.N.Nodup) (hi : X.N[i]? = some x) (hj : X.N[j]? = some y) (hl : X.N[l]? = some z) (hij : i ≠ j) (hil : i ≠ l) (hjl : j ≠ l)
    (hx : X.env.scope.names.lookup x = some .local) (hy : X.env.scope.names.lookup y = some .local) (hz : X.env.scope.names.lookup z = some .local) (ha : PA X [a, b, c] ta)
    (hw : swappedStores [.Tuple [.Name x px, .Name y py, .Name z pz] kt pt] (.Tuple [a, b, c] k2 pt2) X.env = pure (some [x, y, z]))
    (hs : swapsWithSole [.Tuple [.Name x px, .Name y py, .Name z pz] kt pt] (.Tuple [a, b, c] k2 pt2) pos.line X.env = pure false := by rfl) :
    PS X (.Assign [.Tuple [.Name x px, .Name y py, .Name z pz] kt pt] (.Tuple [a, b, c] k2 pt2) pos) (tPar3 i j l ta) := by
  intro pins s σ H D I h
  rw [exec_Assign_arm]
  refine wpAny_bind (wpAny_standAt ?_)
  rw [hs]
  refine wpAny_bind (wpAny_pure ?_)
  rw [if_neg (by decide)]
  refine wpAny_bind (Tuple_ (thn (ha _ pins s σ H _ I h) fun us s1 ⟨vs, H1, I1, r1, q1⟩ => ?_))
  obtain ⟨v, w, m, e1, q1⟩ := q1
  subst e1
  obtain ⟨u1, u2, u3, rfl, rv, rw', rm⟩ := vals3 r1
  refine wpAny_newObj_type ?_ (by show 3 ≤ sizeLine; decide)
  have I2 : Inv X pins σ H1 { s1 with heap := s1.heap.push { cls := .type "tuple", data := .seq [u1, u2, u3].toArray } } := I1.kept (t' := s1.toks) fun b o e => Heap.get?_push_of_some _ e
  rw [hw]
  refine wpAny_bind (wpAny_pure ?_)
  show wpAny (model X.prog X.w) X.A (do rule "assign.swapped-stores"; let items ← unpackItems (.ref s1.heap.objs.size) 3 none; assignInOrder [fun v => bindName X.env z v, fun v => bindName X.env y v, fun v => bindName X.env x v] items.reverse; pure Flow.next) _ _ _
  refine wpAny_bind (wpAny_rule (wpAny_bind (unpackItems_tuple (items := #[u1, u2, u3]) (I.ok.hd hc) (IsTup.new s1.heap _) fun h' hx' => ?_)))
  have I3 := I2.kept (h' := h') (t' := s1.toks) fun b o e => hx' b o (Nat.ne_of_lt (Heap.lt_size e)) e
  show wpAny _ _ (assignInOrder [fun v => bindName X.env z v, fun v => bindName X.env y v, fun v => bindName X.env x v] [u3, u2, u1] >>= fun _ => pure Flow.next) _ _ _
  refine wpAny_bind (assignInOrder_cons (wpAny_bindName (store_ok I3 hN hl (.inl hz) rm (fun s2 I4 => ?_) (.inr hz))))
  refine assignInOrder_cons (wpAny_bindName (store_ok I4 hN hj (.inl hy) rw' (fun s2 I4 => ?_) (.inr hy)))
  refine assignInOrder_cons (wpAny_bindName (store_ok I4 hN hi (.inl hx) rv (fun s3 I5 => assignInOrder_nil (wpAny_pure ?_)) (.inr hx)))
  rw [List.set_comm _ _ hjl.symm, List.set_comm _ _ hil.symm, List.set_comm _ _ hij.symm] at I5
  exact ⟨_, H1, I5, q1⟩
end
section
variable {X : Cx}
end
structure Def (K : PySem.W.Frag) (mg : Str → Option Value) (x : Str) (st : Stmt) (ps : List Str) (f : Addr) (fd : FuncData) : Prop where
  fn : Fun K x x st f fd
  bd : Binds K fd ps []
  mgx : mg x = some (.ref f)
end L2
set_option Elab.async false
set_option linter.all false
set_option maxRecDepth 100000
set_option maxHeartbeats 4000000
namespace L2
open PySem PySem.Spec PyProof.Rows
noncomputable def EO (dx : Option Addr) (C : Value) (vs : Array Value) (sl : Array (Option Value)) : Obj := { cls := C, dict := dx, data := .fields vs, slots := sl }
structure Flying (dx : Option Addr) (h : Heap) (e T : Addr) (C fl : Value) : Prop where
  ex : ∃ vs sl, h.get? e = some (EO dx C vs sl) ∧ vs[1]? = some (.ref T)
  tr : ∃ oT ts, h.get? T = some oT ∧ oT.data = .fields ts ∧ ts[3]? = some fl
  ne : T ≠ e
section
variable {M : Model} {A : Around} {E : Value → Shared → Prop} {s : Shared} {base : Heap} {env : Env} {outer : List Env} {L e : Addr} {C : Value} {dx : Option Addr} {vs : Array Value} {sl : Array (Option Value)} {Q : Unit → Shared → Prop}
theorem nofr_of (hl : s.heap.FunFrames base (env :: outer)) (he : s.heap.get? e = some (EO dx C vs sl)) : e ∉ frs (env :: outer) := fun hm => by
  obtain ⟨_, o, ho, hnf⟩ := hl.mem hm
  rw [he] at ho
  cases ho
  exact hnf vs rfl
theorem entry_ {head : Value} {hn : Bool} (hfr : A.frames = some (env :: outer)) (hl : s.heap.FunFrames base (env :: outer)) (hf : env.frame = some L) (he : s.heap.get? e = some (EO dx C vs sl)) (hsz : 1 < vs.size)
    (h : ∀ h' T, s.heap.objs.size ≤ T → Flying dx h' e T C (rawInt L) → (∀ b o, b ∉ frs (env :: outer) → b ≠ e → s.heap.get? b = some o → h'.get? b = some o) →
      (∀ b o, b ∈ frs (env :: outer) → s.heap.get? b = some o → ∃ sl, h'.get? b = some { o with slots := sl }) → Q () { s with heap := h' }) :
    wpAny M A (do let a ← frameOf env; let pl ← entryPlaceOf L hn; let b ← EntryCells.newEntry head a .none (rawInt L) .none pl; setField (.ref e) 1 b) Q E s := by
  have hef := nofr_of hl he
  refine wpAny_bind (wpAny_frameOf_fun hfr hl hf fun h1 S => ?_)
  refine wpAny_bind (wpAny_entryPlaceOf fun pl hpl => ?_)
  unfold EntryCells.newEntry newFields
  refine wpAny_bind (wpAny_newObj_type ?_ (hpl.sizeOk5 _ _ _ _ _))
  generalize hO : ({ cls := .type "traceback", dict := none, data := .fields ([head, .ref L, .none, rawInt L, .none] ++ (if pl.isEmpty then List.replicate 6 Value.none else pl)).toArray } : Obj) = O
  have he1 : h1.get? e = some (EO dx C vs sl) := (S.2.1 e hef).trans he
  have hTe : h1.objs.size ≠ e := Nat.ne_of_gt (Heap.lt_size he1)
  have he2 : (h1.push O).get? e = some (EO dx C vs sl) := Heap.get?_push_of_some O he1
  have hT2 : (h1.push O).get? h1.objs.size = some O := Heap.get?_push_size h1 (by rw [← hO]; rfl)
  refine wpAny_setField he2 rfl hsz (h _ h1.objs.size (Nat.le_of_eq S.1.symm) ⟨⟨vs.setIfInBounds 1 (.ref h1.objs.size), sl, ?_, by simp [hsz]⟩, ⟨O, _, (Heap.get?_update_other _ _ (Ne.symm hTe)).trans hT2, by rw [← hO], ?_⟩, hTe⟩ (fun b o hb hbe q => ?_) fun b o hb q => ?_)
  · exact Heap.get?_update_self _ he2 rfl
  · rcases hpl with rfl | ⟨_, _, _, _, _, _, _, rfl⟩ <;> simp
  · rw [Heap.get?_update_other _ _ (Ne.symm hbe)]
    exact Heap.get?_push_of_some _ ((S.2.1 b hb).trans q)
  · obtain ⟨sl', z⟩ := S.2.2 b o q
    have hbe : b ≠ e := fun w => hef (w ▸ hb)
    exact ⟨sl', by rw [Heap.get?_update_other _ _ (Ne.symm hbe)]; exact Heap.get?_push_of_some _ z⟩
structure Noted (fs : List Addr) (h h' : Heap) (e : Addr) (T0 : Option Addr) : Prop where
  keep : ∀ b o, b ∉ fs → b ≠ e → some b ≠ T0 → h.get? b = some o → h'.get? b = some o
  slot : ∀ b o, b ∈ fs → h.get? b = some o → ∃ sl, h'.get? b = some { o with slots := sl }
theorem note_made (hfr : A.frames = some (env :: outer)) (hl : s.heap.FunFrames base (env :: outer)) (hf : env.frame = some L) (he : s.heap.get? e = some (EO dx C vs sl)) (h1 : vs[1]? = some .none)
    (h : ∀ h' T, s.heap.objs.size ≤ T → Flying dx h' e T C (rawInt L) → Noted (frs (env :: outer)) s.heap h' e none → Q () { s with heap := h' }) : wpAny M A (noteFrame (.ref e) env) Q E s := by
  unfold noteFrame
  simp only [hf]
  refine wpAny_bind (wpAny_field he rfl h1 ?_)
  rw [if_neg (by decide)]
  exact entry_ hfr hl hf he (Array.getElem?_eq_some_iff.mp h1).1 fun h' T a b c d => h h' T a b ⟨fun b' o x y _ z => c b' o x y z, d⟩
theorem note_on {T0 : Addr} (hfr : A.frames = some (env :: outer)) (hl : s.heap.FunFrames base (env :: outer)) (hf : env.frame = some L) (F : Flying dx s.heap e T0 C .none)
    (h : ∀ h' T, s.heap.objs.size ≤ T → Flying dx h' e T C (rawInt L) → Noted (frs (env :: outer)) s.heap h' e (some T0) → Q () { s with heap := h' }) : wpAny M A (noteFrame (.ref e) env) Q E s := by
  obtain ⟨⟨vs, sl, he, h1⟩, ⟨oT, ts, hT, hdT, h3⟩, ne⟩ := F
  have hTf : T0 ∉ frs (env :: outer) := fun hm => by
    obtain ⟨_, o, ho, hnf⟩ := hl.mem hm
    rw [hT] at ho
    cases ho
    exact hnf ts hdT
  unfold noteFrame
  simp only [hf]
  refine wpAny_bind (wpAny_field he rfl h1 ?_)
  rw [if_pos (show (Value.ref T0 != Value.none) = true by simp)]
  refine wpAny_bind (wpAny_field hT hdT h3 ?_)
  rw [if_neg (show ¬ ((Value.none == rawInt L) = true) by simp [rawInt])]
  refine wpAny_bind (wpAny_setField hT hdT (Array.getElem?_eq_some_iff.mp h3).1 ?_)
  have other : ∀ b, b ≠ T0 → (s.heap.update T0 (Obj.mapFields (·.setIfInBounds 3 Value.none))).get? b = s.heap.get? b := fun b hb => Heap.get?_update_other _ _ (Ne.symm hb)
  have hl' : (s.heap.update T0 (Obj.mapFields (·.setIfInBounds 3 Value.none))).FunFrames base (env :: outer) := hl.of_keeps fun b o hb hnf => ⟨o, (other b fun q => by rw [q, hT] at hb; cases hb; exact hnf ts hdT).trans hb, rfl⟩
  refine entry_ hfr hl' hf ((other e (Ne.symm ne)).trans he) (Array.getElem?_eq_some_iff.mp h1).1 fun h' T a b c d => h h' T ?_ b ⟨fun b' o x y w z => c b' o x y ((other b' fun q => w (by rw [q])).trans z), fun b' o x z => d b' o x ((other b' fun q => hTf (q ▸ x)).trans z)⟩
  rwa [Heap.size_update] at a
theorem flight_none {T : Addr} {fl : Value} (F : Flying dx s.heap e T C fl) (h : ∀ h', Flying dx h' e T C .none → (∀ b o, b ≠ T → s.heap.get? b = some o → h'.get? b = some o) → h'.objs.size = s.heap.objs.size → Q () { s with heap := h' }) :
    wpAny M A (setFlight (.ref e) none) Q E s := by
  obtain ⟨⟨vs, sl, he, h1⟩, ⟨oT, ts, hT, hdT, h3⟩, ne⟩ := F
  have h3s : 3 < ts.size := (Array.getElem?_eq_some_iff.mp h3).1
  unfold setFlight
  refine wpAny_bind (wpAny_field he rfl h1 ?_)
  rw [if_pos (show (Value.ref T != Value.none) = true by simp)]
  refine wpAny_setField hT hdT h3s (h _ ⟨⟨vs, sl, (Heap.get?_update_other _ _ ne).trans he, h1⟩, ⟨_, _, Heap.get?_update_self _ hT (Obj.isFreed_of_fields (Obj.data_mapFields hdT _)), Obj.data_mapFields hdT _, by simp [h3s]⟩, ne⟩ (fun b o hb z => (Heap.get?_update_other _ _ (Ne.symm hb)).trans z) (Heap.size_update ..))
theorem leave_made (hfr : A.frames = some (env :: outer)) (hl : s.heap.FunFrames base (env :: outer)) (hf : env.frame = some L) (he : s.heap.get? e = some (EO dx C vs sl)) (h1 : vs[1]? = some .none)
    (h : ∀ h' T, s.heap.objs.size ≤ T → Flying dx h' e T C .none → Noted (frs (env :: outer)) s.heap h' e none → Q () { s with heap := h' }) : wpAny M A (leaving env (.ref e)) Q E s := by
  have hef := nofr_of hl he
  refine wpAny_bind (note_made hfr hl hf he h1 fun h' T a F N => flight_none F fun h2 F2 k _ => h h2 T a F2 ⟨fun b o x y w z => k b o (fun q => ?_) (N.keep b o x y w z), fun b o x z => ?_⟩)
  · exact absurd (Heap.lt_size z) (by rw [q]; exact Nat.not_lt.mpr a)
  · obtain ⟨sl', z'⟩ := N.slot b o x z
    exact ⟨sl', k b _ (fun q => absurd (Heap.lt_size z) (by rw [q]; exact Nat.not_lt.mpr a)) z'⟩
theorem leave_on {T0 : Addr} (hfr : A.frames = some (env :: outer)) (hl : s.heap.FunFrames base (env :: outer)) (hf : env.frame = some L) (F : Flying dx s.heap e T0 C .none)
    (h : ∀ h' T, s.heap.objs.size ≤ T → Flying dx h' e T C .none → Noted (frs (env :: outer)) s.heap h' e (some T0) → Q () { s with heap := h' }) : wpAny M A (leaving env (.ref e)) Q E s := by
  refine wpAny_bind (note_on hfr hl hf F fun h' T a F N => flight_none F fun h2 F2 k _ => h h2 T a F2 ⟨fun b o x y w z => k b o (fun q => ?_) (N.keep b o x y w z), fun b o x z => ?_⟩)
  · exact absurd (Heap.lt_size z) (by rw [q]; exact Nat.not_lt.mpr a)
  · obtain ⟨sl', z'⟩ := N.slot b o x z
    exact ⟨sl', k b _ (fun q => absurd (Heap.lt_size z) (by rw [q]; exact Nat.not_lt.mpr a)) z'⟩
end
noncomputable def Fly (dx : Option Addr) (g : Heap) (H : Hp) (a : Addr) (C : Value) (h : Heap) : Prop := ∃ T, Flying dx h a T C .none ∧ g.get? a = none ∧ g.get? T = none ∧ H a = none ∧ H T = none
theorem HOk.there {P : Program} {w : World} {H : Hp} {h : Heap} (x : HOk P w H h) {e : Addr} {u : HO} (q : H e = some u) : ∃ o, h.get? e = some o := by
  have ok := x e u q
  cases u with
  | lst xs => obtain ⟨_, _, _, _, z⟩ := ok; exact ⟨_, z⟩
  | tup xs => obtain ⟨_, _, _, o, z, _⟩ := ok; exact ⟨_, z⟩
  | dK kvs => obtain ⟨_, _, _, _, o, _, _, z, _⟩ := ok; exact ⟨_, z⟩
  | dT kvs => obtain ⟨_, _, _, _, o, _, _, z, _⟩ := ok; exact ⟨_, z⟩
  | set S n => obtain ⟨o, _, _, _, z, _⟩ := ok; exact ⟨_, z⟩
  | ins C dx fs => obtain ⟨_, _, _, z, _⟩ := ok; exact ⟨_, z⟩
  | own x => exact ok
  | xd fs => obtain ⟨_, ⟨o, _, _, z, _⟩, _⟩ := ok; exact ⟨_, z⟩
  | rng lo hi => obtain ⟨_, _, _, z⟩ := ok; exact ⟨_, z⟩
  | frz o u => exact ⟨_, ok.1⟩
  | tbl ps => exact ⟨_, ok⟩
  | met f x => exact ⟨_, ok⟩
  | ext φ => exact ok.2.1
theorem HOk.free_of {P : Program} {w : World} {H : Hp} {h : Heap} (x : HOk P w H h) {e : Addr} (q : h.get? e = none) : H e = none := by
  cases z : H e with
  | none => rfl
  | some u =>
    obtain ⟨o, y⟩ := x.there z
    rw [q] at y; cases y
noncomputable def CXE (P : Program) (w : World) : CXT := fun outer H s E e s' => ∃ a C dx H', e = .ref a ∧ Fly dx s.heap H' a C s'.heap ∧ s'.os = s.os ∧ AllBare s'.gens ∧ Un (frs outer) [] H H' s.heap s'.heap ∧ HOk P w H' s'.heap ∧ E C dx H'
section
variable {X : Cx} {pins : List (Addr × Obj)} {σ : St} {H : Hp} {s : Shared}
theorem Inv.noted (I : Inv X pins σ H s) {h' : Heap} {e : Addr} {T0 : Option Addr} (N : Noted (frs X.stack) s.heap h' e T0) (he : H e = none) (h0 : X.s₀.heap.get? e = none) (hT : ∀ t, T0 = some t → H t = none ∧ X.s₀.heap.get? t = none) (hx : X.ex = []) :
    Un X.fs [] X.H₀ H X.s₀.heap h' ∧ HOk X.prog X.w H h' := by
  have neS : ∀ b o, X.s₀.heap.get? b = some o → b ≠ e ∧ some b ≠ T0 ∧ b ≠ X.env.locals := fun b o q => by
    have l := Heap.lt_size q
    refine ⟨fun z => ?_, fun z => ?_, fun z => ?_⟩
    · rw [z, h0] at q; cases q
    · rw [(hT b z.symm).2] at q; cases q
    · rw [z] at l; exact absurd l (Nat.not_lt.mpr I.ok.above)
  have st : ∀ b, b ∉ X.fs → b ≠ X.env.locals → b ∉ frs X.stack := fun b h1 h2 h3 => by
    rcases List.mem_cons.mp (I.stkSub b h3) with z | z
    · exact h2 z
    · exact h1 z
  have base := I.base
  rw [hx] at base
  refine ⟨⟨fun b o q n hb _ => ?_, fun b o q n hb _ => ?_, fun b o q n _ => base.free b o q n (by simp), fun b o q _ => ?_, base.tups, base.frzs, base.tbls⟩, fun a o q => ?_⟩
  · obtain ⟨z1, z2, z3⟩ := neS b o q
    exact N.keep b o (st b hb z3) z1 z2 (base.keep b o q n hb (by simp))
  · obtain ⟨z1, z2, z3⟩ := neS b o q
    obtain ⟨sl, q1⟩ := base.slot b o q n hb (by simp)
    by_cases hs : b ∈ frs X.stack
    · obtain ⟨sl', q2⟩ := N.slot b _ hs q1
      exact ⟨sl', q2⟩
    · exact ⟨sl, N.keep b _ hs z1 z2 q1⟩
  · obtain ⟨z1, z2, z3⟩ := neS b o q
    obtain ⟨o', q1⟩ := base.there b o q (by simp)
    by_cases hs : b ∈ frs X.stack
    · obtain ⟨sl', q2⟩ := N.slot b _ hs q1
      exact ⟨_, q2⟩
    · exact ⟨o', N.keep b _ hs z1 z2 q1⟩
  · have keep : ∀ b u, H b = some u → ∀ ob, s.heap.get? b = some ob → h'.get? b = some ob := fun b u z ob q' => by
      refine N.keep b ob (fun hm => ?_) (fun w => ?_) (fun w => ?_) q'
      · rw [I.stkFree b hm] at z; cases z
      · rw [w, he] at z; cases z
      · rw [(hT b w.symm).1] at z; cases z
    refine (I.hok a o q).stay (fun b u hb q' => ?_) (fun _ z => z) fun _ _ z => z
    rcases hb with z | z
    · exact keep b o (z ▸ q) u q'
    · exact keep b _ z u q'
theorem there_of (I : Inv X pins σ H s) (hx : X.ex = []) {b : Addr} (h : s.heap.get? b = none) : X.s₀.heap.get? b = none := by
  cases q : X.s₀.heap.get? b with
  | none => rfl
  | some o =>
    obtain ⟨o', z⟩ := I.base.there b o q (by rw [hx]; simp)
    rw [h] at z; cases z
end
section
variable {P : Program} {w : World} {K : PySem.W.Frag} {mg : Str → Option Value} {base : Heap} {N : List Str} {qual : Str} {scope : Scope} {f : Addr} {cd : Value} {A : Around} {outer : List Env} {s₀ : Shared} {H₀ : Hp} {E : XK}
noncomputable def Raises (X : Cx) (E : XK) : Prop := ∀ (pins : List (Addr × Obj)) (σ : St) (H : Hp) (s : Shared) (C e : Addr) (vs : List Value) (h' : Heap), Inv X pins σ H s → Heap.MadeExcOf s.heap h' e (.ref C) vs → E (.ref C) none H → X.xe (.ref e) { s with heap := h' }
theorem raises_cx : Raises (cxOf (CXE P w) P w K mg base N qual scope f cd A outer s₀ H₀ E) E := by
  intro pins σ H s C e vs h' I hx hE
  have J := I.kept (h' := h') (t' := s.toks) hx.keeps
  obtain ⟨t, he, htn, ht⟩ := hx.there
  have heH : H e = none := I.hok.free_of hx.new
  show wpAny (model P w) (A.deeper (envOfC qual scope s₀.heap.objs.size f cd)) (leaving (envOfC qual scope s₀.heap.objs.size f cd) (.ref e)) _ _ _
  refine leave_made (s := { s with heap := h' }) (base := base) J.ok.frames J.stack rfl he rfl fun h2 T a F Nt => ?_
  have hT : h'.get? T = none := Heap.get?_none_of_le a
  obtain ⟨U, ok⟩ := J.noted Nt heH (there_of I rfl hx.new) (fun _ z => nomatch z) rfl
  exact ⟨e, .ref C, none, H, rfl, ⟨T, F, there_of I rfl hx.new, there_of J rfl hT, heH, J.hok.free_of hT⟩, J.os, J.bare, U, ok, hE⟩
theorem passes_cx {E' : XK} (hE : ∀ C d H, E' C d H → E C d H) : Passes (CXE P w) (cxOf (CXE P w) P w K mg base N qual scope f cd A outer s₀ H₀ E) E' := by
  intro pins σ H s e s' I h
  obtain ⟨a, C, dx, H', rfl, ⟨T, F, a1, a2, a3, a4⟩, ho, hg, U, ok, hE'⟩ := h
  have J := I.call' (s' := s') (ch := []) ho U ok hg (fun _ z => nomatch z)
  show wpAny (model P w) (A.deeper (envOfC qual scope s₀.heap.objs.size f cd)) (leaving (envOfC qual scope s₀.heap.objs.size f cd) (.ref a)) _ _ _
  refine leave_on (base := base) J.ok.frames J.stack rfl F fun h2 T2 b F2 Nt => ?_
  have hT : s'.heap.get? T2 = none := Heap.get?_none_of_le b
  obtain ⟨U2, ok2⟩ := J.noted Nt a3 (there_of I rfl a1) (fun t z => by cases z; exact ⟨a4, there_of I rfl a2⟩) rfl
  exact ⟨a, C, dx, H', rfl, ⟨T2, F2, there_of I rfl a1, there_of J rfl hT, a3, J.hok.free_of hT⟩, J.os, J.bare, U2, ok2, hE _ _ _ hE'⟩
end
end L2
set_option Elab.async false
set_option linter.all false
set_option maxRecDepth 100000
set_option maxHeartbeats 4000000
namespace L2
open PySem PySem.Spec PyProof.Rows
section
variable {P : Program} {w : World} {K : PySem.W.Frag} {mg : Str → Option Value} {base : Heap}
theorem Fun.okX {x qual : Str} {st : Stmt} {f : Addr} {fd : FuncData} {N ps : List Str} {k : Nat} {sp : Sp} (F : Fun K x qual st f fd) (S : FnScope N ps (defScope st)) (len : ∀ vs H Q E, sp vs H Q E → vs.length = ps.length)
    (hbody : ∀ (cdv : Value) (A : Around) (outer : List Env) (s : Shared) (H : Hp) (vs : List V) (Q : VK) (E : XK), Room k (A.deeper (envOfC qual (defScope st) s.heap.objs.size f cdv)) → sp vs H Q E →
      ∃ t, PSs (cxOf (CXE P w) P w K mg base N qual (defScope st) f cdv A outer s H E) (defBody st) t ∧ t { nx := fun _ H' => Q .non H', rt := Q } (L2.start N vs) H) : FnOk P w K mg base (CXE P w) (k + 1) f fd ps sp := by
  obtain ⟨oc, od, kV, doc, pm, an, cdv, ct, osl, rfl, lk, hcd⟩ := F.ex
  exact fn_of lk hcd S len fun A outer s H vs Q E hr hsp => hbody cdv A outer s H vs Q E hr hsp
theorem passE0 {X : Cx} : Passes (CXE P w) X E0 := fun _ _ _ _ _ _ _ ⟨_, _, _, _, _, _, _, _, _, _, z⟩ => z.elim
end
section
variable {X : Cx} {st : Stmt} {t : TS}
theorem PS.nox (h : PS X.nox st t) : PS X st t := fun pins s σ H D I hw =>
  wpAny_mono (h pins s σ H D (I.wish _) hw) (fun _ _ q => SP.unwish q) fun _ _ q => q.elim
end
theorem toStr_len {i : Int} (h : i.natAbs < 10 ^ 100) : (toString i : Str).length ≤ 101 := by
  have e := PySem.int_text_length_le10 (k := 100) (by decide) h
  show (Str.ofString (toString i)).length ≤ 101
  rw [PySem.ofString_length]
  omega
section
variable {X : Cx} {e : Expr} {es : List Expr} {te : TE} {pos : Pos}
noncomputable def tFmt (te : TE) : TE := fun σ H Q => te σ H fun x H1 => (∃ y, x = .str y ∧ y.length ≤ sizeLine ∧ Q (.str y) H1) ∨ (∃ i : Int, x = .int i ∧ i.natAbs < 10 ^ 100 ∧ Q (.str (toString i)) H1)
theorem pe_fmt (he : PE X e te) : PE X (.FormattedValue e (-1) none pos) (tFmt te) := by
  intro pins s σ H Q I h
  refine FormattedValue_plain (thn (he pins s σ H _ I h) fun v s1 ⟨x, H1, I1, r, q⟩ => ?_)
  rcases q with ⟨y, rfl, hy, q⟩ | ⟨i, rfl, hi, q⟩
  · obtain ⟨t, rfl⟩ := r
    exact formatField_str (fun t' tk => ⟨.str y, H1, I1.tok tk, ⟨t', rfl⟩, q⟩) hy
  · obtain ⟨t, rfl⟩ := r
    exact formatField_int_small (Nat.lt_trans (log2_small hi) (by decide)) ⟨.str (toString i), H1, I1.tok _, ⟨_, rfl⟩, q⟩
noncomputable def PJ (X : Cx) (es : List Expr) (t : Str → TE) : Prop :=
  ∀ (acc : Str) (pins : List (Addr × Obj)) (s : Shared) (σ : St) (H : Hp) (Q : VK), Inv X pins σ H s → t acc σ H Q → wpAny (model X.prog X.w) X.A (joinParts acc (evalEach es X.env)) (EP X pins σ Q) X.xe s
noncomputable def jNil : Str → TE := fun acc _ H Q => acc.length ≤ sizeLine ∧ Q (.str acc) H
noncomputable def jCons (te : TE) (t : Str → TE) : Str → TE := fun acc σ H Q => te σ H fun x H1 => ∃ y, x = .str y ∧ (acc ++ y).length ≤ sizeLine ∧ t (acc ++ y) σ H1 Q
theorem pj_nil : PJ X [] jNil := fun acc _ _ _ H Q I h => joinParts_nil ⟨.str acc, H, I.tok _, ⟨_, rfl⟩, h.2⟩ h.1
theorem pj_cons {t : Str → TE} (he : PE X e te) (hr : PJ X es t) (hs : evalEach (e :: es) X.env = eval e X.env :: evalEach es X.env := by rfl) : PJ X (e :: es) (jCons te t) := by
  intro acc pins s σ H Q I h
  rw [hs]
  refine joinParts_cons (thn (he pins s σ H _ I h) fun v s1 ⟨x, H1, I1, r, y, e1, hz, q⟩ => ?_)
  subst e1
  obtain ⟨t', rfl⟩ := r
  exact ⟨hz, hr (acc ++ y) pins s1 σ H1 Q I1 q⟩
theorem pe_joined {e2 : Expr} {t : Str → TE} (h : PJ X (e :: e2 :: es) t) : PE X (.JoinedStr (e :: e2 :: es) pos) (t Str.empty) := fun pins s σ H Q I hw => JoinedStr_many (h Str.empty pins s σ H Q I hw)
end
noncomputable abbrev veMro : List Value := [.type "ValueError", .type "Exception", .type "BaseException", .type "object"]
noncomputable abbrev ExcC (K : PySem.W.Frag) (C : Addr) : Prop := PySem.W.excIn K C veMro "ValueError.__new__" = true
theorem exc_obj {K : PySem.W.Frag} {h : Heap} {C : Addr} (X : K.In h) (q : ExcC K C) : ∃ tl M nm qn bs hd sn sub ab col dd k0 k1 k2 k3 k5 mN,
    h.get? C = some (excClassObj nm qn C M bs tl hd sn sub ab col dd k0 k1 k2 k3 k5 "ValueError.__new__") ∧ h.Ns M mN ∧ mN "__init__" = none ∧ OwnTail h veMro tl := by
  unfold ExcC PySem.W.excIn at q
  split at q
  · rename_i dd cd sl ho
    split at q
    · rename_i C' tl k0 k1 k2 k3 nid k5 hm hs
      simp only [Bool.and_eq_true, beq_iff_eq, Bool.not_eq_true'] at q
      obtain ⟨⟨⟨⟨⟨rfl, rfl⟩, q1⟩, q2⟩, q3⟩, q4⟩ := q
      obtain ⟨nm, bs, mr, M, qn, hd, sn, sub, ab, col, dl⟩ := cd
      dsimp only at hm q1 q3 q4
      subst hm q1
      obtain ⟨ls⟩ := sl
      have hs' : ls = [k0, k1, k2, k3, some (.builtin "ValueError.__new__"), k5] := hs
      subst hs'
      exact ⟨tl, M, nm, qn, bs, hd, sn, sub, ab, col, dd, k0, k1, k2, k3, k5, _, X _ _ ho, .of_isNs (PySem.W.isNs_of_in X q3), PySem.W.nsMap_none_of_in X q3 q4, PySem.W.tail_of_in X q2⟩
    · cases q
  · cases q
section
variable {X : Cx} {x : Str} {C : Addr} {e : Expr} {te : TE} {np cpos pos : Pos} {E : XK}
noncomputable def tRaise (C : Addr) (E : XK) (te : TE) : TS := fun _ σ H => te σ H fun _ H1 => E (.ref C) none H1
theorem ps_raise (hX : Raises X E) (hc : X.calm = true) (hg : Gl X x) (hm : X.mg x = some (.ref C)) (q : ExcC X.K C) (he : PE X e te) (hd : (x == ("__debug__" : Str)) = false := by decide)
    (hs : starEach [e] X.env = [(false, eval e X.env)] := by rfl) : PS X (.Raise (some (.Call (.Name x np) [e] [] cpos)) none pos) (tRaise C E te) := by
  intro pins s σ H D I h
  obtain ⟨tl, M, nm, qn, bs, hd', sn, sub, ab, col, dd, k0, k1, k2, k3, k5, mN, hC, hN, hni, hT⟩ := exc_obj I.mod.kin q
  refine wpAny_Raise_call_subT (C := C) (nm := nm) (q := qn) (N := M) (bs := bs) (bm := tl) (hdct := hd') (sn := sn) (sub := sub) (ab := ab) (col := col) (dd := dd) (k0 := k0) (k1 := k1) (k2 := k2) (k3 := k3) (k5 := k5)
    PySem.F.excBase_ValueError (mN := mN) (hT.hasType (by decide)) (I.ok.hd hc) (by rw [hs]; rfl) hni (ld_glob I hg hm ⟨rfl, ?_⟩ hd)
  rw [hs]
  refine Calls.evalArgs_plain (Calls.spliced_cons (thn (he pins s σ H _ I h) fun u s1 ⟨v, H1, I1, r, z⟩ => Calls.spliced_nil ?_))
  exact ⟨rfl, by show 1 ≤ sizeLine; decide, I1.bk _ _ hC, hN.keeps I1.bk, hT.keeps I1.bk, fun h' a hm => hX pins σ H1 s1 C a _ h' I1 hm z⟩
end
end L2
set_option Elab.async false
set_option linter.all false
set_option maxRecDepth 100000
set_option maxHeartbeats 4000000
namespace L2
open PySem PySem.Spec PyProof.Rows
section
variable {X : Cx} {pins : List (Addr × Obj)} {σ σ' : St} {H : Hp} {s : Shared}
theorem Inv.frame {h' : Heap} {m' : Str → Option Value} {t : Nat} (I : Inv X pins σ H s) (sb : ∀ b, b ≠ X.env.locals → h'.get? b = s.heap.get? b) (hn : h'.Ns X.env.locals m')
    (hl : ∀ (i : Nat) (x : Str) (v : V), X.N[i]? = some x → σ'[i]? = some (some v) → Vis X.env.scope x → ∃ u, RelV v u ∧ Look X.env h' m' x u) (len : σ'.length = σ.length) : Inv X pins σ' H { s with heap := h', toks := t } := by
  have neL : ∀ b o, X.s₀.heap.get? b = some o → b ≠ X.env.locals := fun b o e => Nat.ne_of_lt (Nat.lt_of_lt_of_le (Heap.lt_size e) I.ok.above)
  refine ⟨I.ok, I.os, I.bare, ⟨fun b o e n hb hx => ?_, fun b o e n hb hx => ?_, I.base.free, fun b o e hx => ?_, I.base.tups, I.base.frzs, I.base.tbls⟩, ⟨m', hn, hl⟩, fun x c e => ?_, I.free, I.freeC, fun p hp => ?_, fun a o e => ?_, len.trans I.len⟩
  · exact (sb b (neL b o e)).trans (I.base.keep b o e n hb hx)
  · obtain ⟨sl, q⟩ := I.base.slot b o e n hb hx
    exact ⟨sl, (sb b (neL b o e)).trans q⟩
  · obtain ⟨o', q⟩ := I.base.there b o e hx
    exact ⟨o', (sb b (neL b o e)).trans q⟩
  · obtain ⟨v, o, ho, hd⟩ := I.cell x c e
    exact ⟨v, o, (sb c (I.cne x c e)).trans ho, hd⟩
  · obtain ⟨e, n, ne, r⟩ := I.pin p hp
    exact ⟨(sb p.1 ne).trans e, n, ne, r⟩
  · have ne : ∀ b u, H b = some u → b ≠ X.env.locals := fun b u q z => by rw [z, I.free] at q; cases q
    refine (I.hok a o e).stay (fun b u hb q => ?_) (fun _ z => z) fun _ _ z => z
    rcases hb with z | z
    · exact (sb b (ne b o (z ▸ e))).trans q
    · exact (sb b (ne b _ z)).trans q
theorem Inv.after_note {h' : Heap} {e : Addr} {T0 : Option Addr} (I : Inv X pins σ H s) (N : Noted (frs X.stack) s.heap h' e T0) (hx : X.ex = []) (he : H e = none) (h0 : X.s₀.heap.get? e = none) (hT : ∀ t, T0 = some t → H t = none ∧ X.s₀.heap.get? t = none)
    (hp : ∀ p ∈ X.pn ++ pins, p.1 ≠ e ∧ some p.1 ≠ T0) (hc : ∀ x c, X.env.cells.lookup x = some c → c ≠ e ∧ some c ≠ T0) (hcf : ∀ x c, X.env.cells.lookup x = some c → c ∉ frs X.stack) (hL : X.env.locals ≠ e ∧ some X.env.locals ≠ T0) : Inv X pins σ H { s with heap := h' } := by
  obtain ⟨U, ok⟩ := I.noted N he h0 hT hx
  rw [← hx] at U
  obtain ⟨m, hn, hl⟩ := I.loc
  have cellK : ∀ x c, X.env.cells.lookup x = some c → ∀ v, s.heap.IsCell c v → h'.IsCell c v := fun x c e v ⟨o, ho, hd⟩ =>
    ⟨o, N.keep c o (hcf x c e) (hc x c e).1 (hc x c e).2 ho, hd⟩
  refine ⟨I.ok, I.os, I.bare, U, ⟨m, ?_, fun i x v e1 e2 e3 => ?_⟩, fun x c q => ?_, I.free, I.freeC, fun p hpp => ?_, ok, I.len⟩
  · obtain ⟨o, es, ep, ho, r⟩ := hn
    by_cases hs : X.env.locals ∈ frs X.stack
    · obtain ⟨sl, q⟩ := N.slot _ o hs ho
      exact ⟨_, es, ep, q, r⟩
    · exact ⟨o, es, ep, N.keep _ o hs hL.1 hL.2 ho, r⟩
  · obtain ⟨u, r, l⟩ := hl i x v e1 e2 e3
    refine ⟨u, r, ?_⟩
    rcases l with l | ⟨k, c, q, z⟩
    · exact .inl l
    · exact .inr ⟨k, c, q, cellK x c q _ z⟩
  · obtain ⟨v, z⟩ := I.cell x c q
    exact ⟨v, cellK x c q v z⟩
  · obtain ⟨q, n, ne, nf, d⟩ := I.pin p hpp
    refine ⟨N.keep p.1 p.2 (fun hm => ?_) (hp p hpp).1 (hp p hpp).2 q, n, ne, nf, d⟩
    rcases List.mem_cons.mp (I.stkSub p.1 hm) with z | z
    · exact ne z
    · exact nf z
noncomputable abbrev Cx.marked (X : Cx) (v : Option Value) : Cx := { X with A := X.A.mark v, calm := false, xe := fun _ _ => False }
theorem Inv.mark (I : Inv X pins σ H s) (v : Option Value) : Inv (X.marked v) pins σ H s :=
  ⟨⟨I.ok.mod, I.ok.kind, I.ok.glob, I.ok.blt, I.ok.above, I.ok.inj, I.ok.has, I.ok.cab, (fun z => nomatch z), I.ok.frames, I.ok.stk, I.ok.exf, I.ok.bs, I.ok.bsz, I.ok.noex, I.ok.exfs, I.ok.funs, I.ok.frf⟩, I.os, I.bare, I.base, I.loc, I.cell, I.free, I.freeC, I.pin, I.hok, I.len⟩
theorem Inv.unmark {v : Option Value} (J : X.Ok) (I : Inv (X.marked v) pins σ H s) : Inv X pins σ H s := ⟨J, I.os, I.bare, I.base, I.loc, I.cell, I.free, I.freeC, I.pin, I.hok, I.len⟩
noncomputable def excHo (dx : Option Addr) (a : Addr) (C : Value) : HO := .ext fun h => ∃ vs sl, h.get? a = some (EO dx C vs sl)
noncomputable abbrev excH (a : Addr) (C : Value) : HO := excHo none a C
theorem excH_ok {P : Program} {w : World} {h : Heap} {a : Addr} {C : Value} {dx : Option Addr} (e : ∃ vs sl, h.get? a = some (EO dx C vs sl)) : ObjOk P w H h a (excHo dx a C) :=
  ⟨e, let ⟨_, _, q⟩ := e; ⟨_, q⟩, fun h1 h2 ⟨vs, sl, q⟩ k => ⟨vs, sl, k _ q⟩⟩
theorem Inv.track {a : Addr} {o : HO} (I : Inv X pins σ H s) (hf : H a = none) (h0 : X.s₀.heap.get? a = none) (ok : ∀ H', ObjOk X.prog X.w H' s.heap a o) (hL : a ≠ X.env.locals) (hfs : ∀ x c, X.env.cells.lookup x = some c → c ≠ a) (hp : ∀ p ∈ X.pn ++ pins, p.1 ≠ a) (hx : X.ex = []) (ho : ∀ ob u, o ≠ .frz ob u) :
    Inv X pins σ (upd H a o) s := by
  have ne : ∀ b u, H b = some u → b ≠ a := fun b u q z => by rw [z, hf] at q; cases q
  have base := I.base
  refine ⟨I.ok, I.os, I.bare, ⟨base.keep, base.slot, fun b u q n hb => ?_, base.there, fun b xs q => ?_, fun b u v q => ?_, fun b ps q => ?_⟩, I.loc, I.cell, ?_, fun x c q => ?_, fun p hpp => ?_, fun b u q => ?_, I.len⟩
  · rw [upd_ne (fun z => by rw [z, h0] at q; cases q)]; exact base.free b u q n hb
  · have := base.tups b xs q
    rw [upd_ne (ne _ _ this)]; exact this
  · have := base.frzs b u v q
    rw [upd_ne (ne _ _ this)]; exact this
  · obtain ⟨more, this⟩ := base.tbls b ps q
    exact ⟨more, by rw [upd_ne (ne _ _ this)]; exact this⟩
  · rw [upd_ne hL.symm]; exact I.free
  · rw [upd_ne (hfs x c q)]; exact I.freeC x c q
  · obtain ⟨e, n, r⟩ := I.pin p hpp
    exact ⟨e, by rw [upd_ne (hp p hpp)]; exact n, r⟩
  · by_cases z : b = a
    · subst z
      rw [upd_same] at q
      cases q
      exact ok _
    · rw [upd_ne z] at q
      refine (I.hok b u q).stay (fun c v hc q' => q') (fun c hc => ?_) fun c xs hc => ?_
      · rw [upd_ne (ne _ _ hc)]; exact hc
      · rw [upd_ne (ne _ _ hc)]; exact hc
end
theorem eo_type {M : Model} {h : Heap} {a : Addr} {C : Value} {dx : Option Addr} {vs : Array Value} {sl : Array (Option Value)} (e : h.get? a = some (EO dx C vs sl)) : PySem.W.Looks M h (typeOf (.ref a)) C := by
  intro A Q E s k q
  unfold typeOf
  exact wpAny_bind (wpAny_loadPart (k _ _ e) (wpAny_pure q))
section
variable {X : Cx}
noncomputable abbrev TX := St → Hp → XK → Prop
noncomputable def PX (X : Cx) (body : List Stmt) (tb : TX) : Prop := ∀ (pins : List (Addr × Obj)) (s : Shared) (σ : St) (H : Hp) (R : XK), Inv X pins σ H s → tb σ H R →
  wpAny (model X.prog X.w) X.A (execs body X.env) (fun _ _ => False) (fun e s' => ∃ a C dx H', e = .ref a ∧ Inv X pins σ H' s' ∧ Fly dx s.heap H' a C s'.heap ∧ R C dx H') s
noncomputable def tTryX (K : PySem.W.Frag) (CP : Addr) (ie : Nat) (tb : TX) (ts : TS) : TS := fun D σ H => tb σ H fun C dx H' => PySem.W.exmOne K C (.ref CP) = some true ∧
  ∀ a, H' a = none → ts { nx := fun σ2 H2 => D.nx (σ2.set ie none) H2, rt := fun _ _ => False } (σ.set ie (some (.ref a))) (upd H' a (excHo dx a C))
end
end L2
set_option Elab.async false
set_option linter.all false
set_option maxRecDepth 100000
set_option maxHeartbeats 4000000
namespace L2
open PySem PySem.Spec PyProof.Rows
noncomputable def hidS (h : Heap) (H : Hp) (fs : List Addr) : Heap := PySem.W.hideAll h (trk h H ++ fs)
theorem hidS_get {h : Heap} {H : Hp} {fs : List Addr} {b : Addr} {o : Obj} (e : h.get? b = some o) (n : H b = none) (hf : b ∉ fs) : (hidS h H fs).get? b = some o :=
  PySem.W.hideAll_get _ e fun hm => by
    rcases List.mem_append.mp hm with hm | hm
    · have q : (H b).isSome = true := (List.mem_filter.mp hm).2
      rw [n] at q; simp at q
    · exact hf hm
theorem of_hidS {h : Heap} {H : Hp} {fs : List Addr} {b : Addr} {o : Obj} (e : (hidS h H fs).get? b = some o) : h.get? b = some o ∧ H b = none := by
  have e' : h.get? b = some o := PySem.W.of_hideAll _ e
  refine ⟨e', ?_⟩
  cases q : H b with
  | none => rfl
  | some x =>
    have hm : b ∈ trk h H ++ fs := List.mem_append_left _ (List.mem_filter.mpr ⟨List.mem_range.mpr (Heap.lt_size e'), by simp [q]⟩)
    have z : (hidS h H fs).get? b = none := PySem.W.hideAll_none _ hm
    rw [z] at e; cases e
theorem Mod.keeps {K : PySem.W.Frag} {mg : Str → Option Value} {b b' : Heap} (m : Mod K mg b) (k : ∀ a o, b.get? a = some o → b'.get? a = some o) : Mod K mg b' :=
  ⟨m.kin.keeps k, m.glob.keeps k, let ⟨mb, h1, h2⟩ := m.blt; ⟨mb, h1.keeps k, h2⟩, m.nolimit.keeps k⟩
theorem Env0.rebase {P : Program} {w : World} {K : PySem.W.Frag} {mg : Str → Option Value} {base : Heap} {A : Around} {outer : List Env} {s : Shared} {H : Hp} (e : Env0 P w K mg base A outer s H) :
    Env0 P w K mg (hidS s.heap H (frs outer)) A outer s H where
  frames := e.frames
  mod := e.mod.keeps fun b o q => hidS_get (e.bs b o q).1 (e.bs b o q).2 fun hm => by
    have z := (e.funs.mem hm).1
    rw [q] at z; cases z
  bs := fun b o q => of_hidS q
  bsz := Nat.le_of_eq (PySem.W.hideAll_size _ _)
  funs := PySem.W.funFrames_hide e.funs fun env he a ha => List.mem_append_right _ (List.mem_filterMap.mpr ⟨env, he, ha⟩)
  frf := e.frf
  hok := e.hok
  bare := e.bare
noncomputable def CellsIn (X : Cx) (σ : St) (b : Heap) : Prop := ∀ (i : Nat) (x : Str) (v : V) (c : Addr), X.N[i]? = some x → σ[i]? = some (some v) → X.env.scope.names.lookup x = some .cell → X.env.cells.lookup x = some c → ∃ u, RelV v u ∧ b.IsCell c (some u)
section
variable {X : Cx} {pins : List (Addr × Obj)} {σ : St} {H : Hp} {s : Shared}
theorem Inv.cellsIn (I : Inv X pins σ H s) (hfn : ∀ x, X.fn x = true) : CellsIn X σ (hidS s.heap H (frs X.stack)) := fun i x v c e1 e2 e3 e4 => by
  obtain ⟨m, hn, hl⟩ := I.loc
  obtain ⟨u, r, l⟩ := hl i x v e1 e2 (.inr (.inl e3))
  rcases l with ⟨l, _⟩ | ⟨_, c', e5, o, ho, hd⟩
  · rw [show X.env.kindOf x = X.env.scope.names.lookup x from rfl, e3] at l; cases l
  · rw [e4] at e5
    cases e5
    refine ⟨u, r, o, hidS_get ho (I.freeC x c e4) fun hm => ?_, hd⟩
    rcases List.mem_cons.mp (I.stkSub c hm) with z | z
    · exact I.cne x c e4 z
    · obtain ⟨_, o', ho', _⟩ := I.ok.funs.mem z
      exact absurd (Heap.lt_size ho') (Nat.not_lt.mpr (I.ok.cab x c (hfn x) e4))
end
section
variable {X : Cx} {CX : CXT} {k : Nat} {f C : Addr} {fd : FuncData} {ps : List Str} {dvs : List V} {ds : List Value} {E : XK} {x m : Str} {p pos apos : Pos} {e o : Expr} {es : List Expr} {ta : TE} {t : TA}
theorem run_fnW {sp : Sp} {pins : List (Addr × Obj)} {σ : St} {H : Hp} {s : Shared} {Q : VK} {us : List Value} {vs : List V} (F : FnOk X.prog X.w X.K X.mg (hidS s.heap H (frs X.stack)) CX k f fd ps sp) (hr : Room k X.A) (hb : Binds X.K fd ps ds) (hd : Vals dvs ds) (hx : Passes CX X E)
    (I : Inv X pins σ H s) (r : Vals vs us) (h : sp (vs ++ dvs) H Q E) : wpAny (model X.prog X.w) X.A (call (.ref f) us) (EP X pins σ Q) X.xe s := by
  have r2 : Vals (vs ++ dvs) (us ++ ds) := r.append hd
  have hl : (us ++ ds).length = ps.length := by rw [← r2.length]; exact F.len _ _ _ _ h
  refine wpAny_call (codeAny_mono (F.run X.A X.stack s H ⟨us, []⟩ (us ++ ds) (vs ++ dvs) Q E hr I.env0.rebase (hb s us I.kIn hl) r2 h) fun r s' hq => ?_)
  cases r with
  | error e => exact hx pins σ H s e s' I hq
  | ok fl =>
    cases fl with
    | ret u => exact I.after hq
    | next => exact False.elim hq
    | brk => exact False.elim hq
    | cont => exact False.elim hq
noncomputable def tCallW (X : Cx) (sp : Heap → Sp) (dvs : List V) (E : XK) (t : TA) : TE := fun σ H Q => t σ H fun vs H1 => ∀ b, CellsIn X σ b → sp b (vs ++ dvs) H1 Q E
theorem pe_callW {sp : Heap → Sp} (F : ∀ b, FnOk X.prog X.w X.K X.mg b CX k f fd ps (sp b)) (hr : Room k X.A) (hfn : ∀ x, X.fn x = true) (hg : Gl X x) (hm : X.mg x = some (.ref f)) (hk : PySem.W.keepIn X.K (.ref f) = true) (hb : Binds X.K fd ps ds) (hd : Vals dvs ds) (hx : Passes CX X E) (ha : PA X (e :: es) t)
    (hdb : (x == ("__debug__" : Str)) = false := by decide) (he : starEach (e :: es) X.env = (false, eval e X.env) :: starEach es X.env := by rfl) (hpl : (backTo pos (starEach es X.env)).any (·.1) = false := by rfl) : PE X (.Call (.Name x p) (e :: es) [] pos) (tCallW X sp dvs E t) := by
  intro pins s σ H Q I h
  refine wpAny_Call_Name_kw (ld_glob I hg hm ?_ hdb)
  refine PySem.W.callWith_K (h₀ := X.base) I.ok.mod.kin hk (thn (ha pos pins s σ H _ I h) fun us s1 ⟨vs, H1, I1, r, q⟩ => ⟨I1.kIn, ?_⟩) he hpl
  exact run_fnW (F _) hr hb hd hx I1 r (q _ (I1.cellsIn hfn))
end
noncomputable def LamO (a : Addr) (fd : FuncData) : HO := .ext fun h => h.get? a = some { cls := .type "function", data := .func fd }
noncomputable def CodO (c : Addr) (qual : Str) : HO := .ext fun h => h.CodeRec (.ref c) qual
theorem lamO_ok {P : Program} {w : World} {H : Hp} {h : Heap} {a : Addr} {fd : FuncData} (e : h.get? a = some { cls := .type "function", data := .func fd }) : ObjOk P w H h a (LamO a fd) :=
  ⟨e, ⟨_, e⟩, fun h1 h2 q k => k _ q⟩
theorem codO_ok {P : Program} {w : World} {H : Hp} {h : Heap} {c : Addr} {q : Str} (e : h.CodeRec (.ref c) q) : ObjOk P w H h c (CodO c q) := by
  refine ⟨e, ?_, fun h1 h2 x k => ?_⟩
  · obtain ⟨c', o, vs, t, z, q, _⟩ := e
    cases z
    exact ⟨_, q⟩
  · obtain ⟨c', o, vs, t, z, q, r⟩ := x
    cases z
    exact ⟨c, o, vs, t, rfl, k _ q, r⟩
noncomputable def cxLam (P : Program) (w : World) (K : PySem.W.Frag) (mg : Str → Option Value) (base : Heap) (N : List Str) (qual : Str) (scope : Scope) (f : Addr) (cd : Value) (cl : List (Str × Addr)) (A : Around) (outer : List Env) (s : Shared) (H : Hp) (E : XK) : Cx where
  prog := P
  w := w
  K := K
  mg := mg
  base := base
  A := A.deeper (PySem.W.envX qual scope s.heap.objs.size f cd cl)
  N := N
  s₀ := s
  H₀ := H
  env := PySem.W.envX qual scope s.heap.objs.size f cd cl
  outer := outer
  stack := PySem.W.envX qual scope s.heap.objs.size f cd cl :: outer
  ex := []
  calm := true
  fn := fun _ => false
  pn := []
  xe := fun e s' => wpAny (model P w) (A.deeper (PySem.W.envX qual scope s.heap.objs.size f cd cl)) (leaving (PySem.W.envX qual scope s.heap.objs.size f cd cl) e) (fun _ s'' => CXE P w outer H s E e s'') (fun e' s'' => CXE P w outer H s E e' s'') s'
structure LamScope (N : List Str) (sc : Scope) (cl : List (Str × Addr)) : Prop where
  kind : sc.kind = .function
  co : sc.isCoroutine = false
  gen : sc.isGenerator = false
  nocell : ∀ y ∈ sc.names, y.2 ≠ .cell
  nm : ∀ x ∈ N, sc.names.lookup x = some .free
  has : ∀ x, sc.names.lookup x = some .free → ∃ c, cl.lookup x = some c
  inj : ∀ x y c, cl.lookup x = some c → cl.lookup y = some c → x = y
section
variable {P : Program} {w : World} {K : PySem.W.Frag} {mg : Str → Option Value} {base : Heap} {N : List Str} {name qual : Str} {params : Arguments} {body : Expr} {scope : Scope} {f c' : Addr} {pm ctv : Value} {cl : List (Str × Addr)} {k : Nat}
theorem inv_lam {A : Around} {outer : List Env} {s : Shared} {H : Hp} {E : XK} {h1 : Heap} {tk : Nat} {vs : List V} (S : LamScope N scope cl) (hd : A.handled = none) (e0 : Env0 P w K mg base A outer s H) (hlen : vs.length = N.length)
    (hcl : ∀ x c, cl.lookup x = some c → ∃ v, base.IsCell c v) (hv : ∀ (i : Nat) x v, N[i]? = some x → vs[i]? = some v → ∃ c u, cl.lookup x = some c ∧ RelV v u ∧ base.IsCell c (some u))
    (hns : h1.Ns s.heap.objs.size (fun _ => none)) (hk : ∀ b o, s.heap.get? b = some o → h1.get? b = some o) :
    Inv (cxLam P w K mg base N qual scope f (.ref c') cl A outer s H E) [] (vs.map some) H { s with heap := h1, toks := tk } := by
  have noA : ∀ b : Addr, b ∉ (cxLam P w K mg base N qual scope f (.ref c') cl A outer s H E).ex := fun b z => absurd (show b ∈ ([] : List Addr) from z) (by simp)
  have bk : ∀ c v, base.IsCell c v → h1.IsCell c v ∧ H c = none := fun c v ⟨o, ho, hd⟩ => ⟨⟨o, hk _ _ (e0.bs c o ho).1, hd⟩, (e0.bs c o ho).2⟩
  refine ⟨⟨e0.mod, S.kind, rfl, rfl, Nat.le_refl _, S.inj, fun y hy => ?_, fun y c z _ => (nomatch z), fun _ => hd, Around.frames_deeper e0.frames, .inr ⟨rfl, rfl⟩, fun b z => absurd z (noA b), e0.bs, e0.bsz, fun b _ _ => noA b, fun b z => absurd z (noA b), e0.funs, e0.frf⟩,
    rfl, e0.bare, Un.kept hk, ⟨_, hns, fun i y v h1 h2 h3 => ?_⟩, fun y c h => ?_, e0.hok.fresh (Nat.le_refl _), fun y c h => ?_, fun p hp => absurd (show p ∈ ([] : List (Addr × Obj)) from hp) (by simp), e0.hok.kept hk, ?_⟩
  · have hy : scope.names.lookup y = some .cell ∨ scope.names.lookup y = some .free := hy
    rcases hy with hy | hy
    · exact absurd rfl (S.nocell _ (PySem.mem_of_lookup hy))
    · exact S.has y hy
  · have ha : vs[i]? = some v := by
      rw [List.getElem?_map] at h2
      cases e : vs[i]? with
      | none => rw [e] at h2; cases h2
      | some a => rw [e] at h2; cases h2; rfl
    obtain ⟨c, u, q, r, z⟩ := hv i y v h1 ha
    exact ⟨u, r, .inr ⟨.inr (S.nm y (List.mem_of_getElem? h1)), c, q, (bk c _ z).1⟩⟩
  · obtain ⟨v, z⟩ := hcl y c h
    exact ⟨v, (bk c v z).1⟩
  · obtain ⟨v, z⟩ := hcl y c h
    exact (bk c v z).2
  · show (vs.map some).length = N.length
    rw [List.length_map, hlen]
theorem lam_ok {vs : List V} {sp : Hp → VK → XK → Prop} (S : LamScope N scope cl) (hlen : vs.length = N.length)
    (hcl : ∀ x c, cl.lookup x = some c → ∃ v, base.IsCell c v) (hv : ∀ (i : Nat) x v, N[i]? = some x → vs[i]? = some v → ∃ c u, cl.lookup x = some c ∧ RelV v u ∧ base.IsCell c (some u))
    (hbody : ∀ (A : Around) (outer : List Env) (s : Shared) (H : Hp) (Q : VK) (E : XK), Room k (A.deeper (PySem.W.envX qual scope s.heap.objs.size f (.ref c') cl)) → sp H Q E →
      ∃ t, PE (cxLam P w K mg base N qual scope f (.ref c') cl A outer s H E) body t ∧ t (vs.map some) H Q) :
    FnOk P w K mg base (CXE P w) (k + 1) f (PySem.W.kla_fn name qual params body scope cl pm (.ref c') ctv) []
      (fun us H Q E => us = [] ∧ H f = some (LamO f (PySem.W.kla_fn name qual params body scope cl pm (.ref c') ctv)) ∧ H c' = some (CodO c' qual) ∧ sp H Q E) := by
  refine ⟨fun vs H Q E h => by rw [h.1]; rfl, fun A outer s H args us vs' Q E hr e0 hb r hsp => ?_⟩
  obtain ⟨rfl, hf, hc, hsp⟩ := hsp
  have lim : s.heap.NoLimit := e0.mod.nolimit.keeps fun b o e => (e0.bs b o e).1
  obtain ⟨ho, _, _⟩ := e0.hok f _ hf
  obtain ⟨hcd, _, _⟩ := e0.hok c' _ hc
  refine PySem.W.kla_callFunE hr.depth ho rfl S.co S.gen rfl hcd (hb _ _ _ _ ?_)
  refine wpAny_newFunctionEnv S.nocell (fun y hy => by simp at hy) (fun h₁ hns hsb => ⟨lim.fresh _ hsb, ?_⟩) S.kind
  have hk₁ : ∀ b o, s.heap.get? b = some o → h₁.get? b = some o := fun b o e => hsb.extBut b o (Nat.ne_of_lt (Heap.lt_size e)) (Heap.get?_push_of_some _ e)
  show codeAny _ _ (.expr body (PySem.W.envX qual scope s.heap.objs.size f (.ref c') cl)) _ _
  obtain ⟨t, ht, hq⟩ := hbody A outer s H Q E (hr.deeper _) hsp
  have I := inv_lam (qual := qual) (f := f) (c' := c') (E := E) (tk := s.toks + (([] : List Str).zip us).length) S hr.hd e0 hlen hcl hv hns hk₁
  exact PySem.W.kla_codeExpr (wpAny_mono (ht [] _ _ H _ I hq) (fun u s' ⟨v, H', J, rv, q⟩ => ⟨v, H', J.os, J.bare, J.base, J.hok, rv, q⟩) fun e s' hs => hs)
theorem passes_lam {cd : Value} {A : Around} {outer : List Env} {s₀ : Shared} {H₀ : Hp} {E E' : XK} (hE : ∀ C d H, E' C d H → E C d H) : Passes (CXE P w) (cxLam P w K mg base N qual scope f cd cl A outer s₀ H₀ E) E' := by
  intro pins σ H s e s' I h
  obtain ⟨a, C, dx, H', rfl, ⟨T, F, a1, a2, a3, a4⟩, ho, hg, U, ok, hE'⟩ := h
  have J := I.call' (s' := s') (ch := []) ho U ok hg (fun _ z => nomatch z)
  show wpAny (model P w) (A.deeper (PySem.W.envX qual scope s₀.heap.objs.size f cd cl)) (leaving (PySem.W.envX qual scope s₀.heap.objs.size f cd cl) (.ref a)) _ _ _
  refine leave_on (base := base) J.ok.frames J.stack rfl F fun h2 T2 b F2 Nt => ?_
  have hT : s'.heap.get? T2 = none := Heap.get?_none_of_le b
  obtain ⟨U2, ok2⟩ := J.noted Nt a3 (there_of I rfl a1) (fun t z => by cases z; exact ⟨a4, there_of I rfl a2⟩) rfl
  exact ⟨a, C, dx, H', rfl, ⟨T2, F2, there_of I rfl a1, there_of J rfl hT, a3, J.hok.free_of hT⟩, J.os, J.bare, U2, ok2, hE _ _ _ hE'⟩
end
end L2
set_option Elab.async false
set_option linter.all false
set_option maxRecDepth 100000
set_option maxHeartbeats 4000000
namespace L2
open PySem PySem.Spec PyProof.Rows
section
variable {prog : Program} {w : World} {A : Around} {s : Shared}
noncomputable def ifsT (prog : Program) (w : World) (A : Around) (env : Env) : List Expr → Shared → (Bool → Shared → Prop) → Prop
  | [], s, Q => Q true s
  | [c], s, Q => wpAny (model prog w) A (PySem.isTrue c env (eval c env)) Q (fun _ _ => False) s
  | _, _, _ => False
theorem wpAny_ifs {env : Env} : ∀ {ifs : List Expr} {s : Shared} {Q : Bool → Shared → Prop}, ifsT prog w A env ifs s Q →
    wpAny (model prog w) A (forIn ifs true fun c r => if r = true then do let ok ← PySem.isTrue c env (eval c env); pure (ForInStep.yield ok) else pure (ForInStep.yield r)) Q (fun _ _ => False) s
  | [], s, Q, h => wpAny_tests_nil h
  | [c], s, Q, h => by
    simp only [List.forIn_cons, List.forIn_nil, if_true]
    refine wpAny_bind (wpAny_bind (wpAny_mono h (fun b s1 q => wpAny_pure (wpAny_pure q)) fun _ _ z => z))
  | _ :: _ :: _, _, _, h => h.elim
theorem compLoop_ifs {elt tg iter : Expr} {ifs : List Expr} {scope : Scope} {pos : Pos} {it acc : Value} {env : Env} {R : Result → Shared → Prop} (I : Nat → Shared → Prop)
    (turn : ∀ n s, I n s → wpAny (model prog w) A (pyNext it) (fun r s₁ => match r with
      | none => R (.ok .next) s₁
      | some v => wpAny (model prog w) A (letOwnedTupleGo tg it v) (fun _ s₁' => wpAny (model prog w) A (assign tg env v) (fun _ s₂ => ifsT prog w A env ifs s₂ fun ok s₃ =>
          if ok = true then wpAny (model prog w) A (eval elt env) (fun x s₄ =>
              wpAny (model prog w) A (call (.builtin "list.append") [acc, x]) (fun _ s₅ => ∃ m, m < n ∧ I m s₅) (fun _ _ => False) s₄) (fun _ _ => False) s₃ else ∃ m, m < n ∧ I m s₃) (fun _ _ => False) s₁') (fun _ _ => False) s₁) (fun _ _ => False) s)
    (n : Nat) (h : I n s) : codeAny (model prog w) A (.compLoop (.ListComp elt [⟨tg, iter, ifs, 0⟩] scope pos) 0 it acc env) R s := by
  refine codeAny_loop rfl I (fun n s hI => ?_) n h
  show wpAny _ A ((compTurn (.ListComp elt [⟨tg, iter, ifs, 0⟩] scope pos) 0 it acc env).onRaise (fun x => do noteFrame x env; theTreesLotGoes x)) _ _ s
  refine wpAny_noted ?_
  rw [compTurn_list]
  refine wpAny_bind (wpAny_standAt (wpAny_bind (wpAny_mono (turn n s hI) (fun r s₁ h₁ => ?_) fun _ _ h' => h'.elim)))
  cases r with
  | none => exact wpAny_pure h₁
  | some v =>
    refine wpAny_bind (wpAny_mono h₁ (fun _ s₁' h₁' => ?_) fun _ _ h' => h'.elim)
    refine wpAny_bind (wpAny_mono h₁' (fun _ s₂ h₂ => wpAny_bind (wpAny_mono (wpAny_ifs h₂) (fun ok s₃ h₃ => ?_) fun _ _ h' => h'.elim)) fun _ _ h' => h'.elim)
    cases ok with
    | true => exact wpAny_bind (wpAny_bind (wpAny_mono h₃ (fun x s₄ h₄ => wpAny_bind (wpAny_mono h₄ (fun _ s₅ h₅ => wpAny_pure (wpAny_pure ⟨rfl, h₅⟩)) fun _ _ h' => h'.elim)) fun _ _ h' => h'.elim))
    | false => exact wpAny_pure ⟨rfl, h₃⟩
end
noncomputable def cxCompC (X : Cx) (b : Heap) (N : List Str) (scope : Scope) (cl : List (Str × Addr)) (C : Addr) (fp : List Addr) (s : Shared) (H : Hp) : Cx where
  prog := X.prog
  w := X.w
  K := X.K
  mg := X.mg
  base := b
  A := X.A
  N := N
  s₀ := s
  H₀ := H
  env := compEnvC scope cl C X.env
  outer := X.stack
  stack := X.stack
  ex := fp
  calm := true
  fn := fun _ => false
  pn := []
  xe := fun _ _ => False
noncomputable def outOf (σ : St) (js : List (Option Nat)) : St := js.map fun o => match o with | none => none | some j => (σ[j]?).getD none
structure CompScopeC (X : Cx) (sc : Scope) (N : List Str) (cl : List (Str × Addr)) (js : List (Option Nat)) : Prop where
  kind : sc.kind = .function
  nocell : ∀ y ∈ sc.names, y.2 ≠ .cell
  nm : ∀ y ∈ sc.names, y.2 = .local → sc.names.lookup y.1 = some .local
  has : ∀ y ∈ sc.names, y.2 = .free → ∃ c, cl.lookup y.1 = some c
  sub : ∀ y ∈ cl, X.env.cells.lookup y.1 = some y.2
  len : js.length = N.length
  js : ∀ p ∈ N.zip js, ∀ j, p.2 = some j → X.N[j]? = some p.1 ∧ X.env.scope.names.lookup p.1 = some .cell ∧ ((relabel sc X.env).names.lookup p.1 = some .cell ∨ (relabel sc X.env).names.lookup p.1 = some .free) ∧ ∃ c, cl.lookup p.1 = some c
section
variable {X : Cx} {pins : List (Addr × Obj)} {σ : St} {H : Hp} {s : Shared}
theorem inv_compC {N : List Str} {scope : Scope} {cl : List (Str × Addr)} {js : List (Option Nat)} {fp : List Addr} {h1 : Heap} {tk : Nat} (S : CompScopeC X scope N cl js) (hc : X.calm = true) (hfn : ∀ x, X.fn x = true) (I : Inv X pins σ H s) (hfp : ∀ b ∈ fp, FpOk X pins H b) (hfo : ∀ b ∈ fp, ∃ o, s.heap.get? b = some o)
    (hns : h1.Ns s.heap.objs.size (fun _ => none)) (hk : ∀ b o, s.heap.get? b = some o → h1.get? b = some o) :
    Inv (cxCompC X (hidS s.heap H (frs X.stack ++ fp)) N scope cl s.heap.objs.size fp s H) [] (outOf σ js) H { s with heap := h1, toks := tk } := by
  have sub : ∀ x c, cl.lookup x = some c → X.env.cells.lookup x = some c := fun x c q => S.sub (x, c) (PySem.mem_of_lookup q)
  have rel : ∀ y k, (relabel scope X.env).names.lookup y = some k → (k = .cell ∨ k = .free) → ∃ c, cl.lookup y = some c := fun y k q hk => by
    have m := PySem.mem_of_lookup q
    obtain ⟨⟨n, k'⟩, hm, e⟩ := List.mem_map.mp (show (y, k) ∈ scope.names.map _ from m)
    have := S.nocell _ hm
    dsimp only at e this
    split at e
    · rename_i z
      simp only [Bool.and_eq_true, beq_iff_eq] at z
      cases e
      exact S.has _ hm z.1.1
    · cases e
      rcases hk with hk | hk
      · exact absurd hk this
      · exact S.has _ hm hk
  have e0 := I.env0
  have nfp : ∀ b o, X.base.get? b = some o → b ∉ fp := fun b o q hm => by
    rcases (hfp b hm).2.2.2.1 with z | z
    · exact I.ok.noex b o q z
    · exact absurd (Heap.lt_size (I.ok.bs b o q).1) (Nat.not_lt.mpr z)
  have nst : ∀ b ∈ fp, b ∉ frs X.stack := fun b hb hm => by
    rcases List.mem_cons.mp (I.stkSub b hm) with z | z
    · exact (hfp b hb).2.1 z
    · exact (hfp b hb).2.2.1 z
  have cells : ∀ y c, cl.lookup y = some c → (∃ v, h1.IsCell c v) ∧ H c = none := fun y c q => by
    obtain ⟨v, o, ho, hd⟩ := I.cell y c (sub y c q)
    exact ⟨⟨v, o, hk _ _ ho, hd⟩, I.freeC y c (sub y c q)⟩
  refine ⟨⟨e0.mod.keeps fun b o q => hidS_get (e0.bs b o q).1 (e0.bs b o q).2 fun hm => ?_, S.kind, I.ok.glob, I.ok.blt, Nat.le_refl _, fun y z c q r => I.ok.inj y z c (sub y c q) (sub z c r), fun y hy => ?_, fun y c z => (nomatch z), fun _ => I.ok.hd hc, I.ok.frames, .inl rfl, fun b hb => ⟨?_, fun y c q => ?_⟩, fun b o q => of_hidS q, Nat.le_of_eq (PySem.W.hideAll_size _ _), fun b o q hb => ?_, nst, ?_, I.stkFree⟩,
    rfl, I.bare, Un.kept hk, ⟨_, hns, fun i y v e1 e2 e3 => ?_⟩, fun y c q => (cells y c q).1, I.hok.fresh (Nat.le_refl _), fun y c q => (cells y c q).2, fun p hp => absurd (show p ∈ ([] : List (Addr × Obj)) from hp) (by simp), I.hok.kept hk, ?_⟩
  · rcases List.mem_append.mp hm with hm | hm
    · have z := (e0.funs.mem hm).1
      rw [q] at z; cases z
    · exact nfp b o q hm
  · have hy : (relabel scope X.env).names.lookup y = some .cell ∨ (relabel scope X.env).names.lookup y = some .free := hy
    rcases hy with hy | hy
    · exact rel y _ hy (.inl rfl)
    · exact rel y _ hy (.inr rfl)
  · obtain ⟨o, q⟩ := hfo b hb
    exact Nat.ne_of_lt (Heap.lt_size q)
  · exact (hfp b hb).2.2.2.2.1 y c (sub y c q)
  · have z : (hidS s.heap H (frs X.stack ++ fp)).get? b = none := PySem.W.hideAll_none _ (List.mem_append_right _ (List.mem_append_right _ hb))
    rw [show (cxCompC X (hidS s.heap H (frs X.stack ++ fp)) N scope cl s.heap.objs.size fp s H).base.get? b = none from z] at q; cases q
  · exact PySem.W.funFrames_hide e0.funs fun env he a ha => List.mem_append_right _ (List.mem_append_left _ (List.mem_filterMap.mpr ⟨env, he, ha⟩))
  · have e1 : N[i]? = some y := e1
    obtain ⟨j, hj, hv⟩ : ∃ j, js[i]? = some (some j) ∧ σ[j]? = some (some v) := by
      unfold outOf at e2
      rw [List.getElem?_map] at e2
      cases q : js[i]? with
      | none => rw [q] at e2; cases e2
      | some o =>
        rw [q] at e2
        cases o with
        | none => simp at e2
        | some j =>
          refine ⟨j, rfl, ?_⟩
          have e2 : some ((σ[j]?).getD none) = some (some v) := e2
          cases w : σ[j]? with
          | none => rw [w] at e2; cases e2
          | some u => rw [w] at e2; cases e2; rfl
    have hz : (y, some j) ∈ N.zip js := List.mem_of_getElem? (i := i) (by rw [List.getElem?_zip_eq_some]; exact ⟨e1, hj⟩)
    obtain ⟨f1, f2, f3, c, f4⟩ := S.js _ hz j rfl
    obtain ⟨m, hn, hl⟩ := I.loc
    obtain ⟨u, r, l⟩ := hl j y v f1 hv (.inr (.inl f2))
    rcases l with ⟨l, _⟩ | ⟨_, c', e5, o, ho, hd⟩
    · rw [show X.env.kindOf y = X.env.scope.names.lookup y from rfl, f2] at l; cases l
    · have : c' = c := by
        have := sub y c f4
        rw [e5] at this; cases this; rfl
      subst this
      exact ⟨u, r, .inr ⟨f3, c', f4, o, hk _ _ ho, hd⟩⟩
  · show (js.map _).length = N.length
    rw [List.length_map, S.len]
end
section
variable {X : Cx} {tg iter elt : Expr} {ifs : List Expr} {scope : Scope} {pos : Pos} {wi : TI} {N : List Str} {cl : List (Str × Addr)} {js : List (Option Nat)} {g : TG} {tt : Heap → TT} {te : Heap → TE}
noncomputable def PIfs (X : Cx) : List Expr → TT → Prop
  | [], t => ∀ σ H Q, t σ H Q → Q true H
  | [c], t => PT X c t
  | _, _ => False
noncomputable def tYes : TT := fun _ H Q => Q true H
theorem pifs_one {X : Cx} {c : Expr} {t : TT} (h : PT X c t) : PIfs X [c] t := h
noncomputable def tCompC (X : Cx) (js : List (Option Nat)) (wi : TI) (g : TG) (tt : Heap → TT) (te : Heap → TE) : TE := fun σ H Q => wi σ H fun J H1 => ∀ b D, CellsIn X σ b → H1 D = none → ∃ W : Nat → Nat → St → Hp → Prop, (∃ m, W 0 m (outOf σ js) (upd H1 D (.lst []))) ∧
  ∀ i m σ' H', W i m σ' H' → (J.stop i H' ∧ Q (.ref D) H') ∨ (J.go i H' ∧ ∃ Nx : St → Hp → Prop, (∀ σ'' H'', Nx σ'' H'' → ∃ m', m' < m ∧ W (i + 1) m' σ'' H'') ∧ ∀ x H2, J.yld i H' x H2 → g x σ' H2 fun σ3 H3 => tt b σ3 H3 fun ok H3' => if ok = true then te b σ3 H3' fun y H4 => ∃ ys, H4 D = some (.lst ys) ∧ ys.length < sizeLine ∧ Nx σ3 (upd H4 D (.lst (ys ++ [y]))) else Nx σ3 H3')
theorem pe_compC (S : CompScopeC X scope N cl js) (hc : X.calm = true) (hfn : ∀ x, X.fn x = true) (hi : PI X tg iter wi) (hclos : closureFor scope X.env = pure cl) (hg : ∀ b C fp s H, PG (cxCompC X b N scope cl C fp s H) tg g) (hif : ∀ b C fp s H, PIfs (cxCompC X b N scope cl C fp s H) ifs (tt b)) (he : ∀ b C fp s H, PE (cxCompC X b N scope cl C fp s H) elt (te b))
    (hs : ∀ x, foldedSetIterable iter X.env x = pure x := by intro _; rfl) : PE X (.ListComp elt [⟨tg, iter, ifs, 0⟩] scope pos) (tCompC X js wi g tt te) := by
  intro pins s σ H Q I h
  rw [eval_ListComp]
  refine wpAny_comprehension_free (use := none) rfl hs hclos S.kind S.nm (thn (hi pins s σ H _ I h) fun v s1 h1 => thn h1 fun itv s2 h2 => ?_)
  obtain ⟨it, fp, tn, J, H2, e, I2, T, st2, f2, R⟩ := h2
  subst e
  have hD : H2 s2.heap.objs.size = none := I2.fresh
  have old : ∀ b o, s2.heap.get? b = some o → (s2.heap.push { cls := .type "list", data := .seq ([] : List Value).toArray }).get? b = some o := fun b o q => Heap.get?_push_of_some _ q
  have I3 : Inv X pins σ (upd H2 s2.heap.objs.size (.lst [])) { s2 with heap := s2.heap.push { cls := .type "list", data := .seq ([] : List Value).toArray } } := I2.lnew (t' := s2.toks) (ys := []) (its := []) .nil (Nat.zero_le _)
  have fo : ∀ b ∈ fp, ∃ o, (s2.heap.push { cls := .type "list", data := .seq ([] : List Value).toArray }).get? b = some o := fun b hb => by
    obtain ⟨o, q, _⟩ := T.obj _ _ st2 b hb
    exact ⟨o, old b o q⟩
  have fne : ∀ b ∈ fp, b ≠ s2.heap.objs.size := fun b hb => by
    obtain ⟨o, q, _⟩ := T.obj _ _ st2 b hb
    exact Nat.ne_of_lt (Heap.lt_size q)
  have f3 : ∀ b ∈ fp, FpOk X pins (upd H2 s2.heap.objs.size (.lst [])) b := fun b hb => ⟨by rw [upd_ne (fne b hb)]; exact (f2 b hb).1, (f2 b hb).2⟩
  have st3 : tn 0 (s2.heap.push { cls := .type "list", data := .seq ([] : List Value).toArray }) := T.keep _ _ _ st2 fun b _ o q => old b o q
  refine wpAny_newObj_type (wpAny_newFunctionEnv S.nocell (fun y hy => by simp at hy) (fun h₁ hns hsb => ?_) S.kind)
  obtain ⟨s3, hs3⟩ : ∃ s3 : Shared, s3 = { s2 with heap := s2.heap.push { cls := .type "list", data := .seq ([] : List Value).toArray } } := ⟨_, rfl⟩
  obtain ⟨H3, hH3⟩ : ∃ H3, H3 = upd H2 s2.heap.objs.size (.lst []) := ⟨_, rfl⟩
  rw [← hs3, ← hH3] at I3
  rw [← hH3] at f3
  have hh3 : s3.heap = s2.heap.push { cls := .type "list", data := .seq ([] : List Value).toArray } := by rw [hs3]
  have hk₁ : ∀ b o, s3.heap.get? b = some o → h₁.get? b = some o := fun b o q => by
    rw [hh3] at q
    exact hsb.extBut b o (Nat.ne_of_lt (Heap.lt_size q)) (Heap.get?_push_of_some _ q)
  have hns' : h₁.Ns s3.heap.objs.size (fun _ => none) := by rw [hh3]; exact hns
  obtain ⟨W, ⟨m0, w0⟩, turn⟩ := R (hidS s3.heap H3 (frs X.stack ++ fp)) s2.heap.objs.size (fun i x v c e1 e2 e3 e4 => by
    obtain ⟨u, r, o, q, d⟩ := I3.cellsIn hfn i x v c e1 e2 e3 e4
    obtain ⟨q1, q2⟩ := of_hidS q
    refine ⟨u, r, o, hidS_get q1 q2 fun hm => ?_, d⟩
    rcases List.mem_append.mp hm with hm | hm
    · have z : (hidS s3.heap H3 (frs X.stack)).get? c = none := PySem.W.hideAll_none _ (List.mem_append_right _ hm)
      rw [z] at q; cases q
    · exact (f3 c hm).2.2.2.2.1 x c e4 rfl) hD
  rw [← hH3] at w0
  have J0 := inv_compC (js := js) (N := N) (scope := scope) (h1 := h₁) (tk := s2.toks + ([] : List (Str × Value)).length) S hc hfn I3 f3 (fun b hb => by rw [hh3]; exact fo b hb) hns' hk₁
  have st4 : tn 0 h₁ := T.keep _ _ _ st3 fun b hb o q => hk₁ b o (by rw [hh3]; exact q)
  have loop : ∀ s4 : Shared, s4 = { s3 with heap := h₁, toks := s2.toks + ([] : List (Str × Value)).length } →
      codeAny (model X.prog X.w) X.A (.compLoop (.ListComp elt [⟨tg, iter, ifs, 0⟩] scope pos) 0 (.ref it) (.ref s2.heap.objs.size) (compEnvC scope cl s3.heap.objs.size X.env))
        (compPost (model X.prog X.w) X.A X.xe none (EP X pins σ Q) (.ref s2.heap.objs.size) s3.heap.objs.size) s4 := by
    rintro s4 rfl
    have stat : ∀ {H' : Hp}, (∀ b ∈ fp, H' b = none) → ∀ b ∈ fp, FpOk (cxCompC X (hidS s3.heap H3 (frs X.stack ++ fp)) N scope cl s3.heap.objs.size fp s3 H3) [] H' b := fun hn b hb =>
      ⟨hn b hb, by
        obtain ⟨o, q⟩ := fo b hb
        exact Nat.ne_of_lt (Heap.lt_size (by rw [hh3]; exact q)), J0.ok.exfs b hb, .inl hb, fun y c q => (J0.ok.exf b hb).2 y c q, fun p hp => absurd (show p ∈ ([] : List (Addr × Obj)) from hp) (by simp)⟩
    refine compLoop_ifs (fun n s' => ∃ i σ' H', Inv (cxCompC X (hidS s3.heap H3 (frs X.stack ++ fp)) N scope cl s3.heap.objs.size fp s3 H3) [] σ' H' s' ∧ tn i s'.heap ∧ (∀ b ∈ fp, H' b = none) ∧ W i n σ' H') ?_ m0 ⟨0, _, H3, J0, st4, fun b hb => (f3 b hb).1, w0⟩
    rintro n s5 ⟨i, σ5, H5, I5, st5, fr5, w5⟩
    rcases turn i n σ5 H5 w5 with ⟨stop, qn⟩ | ⟨go, Nx, hN, step⟩
    · refine wpAny_mono (T.done (cxCompC X (hidS s3.heap H3 (frs X.stack ++ fp)) N scope cl s3.heap.objs.size fp s3 H3) rfl rfl rfl rfl i [] s5 σ5 H5 (fun _ _ => False) I5 (stat fr5) st5 stop) (fun r s6 ⟨hr, I6⟩ => ?_) fun _ _ z => z
      subst hr
      obtain ⟨m6, n6, _⟩ := id I6.loc
      refine ⟨m6, n6, fun h' hs' => ⟨.ref s2.heap.objs.size, H5, ?_, rfl, qn⟩⟩
      have neC : ∀ b o, s3.heap.get? b = some o → b ≠ s3.heap.objs.size := fun b o q => Nat.ne_of_lt (Heap.lt_size q)
      have B := I6.base
      have kp : ∀ b o, b ≠ s3.heap.objs.size → s6.heap.get? b = some o → h'.get? b = some o := fun b o nb q => hs'.extBut b o nb q
      refine I3.call' (s' := { s6 with heap := h' }) (ch := fp) I6.os ⟨fun b o q n hb hx => kp b o (neC b o q) (B.keep b o q n hb hx), fun b o q n hb hx => ?_, B.free, fun b o q hx => ?_, B.tups, B.frzs, B.tbls⟩ (fun a o q => ?_) I6.bare fun b hb => ⟨(f3 b hb).2.2.2.1, (f3 b hb).2.1, (f3 b hb).2.2.2.2.1, (f3 b hb).2.2.2.2.2⟩
      · obtain ⟨sl, z⟩ := B.slot b o q n hb hx
        exact ⟨sl, kp b _ (neC b o q) z⟩
      · obtain ⟨o', z⟩ := B.there b o q hx
        exact ⟨o', kp b _ (neC b o q) z⟩
      · have ne : ∀ b u, H5 b = some u → b ≠ s3.heap.objs.size := fun b u q z => by
          have fr : H5 s3.heap.objs.size = none := I6.free
          rw [z, fr] at q; cases q
        refine (I6.hok a o q).stay (fun b u hb q' => kp b u ?_ q') (fun _ z => z) fun _ _ z => z
        rcases hb with z | z
        · exact ne b o (z ▸ q)
        · exact ne b _ z
    · refine wpAny_mono (T.item (cxCompC X (hidS s3.heap H3 (frs X.stack ++ fp)) N scope cl s3.heap.objs.size fp s3 H3) rfl rfl rfl rfl i [] s5 σ5 H5 (fun _ _ => False) I5 (stat fr5) st5 go) (fun r s6 ⟨u, hr, h6⟩ => ?_) fun _ _ z => z
      subst hr
      refine wpAny_mono h6 (fun _ s7 ⟨x, H7, I7, r7, y7, st7, fr7⟩ => ?_) fun _ _ z => z
      have I7' := I7.pinned (stat fr7) (T.obj _ _ st7)
      refine wpAny_mono (hg _ _ _ _ _ _ s7 σ5 H7 x u _ I7' r7 (step x H7 y7)) (fun _ s8 ⟨σ8, H8, I8, q8⟩ => ?_) fun _ _ z => z
      have fin : ∀ (s8 : Shared) (H8 : Hp), Inv _ _ σ8 H8 s8 → (∃ m', m' < n ∧ W (i + 1) m' σ8 H8) → ∃ m, m < n ∧ (∃ i σ' H', Inv (cxCompC X (hidS s3.heap H3 (frs X.stack ++ fp)) N scope cl s3.heap.objs.size fp s3 H3) [] σ' H' s8 ∧ tn i s8.heap ∧ (∀ b ∈ fp, H' b = none) ∧ W i m σ' H') := fun s8 H8 I10 ⟨m', hm, w9⟩ => by
        refine ⟨m', hm, i + 1, σ8, _, I10.unpinned, T.keep _ _ _ st7 fun b hb o q => (I10.pin (b, o) (List.mem_append_right _ (List.mem_append_right _ (mem_pinsAt hb q)))).1, fun b hb => ?_, w9⟩
        obtain ⟨o, q, d⟩ := T.obj _ _ st7 b hb
        exact (I10.pin (b, o) (List.mem_append_right _ (List.mem_append_right _ (mem_pinsAt hb q)))).2.1
      have rest : ∀ (ok : Bool) (s8 : Shared) (H8 : Hp), Inv _ _ σ8 H8 s8 → (if ok = true then te (hidS s3.heap H3 (frs X.stack ++ fp)) σ8 H8 fun y H4 => ∃ ys, H4 s2.heap.objs.size = some (.lst ys) ∧ ys.length < sizeLine ∧ Nx σ8 (upd H4 s2.heap.objs.size (.lst (ys ++ [y]))) else Nx σ8 H8) →
          (if ok = true then wpAny (model X.prog X.w) X.A (eval elt (compEnvC scope cl s3.heap.objs.size X.env)) (fun x s₄ =>
              wpAny (model X.prog X.w) X.A (call (.builtin "list.append") [.ref s2.heap.objs.size, x]) (fun _ s₅ => ∃ m, m < n ∧ (∃ i σ' H', Inv (cxCompC X (hidS s3.heap H3 (frs X.stack ++ fp)) N scope cl s3.heap.objs.size fp s3 H3) [] σ' H' s₅ ∧ tn i s₅.heap ∧ (∀ b ∈ fp, H' b = none) ∧ W i m σ' H')) (fun _ _ => False) s₄) (fun _ _ => False) s8
            else ∃ m, m < n ∧ (∃ i σ' H', Inv (cxCompC X (hidS s3.heap H3 (frs X.stack ++ fp)) N scope cl s3.heap.objs.size fp s3 H3) [] σ' H' s8 ∧ tn i s8.heap ∧ (∀ b ∈ fp, H' b = none) ∧ W i m σ' H')) := fun ok s8 H8 I8 q8 => by
        cases ok with
        | false => exact fin s8 H8 I8 (hN _ _ q8)
        | true =>
          refine wpAny_mono (he _ _ _ _ _ _ s8 σ8 H8 _ I8 q8) (fun y s9 ⟨vy, H9, I9, ry, ys, hD9, hz, w9⟩ => ?_) fun _ _ z => z
          obtain ⟨z, its, nn, rr, hl, eo⟩ := I9.lstM hD9
          refine append_at (hsz := by rw [List.size_toArray]; omega) eo fun h10 hs10 hD10 => ?_
          have I10 : Inv _ _ σ8 (upd H9 s2.heap.objs.size (.lst (ys ++ [vy]))) { s9 with heap := h10, toks := s9.toks } := I9.write (x := s2.heap.objs.size) (e := s2.heap.objs.size) (o := .lst (ys ++ [vy])) (by rw [hD9]; exact trivial) (.inl rfl) (fun b o hb q => hs10.extBut b o hb q) ⟨_, hD10⟩
            ⟨by rw [List.length_append, List.length_singleton]; omega, its ++ [y], nn + 1, rr.append (.cons ry .nil), by rw [hD10, List.push_toArray]⟩
          exact fin _ _ I10 (hN _ _ w9)
      have hI := hif (hidS s3.heap H3 (frs X.stack ++ fp)) s3.heap.objs.size fp s3 H3
      match ifs, hI with
      | [], hI => exact rest true s8 H8 I8 (hI _ _ _ q8)
      | [c], hI => exact wpAny_mono (hI _ s8 σ8 H8 _ I8 q8) (fun ok s9 ⟨H9, I9, q9⟩ => rest ok s9 H9 I9 q9) fun _ _ z => z
      | _ :: _ :: _, hI => exact hI.elim
  have e4 : ({ ({ s2 with heap := s2.heap.push { cls := .type "list", data := .seq ([] : List Value).toArray } } : Shared) with heap := h₁, toks := s2.toks + ([] : List (Str × Value)).length } : Shared) = { s3 with heap := h₁, toks := s2.toks + ([] : List (Str × Value)).length } := by rw [hs3]
  have lp := loop _ e4
  have eC : s3.heap.objs.size = (s2.heap.push { cls := .type "list", data := .seq ([] : List Value).toArray }).objs.size := by rw [hh3]
  rw [eC] at lp
  exact codeAny_compStart_list lp (T.self _ 0 _ _ _ st4 lp)
end
section
variable {K : PySem.W.Frag} {a : Addr} {xs : List V} {g : TG} {tt : TT} {te : TE} {Q : VK} {D : Addr} {σ : St} {H : Hp} {J : It}
noncomputable abbrev CT (g : TG) (tt : TT) (te : TE) (D : Addr) (Nx : St → Hp → Prop) (x : V) (σ : St) (H : Hp) : Prop :=
  g x σ H fun σ3 H3 => tt σ3 H3 fun ok H3' => if ok = true then te σ3 H3' fun y H4 => ∃ ys, H4 D = some (.lst ys) ∧ ys.length < sizeLine ∧ Nx σ3 (upd H4 D (.lst (ys ++ [y]))) else Nx σ3 H3'
noncomputable abbrev CW (J : It) (g : TG) (tt : TT) (te : TE) (D : Addr) (Q : VK) (σ : St) (H : Hp) : Prop := ∃ W : Nat → Nat → St → Hp → Prop, (∃ m, W 0 m σ H) ∧
  ∀ i m σ' H', W i m σ' H' → (J.stop i H' ∧ Q (.ref D) H') ∨ (J.go i H' ∧ ∃ Nx : St → Hp → Prop, (∀ σ'' H'', Nx σ'' H'' → ∃ m', m' < m ∧ W (i + 1) m' σ'' H'') ∧ ∀ x H2, J.yld i H' x H2 → CT g tt te D Nx x σ' H2)
theorem comp_list (Pv : Nat → St → Hp → Prop) (h0 : Pv 0 σ H) (hl : ∀ i σ H, i ≤ xs.length → Pv i σ H → SqL K H a xs)
    (hs : ∀ i x σ H, xs[i]? = some x → Pv i σ H → CT g tt te D (Pv (i + 1)) x σ H) (hd : ∀ σ H, Pv xs.length σ H → Q (.ref D) H) : CW (Itl K a) g tt te D Q σ H := by
  refine ⟨fun i m σ H => m = xs.length - i ∧ i ≤ xs.length ∧ Pv i σ H, ⟨xs.length, by simp, Nat.zero_le _, h0⟩, ?_⟩
  rintro i m σ H ⟨rfl, hi, p⟩
  have q := hl i σ H hi p
  by_cases hlt : i < xs.length
  · refine .inr ⟨⟨xs, xs[i], q, by simp [hlt]⟩, Pv (i + 1), fun σ' H' p' => ⟨xs.length - (i + 1), by omega, rfl, hlt, p'⟩, fun x H' y => ?_⟩
    obtain ⟨e, y⟩ := y
    subst e
    exact hs i x σ _ (y xs q) p
  · have e : i = xs.length := by omega
    subst e
    exact .inl ⟨⟨xs, q, Nat.le_refl _⟩, hd σ H p⟩
end
end L2
set_option Elab.async false
set_option linter.all false
set_option maxRecDepth 100000
set_option maxHeartbeats 4000000
namespace L2
open PySem PySem.Spec PyProof.Rows
noncomputable def clOf (sc : Scope) (env : Env) : List (Str × Addr) := (sc.names.filter (·.2 == .free)).reverse.map fun y => (y.1, (env.cells.lookup y.1).getD 0)
theorem closure_go (env : Env) : ∀ (ns : List (Str × NameKind)) (cs : List (Str × Addr)), (∀ y ∈ ns, y.2 = .free → ∃ c, env.cells.lookup y.1 = some c) →
    (forIn ns cs fun (x : Str × NameKind) __s => match x with
        | (name, kind) => if (kind == NameKind.free) = true then do let __do_lift ← cellOf env name; pure (ForInStep.yield ((name, __do_lift) :: __s)) else pure (ForInStep.yield __s)) =
      (pure ((ns.filter (·.2 == .free)).reverse.map (fun y => (y.1, (env.cells.lookup y.1).getD 0)) ++ cs) : Sem (List (Str × Addr)))
  | [], cs, _ => by simp
  | (n, k) :: ns, cs, h => by
    have ih := fun cs => closure_go env ns cs fun y hy => h y (List.mem_cons_of_mem _ hy)
    rw [List.forIn_cons]
    by_cases e : (k == NameKind.free) = true
    · have ek : k = .free := by simpa using e
      obtain ⟨c, hc⟩ := h (n, k) List.mem_cons_self ek
      have e1 : cellOf env n = pure c := by unfold cellOf; simp only at hc; rw [hc]
      dsimp only
      rw [if_pos e, e1, pure_bind, pure_bind]
      dsimp only
      rw [ih, List.filter_cons_of_pos (by simpa using ek)]
      simp only at hc
      simp [hc]
    · dsimp only
      rw [if_neg e, pure_bind]
      dsimp only
      rw [ih, List.filter_cons_of_neg (by simpa using e)]
theorem closure_of {sc : Scope} {env : Env} (h : ∀ y ∈ sc.names, y.2 = .free → ∃ c, env.cells.lookup y.1 = some c) : closureFor sc env = pure (clOf sc env) := by
  unfold closureFor clOf
  have := closure_go env sc.names [] h
  dsimp only
  rw [this]
  simp
noncomputable def compOk (sc out : Scope) (N NX : List Str) (js : List (Option Nat)) : Bool :=
  (sc.kind == .function) && (sc.names.all fun y => y.2 != .cell) && (sc.names.all fun y => y.2 != .local || sc.names.lookup y.1 == some .local) && (sc.names.all fun y => y.2 != .free || out.names.lookup y.1 == some .cell) && (js.length == N.length) &&
  ((N.zip js).all fun p => match p.2 with | none => true | some j => (NX[j]? == some p.1) && (out.names.lookup p.1 == some .cell) && (sc.names.lookup p.1 == some .free))
theorem relabel_free {env : Env} {x : Str} : ∀ (ns : List (Str × NameKind)), ns.lookup x = some .free →
    (ns.map (fun x => match x with | (n, k) => if (k == NameKind.free && env.scope.kind == ScopeKind.function && env.kindOf n == some NameKind.cell) = true then (n, NameKind.cell) else (n, k))).lookup x = some .cell ∨
    (ns.map (fun x => match x with | (n, k) => if (k == NameKind.free && env.scope.kind == ScopeKind.function && env.kindOf n == some NameKind.cell) = true then (n, NameKind.cell) else (n, k))).lookup x = some .free
  | [], h => by cases h
  | (n, k) :: ns, h => by
    rw [List.map_cons]
    dsimp only
    by_cases e : x == n
    · have hk : k = .free := by
        rw [List.lookup_cons, e] at h
        simpa using h
      split
      · left; rw [List.lookup_cons, e]
      · right; rw [List.lookup_cons, e, hk]
    · have e' : (x == n) = false := by simpa using e
      rw [List.lookup_cons, e'] at h
      have ih := relabel_free (env := env) ns h
      split <;> (rw [List.lookup_cons, e']; exact ih)
theorem clOf_has {sc : Scope} {env : Env} {x : Str} (h : (x, NameKind.free) ∈ sc.names) : ∃ c, (clOf sc env).lookup x = some c := by
  have hm : (x, (env.cells.lookup x).getD 0) ∈ clOf sc env := List.mem_map.mpr ⟨(x, .free), by rw [List.mem_reverse, List.mem_filter]; exact ⟨h, by simp⟩, rfl⟩
  cases e : (clOf sc env).lookup x with
  | some c => exact ⟨c, rfl⟩
  | none =>
    have := List.lookup_eq_none_iff.mp e _ hm
    simp at this
section
variable {X : Cx} {tg iter elt : Expr} {ifs : List Expr} {scope : Scope} {pos : Pos} {wi : TI} {N : List Str} {js : List (Option Nat)} {g : TG} {tt : Heap → TT} {te : Heap → TE}
theorem pe_compD (hcb : compOk scope X.env.scope N X.N js = true) (hc : X.calm = true) (hfn : ∀ x, X.fn x = true) (hi : PI X tg iter wi)
    (hg : ∀ b C fp s H, PG (cxCompC X b N scope (clOf scope X.env) C fp s H) tg g) (hif : ∀ b C fp s H, PIfs (cxCompC X b N scope (clOf scope X.env) C fp s H) ifs (tt b)) (he : ∀ b C fp s H, PE (cxCompC X b N scope (clOf scope X.env) C fp s H) elt (te b))
    (hs : ∀ x, foldedSetIterable iter X.env x = pure x := by intro _; rfl) : PE X (.ListComp elt [⟨tg, iter, ifs, 0⟩] scope pos) (tCompC X js wi g tt te) := by
  intro pins s σ H Q I h
  simp only [compOk, Bool.and_eq_true, List.all_eq_true, beq_iff_eq, bne_iff_ne, Bool.or_eq_true] at hcb
  obtain ⟨⟨⟨⟨⟨c1, c2⟩, c3⟩, c4⟩, c5⟩, c6⟩ := hcb
  have env : ∀ y ∈ scope.names, y.2 = .free → ∃ c, X.env.cells.lookup y.1 = some c := fun y hy hf => by
    rcases c4 y hy with z | z
    · exact absurd hf z
    · exact I.ok.has y.1 (.inl z)
  have S : CompScopeC X scope N (clOf scope X.env) js := by
    refine ⟨c1, c2, fun y hy hl => ?_, fun y hy hf => ?_, fun y hy => ?_, c5, fun p hp j hj => ?_⟩
    · rcases c3 y hy with z | z
      · exact absurd hl z
      · exact z
    · exact clOf_has (by obtain ⟨a, b⟩ := y; cases hf; exact hy)
    · obtain ⟨z, hz, rfl⟩ := List.mem_map.mp hy
      rw [List.mem_reverse, List.mem_filter] at hz
      obtain ⟨c, hc⟩ := env z hz.1 (by simpa using hz.2)
      simp only [hc, Option.getD_some]
    · have := c6 p hp
      rw [hj] at this
      simp only [Bool.and_eq_true, beq_iff_eq] at this
      obtain ⟨⟨d1, d2⟩, d3⟩ := this
      refine ⟨d1, d2, ?_, clOf_has (PySem.mem_of_lookup d3)⟩
      exact relabel_free _ d3
  exact pe_compC S hc hfn hi (closure_of env) hg hif he hs pins s σ H Q I h
end
section
variable {X : Cx}
noncomputable def reprV : V → Option Str
  | .int i => some (toString i)
  | .non => some "None"
  | _ => none
end
section
variable {X : Cx} {K : PySem.W.Frag} {pos : Pos}
theorem pg_tupK {es : List Expr} {k : Nat} {t : TGs} {n : Nat} (hK : X.K = K) (hc : X.calm = true) (h : PGs X es t)
    (hn : (assignEach es X.env).length = n := by rfl) (hst : (assignEach es X.env).findIdx? (·.1) = none := by rfl) : PG X (.Tuple es k pos) (gTup K n t) := by
  subst hK
  exact pg_tup hc h hn hst
end
section
variable {X : Cx} {pos : Pos}
end
theorem tCompC_of {X : Cx} {js : List (Option Nat)} {wi : TI} {g : TG} {tt : Heap → TT} {te : Heap → TE} {σ : St} {H : Hp} {Q : VK} (h : wi σ H fun J H1 => ∀ b D, CellsIn X σ b → H1 D = none → CW J g (tt b) (te b) D Q (outOf σ js) (upd H1 D (.lst []))) : tCompC X js wi g tt te σ H Q := h
end L2
set_option Elab.async false
set_option linter.all false
set_option maxRecDepth 100000
set_option maxHeartbeats 4000000
namespace L2
open PySem PySem.Spec PyProof.Rows
inductive Dt where
  | non | bl (b : Bool) | int (i : Int) | str (x : Str) | tup (ds : List Dt) | lst (ds : List Dt)
mutual
noncomputable def Rep (K : PySem.W.Frag) (H : Hp) : Dt → V → Prop
  | .non, v => v = .non
  | .bl b, v => v = .bl b
  | .int i, v => v = .int i
  | .str x, v => v = .str x
  | .tup ds, v => ∃ a xs, v = .ref a ∧ SqT K H a xs ∧ RepL K H ds xs
  | .lst ds, v => ∃ a xs, v = .ref a ∧ SqL K H a xs ∧ RepL K H ds xs
noncomputable def RepL (K : PySem.W.Frag) (H : Hp) : List Dt → List V → Prop
  | [], xs => xs = []
  | d :: ds, xs => ∃ x r, xs = x :: r ∧ Rep K H d x ∧ RepL K H ds r
end
mutual
noncomputable def eqD : Dt → Dt → Bool
  | .non, .non => true
  | .bl a, .bl b => a == b
  | .bl a, .int b => (if a then 1 else 0) == b
  | .int a, .bl b => a == (if b then 1 else 0)
  | .int a, .int b => a == b
  | .str a, .str b => a == b
  | .tup ds, .tup es => eqDL ds es
  | .lst ds, .lst es => eqDL ds es
  | _, _ => false
noncomputable def eqDL : List Dt → List Dt → Bool
  | [], [] => true
  | d :: ds, e :: es => eqD d e && eqDL ds es
  | _, _ => false
end
mutual
noncomputable def dep : Dt → Nat
  | .tup ds => depL ds + 1
  | .lst ds => depL ds + 1
  | _ => 0
noncomputable def depL : List Dt → Nat
  | [] => 0
  | d :: ds => max (dep d) (depL ds)
end
theorem RepL.length {K : PySem.W.Frag} {H : Hp} : ∀ {ds : List Dt} {xs : List V}, RepL K H ds xs → ds.length = xs.length
  | [], xs, h => by cases (show xs = [] from h); rfl
  | d :: ds, xs, h => by
    obtain ⟨x, r, rfl, _, h2⟩ := (show ∃ x r, xs = x :: r ∧ Rep K H d x ∧ RepL K H ds r from h)
    rw [List.length_cons, List.length_cons, h2.length]
mutual
theorem eqD_self : ∀ d : Dt, eqD d d = true
  | .non => rfl
  | .bl a => by show (a == a) = true; simp
  | .int a => by show (a == a) = true; simp
  | .str a => by show (a == a) = true; simp
  | .tup ds => eqDL_self ds
  | .lst ds => eqDL_self ds
theorem eqDL_self : ∀ ds : List Dt, eqDL ds ds = true
  | [] => rfl
  | d :: ds => by show (eqD d d && eqDL ds ds) = true; rw [eqD_self d, eqDL_self ds]; rfl
end
theorem eqDL_range : ∀ ds es : List Dt, eqDL ds es = ((List.range (min ds.length es.length)).all (fun j => eqD (ds.getD j .non) (es.getD j .non)) && ds.length == es.length)
  | [], [] => rfl
  | [], e :: es => rfl
  | d :: ds, [] => rfl
  | d :: ds, e :: es => by
    show (eqD d e && eqDL ds es) = _
    rw [eqDL_range ds es, List.length_cons, List.length_cons, Nat.succ_min_succ, List.range_succ_eq_map, List.all_cons, List.all_map, Bool.and_assoc]
    congr 1
    congr 1
    by_cases h : ds.length = es.length
    · simp [h]
    · simp [h]
section
variable {X : Cx} {pins : List (Addr × Obj)} {σ : St} {H : Hp} {s : Shared}
mutual
theorem Rep.inj (I : Inv X pins σ H s) : ∀ (d e : Dt) {v : V}, Rep X.K H d v → Rep X.K H e v → d = e
  | .non, e, v, h, g => by
    cases (show v = .non from h)
    cases e with
    | non => rfl
    | tup ds => obtain ⟨_, _, z, _⟩ := (show ∃ a xs, V.non = .ref a ∧ _ from g); cases z
    | lst ds => obtain ⟨_, _, z, _⟩ := (show ∃ a xs, V.non = .ref a ∧ _ from g); cases z
    | _ => cases g
  | .bl b, e, v, h, g => by
    cases (show v = .bl b from h)
    cases e with
    | bl c => cases g; rfl
    | tup ds => obtain ⟨_, _, z, _⟩ := (show ∃ a xs, V.bl b = .ref a ∧ _ from g); cases z
    | lst ds => obtain ⟨_, _, z, _⟩ := (show ∃ a xs, V.bl b = .ref a ∧ _ from g); cases z
    | _ => cases g
  | .int b, e, v, h, g => by
    cases (show v = .int b from h)
    cases e with
    | int c => cases g; rfl
    | tup ds => obtain ⟨_, _, z, _⟩ := (show ∃ a xs, V.int b = .ref a ∧ _ from g); cases z
    | lst ds => obtain ⟨_, _, z, _⟩ := (show ∃ a xs, V.int b = .ref a ∧ _ from g); cases z
    | _ => cases g
  | .str b, e, v, h, g => by
    cases (show v = .str b from h)
    cases e with
    | str c => cases g; rfl
    | tup ds => obtain ⟨_, _, z, _⟩ := (show ∃ a xs, V.str b = .ref a ∧ _ from g); cases z
    | lst ds => obtain ⟨_, _, z, _⟩ := (show ∃ a xs, V.str b = .ref a ∧ _ from g); cases z
    | _ => cases g
  | .tup ds, e, v, h, g => by
    obtain ⟨a, xs, rfl, h1, h2⟩ := (show ∃ a xs, v = .ref a ∧ SqT X.K H a xs ∧ RepL X.K H ds xs from h)
    cases e with
    | tup es =>
      obtain ⟨a', ys, z, g1, g2⟩ := (show ∃ a' xs, V.ref a = .ref a' ∧ SqT X.K H a' xs ∧ RepL X.K H es xs from g)
      cases z
      cases I.tuple_inj h1 g1
      rw [RepL.inj I ds es h2 g2]
    | lst es =>
      obtain ⟨a', ys, z, g1, g2⟩ := (show ∃ a' xs, V.ref a = .ref a' ∧ SqL X.K H a' xs ∧ RepL X.K H es xs from g)
      cases z
      obtain ⟨_, _, p1, _⟩ := I.tuple h1
      obtain ⟨_, _, p2, _⟩ := I.list g1
      exact absurd rfl (SeqAt.ne_of_list_tuple p2.isList p1)
    | _ => cases g
  | .lst ds, e, v, h, g => by
    obtain ⟨a, xs, rfl, h1, h2⟩ := (show ∃ a xs, v = .ref a ∧ SqL X.K H a xs ∧ RepL X.K H ds xs from h)
    cases e with
    | lst es =>
      obtain ⟨a', ys, z, g1, g2⟩ := (show ∃ a' xs, V.ref a = .ref a' ∧ SqL X.K H a' xs ∧ RepL X.K H es xs from g)
      cases z
      cases I.list_inj h1 g1
      rw [RepL.inj I ds es h2 g2]
    | tup es =>
      obtain ⟨a', ys, z, g1, g2⟩ := (show ∃ a' xs, V.ref a = .ref a' ∧ SqT X.K H a' xs ∧ RepL X.K H es xs from g)
      cases z
      obtain ⟨_, _, p1, _⟩ := I.tuple g1
      obtain ⟨_, _, p2, _⟩ := I.list h1
      exact absurd rfl (SeqAt.ne_of_list_tuple p2.isList p1)
    | _ => cases g
theorem RepL.inj (I : Inv X pins σ H s) : ∀ (ds es : List Dt) {xs : List V}, RepL X.K H ds xs → RepL X.K H es xs → ds = es
  | [], es, xs, h, g => by
    cases (show xs = [] from h)
    cases es with
    | nil => rfl
    | cons e es => obtain ⟨_, _, z, _⟩ := (show ∃ x r, [] = x :: r ∧ _ from g); cases z
  | d :: ds, es, xs, h, g => by
    obtain ⟨x, r, rfl, h1, h2⟩ := (show ∃ x r, xs = x :: r ∧ Rep X.K H d x ∧ RepL X.K H ds r from h)
    cases es with
    | nil => cases (show x :: r = [] from g)
    | cons e es =>
      obtain ⟨_, _, z, g1, g2⟩ := (show ∃ y q, x :: r = y :: q ∧ Rep X.K H e y ∧ RepL X.K H es q from g)
      cases z
      rw [Rep.inj I d e h1 g1, RepL.inj I ds es h2 g2]
end
theorem in1_units (A : Around) : A.in1.units = A.units + 1 := rfl
mutual
theorem eqAt_D (I : Inv X pins σ H s) : ∀ (d e : Dt) {v u : V} {vv uu : Value} {A : Around}, Rep X.K H d v → Rep X.K H e u → RelV v vv → RelV u uu → A.units + dep d < cLine → SeqAt.EqAt A s vv uu (eqD d e)
  | .tup ds, e, v, u, vv, uu, A, h, g, rv, ru, hu => by
    obtain ⟨a, xs, rfl, h1, h2⟩ := (show ∃ a xs, v = .ref a ∧ SqT X.K H a xs ∧ RepL X.K H ds xs from h)
    cases rv
    have hu0 : A.units < cLine := Nat.lt_of_le_of_lt (Nat.le_add_right _ _) hu
    obtain ⟨j1, _, p0, _⟩ := I.tuple h1
    cases e with
    | non => cases (show u = .non from g); cases ru; exact .tuple_none p0 hu0
    | bl b => cases (show u = .bl b from g); cases ru; exact .tuple_bool _ p0 hu0
    | int b => cases (show u = .int b from g); obtain ⟨t, rfl⟩ := ru; exact .tuple_int _ _ p0 hu0
    | str b => cases (show u = .str b from g); obtain ⟨t, rfl⟩ := ru; exact .tuple_str _ _ p0 hu0
    | tup es =>
        obtain ⟨b, ys, rfl, g1, g2⟩ := (show ∃ a xs, u = .ref a ∧ SqT X.K H a xs ∧ RepL X.K H es xs from g)
        cases ru
        by_cases e : a = b
        · subst e
          cases I.tuple_inj h1 g1
          rw [RepL.inj I ds es h2 g2, show eqD (.tup es) (.tup es) = true from eqD_self _]
          exact .same _
        · obtain ⟨i1, r1, p1, _⟩ := I.tuple h1
          obtain ⟨i2, r2, p2, _⟩ := I.tuple g1
          have hu' : A.units + (depL ds + 1) < cLine := hu
          have l1 := h2.length.trans r1.length
          have l2 := g2.length.trans r2.length
          refine .of_refs e ?_
          rw [show eqD (.tup ds) (.tup es) = eqDL ds es from rfl, eqDL_range]
          have := SeqAt.RcAt.tuples (A := A) p1 p2 (by omega) (e := fun j => eqD (ds.getD j .non) (es.getD j .non)) fun j a1 a2 => by
            have a1' : j < i1.length := by simpa using a1
            have a2' : j < i2.length := by simpa using a2
            have := eqAt_DL I ds es h2 g2 r1 r2 (A := A.in1) (by rw [in1_units]; omega) j a1' a2'
            simpa using this
          rw [List.size_toArray, List.size_toArray, ← l1, ← l2] at this
          exact this
    | lst es =>
        obtain ⟨b, ys, rfl, g1, g2⟩ := (show ∃ a xs, u = .ref a ∧ SqL X.K H a xs ∧ RepL X.K H es xs from g)
        cases ru
        obtain ⟨i2, r2, p2, _⟩ := I.list g1
        exact .tuple_list p0 p2.isList hu0
  | .lst ds, e, v, u, vv, uu, A, h, g, rv, ru, hu => by
    obtain ⟨a, xs, rfl, h1, h2⟩ := (show ∃ a xs, v = .ref a ∧ SqL X.K H a xs ∧ RepL X.K H ds xs from h)
    cases rv
    have hu0 : A.units < cLine := Nat.lt_of_le_of_lt (Nat.le_add_right _ _) hu
    obtain ⟨j1, _, p0, _⟩ := I.list h1
    cases e with
    | non => cases (show u = .non from g); cases ru; exact .list_none p0.isList hu0
    | bl b => cases (show u = .bl b from g); cases ru; exact .list_bool _ p0.isList hu0
    | int b => cases (show u = .int b from g); obtain ⟨t, rfl⟩ := ru; exact .list_int _ _ p0.isList hu0
    | str b => cases (show u = .str b from g); obtain ⟨t, rfl⟩ := ru; exact .list_str _ _ p0.isList hu0
    | lst es =>
        obtain ⟨b, ys, rfl, g1, g2⟩ := (show ∃ a xs, u = .ref a ∧ SqL X.K H a xs ∧ RepL X.K H es xs from g)
        cases ru
        by_cases e : a = b
        · subst e
          cases I.list_inj h1 g1
          rw [RepL.inj I ds es h2 g2, show eqD (.lst es) (.lst es) = true from eqD_self _]
          exact .same _
        · obtain ⟨i1, r1, p1, _⟩ := I.list h1
          obtain ⟨i2, r2, p2, _⟩ := I.list g1
          have hu' : A.units + (depL ds + 1) < cLine := hu
          have l1 := h2.length.trans r1.length
          have l2 := g2.length.trans r2.length
          refine .of_refs e ?_
          rw [show eqD (.lst ds) (.lst es) = eqDL ds es from rfl, eqDL_range]
          by_cases hz : ds.length = es.length
          · have := SeqAt.RcAt.lists (A := A) p1.isList p2.isList (by simp only [List.size_toArray]; omega) (by omega) (e := fun j => eqD (ds.getD j .non) (es.getD j .non)) fun j a1 a2 => by
              have a1' : j < i1.length := by simpa using a1
              have a2' : j < i2.length := by simpa using a2
              have := eqAt_DL I ds es h2 g2 r1 r2 (A := A.in1) (by rw [in1_units]; omega) j a1' a2'
              simpa using this
            rw [List.size_toArray, ← l1] at this
            rw [← hz, Nat.min_self, beq_self_eq_true, Bool.and_true]
            exact this
          · have := SeqAt.RcAt.lists_lengths (A := A) p1.isList p2.isList (by simp only [List.size_toArray, bne_iff_ne]; omega) (by omega)
            rw [show (ds.length == es.length) = false by simpa using hz, Bool.and_false]
            exact this
    | tup es =>
        obtain ⟨b, ys, rfl, g1, g2⟩ := (show ∃ a xs, u = .ref a ∧ SqT X.K H a xs ∧ RepL X.K H es xs from g)
        cases ru
        obtain ⟨i2, r2, p2, _⟩ := I.tuple g1
        exact .list_tuple p0.isList p2 hu0
  | .non, e, v, u, vv, uu, A, h, g, rv, ru, hu => by
    cases (show v = .non from h); cases rv
    have hu0 : A.units < cLine := Nat.lt_of_le_of_lt (Nat.le_add_right _ _) hu
    cases e with
    | non => cases (show u = .non from g); cases ru; exact .same _
    | bl b => cases (show u = .bl b from g); cases ru; exact .none_bool _
    | int b => cases (show u = .int b from g); obtain ⟨t, rfl⟩ := ru; exact .none_int _ _
    | str b => cases (show u = .str b from g); obtain ⟨t, rfl⟩ := ru; exact .none_str _ _
    | tup es =>
        obtain ⟨b, ys, rfl, g1, g2⟩ := (show ∃ a xs, u = .ref a ∧ SqT X.K H a xs ∧ RepL X.K H es xs from g)
        cases ru
        obtain ⟨i2, r2, p2, _⟩ := I.tuple g1
        exact .none_tuple p2 hu0
    | lst es =>
        obtain ⟨b, ys, rfl, g1, g2⟩ := (show ∃ a xs, u = .ref a ∧ SqL X.K H a xs ∧ RepL X.K H es xs from g)
        cases ru
        obtain ⟨i2, r2, p2, _⟩ := I.list g1
        exact .none_list p2.isList hu0
  | .bl a, e, v, u, vv, uu, A, h, g, rv, ru, hu => by
    cases (show v = .bl a from h); cases rv
    have hu0 : A.units < cLine := Nat.lt_of_le_of_lt (Nat.le_add_right _ _) hu
    cases e with
    | non => cases (show u = .non from g); cases ru; exact .bool_none _
    | bl b => cases (show u = .bl b from g); cases ru; exact .bool_bool _ _
    | int b => cases (show u = .int b from g); obtain ⟨t, rfl⟩ := ru; exact .bool_int _ _ _
    | str b => cases (show u = .str b from g); obtain ⟨t, rfl⟩ := ru; exact .bool_str _ _ _
    | tup es =>
        obtain ⟨b, ys, rfl, g1, g2⟩ := (show ∃ a xs, u = .ref a ∧ SqT X.K H a xs ∧ RepL X.K H es xs from g)
        cases ru
        obtain ⟨i2, r2, p2, _⟩ := I.tuple g1
        exact .bool_tuple _ p2 hu0
    | lst es =>
        obtain ⟨b, ys, rfl, g1, g2⟩ := (show ∃ a xs, u = .ref a ∧ SqL X.K H a xs ∧ RepL X.K H es xs from g)
        cases ru
        obtain ⟨i2, r2, p2, _⟩ := I.list g1
        exact .bool_list _ p2.isList hu0
  | .int a, e, v, u, vv, uu, A, h, g, rv, ru, hu => by
    cases (show v = .int a from h); obtain ⟨t', rfl⟩ := rv
    have hu0 : A.units < cLine := Nat.lt_of_le_of_lt (Nat.le_add_right _ _) hu
    cases e with
    | non => cases (show u = .non from g); cases ru; exact .int_none _ _
    | bl b => cases (show u = .bl b from g); cases ru; exact .int_bool _ _ _
    | int b => cases (show u = .int b from g); obtain ⟨t, rfl⟩ := ru; exact .int_int _ _ _ _
    | str b => cases (show u = .str b from g); obtain ⟨t, rfl⟩ := ru; exact .int_str _ _ _ _
    | tup es =>
        obtain ⟨b, ys, rfl, g1, g2⟩ := (show ∃ a xs, u = .ref a ∧ SqT X.K H a xs ∧ RepL X.K H es xs from g)
        cases ru
        obtain ⟨i2, r2, p2, _⟩ := I.tuple g1
        exact .int_tuple _ _ p2 hu0
    | lst es =>
        obtain ⟨b, ys, rfl, g1, g2⟩ := (show ∃ a xs, u = .ref a ∧ SqL X.K H a xs ∧ RepL X.K H es xs from g)
        cases ru
        obtain ⟨i2, r2, p2, _⟩ := I.list g1
        exact .int_list _ _ p2.isList hu0
  | .str a, e, v, u, vv, uu, A, h, g, rv, ru, hu => by
    cases (show v = .str a from h); obtain ⟨t', rfl⟩ := rv
    have hu0 : A.units < cLine := Nat.lt_of_le_of_lt (Nat.le_add_right _ _) hu
    cases e with
    | non => cases (show u = .non from g); cases ru; exact .str_none _ _
    | bl b => cases (show u = .bl b from g); cases ru; exact .str_bool _ _ _
    | int b => cases (show u = .int b from g); obtain ⟨t, rfl⟩ := ru; exact .str_int _ _ _ _
    | str b => cases (show u = .str b from g); obtain ⟨t, rfl⟩ := ru; exact .str_str _ _ _ _
    | tup es =>
        obtain ⟨b, ys, rfl, g1, g2⟩ := (show ∃ a xs, u = .ref a ∧ SqT X.K H a xs ∧ RepL X.K H es xs from g)
        cases ru
        obtain ⟨i2, r2, p2, _⟩ := I.tuple g1
        exact .str_tuple _ _ p2 hu0
    | lst es =>
        obtain ⟨b, ys, rfl, g1, g2⟩ := (show ∃ a xs, u = .ref a ∧ SqL X.K H a xs ∧ RepL X.K H es xs from g)
        cases ru
        obtain ⟨i2, r2, p2, _⟩ := I.list g1
        exact .str_list _ _ p2.isList hu0
theorem eqAt_DL (I : Inv X pins σ H s) : ∀ (ds es : List Dt) {xs ys : List V} {us ws : List Value} {A : Around}, RepL X.K H ds xs → RepL X.K H es ys → Vals xs us → Vals ys ws → A.units + depL ds < cLine →
    ∀ (j : Nat) (h1 : j < us.length) (h2 : j < ws.length), SeqAt.EqAt A s us[j] ws[j] (eqD (ds.getD j .non) (es.getD j .non))
  | [], es, xs, ys, us, ws, A, h, g, rv, ru, hu => fun j h1 h2 => by
    cases (show xs = [] from h)
    cases rv
    exact absurd h1 (Nat.not_lt_zero _)
  | d :: ds, es, xs, ys, us, ws, A, h, g, rv, ru, hu => fun j h1 h2 => by
    obtain ⟨x, r, rfl, hd, hr⟩ := (show ∃ x r, xs = x :: r ∧ Rep X.K H d x ∧ RepL X.K H ds r from h)
    cases es with
    | nil =>
      cases (show ys = [] from g)
      cases ru
      exact absurd h2 (Nat.not_lt_zero _)
    | cons e es =>
      obtain ⟨y, q, rfl, gd, gr⟩ := (show ∃ x r, ys = x :: r ∧ Rep X.K H e x ∧ RepL X.K H es r from g)
      cases rv with
      | cons rv1 rv2 =>
        cases ru with
        | cons ru1 ru2 =>
          have hu' : A.units + max (dep d) (depL ds) < cLine := hu
          cases j with
          | zero => exact eqAt_D I d e hd gd rv1 ru1 (by omega)
          | succ j => exact eqAt_DL I ds es hr gr rv2 ru2 (by omega) j (by simpa using h1) (by simpa using h2)
end
noncomputable def rEqS (K : PySem.W.Frag) : R2 := fun x y H Q => ∃ ds es, ((Rep K H (.tup ds) x ∧ Rep K H (.tup es) y) ∨ (Rep K H (.lst ds) x ∧ Rep K H (.lst es) y)) ∧ depL ds ≤ 100 ∧ Q (.bl (eqDL ds es)) H
noncomputable def rNeS (K : PySem.W.Frag) : R2 := fun x y H Q => ∃ ds es, ((Rep K H (.tup ds) x ∧ Rep K H (.tup es) y) ∨ (Rep K H (.lst ds) x ∧ Rep K H (.lst es) y)) ∧ depL ds ≤ 100 ∧ Q (.bl (!eqDL ds es)) H
theorem op_eqS (hu : X.A.units + 150 < cLine) : OpR X (compareOp .Eq) (rEqS X.K) := by
  intro pins s σ H x y v u Q I rv ru h
  obtain ⟨ds, es, h, hd, q⟩ := h
  rcases h with ⟨h, g⟩ | ⟨h, g⟩
  · obtain ⟨a, xs, rfl, h1, h2⟩ := (show ∃ a xs, x = .ref a ∧ SqT X.K H a xs ∧ RepL X.K H ds xs from h)
    obtain ⟨b, ys, rfl, g1, g2⟩ := (show ∃ a xs, y = .ref a ∧ SqT X.K H a xs ∧ RepL X.K H es xs from g)
    cases rv; cases ru
    obtain ⟨i1, r1, p1, _⟩ := I.tuple h1
    obtain ⟨i2, r2, p2, _⟩ := I.tuple g1
    have l1 := h2.length.trans r1.length
    have l2 := g2.length.trans r2.length
    refine SeqAt.eq_tupleAt p1 p2 (by omega) (e := fun j => eqD (ds.getD j .non) (es.getD j .non)) (fun j a1 a2 => ?_) ⟨.bl _, H, I, rfl, ?_⟩
    · have a1' : j < i1.length := by simpa using a1
      have a2' : j < i2.length := by simpa using a2
      have := eqAt_DL I ds es h2 g2 r1 r2 (A := X.A.in1) (by rw [in1_units]; omega) j a1' a2'
      simpa using this
    · rw [List.size_toArray, List.size_toArray, ← l1, ← l2, ← eqDL_range]
      exact q
  · obtain ⟨a, xs, rfl, h1, h2⟩ := (show ∃ a xs, x = .ref a ∧ SqL X.K H a xs ∧ RepL X.K H ds xs from h)
    obtain ⟨b, ys, rfl, g1, g2⟩ := (show ∃ a xs, y = .ref a ∧ SqL X.K H a xs ∧ RepL X.K H es xs from g)
    cases rv; cases ru
    obtain ⟨i1, r1, p1, _⟩ := I.list h1
    obtain ⟨i2, r2, p2, _⟩ := I.list g1
    have l1 := h2.length.trans r1.length
    have l2 := g2.length.trans r2.length
    rw [eqDL_range] at q
    by_cases hz : ds.length = es.length
    · refine SeqAt.eq_listAt p1.isList p2.isList (by simp only [List.size_toArray]; omega) (by omega) (e := fun j => eqD (ds.getD j .non) (es.getD j .non)) (fun j a1 a2 => ?_) ⟨.bl _, H, I, rfl, ?_⟩
      · have a1' : j < i1.length := by simpa using a1
        have a2' : j < i2.length := by simpa using a2
        have := eqAt_DL I ds es h2 g2 r1 r2 (A := X.A.in1) (by rw [in1_units]; omega) j a1' a2'
        simpa using this
      · rw [← hz, Nat.min_self, beq_self_eq_true, Bool.and_true] at q
        rw [List.size_toArray, ← l1]
        exact q
    · refine SeqAt.eq_list_lengthsAt p1.isList p2.isList (by simp only [List.size_toArray, bne_iff_ne]; omega) (by omega) ⟨.bl _, H, I, rfl, ?_⟩
      rw [show (ds.length == es.length) = false by simpa using hz, Bool.and_false] at q
      exact q
theorem hu150 {A : Around} {k : Nat} (hr : Room k A) : A.units + 150 < cLine := by have := hr.un; omega
end
mutual
noncomputable def noL : Dt → Bool
  | .tup ds => noLL ds
  | .lst _ => false
  | _ => true
noncomputable def noLL : List Dt → Bool
  | [] => true
  | d :: ds => noL d && noLL ds
end
noncomputable def TK (H H' : Hp) : Prop := ∀ a xs, Rd H a (.tup xs) → Rd H' a (.tup xs)
theorem TK.sq {K : PySem.W.Frag} {H H' : Hp} (t : TK H H') {a : Addr} {xs : List V} (h : SqT K H a xs) : SqT K H' a xs := by
  rcases h with h | h
  · exact .inl (t a xs h)
  · exact .inr h
theorem TK.refl (H : Hp) : TK H H := fun _ _ h => h
theorem TK.trans {H H1 H2 : Hp} (a : TK H H1) (b : TK H1 H2) : TK H H2 := fun x xs h => b x xs (a x xs h)
theorem Same.tk {H H' : Hp} (s : Same H H') : TK H H' := fun a xs h => by
  rcases h with h | ⟨o, h⟩
  · exact .inl (s a _ h)
  · exact .inr ⟨o, s a _ h⟩
theorem TK.new {H : Hp} {p : Addr} {o : HO} (hp : H p = none) : TK H (upd H p o) := fun a xs h => by
  rcases h with h | ⟨u, h⟩
  · exact .inl (by rw [upd_ne (ne_of_none h hp)]; exact h)
  · exact .inr ⟨u, by rw [upd_ne (ne_of_none h hp)]; exact h⟩
theorem TK.lst {H : Hp} {p : Addr} {xs : List V} {o : HO} (hp : H p = some (.lst xs)) : TK H (upd H p o) := fun a ys h => by
  have ne : ∀ u, H a = some u → u ≠ .lst xs → a ≠ p := fun u e n z => by rw [z, hp] at e; cases e; exact n rfl
  rcases h with h | ⟨u, h⟩
  · exact .inl (by rw [upd_ne (ne _ h (by intro z; cases z))]; exact h)
  · exact .inr ⟨u, by rw [upd_ne (ne _ h (by intro z; cases z))]; exact h⟩
mutual
theorem Rep.mono {K : PySem.W.Frag} {H H' : Hp} (t : TK H H') : ∀ (d : Dt) {v : V}, noL d = true → Rep K H d v → Rep K H' d v
  | .non, v, _, h => h
  | .bl b, v, _, h => h
  | .int i, v, _, h => h
  | .str x, v, _, h => h
  | .lst ds, v, n, h => by cases n
  | .tup ds, v, n, h => by
    obtain ⟨a, xs, e, h1, h2⟩ := (show ∃ a xs, v = .ref a ∧ SqT K H a xs ∧ RepL K H ds xs from h)
    exact ⟨a, xs, e, t.sq h1, RepL.mono t ds n h2⟩
theorem RepL.mono {K : PySem.W.Frag} {H H' : Hp} (t : TK H H') : ∀ (ds : List Dt) {xs : List V}, noLL ds = true → RepL K H ds xs → RepL K H' ds xs
  | [], xs, _, h => h
  | d :: ds, xs, n, h => by
    obtain ⟨x, r, e, h1, h2⟩ := (show ∃ x r, xs = x :: r ∧ Rep K H d x ∧ RepL K H ds r from h)
    have n' : (noL d && noLL ds) = true := n
    rw [Bool.and_eq_true] at n'
    exact ⟨x, r, e, Rep.mono t d n'.1 h1, RepL.mono t ds n'.2 h2⟩
end
theorem RepL.append {K : PySem.W.Frag} {H : Hp} : ∀ {ds es : List Dt} {xs ys : List V}, RepL K H ds xs → RepL K H es ys → RepL K H (ds ++ es) (xs ++ ys)
  | [], es, xs, ys, h, g => by cases (show xs = [] from h); exact g
  | d :: ds, es, xs, ys, h, g => by
    obtain ⟨x, r, rfl, h1, h2⟩ := (show ∃ x r, xs = x :: r ∧ Rep K H d x ∧ RepL K H ds r from h)
    exact ⟨x, r ++ ys, rfl, h1, h2.append g⟩
noncomputable def pD (q : Int × Int) : Dt := .tup [.int q.1, .int q.2]
theorem noLL_pD : ∀ l : List (Int × Int), noLL (l.map pD) = true
  | [] => rfl
  | q :: l => by show (noL (pD q) && noLL (l.map pD)) = true; rw [noLL_pD l]; rfl
theorem rep_pair {K : PySem.W.Frag} {H : Hp} {a : Addr} {x y : Int} (h : H a = some (.tup [.int x, .int y])) : Rep K H (pD (x, y)) (.ref a) := ⟨a, _, rfl, SqT.of h, _, _, rfl, rfl, _, _, rfl, rfl, rfl⟩
theorem repL_pD_get {K : PySem.W.Frag} {H : Hp} : ∀ {l : List (Int × Int)} {xs : List V} {i : Nat} {x : V}, RepL K H (l.map pD) xs → xs[i]? = some x → ∃ q b, l[i]? = some q ∧ x = .ref b ∧ SqT K H b [.int q.1, .int q.2]
  | [], xs, i, x, h, e => by cases (show xs = [] from h); cases e
  | q :: l, xs, i, x, h, e => by
    obtain ⟨y, r, rfl, h1, h2⟩ := (show ∃ y r, xs = y :: r ∧ Rep K H (pD q) y ∧ RepL K H (l.map pD) r from h)
    cases i with
    | zero =>
      have e' : y = x := by simpa using e
      subst e'
      obtain ⟨b, ys, e1, g1, g2⟩ := (show ∃ a xs, y = .ref a ∧ SqT K H a xs ∧ RepL K H [.int q.1, .int q.2] xs from h1)
      obtain ⟨z, r1, rfl, z1, g3⟩ := (show ∃ z r', ys = z :: r' ∧ z = .int q.1 ∧ RepL K H [.int q.2] r' from g2)
      obtain ⟨z', r2, rfl, z2, g4⟩ := (show ∃ z r', r1 = z :: r' ∧ z = V.int q.2 ∧ r' = [] from g3)
      cases z1; cases z2; cases g4
      exact ⟨q, b, by simp, e1, g1⟩
    | succ i =>
      obtain ⟨q', b, h3, h4, h5⟩ := repL_pD_get (l := l) h2 (by simpa using e)
      exact ⟨q', b, by simpa using h3, h4, h5⟩
end L2
set_option Elab.async false
set_option linter.all false
set_option maxRecDepth 100000
set_option maxHeartbeats 4000000
namespace L2
open PySem PySem.Spec PyProof.Rows
section
variable {X : Cx} {pos : Pos}
noncomputable def rNeL (K : PySem.W.Frag) : R2 := fun x y H Q => ∃ ds es, Rep K H (.lst ds) x ∧ Rep K H (.lst es) y ∧ depL ds ≤ 100 ∧ Q (.bl (!eqDL ds es)) H
noncomputable def tDNew : TE := fun _ H Q => ∀ p, H p = none → Q (.ref p) (upd H p (.dK []))
noncomputable def boolOf : Value → Bool
  | .bool b => b
  | _ => false
theorem vals_bl : ∀ {bs : List Bool} {us : List Value}, Vals (bs.map V.bl) us → us = bs.map Value.bool
  | [], _, r => by cases r; rfl
  | b :: bs, _, r => by
    cases r with
    | cons p q => rw [vals_bl q]; cases p; rfl
noncomputable def rCount : V → List V → Hp → VK → Prop := fun x vs H Q => ∃ (l : Addr) (bs : List Bool), x = .ref l ∧ vs = [.bl true] ∧ H l = some (.lst (bs.map V.bl)) ∧ Q (.int (bs.countP id : Nat)) H
theorem mt_count : MtM X "list.count" rCount := by
  intro pins s σ H x vs v us Q I rx rv h
  obtain ⟨l, bs, rfl, rfl, hH, q⟩ := h
  cases rx
  obtain ⟨u, rfl, ru⟩ := rv.one
  cases ru
  obtain ⟨z, its, n, r, hl, e⟩ := I.lstM hH
  have ei := vals_bl r
  subst ei
  refine call_meets F.slot_list_count ⟨_, e, rfl⟩ F.entry_list_count (F.args_list_count_2 _ _) (SeqAt.list_countAt l _ n none _ (.bool true) boolOf) ⟨e, fun y hy => ?_, ?_⟩
  · have hy : y ∈ (bs.map Value.bool) := by simpa using hy
    obtain ⟨b, _, rfl⟩ := List.mem_map.mp hy
    have := SeqAt.EqAt.bool_bool (A := X.A.in1) (s := s) b true
    rw [show (b == true) = boolOf (.bool b) by cases b <;> rfl] at this
    exact this
  · have ec : List.countP boolOf (bs.map Value.bool).toArray.toList = bs.countP id := by
      rw [List.countP_map]
      congr 1
    rw [ec]
    exact ⟨.int _, H, I.tok _, ⟨_, rfl⟩, q⟩
noncomputable def rIndex : V → List V → Hp → VK → Prop := fun x vs H Q => ∃ (l : Addr) (bs : List Bool) (j : Nat), x = .ref l ∧ vs = [.bl true] ∧ H l = some (.lst (bs.map V.bl)) ∧ bs[j]? = some true ∧ (∀ m, m < j → bs[m]? = some false) ∧ j < 1000 ∧ Q (.int (j : Nat)) H
theorem mt_index : MtM X "list.index" rIndex := by
  intro pins s σ H x vs v us Q I rx rv h
  obtain ⟨l, bs, j, rfl, rfl, hH, hj, hm, hz, q⟩ := h
  cases rx
  obtain ⟨u, rfl, ru⟩ := rv.one
  cases ru
  obtain ⟨z, its, n, r, hl, e⟩ := I.lstM hH
  have ei := vals_bl r
  subst ei
  have jl : j < bs.length := (List.getElem?_eq_some_iff.mp hj).1
  have gt : ∀ (m : Nat) (h : m < (bs.map Value.bool).toArray.size) b, bs[m]? = some b → boolOf (bs.map Value.bool).toArray[m] = b := fun m h b hb => by
    obtain ⟨h1, h2⟩ := List.getElem?_eq_some_iff.mp hb
    simp [boolOf, h2]
  refine call_meets F.slot_list_index ⟨_, e, rfl⟩ F.entry_list_index (F.args_list_index_2 _ _) (SeqAt.list_indexAt l _ n none _ (.bool true) boolOf j (by simpa using jl) (by omega) (gt j _ _ hj) (fun m h1 h2 => gt m h1 _ (hm m h2))) ⟨e, fun y hy => ?_, ?_⟩
  · have hy : y ∈ (bs.map Value.bool) := by simpa using hy
    obtain ⟨b, _, rfl⟩ := List.mem_map.mp hy
    have := SeqAt.EqAt.bool_bool (A := X.A.in1) (s := s) b true
    rw [show (b == true) = boolOf (.bool b) by cases b <;> rfl] at this
    exact this
  · exact ⟨.int _, H, I.tok _, ⟨_, rfl⟩, q⟩
end
end L2
set_option Elab.async false
set_option linter.all false
set_option maxRecDepth 100000
set_option maxHeartbeats 4000000
namespace L2
open PySem PySem.Spec PyProof.Rows
section
variable {X : Cx} {k i : Nat} {x : Str} {p pos pos' : Pos}
noncomputable def xCall0 (X : Cx) (k i : Nat) : TX := fun σ H R => ∃ f fd sp, σ[i]? = some (some (.ref f)) ∧ H f = some (LamO f fd) ∧ FnOk X.prog X.w X.K X.mg X.base (CXE X.prog X.w) k f fd [] sp ∧ Binds X.K fd [] [] ∧ sp [] H (fun _ _ => False) R
theorem ld_var {E : Value → Shared → Prop} {pins : List (Addr × Obj)} {s : Shared} {σ : St} {H : Hp} {v : V} {Q : Value → Shared → Prop} (I : Inv X pins σ H s) (hN : X.N[i]? = some x) (hv : Vis X.env.scope x) (e : σ[i]? = some (some v)) (h : ∀ u, RelV v u → Q u s)
    (hd : (x == ("__debug__" : Str)) = false) (hcd : (x == ("__classdict__" : Str)) = false) : wpAny (model X.prog X.w) X.A (eval (.Name x p) X.env) Q E s := by
  obtain ⟨m, hn, hl⟩ := I.loc
  obtain ⟨u, r, l⟩ := hl i x v hN e hv
  have fin := h u r
  rcases l with ⟨hk, hm⟩ | ⟨hk, c, hc, hcell⟩
  · exact wpAny_Name (wpAny_loadName_local I.ok.kind hk hn hm fin) hd
  · rcases hk with hk | hk
    · exact wpAny_Name (wpAny_loadName_cell I.ok.kind hk hc hcell fin) hd
    · exact wpAny_Name (wpAny_loadName_free I.ok.kind hk hc hcell fin hcd) hd
end
noncomputable def TabOk (H : Hp) (P : Addr) (q : Str) : Prop := ∃ ps : Array Value, H P = some (.tbl ps) ∧ TriplesOk ps.toList ∧ ∀ pos cv, codeAmong pos ps.toList = some cv → ∃ c, cv = .ref c ∧ H c = some (CodO c q)
theorem among_snoc {pos : Pos} {a b : Nat} {c cv : Value} (l : List Value) (h : TriplesOk l) (e : codeAmong pos (l ++ [rawInt a, rawInt b, c]) = some cv) : codeAmong pos l = some cv ∨ cv = c := by
  fun_induction TriplesOk l with
  | case1 =>
    simp only [List.nil_append, codeAmong, rawInt] at e
    split at e
    · exact .inr (Option.some.inj e).symm
    · cases e
  | case2 i t j u d rest ih =>
    simp only [List.cons_append, codeAmong] at e ⊢
    split at e
    · rename_i z
      left; rw [if_pos z]; exact e
    · rename_i z
      rw [if_neg z]
      exact ih h e
  | case3 => exact h.elim
theorem triples_snoc {a b : Nat} {c : Value} (l : List Value) (h : TriplesOk l) : TriplesOk (l ++ [rawInt a, rawInt b, c]) := by
  fun_induction TriplesOk l with
  | case1 => simp [TriplesOk, rawInt]
  | case2 i t j u d rest ih => simp only [List.cons_append, TriplesOk]; exact ih h
  | case3 => exact h.elim
noncomputable def SameX (P : Addr) (H H' : Hp) : Prop := ∀ b o, b ≠ P → H b = some o → H' b = some o
structure LamCx (X : Cx) (c P : Addr) : Prop where
  code : X.env.code = .ref c
  hd : PySem.W.CodeHd X.base c P
  bm : X.base.BuiltinsAt X.mg P
section
variable {X : Cx} {c P : Addr} {params : Arguments} {body : Expr} {scope : Scope} {pos : Pos} {clos : List (Str × Addr)}
noncomputable def tLam (mg : Str → Option Value) (P : Addr) (q : Str) (params : Arguments) (body : Expr) (scope : Scope) (clos : List (Str × Addr)) : TE := fun _ H Q => TabOk H P q ∧
  ∀ f c' ctv H', H f = none → SameX P H H' → TabOk H' P q → H' f = some (LamO f (PySem.W.kla_fn "<lambda>" q params body scope clos ((mg "__name__").getD .none) (.ref c') ctv)) → H' c' = some (CodO c' q) → Q (.ref f) H'
theorem pe_lam (L : LamCx X c P) (hdef : defaultsOf params X.env = ([], [])) (hcl : closureFor scope X.env = pure clos) : PE X (.Lambda params body scope pos) (tLam X.mg P (X.env.qual ++ "<lambda>") params body scope clos) := by
  intro pins s σ H Q I h
  obtain ⟨⟨ps, hP, ht, hcs⟩, h⟩ := h
  have hPo : s.heap.get? P = some (PySem.W.tabObj ps) := I.hok P _ hP
  have hg : s.heap.Ns mainGlobals X.mg := I.mod.glob.keeps I.bk
  have hgP : mainGlobals ≠ P := fun q => by
    obtain ⟨o, es, ep, e, hd, _⟩ := hg
    rw [q, hPo] at e; cases e; cases hd
  have hb : s.heap.BuiltinsAt X.mg P := by
    obtain ⟨bm, o, b1, b2, b3, b4, b5, b6⟩ := L.bm
    exact ⟨bm, o, b1, b2, b3, b4, I.bk _ _ b5, b6⟩
  have fresh : ∀ b, s.heap.objs.size ≤ b → H b = none := fun b hb => I.hok.fresh hb
  refine PySem.W.kla_eval hdef ?_
  cases hA : codeAmong pos ps.toList with
  | some cv =>
    obtain ⟨c', rfl, hc'⟩ := hcs pos cv hA
    refine PySem.W.kla_makeFunctionHit hcl I.ok.glob hg L.code (L.hd.keeps I.bk) hPo ht hA hb fun ctv h' tk hk hsz => ?_
    have hfn : H h'.objs.size = none := fresh _ hsz
    refine ⟨.ref h'.objs.size, upd H h'.objs.size (LamO h'.objs.size (PySem.W.kla_fn "<lambda>" (X.env.qual ++ "<lambda>") params body scope clos ((X.mg "__name__").getD .none) (.ref c') ctv)), I.laid (fun b u q => Heap.get?_push_of_some _ (hk b u q)) hsz (lamO_ok (Heap.get?_push_size _ rfl)), rfl, ?_⟩
    have ne : ∀ b o, H b = some o → b ≠ h'.objs.size := fun b o q z => by rw [z, hfn] at q; cases q
    refine h _ c' ctv _ hfn (fun b o _ q => by rw [upd_ne (ne b o q)]; exact q) ⟨ps, by rw [upd_ne (ne _ _ hP)]; exact hP, ht, fun pos cv e => ?_⟩ upd_same (by rw [upd_ne (ne _ _ hc')]; exact hc')
    obtain ⟨c2, e1, e2⟩ := hcs pos cv e
    exact ⟨c2, e1, by rw [upd_ne (ne _ _ e2)]; exact e2⟩
  | none =>
    refine PySem.W.kla_makeFunction hcl I.ok.glob hg L.code (L.hd.keeps I.bk) hPo ht hA hgP hb fun c' ctv h' tk hx hge hlt hrec htb => ?_
    have hszP : P < s.heap.objs.size := Heap.lt_size hPo
    have hcn : H c' = none := fresh _ hge
    have hfn : H h'.objs.size = none := fresh _ (Nat.le_of_lt (Nat.lt_of_le_of_lt hge hlt))
    have hcf : c' ≠ h'.objs.size := Nat.ne_of_lt hlt
    have hPc : P ≠ c' := Nat.ne_of_lt (Nat.lt_of_lt_of_le hszP hge)
    have hPf : P ≠ h'.objs.size := Nat.ne_of_lt (Nat.lt_of_lt_of_le hszP (Nat.le_of_lt (Nat.lt_of_le_of_lt hge hlt)))
    generalize hfd : PySem.W.kla_fn "<lambda>" (X.env.qual ++ "<lambda>") params body scope clos ((X.mg "__name__").getD .none) (.ref c') ctv = fd
    obtain ⟨H', hH'⟩ : ∃ H', H' = upd (upd (upd H P (.tbl (ps ++ #[rawInt pos.line, rawInt pos.col, .ref c']))) c' (CodO c' (X.env.qual ++ "<lambda>"))) h'.objs.size (LamO h'.objs.size fd) := ⟨_, rfl⟩
    have gF : H' h'.objs.size = some (LamO h'.objs.size fd) := by rw [hH']; exact upd_same
    have gC : H' c' = some (CodO c' (X.env.qual ++ "<lambda>")) := by rw [hH', upd_ne hcf]; exact upd_same
    have gP : H' P = some (.tbl (ps ++ #[rawInt pos.line, rawInt pos.col, .ref c'])) := by rw [hH', upd_ne hPf, upd_ne hPc]; exact upd_same
    have gO : ∀ b, b ≠ h'.objs.size → b ≠ c' → b ≠ P → H' b = H b := fun b x y z => by rw [hH', upd_ne x, upd_ne y, upd_ne z]
    have gS : ∀ b o, b ≠ P → H b = some o → H' b = some o := fun b o z q => by
      rw [gO b (fun w => by rw [w, hfn] at q; cases q) (fun w => by rw [w, hcn] at q; cases q) z]; exact q
    have neP : ∀ b u, H b = some u → (∀ qs, u ≠ .tbl qs) → b ≠ P := fun b u q d w => by
      rw [w, hP] at q; cases q; exact d _ rfl
    have keep : ∀ b o, b ≠ P → s.heap.get? b = some o → (h'.push (PySem.W.kla_obj "<lambda>" (X.env.qual ++ "<lambda>") params body scope clos ((X.mg "__name__").getD .none) c' ctv)).get? b = some o := fun b o hb q => Heap.get?_push_of_some _ (hx b o hb q)
    have nP : ∀ b, H b = none → b ≠ P := fun b n w => by rw [w, hP] at n; cases n
    have U : Un X.fs [] H H' s.heap (h'.push (PySem.W.kla_obj "<lambda>" (X.env.qual ++ "<lambda>") params body scope clos ((X.mg "__name__").getD .none) c' ctv)) := by
      refine ⟨fun b o q n _ _ => keep b o (nP b n) q, fun b o q n _ _ => ⟨o.slots, keep b o (nP b n) q⟩, fun b o q n _ => ?_, fun b o q _ => ?_, fun b xs q => gS b _ (neP b _ q fun _ z => nomatch z) q, fun b o u q => gS b _ (neP b _ q fun _ z => nomatch z) q, fun b qs q => ?_⟩
      · have l := Heap.lt_size q
        rw [gO b (Nat.ne_of_lt (Nat.lt_of_lt_of_le l (Nat.le_of_lt (Nat.lt_of_le_of_lt hge hlt)))) (Nat.ne_of_lt (Nat.lt_of_lt_of_le l hge)) (nP b n)]
        exact n
      · by_cases w : b = P
        · subst w
          exact ⟨_, Heap.get?_push_of_some _ htb⟩
        · exact ⟨o, keep b o w q⟩
      · by_cases w : b = P
        · subst w
          rw [hP] at q
          cases q
          exact ⟨_, gP⟩
        · exact ⟨#[], by rw [Array.append_empty]; exact gS b _ w q⟩
    have ok : HOk X.prog X.w H' (h'.push (PySem.W.kla_obj "<lambda>" (X.env.qual ++ "<lambda>") params body scope clos ((X.mg "__name__").getD .none) c' ctv)) := fun a o q => by
      by_cases w1 : a = h'.objs.size
      · subst w1
        rw [gF] at q
        cases q
        refine lamO_ok ?_
        rw [← hfd]
        exact Heap.get?_push_size _ rfl
      by_cases w2 : a = c'
      · subst w2
        rw [gC] at q
        cases q
        exact codO_ok (hrec.push _)
      by_cases w3 : a = P
      · subst w3
        rw [gP] at q
        cases q
        exact Heap.get?_push_of_some _ htb
      rw [gO a w1 w2 w3] at q
      refine (I.hok a o q).stay (fun b u hb e => keep b u ?_ e) (fun b e => gS b _ (neP b _ e fun _ z => nomatch z) e) fun b xs e => gS b _ (neP b _ e fun _ z => nomatch z) e
      rcases hb with rfl | hb
      · exact w3
      · exact neP b _ hb fun _ z => nomatch z
    refine ⟨.ref h'.objs.size, H', I.un (t' := tk) U ok, rfl, ?_⟩
    refine h _ c' ctv H' hfn gS ⟨_, gP, ?_, fun pos' cv e => ?_⟩ (by rw [hfd]; exact gF) gC
    · rw [Array.toList_append]; exact triples_snoc _ ht
    · rw [Array.toList_append] at e
      rcases among_snoc _ ht e with e | e
      · obtain ⟨c2, e1, e2⟩ := hcs pos' cv e
        exact ⟨c2, e1, gS _ _ (neP _ _ e2 fun _ z => nomatch z) e2⟩
      · exact ⟨c', e, gC⟩
end
end L2
set_option Elab.async false
set_option linter.all false
set_option maxRecDepth 100000
set_option maxHeartbeats 4000000
namespace L2
open PySem PySem.Spec PyProof.Rows
noncomputable def lamCk (sc out : Scope) (N NX : List Str) (js : List Nat) : Bool :=
  (sc.kind == .function) && (sc.isCoroutine == false) && (sc.isGenerator == false) && (sc.names.all fun y => y.2 != .cell) && (sc.names.all fun y => y.2 != .free || (out.names.lookup y.1 == some .cell && N.contains y.1)) && (js.length == N.length) &&
  ((N.zip js).all fun p => (NX[p.2]? == some p.1) && (out.names.lookup p.1 == some .cell) && (sc.names.lookup p.1 == some .free))
theorem inj_of_nodup : ∀ {l : List (Str × Addr)}, (l.map (·.2)).Nodup → ∀ x y c, l.lookup x = some c → l.lookup y = some c → x = y := by
  intro l
  induction l with
  | nil => intro _ x y c h; cases h
  | cons q l ih =>
    intro h x y c hx hy
    rw [List.map_cons, List.nodup_cons] at h
    have mem : ∀ z, l.lookup z = some c → c ∈ l.map (·.2) := fun z hz => List.mem_map.mpr ⟨(z, c), PySem.mem_of_lookup hz, rfl⟩
    rw [List.lookup_cons] at hx hy
    cases ex : x == q.1 with
    | true =>
      rw [ex] at hx
      cases hx
      cases ey : y == q.1 with
      | true => rw [beq_iff_eq] at ex ey; rw [ex, ey]
      | false => rw [ey] at hy; exact absurd (mem y hy) h.1
    | false =>
      rw [ex] at hx
      cases ey : y == q.1 with
      | true => rw [ey] at hy; cases hy; exact absurd (mem x hx) h.1
      | false => rw [ey] at hy; exact ih h.2 x y c hx hy
section
variable {X : Cx} {sc : Scope} {N : List Str} {js : List Nat} {params : Arguments} {body : Expr} {pos : Pos} {c P : Addr}
theorem clOf_sub {env : Env} (h : ∀ y ∈ sc.names, y.2 = .free → ∃ c, env.cells.lookup y.1 = some c) {x : Str} {a : Addr} (q : (clOf sc env).lookup x = some a) : env.cells.lookup x = some a ∧ (x, NameKind.free) ∈ sc.names := by
  obtain ⟨z, hz, e⟩ := List.mem_map.mp (PySem.mem_of_lookup q)
  rw [List.mem_reverse, List.mem_filter] at hz
  have zf : z.2 = .free := by simpa using hz.2
  obtain ⟨c, hc⟩ := h z hz.1 zf
  have e1 : z.1 = x := congrArg Prod.fst e
  have e2 : (env.cells.lookup z.1).getD 0 = a := congrArg Prod.snd e
  rw [hc] at e2
  have e2 : c = a := e2
  refine ⟨by rw [← e1, hc, e2], ?_⟩
  obtain ⟨z1, z2⟩ := z
  simp only at e1 zf
  rw [← e1, ← zf]
  exact hz.1
theorem pe_lamD (L : LamCx X c P) (hck : lamCk sc X.env.scope N X.N js = true) (hdef : defaultsOf params X.env = ([], [])) : PE X (.Lambda params body sc pos) (tLam X.mg P (X.env.qual ++ "<lambda>") params body sc (clOf sc X.env)) := by
  intro pins s σ H Q I h
  simp only [lamCk, Bool.and_eq_true, List.all_eq_true, beq_iff_eq, bne_iff_ne, Bool.or_eq_true] at hck
  obtain ⟨⟨⟨⟨⟨⟨c1, c2⟩, c3⟩, c4⟩, c5⟩, c6⟩, c7⟩ := hck
  have env : ∀ y ∈ sc.names, y.2 = .free → ∃ c, X.env.cells.lookup y.1 = some c := fun y hy hf => by
    rcases c5 y hy with z | z
    · exact absurd hf z
    · exact I.ok.has y.1 (.inl z.1)
  exact pe_lam L hdef (closure_of env) pins s σ H Q I h
theorem lam_facts {σ : St} {b : Heap} {vs : List V} (hck : lamCk sc X.env.scope N X.N js = true) (hinj : (X.env.cells.map (·.2)).Nodup) (hhas : ∀ x, X.env.scope.names.lookup x = some .cell → ∃ c, X.env.cells.lookup x = some c) (hc : CellsIn X σ b)
    (hv : vs.length = js.length) (hσ : ∀ (i j : Nat) (v : V), js[i]? = some j → vs[i]? = some v → σ[j]? = some (some v)) :
    LamScope N sc (clOf sc X.env) ∧ vs.length = N.length ∧ (∀ x c, (clOf sc X.env).lookup x = some c → ∃ v, b.IsCell c v) ∧ (∀ (i : Nat) x v, N[i]? = some x → vs[i]? = some v → ∃ c u, (clOf sc X.env).lookup x = some c ∧ RelV v u ∧ b.IsCell c (some u)) := by
  simp only [lamCk, Bool.and_eq_true, List.all_eq_true, beq_iff_eq, bne_iff_ne, Bool.or_eq_true] at hck
  obtain ⟨⟨⟨⟨⟨⟨c1, c2⟩, c3⟩, c4⟩, c5⟩, c6⟩, c7⟩ := hck
  have env : ∀ y ∈ sc.names, y.2 = .free → ∃ c, X.env.cells.lookup y.1 = some c := fun y hy hf => by
    rcases c5 y hy with z | z
    · exact absurd hf z
    · exact hhas y.1 z.1
  have key : ∀ (i : Nat) x v, N[i]? = some x → vs[i]? = some v → ∃ c u, (clOf sc X.env).lookup x = some c ∧ RelV v u ∧ b.IsCell c (some u) := fun i x v e1 e2 => by
    have il : i < js.length := by rw [c6]; exact (List.getElem?_eq_some_iff.mp e1).1
    have hz : (x, js[i]) ∈ N.zip js := List.mem_of_getElem? (i := i) (by rw [List.getElem?_zip_eq_some]; exact ⟨e1, List.getElem?_eq_getElem il⟩)
    obtain ⟨⟨d1, d2⟩, d3⟩ := c7 _ hz
    obtain ⟨a, ha⟩ := clOf_has (env := X.env) (PySem.mem_of_lookup d3)
    obtain ⟨u, r, cell⟩ := hc js[i] x v a d1 (hσ i js[i] v (List.getElem?_eq_getElem il) e2) d2 (clOf_sub env ha).1
    exact ⟨a, u, ha, r, cell⟩
  refine ⟨⟨c1, c2, c3, c4, fun x hx => ?_, fun x hx => clOf_has (PySem.mem_of_lookup hx), fun x y a hx hy => inj_of_nodup hinj x y a (clOf_sub env hx).1 (clOf_sub env hy).1⟩, by rw [hv, c6], fun x a hx => ?_, key⟩
  · obtain ⟨i, hi⟩ := List.getElem?_of_mem hx
    have il : i < js.length := by rw [c6]; exact (List.getElem?_eq_some_iff.mp hi).1
    have hz : (x, js[i]) ∈ N.zip js := List.mem_of_getElem? (i := i) (by rw [List.getElem?_zip_eq_some]; exact ⟨hi, List.getElem?_eq_getElem il⟩)
    exact (c7 _ hz).2
  · obtain ⟨_, hm⟩ := clOf_sub env hx
    have hN : x ∈ N := by
      rcases c5 _ hm with z | z
      · exact absurd rfl z
      · simpa using z.2
    obtain ⟨i, hi⟩ := List.getElem?_of_mem hN
    have il : i < vs.length := by rw [hv, c6]; exact (List.getElem?_eq_some_iff.mp hi).1
    obtain ⟨a', u, h1, _, h2⟩ := key i x vs[i] hi (List.getElem?_eq_getElem il)
    rw [hx] at h1
    cases h1
    exact ⟨_, h2⟩
end
theorem fn_okC {Pr : Program} {w : World} {K : PySem.W.Frag} {mg : Str → Option Value} {base : Heap} {x qual : Str} {st : Stmt} {f c : Addr} {oc kV doc pm ct : Value} {od an : Option Addr} {osl : Array (Option Value)} {N ps : List Str} {k : Nat} {sp : Sp}
    (lk : K.lookup f = some ⟨oc, od, .func (PySem.W.fnOf x qual (defArgs st) (defBody st) (defScope st) .none kV doc pm an (.ref c) ct), osl⟩) (hcd : PySem.W.codeIn K (.ref c) qual = true) (S : FnScope N ps (defScope st)) (len : ∀ vs H Q E, sp vs H Q E → vs.length = ps.length)
    (hbody : ∀ (A : Around) (outer : List Env) (s : Shared) (H : Hp) (vs : List V) (Q : VK) (E : XK), Room k (A.deeper (envOfC qual (defScope st) s.heap.objs.size f (.ref c))) → sp vs H Q E →
      ∃ t, PSs (cxOf CX0 Pr w K mg base N qual (defScope st) f (.ref c) A outer s H E).nox (defBody st) t ∧ t { nx := fun _ H' => Q .non H', rt := Q } (start N vs) H) :
    FnOk Pr w K mg base CX0 (k + 1) f (PySem.W.fnOf x qual (defArgs st) (defBody st) (defScope st) .none kV doc pm an (.ref c) ct) ps sp := by
  refine fn_of lk hcd S len fun A outer s H vs Q E hr hsp => ?_
  obtain ⟨t, h, q⟩ := hbody A outer s H vs Q E hr hsp
  exact ⟨t, h.nox, q⟩
theorem lam_binds {K : PySem.W.Frag} {qual : Str} {body : Expr} {scope : Scope} {cl : List (Str × Addr)} {pm cd ctv : Value} {params : Arguments} (hp : ∀ pm cd ctv, bindArgs (PySem.W.kla_fn "<lambda>" qual params body scope cl pm cd ctv) ⟨[], []⟩ = pure []) : Binds K (PySem.W.kla_fn "<lambda>" qual params body scope cl pm cd ctv) [] [] := fun s us _ hl => by
  cases us with
  | nil => exact .of_eq (hp pm cd ctv)
  | cons u us => simp at hl
theorem TabOk.kept {H H' : Hp} {P : Addr} {q : Str} (h : TabOk H P q) (k : ∀ b o, H b = some o → (∀ xs, o ≠ .lst xs) → H' b = some o) : TabOk H' P q := by
  obtain ⟨ps, h1, h2, h3⟩ := h
  refine ⟨ps, k _ _ h1 (fun _ z => nomatch z), h2, fun pos cv e => ?_⟩
  obtain ⟨c, e1, e2⟩ := h3 pos cv e
  exact ⟨c, e1, k _ _ e2 (fun _ z => nomatch z)⟩
theorem TabOk.same {H H' : Hp} {P : Addr} {q : Str} (h : TabOk H P q) (s : Same H H') : TabOk H' P q := h.kept fun b o e _ => s b o e
theorem tabOk_new {H : Hp} {P : Addr} {q : Str} (h : H P = some (.tbl #[])) : TabOk H P q := ⟨#[], h, trivial, fun pos cv e => by simp [codeAmong] at e⟩
theorem SameX.refl (P : Addr) (H : Hp) : SameX P H H := fun _ _ _ e => e
theorem SameX.trans {P : Addr} {H H1 H2 : Hp} (a : SameX P H H1) (b : SameX P H1 H2) : SameX P H H2 := fun c o hc e => b c o hc (a c o hc e)
theorem SameX.of {P : Addr} {H H1 : Hp} (s : Same H H1) : SameX P H H1 := fun c o _ e => s c o e
theorem SameX.seq {K : PySem.W.Frag} {P a : Addr} {H H' : Hp} {ps : Array Value} {xs : List V} (hP : H P = some (.tbl ps)) (s : SameX P H H') (h : SqL K H a xs) : SqL K H' a xs := by
  rcases h with (h | ⟨o, h⟩) | h
  · exact .inl (.inl (s _ _ (fun z => by rw [z, hP] at h; cases h) h))
  · exact .inl (.inr ⟨o, s _ _ (fun z => by rw [z, hP] at h; cases h) h⟩)
  · exact .inr h
theorem cells_nodup : ∀ (ns : List (Str × NameKind)) (n : Nat) (acc : List (Str × Addr)), (acc.map (·.2)).Nodup → (∀ y ∈ acc, y.2 < n) → ((cellsFrom n ns acc).map (·.2)).Nodup
  | [], n, acc, h, _ => by rw [cellsFrom.eq_def]; exact h
  | (x, k) :: r, n, acc, h, hb => by
    rw [cellsFrom.eq_def]
    dsimp only
    split
    · refine cells_nodup r (n + 1) _ ?_ fun y hy => ?_
      · rw [List.map_cons, List.nodup_cons]
        refine ⟨fun hm => ?_, h⟩
        obtain ⟨y, hy, e⟩ := List.mem_map.mp hm
        have := hb y hy
        have e : y.2 = n := e
        rw [e] at this
        exact absurd this (Nat.lt_irrefl _)
      · rcases List.mem_cons.mp hy with rfl | hy
        · exact Nat.lt_succ_self _
        · exact Nat.lt_succ_of_lt (hb y hy)
    · exact cells_nodup r n acc h hb
end L2
set_option Elab.async false
set_option linter.all false
set_option maxRecDepth 100000
set_option maxHeartbeats 4000000
namespace L2
open PySem PySem.Spec PyProof.Rows
section
variable {X : Cx} {e : Expr} {te : TE} {pos p1 p2 p3 : Pos} {kk : Nat}
noncomputable def tRev (K : PySem.W.Frag) (te : TE) : TE := fun σ H Q => te σ H fun x H1 => ∃ a xs, x = .ref a ∧ SqL K H1 a xs ∧ ∀ p, H1 p = none → Q (.ref p) (upd H1 p (.lst xs.reverse))
end
end L2
set_option Elab.async false
set_option linter.all false
set_option maxRecDepth 100000
set_option maxHeartbeats 4000000
namespace L2
open PySem PySem.Spec PyProof.Rows
mutual
noncomputable def toPy : Dt → PyData
  | .non => .none
  | .bl b => .bool b
  | .int i => .int i
  | .str x => .str x
  | .tup ds => .tuple (toPyL ds)
  | .lst ds => .list (toPyL ds)
noncomputable def toPyL : List Dt → List PyData
  | [] => []
  | d :: ds => toPy d :: toPyL ds
end
mutual
noncomputable def okD : Dt → Bool
  | .int i => decide (i.natAbs < 10 ^ 100)
  | .str x => x.cps.toList.all fun c => decide (c < 16 ^ 8)
  | .tup ds => okDL ds
  | .lst ds => okDL ds
  | .non => true
  | .bl _ => true
noncomputable def okDL : List Dt → Bool
  | [] => true
  | d :: ds => okD d && okDL ds
end
mutual
noncomputable def lenD : Dt → Nat
  | .non => 4
  | .bl _ => 5
  | .int _ => 101
  | .str x => 10 * x.length + 2
  | .tup ds => lenDL ds + 3
  | .lst ds => lenDL ds + 3
noncomputable def lenDL : List Dt → Nat
  | [] => 0
  | d :: ds => lenD d + 2 + lenDL ds
end
mutual
theorem toPy_show : ∀ d : Dt, okD d = true → (toPy d).showable = true
  | .non, _ => rfl
  | .bl _, _ => rfl
  | .int i, h => by
    have h' : i.natAbs < 10 ^ 100 := of_decide_eq_true (show decide (i.natAbs < 10 ^ 100) = true from h)
    have := log2_small h'
    show decide (i.natAbs.log2 < 1920) = true
    exact decide_eq_true (by omega)
  | .str _, _ => rfl
  | .tup ds, h => toPyL_show ds h
  | .lst ds, h => toPyL_show ds h
theorem toPyL_show : ∀ ds : List Dt, okDL ds = true → PyData.showableAll (toPyL ds) = true
  | [], _ => rfl
  | d :: ds, h => by
    obtain ⟨h1, h2⟩ := Bool.and_eq_true_iff.mp (show (okD d && okDL ds) = true from h)
    show ((toPy d).showable && PyData.showableAll (toPyL ds)) = true
    rw [toPy_show d h1, toPyL_show ds h2]; rfl
end
mutual
theorem toPy_dict : ∀ d : Dt, (toPy d).hasDict = false
  | .non => rfl
  | .bl _ => rfl
  | .int i => rfl
  | .str _ => rfl
  | .tup ds => toPyL_dict ds
  | .lst ds => toPyL_dict ds
theorem toPyL_dict : ∀ ds : List Dt, PyData.hasDictAll (toPyL ds) = false
  | [] => rfl
  | d :: ds => by
    show ((toPy d).hasDict || PyData.hasDictAll (toPyL ds)) = false
    rw [toPy_dict d, toPyL_dict ds]; rfl
end
mutual
theorem toPy_depth : ∀ d : Dt, (toPy d).depth = dep d
  | .non => rfl
  | .bl _ => rfl
  | .int i => rfl
  | .str _ => rfl
  | .tup ds => by show PyData.depthAll (toPyL ds) + 1 = depL ds + 1; rw [toPyL_depth ds]
  | .lst ds => by show PyData.depthAll (toPyL ds) + 1 = depL ds + 1; rw [toPyL_depth ds]
theorem toPyL_depth : ∀ ds : List Dt, PyData.depthAll (toPyL ds) = depL ds
  | [] => rfl
  | d :: ds => by
    show max (toPy d).depth (PyData.depthAll (toPyL ds)) = max (dep d) (depL ds)
    rw [toPy_depth d, toPyL_depth ds]
end
mutual
theorem toPy_len : ∀ d : Dt, okD d = true → (toPy d).shown.length ≤ lenD d
  | .non, _ => by show (PyData.shown .none).length ≤ 4; decide
  | .bl b, _ => by show (PyData.shown (.bool b)).length ≤ 5; cases b <;> decide
  | .int i, h => by
    have h' : i.natAbs < 10 ^ 100 := of_decide_eq_true (show decide (i.natAbs < 10 ^ 100) = true from h)
    exact toStr_len h'
  | .str x, h => by
    have hx : ∀ c ∈ x.cps.toList, c < 16 ^ 8 := by
      have h' : (x.cps.toList.all fun c => decide (c < 16 ^ 8)) = true := h
      simpa only [List.all_eq_true, decide_eq_true_eq] using h'
    exact StrLaws.reprText_len x hx
  | .tup ds, h => by
    have h1 := toPyL_len ds h
    have h2 := tupleText_len_le (PyData.shownAll (toPyL ds))
    have h3 := PyData.shownAll_length (toPyL ds)
    show (tupleText (PyData.shownAll (toPyL ds))).length ≤ lenDL ds + 3
    omega
  | .lst ds, h => by
    have h1 := toPyL_len ds h
    have h2 := listText_len_le (PyData.shownAll (toPyL ds))
    have h3 := PyData.shownAll_length (toPyL ds)
    show (listText (PyData.shownAll (toPyL ds))).length ≤ lenDL ds + 3
    omega
theorem toPyL_len : ∀ ds : List Dt, okDL ds = true → ((PyData.shownAll (toPyL ds)).map (·.length)).sum + 2 * (toPyL ds).length ≤ lenDL ds
  | [], _ => Nat.le_refl _
  | d :: ds, h => by
    obtain ⟨h1, h2⟩ := Bool.and_eq_true_iff.mp (show (okD d && okDL ds) = true from h)
    have e1 := toPy_len d h1
    have e2 := toPyL_len ds h2
    show (((toPy d).shown :: PyData.shownAll (toPyL ds)).map (·.length)).sum + 2 * (toPy d :: toPyL ds).length ≤ lenD d + 2 + lenDL ds
    simp only [List.map_cons, List.sum_cons, List.length_cons]
    omega
end
section
variable {X : Cx} {pins : List (Addr × Obj)} {σ : St} {H : Hp} {s : Shared}
mutual
theorem reads_D (I : Inv X pins σ H s) : ∀ (d : Dt) {v : V} {u : Value}, Rep X.K H d v → RelV v u → ∃ as, Reads s.heap u (toPy d) as
  | .non, v, u, h, r => by cases (show v = .non from h); cases r; exact ⟨_, .none⟩
  | .bl b, v, u, h, r => by cases (show v = .bl b from h); cases r; exact ⟨_, .bool b⟩
  | .int b, v, u, h, r => by cases (show v = .int b from h); obtain ⟨t, rfl⟩ := r; exact ⟨_, .int b t⟩
  | .str b, v, u, h, r => by cases (show v = .str b from h); obtain ⟨t, rfl⟩ := r; exact ⟨_, .str b t⟩
  | .tup ds, v, u, h, r => by
    obtain ⟨a, xs, rfl, h1, h2⟩ := (show ∃ a xs, v = .ref a ∧ SqT X.K H a xs ∧ RepL X.K H ds xs from h)
    cases r
    obtain ⟨its, r1, ⟨o, e1, e2, n, e3⟩, _⟩ := I.tuple h1
    obtain ⟨as, ra⟩ := reads_DL I ds h2 r1
    exact ⟨_, .tuple e1 e2 e3 ra⟩
  | .lst ds, v, u, h, r => by
    obtain ⟨a, xs, rfl, h1, h2⟩ := (show ∃ a xs, v = .ref a ∧ SqL X.K H a xs ∧ RepL X.K H ds xs from h)
    cases r
    obtain ⟨its, r1, ⟨o, n, e1, e2, _, e3⟩, _⟩ := I.list h1
    obtain ⟨as, ra⟩ := reads_DL I ds h2 r1
    exact ⟨_, .list e1 e2 e3 ra⟩
theorem reads_DL (I : Inv X pins σ H s) : ∀ (ds : List Dt) {xs : List V} {us : List Value}, RepL X.K H ds xs → Vals xs us → ∃ as, ReadsAll s.heap us (toPyL ds) as
  | [], xs, us, h, r => by cases (show xs = [] from h); cases r; exact ⟨_, .nil⟩
  | d :: ds, xs, us, h, r => by
    obtain ⟨x, y, rfl, h1, h2⟩ := (show ∃ x r, xs = x :: r ∧ Rep X.K H d x ∧ RepL X.K H ds r from h)
    cases r with
    | cons r1 r2 =>
      obtain ⟨as, q1⟩ := reads_D I d h1 r1
      obtain ⟨bs, q2⟩ := reads_DL I ds h2 r2
      exact ⟨_, .cons q1 q2⟩
end
end
noncomputable def shD (d : Dt) : Str := (toPy d).shown
noncomputable def isScB : Dt → Bool
  | .bl _ => true
  | .str _ => true
  | _ => false
noncomputable def rReprD (K : PySem.W.Frag) : List V → Hp → VK → Prop := fun vs H Q => ∃ x d, vs = [x] ∧ Rep K H d x ∧ okD d = true ∧ isScB d = false ∧ lenD d ≤ 1000000 ∧ dep d ≤ 100 ∧ Q (.str (shD d)) H
theorem call_reprD {X : Cx} (hg : X.A.guards = some []) (hu : X.A.units + 150 < cLine) : CallR X (.builtin "repr") (rReprD X.K) := by
  intro pins s σ H xs us Q I r h
  obtain ⟨x, d, rfl, hd, ho, hb, hl, hp, q⟩ := h
  obtain ⟨u, rfl, rx⟩ := vals1 r
  have hlen : (toPy d).shown.length ≤ sizeLine := Nat.le_trans (toPy_len d ho) (Nat.le_trans hl (by decide))
  have go : ∀ a, u = .ref a → wpAny (model X.prog X.w) X.A (call (.builtin "repr") [u]) (EP X pins σ Q) X.xe s := fun a e => by
    subst e
    obtain ⟨as, R⟩ := reads_D I d hd rx
    refine repr_of_reads' R (toPy_show d ho) (PyData.noDict_hsm (toPy_dict d)) hg (by rw [toPy_depth d]; omega) (fun _ _ e => e) (fun h' u' tk hk => ?_) hlen
    exact ⟨.str (shD d), H, I.kept (t' := tk) hk, ⟨_, rfl⟩, q⟩
  cases d with
  | non =>
    cases (show x = .non from hd)
    cases rx
    exact PySem.P.repr_of_none ⟨.str _, H, I.tok _, ⟨_, rfl⟩, q⟩
  | int i =>
    cases (show x = .int i from hd)
    obtain ⟨t, rfl⟩ := rx
    have h' : i.natAbs < 10 ^ 100 := of_decide_eq_true (show decide (i.natAbs < 10 ^ 100) = true from ho)
    have := log2_small h'
    exact PySem.P.repr_of_int (by omega) ⟨.str _, H, I.tok _, ⟨_, rfl⟩, q⟩
  | bl b => cases hb
  | str b => cases hb
  | tup ds =>
    obtain ⟨a, xs, rfl, _⟩ := (show ∃ a xs, x = .ref a ∧ SqT X.K H a xs ∧ RepL X.K H ds xs from hd)
    cases rx
    exact go a rfl
  | lst ds =>
    obtain ⟨a, xs, rfl, _⟩ := (show ∃ a xs, x = .ref a ∧ SqL X.K H a xs ∧ RepL X.K H ds xs from hd)
    cases rx
    exact go a rfl
end L2
set_option Elab.async false
set_option linter.all false
set_option maxRecDepth 100000
set_option maxHeartbeats 4000000
namespace L2
open PySem PySem.Spec PyProof.Rows
section
variable {X : Cx} {tg iter elt : Expr} {ifs : List Expr} {scope : Scope} {pos : Pos} {wi : TI} {N : List Str} {cl : List (Str × Addr)} {js : List (Option Nat)} {g : TG} {tt : Heap → TT} {te : Heap → TE}
theorem ps_setC {iv : Nat} {y : Str} {py spos : Pos} (hN : X.N.Nodup) (hin : X.N[iv]? = some y) (hx : Loc X.env.scope y) (S : CompScopeC X scope N cl js) (hc : X.calm = true) (hfn : ∀ x, X.fn x = true) (hi : PI X tg iter wi) (hclos : closureFor scope X.env = pure cl) (hg : ∀ b C fp s H, PG (cxCompC X b N scope cl C fp s H) tg g) (hif : ∀ b C fp s H, PIfs (cxCompC X b N scope cl C fp s H) ifs (tt b)) (he : ∀ b C fp s H, PE (cxCompC X b N scope cl C fp s H) elt (te b))
    (hsw : swapsWith (.ListComp elt [⟨tg, iter, ifs, 0⟩] scope pos) (some (.Name y py)) spos.line X.env = pure true := by rfl) (hs : ∀ x, foldedSetIterable iter X.env x = pure x := by intro _; rfl) : PS X (.Assign [.Name y py] (.ListComp elt [⟨tg, iter, ifs, 0⟩] scope pos) spos) (tAsg (tCompC X js wi g tt te) (gName iv)) := by
  intro pins s σ H Dd I h
  rw [exec_Assign_Name_used _ _ _ _ hsw]
  refine wpAny_bind (wpAny_standAt (wpAny_bind ?_))
  show wpAny _ X.A (do let _ ← comprehension (.ListComp elt [⟨tg, iter, ifs, 0⟩] scope pos) scope X.env _ (newList []) false (eval iter X.env) (some (assign (.Name y py) X.env))) _ _ s
  refine wpAny_bind (wpAny_mono (wpAny_comprehension_free (use := some (assign (.Name y py) X.env)) (Q := fun _ s' => SP X pins Dd .next s') rfl hs hclos S.kind S.nm (thn (hi pins s σ H _ I h) fun v s1 h1 => thn h1 fun itv s2 h2 => ?_)) (fun _ s' hq => wpAny_pure (wpAny_pure hq)) fun _ _ e => e)
  obtain ⟨it, fp, tn, J, H2, e, I2, T, st2, f2, R⟩ := h2
  subst e
  have hD : H2 s2.heap.objs.size = none := I2.fresh
  have old : ∀ b o, s2.heap.get? b = some o → (s2.heap.push { cls := .type "list", data := .seq ([] : List Value).toArray }).get? b = some o := fun b o q => Heap.get?_push_of_some _ q
  have I3 : Inv X pins σ (upd H2 s2.heap.objs.size (.lst [])) { s2 with heap := s2.heap.push { cls := .type "list", data := .seq ([] : List Value).toArray } } := I2.lnew (t' := s2.toks) (ys := []) (its := []) .nil (Nat.zero_le _)
  have fo : ∀ b ∈ fp, ∃ o, (s2.heap.push { cls := .type "list", data := .seq ([] : List Value).toArray }).get? b = some o := fun b hb => by
    obtain ⟨o, q, _⟩ := T.obj _ _ st2 b hb
    exact ⟨o, old b o q⟩
  have fne : ∀ b ∈ fp, b ≠ s2.heap.objs.size := fun b hb => by
    obtain ⟨o, q, _⟩ := T.obj _ _ st2 b hb
    exact Nat.ne_of_lt (Heap.lt_size q)
  have f3 : ∀ b ∈ fp, FpOk X pins (upd H2 s2.heap.objs.size (.lst [])) b := fun b hb => ⟨by rw [upd_ne (fne b hb)]; exact (f2 b hb).1, (f2 b hb).2⟩
  have st3 : tn 0 (s2.heap.push { cls := .type "list", data := .seq ([] : List Value).toArray }) := T.keep _ _ _ st2 fun b _ o q => old b o q
  refine wpAny_newObj_type (wpAny_newFunctionEnv S.nocell (fun y hy => by simp at hy) (fun h₁ hns hsb => ?_) S.kind)
  obtain ⟨s3, hs3⟩ : ∃ s3 : Shared, s3 = { s2 with heap := s2.heap.push { cls := .type "list", data := .seq ([] : List Value).toArray } } := ⟨_, rfl⟩
  obtain ⟨H3, hH3⟩ : ∃ H3, H3 = upd H2 s2.heap.objs.size (.lst []) := ⟨_, rfl⟩
  rw [← hs3, ← hH3] at I3
  rw [← hH3] at f3
  have hh3 : s3.heap = s2.heap.push { cls := .type "list", data := .seq ([] : List Value).toArray } := by rw [hs3]
  have hk₁ : ∀ b o, s3.heap.get? b = some o → h₁.get? b = some o := fun b o q => by
    rw [hh3] at q
    exact hsb.extBut b o (Nat.ne_of_lt (Heap.lt_size q)) (Heap.get?_push_of_some _ q)
  have hns' : h₁.Ns s3.heap.objs.size (fun _ => none) := by rw [hh3]; exact hns
  obtain ⟨W, ⟨m0, w0⟩, turn⟩ := R (hidS s3.heap H3 (frs X.stack ++ fp)) s2.heap.objs.size (fun i x v c e1 e2 e3 e4 => by
    obtain ⟨u, r, o, q, d⟩ := I3.cellsIn hfn i x v c e1 e2 e3 e4
    obtain ⟨q1, q2⟩ := of_hidS q
    refine ⟨u, r, o, hidS_get q1 q2 fun hm => ?_, d⟩
    rcases List.mem_append.mp hm with hm | hm
    · have z : (hidS s3.heap H3 (frs X.stack)).get? c = none := PySem.W.hideAll_none _ (List.mem_append_right _ hm)
      rw [z] at q; cases q
    · exact (f3 c hm).2.2.2.2.1 x c e4 rfl) hD
  rw [← hH3] at w0
  have J0 := inv_compC (js := js) (N := N) (scope := scope) (h1 := h₁) (tk := s2.toks + ([] : List (Str × Value)).length) S hc hfn I3 f3 (fun b hb => by rw [hh3]; exact fo b hb) hns' hk₁
  have st4 : tn 0 h₁ := T.keep _ _ _ st3 fun b hb o q => hk₁ b o (by rw [hh3]; exact q)
  have loop : ∀ s4 : Shared, s4 = { s3 with heap := h₁, toks := s2.toks + ([] : List (Str × Value)).length } →
      codeAny (model X.prog X.w) X.A (.compLoop (.ListComp elt [⟨tg, iter, ifs, 0⟩] scope pos) 0 (.ref it) (.ref s2.heap.objs.size) (compEnvC scope cl s3.heap.objs.size X.env))
        (compPost (model X.prog X.w) X.A X.xe (some (assign (.Name y py) X.env)) (fun _ s' => SP X pins Dd .next s') (.ref s2.heap.objs.size) s3.heap.objs.size) s4 := by
    rintro s4 rfl
    have stat : ∀ {H' : Hp}, (∀ b ∈ fp, H' b = none) → ∀ b ∈ fp, FpOk (cxCompC X (hidS s3.heap H3 (frs X.stack ++ fp)) N scope cl s3.heap.objs.size fp s3 H3) [] H' b := fun hn b hb =>
      ⟨hn b hb, by
        obtain ⟨o, q⟩ := fo b hb
        exact Nat.ne_of_lt (Heap.lt_size (by rw [hh3]; exact q)), J0.ok.exfs b hb, .inl hb, fun y c q => (J0.ok.exf b hb).2 y c q, fun p hp => absurd (show p ∈ ([] : List (Addr × Obj)) from hp) (by simp)⟩
    refine compLoop_ifs (fun n s' => ∃ i σ' H', Inv (cxCompC X (hidS s3.heap H3 (frs X.stack ++ fp)) N scope cl s3.heap.objs.size fp s3 H3) [] σ' H' s' ∧ tn i s'.heap ∧ (∀ b ∈ fp, H' b = none) ∧ W i n σ' H') ?_ m0 ⟨0, _, H3, J0, st4, fun b hb => (f3 b hb).1, w0⟩
    rintro n s5 ⟨i, σ5, H5, I5, st5, fr5, w5⟩
    rcases turn i n σ5 H5 w5 with ⟨stop, qn⟩ | ⟨go, Nx, hN, step⟩
    · refine wpAny_mono (T.done (cxCompC X (hidS s3.heap H3 (frs X.stack ++ fp)) N scope cl s3.heap.objs.size fp s3 H3) rfl rfl rfl rfl i [] s5 σ5 H5 (fun _ _ => False) I5 (stat fr5) st5 stop) (fun r s6 ⟨hr, I6⟩ => ?_) fun _ _ z => z
      subst hr
      obtain ⟨m6, n6, _⟩ := id I6.loc
      have neC : ∀ b o, s3.heap.get? b = some o → b ≠ s3.heap.objs.size := fun b o q => Nat.ne_of_lt (Heap.lt_size q)
      have B := I6.base
      have ne : ∀ b u, H5 b = some u → b ≠ s3.heap.objs.size := fun b u q z => by
        have fr : H5 s3.heap.objs.size = none := I6.free
        rw [z, fr] at q; cases q
      have IX : Inv X pins σ H5 s6 := by
        refine I3.call' (s' := s6) (ch := fp) I6.os ⟨fun b o q n hb hx => B.keep b o q n hb hx, fun b o q n hb hx => ?_, B.free, fun b o q hx => ?_, B.tups, B.frzs, B.tbls⟩ I6.hok I6.bare fun b hb => ⟨(f3 b hb).2.2.2.1, (f3 b hb).2.1, (f3 b hb).2.2.2.2.1, (f3 b hb).2.2.2.2.2⟩
        · exact B.slot b o q n hb hx
        · exact B.there b o q hx
      have clt : ∀ x c, X.env.cells.lookup x = some c → c ≠ s3.heap.objs.size := fun x c q => by
        obtain ⟨v, o, ho, _⟩ := I3.cell x c q
        exact neC c o ho
      show wpAny _ X.A (assign (.Name y py) X.env (.ref s2.heap.objs.size)) _ X.xe s6
      refine wpAny_assign_Name (store_ok2 (v := .ref s2.heap.objs.size) IX hN hin hx rfl (fun s7 I7 ⟨a, sb, ha⟩ => ⟨m6, n6.sameBut sb (fun z => ?_), fun h' hs' => ⟨σ.set iv (some (.ref s2.heap.objs.size)), H5, ?_, qn⟩⟩) (.inl (hfn y)))
      · rcases ha with e | e
        · exact absurd (e.symm.trans z.symm) (Nat.ne_of_lt I3.lt)
        · exact clt _ _ e z.symm
      · refine I7.call' (s' := { s7 with heap := h' }) (ch := [s3.heap.objs.size]) rfl ⟨fun b o q n hb hx => (hs'.2 b (fun z => hx (by rw [z]; exact List.mem_cons_self))).trans q, fun b o q n hb hx => ⟨o.slots, (hs'.2 b (fun z => hx (by rw [z]; exact List.mem_cons_self))).trans q⟩, fun b o q n hx => n, fun b o q hx => ⟨o, (hs'.2 b (fun z => hx (by rw [z]; exact List.mem_cons_self))).trans q⟩, fun _ _ z => z, fun _ _ _ z => z, fun b ps z => ⟨#[], by simpa using z⟩⟩ (fun a o q => ?_) I7.bare fun b hb => ?_
        · refine (I7.hok a o q).stay (fun b u hb q' => (hs'.2 b ?_).trans q') (fun _ z => z) fun _ _ z => z
          rcases hb with z | z
          · exact ne b o (z ▸ q)
          · exact ne b _ z
        · have eb : b = s3.heap.objs.size := by simpa using hb
          subst eb
          refine ⟨.inr I3.sz, fun z => ?_, fun x c q z => clt x c q z, fun p hp z => neC _ _ (I3.pin p hp).1 z⟩
          exact absurd z.symm (Nat.ne_of_lt I3.lt)
    · refine wpAny_mono (T.item (cxCompC X (hidS s3.heap H3 (frs X.stack ++ fp)) N scope cl s3.heap.objs.size fp s3 H3) rfl rfl rfl rfl i [] s5 σ5 H5 (fun _ _ => False) I5 (stat fr5) st5 go) (fun r s6 ⟨u, hr, h6⟩ => ?_) fun _ _ z => z
      subst hr
      refine wpAny_mono h6 (fun _ s7 ⟨x, H7, I7, r7, y7, st7, fr7⟩ => ?_) fun _ _ z => z
      have I7' := I7.pinned (stat fr7) (T.obj _ _ st7)
      refine wpAny_mono (hg _ _ _ _ _ _ s7 σ5 H7 x u _ I7' r7 (step x H7 y7)) (fun _ s8 ⟨σ8, H8, I8, q8⟩ => ?_) fun _ _ z => z
      have fin : ∀ (s8 : Shared) (H8 : Hp), Inv _ _ σ8 H8 s8 → (∃ m', m' < n ∧ W (i + 1) m' σ8 H8) → ∃ m, m < n ∧ (∃ i σ' H', Inv (cxCompC X (hidS s3.heap H3 (frs X.stack ++ fp)) N scope cl s3.heap.objs.size fp s3 H3) [] σ' H' s8 ∧ tn i s8.heap ∧ (∀ b ∈ fp, H' b = none) ∧ W i m σ' H') := fun s8 H8 I10 ⟨m', hm, w9⟩ => by
        refine ⟨m', hm, i + 1, σ8, _, I10.unpinned, T.keep _ _ _ st7 fun b hb o q => (I10.pin (b, o) (List.mem_append_right _ (List.mem_append_right _ (mem_pinsAt hb q)))).1, fun b hb => ?_, w9⟩
        obtain ⟨o, q, d⟩ := T.obj _ _ st7 b hb
        exact (I10.pin (b, o) (List.mem_append_right _ (List.mem_append_right _ (mem_pinsAt hb q)))).2.1
      have rest : ∀ (ok : Bool) (s8 : Shared) (H8 : Hp), Inv _ _ σ8 H8 s8 → (if ok = true then te (hidS s3.heap H3 (frs X.stack ++ fp)) σ8 H8 fun y H4 => ∃ ys, H4 s2.heap.objs.size = some (.lst ys) ∧ ys.length < sizeLine ∧ Nx σ8 (upd H4 s2.heap.objs.size (.lst (ys ++ [y]))) else Nx σ8 H8) →
          (if ok = true then wpAny (model X.prog X.w) X.A (eval elt (compEnvC scope cl s3.heap.objs.size X.env)) (fun x s₄ =>
              wpAny (model X.prog X.w) X.A (call (.builtin "list.append") [.ref s2.heap.objs.size, x]) (fun _ s₅ => ∃ m, m < n ∧ (∃ i σ' H', Inv (cxCompC X (hidS s3.heap H3 (frs X.stack ++ fp)) N scope cl s3.heap.objs.size fp s3 H3) [] σ' H' s₅ ∧ tn i s₅.heap ∧ (∀ b ∈ fp, H' b = none) ∧ W i m σ' H')) (fun _ _ => False) s₄) (fun _ _ => False) s8
            else ∃ m, m < n ∧ (∃ i σ' H', Inv (cxCompC X (hidS s3.heap H3 (frs X.stack ++ fp)) N scope cl s3.heap.objs.size fp s3 H3) [] σ' H' s8 ∧ tn i s8.heap ∧ (∀ b ∈ fp, H' b = none) ∧ W i m σ' H')) := fun ok s8 H8 I8 q8 => by
        cases ok with
        | false => exact fin s8 H8 I8 (hN _ _ q8)
        | true =>
          refine wpAny_mono (he _ _ _ _ _ _ s8 σ8 H8 _ I8 q8) (fun y s9 ⟨vy, H9, I9, ry, ys, hD9, hz, w9⟩ => ?_) fun _ _ z => z
          obtain ⟨z, its, nn, rr, hl, eo⟩ := I9.lstM hD9
          refine append_at (hsz := by rw [List.size_toArray]; omega) eo fun h10 hs10 hD10 => ?_
          have I10 : Inv _ _ σ8 (upd H9 s2.heap.objs.size (.lst (ys ++ [vy]))) { s9 with heap := h10, toks := s9.toks } := I9.write (x := s2.heap.objs.size) (e := s2.heap.objs.size) (o := .lst (ys ++ [vy])) (by rw [hD9]; exact trivial) (.inl rfl) (fun b o hb q => hs10.extBut b o hb q) ⟨_, hD10⟩
            ⟨by rw [List.length_append, List.length_singleton]; omega, its ++ [y], nn + 1, rr.append (.cons ry .nil), by rw [hD10, List.push_toArray]⟩
          exact fin _ _ I10 (hN _ _ w9)
      have hI := hif (hidS s3.heap H3 (frs X.stack ++ fp)) s3.heap.objs.size fp s3 H3
      match ifs, hI with
      | [], hI => exact rest true s8 H8 I8 (hI _ _ _ q8)
      | [c], hI => exact wpAny_mono (hI _ s8 σ8 H8 _ I8 q8) (fun ok s9 ⟨H9, I9, q9⟩ => rest ok s9 H9 I9 q9) fun _ _ z => z
      | _ :: _ :: _, hI => exact hI.elim
  have e4 : ({ ({ s2 with heap := s2.heap.push { cls := .type "list", data := .seq ([] : List Value).toArray } } : Shared) with heap := h₁, toks := s2.toks + ([] : List (Str × Value)).length } : Shared) = { s3 with heap := h₁, toks := s2.toks + ([] : List (Str × Value)).length } := by rw [hs3]
  have lp := loop _ e4
  have eC : s3.heap.objs.size = (s2.heap.push { cls := .type "list", data := .seq ([] : List Value).toArray }).objs.size := by rw [hh3]
  rw [eC] at lp
  exact codeAny_compStart_list lp (T.self _ 0 _ _ _ st4 lp)
theorem ps_setD {iv : Nat} {y : Str} {py spos : Pos} (hN : X.N.Nodup) (hin : X.N[iv]? = some y) (hx : Loc X.env.scope y) (hcb : compOk scope X.env.scope N X.N js = true) (hc : X.calm = true) (hfn : ∀ x, X.fn x = true) (hi : PI X tg iter wi)
    (hg : ∀ b C fp s H, PG (cxCompC X b N scope (clOf scope X.env) C fp s H) tg g) (hif : ∀ b C fp s H, PIfs (cxCompC X b N scope (clOf scope X.env) C fp s H) ifs (tt b)) (he : ∀ b C fp s H, PE (cxCompC X b N scope (clOf scope X.env) C fp s H) elt (te b))
    (hsw : swapsWith (.ListComp elt [⟨tg, iter, ifs, 0⟩] scope pos) (some (.Name y py)) spos.line X.env = pure true := by rfl) (hs : ∀ x, foldedSetIterable iter X.env x = pure x := by intro _; rfl) : PS X (.Assign [.Name y py] (.ListComp elt [⟨tg, iter, ifs, 0⟩] scope pos) spos) (tAsg (tCompC X js wi g tt te) (gName iv)) := by
  intro pins s σ H Q I h
  simp only [compOk, Bool.and_eq_true, List.all_eq_true, beq_iff_eq, bne_iff_ne, Bool.or_eq_true] at hcb
  obtain ⟨⟨⟨⟨⟨c1, c2⟩, c3⟩, c4⟩, c5⟩, c6⟩ := hcb
  have env : ∀ y ∈ scope.names, y.2 = .free → ∃ c, X.env.cells.lookup y.1 = some c := fun y hy hf => by
    rcases c4 y hy with z | z
    · exact absurd hf z
    · exact I.ok.has y.1 (.inl z)
  have S : CompScopeC X scope N (clOf scope X.env) js := by
    refine ⟨c1, c2, fun y hy hl => ?_, fun y hy hf => ?_, fun y hy => ?_, c5, fun p hp j hj => ?_⟩
    · rcases c3 y hy with z | z
      · exact absurd hl z
      · exact z
    · exact clOf_has (by obtain ⟨a, b⟩ := y; cases hf; exact hy)
    · obtain ⟨z, hz, rfl⟩ := List.mem_map.mp hy
      rw [List.mem_reverse, List.mem_filter] at hz
      obtain ⟨c, hc⟩ := env z hz.1 (by simpa using hz.2)
      simp only [hc, Option.getD_some]
    · have := c6 p hp
      rw [hj] at this
      simp only [Bool.and_eq_true, beq_iff_eq] at this
      obtain ⟨⟨d1, d2⟩, d3⟩ := this
      refine ⟨d1, d2, ?_, clOf_has (PySem.mem_of_lookup d3)⟩
      exact relabel_free _ d3
  exact ps_setC hN hin hx S hc hfn hi (closure_of env) hg hif he hsw hs pins s σ H Q I h
end
end L2
set_option Elab.async false
set_option linter.all false
set_option maxRecDepth 100000
set_option maxHeartbeats 4000000
namespace L2
open PySem PySem.Spec PyProof.Rows
noncomputable def tCallC (X : Cx) (sp : Heap → Sp) (E : XK) (t : TA) : TE := fun σ H Q => t σ H fun vs H1 => ∀ b, CellsIn X σ b → sp b vs H1 Q E
section
variable {X : Cx} {CX : CXT} {k : Nat} {f : Addr} {fd : FuncData} {ps : List Str} {sp : Heap → Sp} {E : XK} {x : Str} {p pos : Pos} {e : Expr} {es : List Expr} {t : TA}
end
end L2
set_option Elab.async false
set_option linter.all false
set_option maxRecDepth 100000
set_option maxHeartbeats 4000000
namespace L2
open PySem PySem.Spec PyProof.Rows
section
variable {X : Cx} {pos : Pos}
noncomputable def intOf : Value → Int
  | .int i _ => i
  | _ => 0
noncomputable def rCountI : V → List V → Hp → VK → Prop := fun x vs H Q => ∃ (l : Addr) (ns : List Int) (k : Int), x = .ref l ∧ vs = [.int k] ∧ H l = some (.lst (ns.map V.int)) ∧ Q (.int (ns.countP (fun i => i == k) : Nat)) H
end
end L2
set_option Elab.async false
set_option linter.all false
set_option maxRecDepth 100000
set_option maxHeartbeats 4000000
namespace L2
open PySem PySem.Spec PyProof.Rows
noncomputable def FL (K : PySem.W.Frag) (a : Addr) (g : TG) (tb : TS) (D : Ends) (σ : St) (H : Hp) : Prop := ∃ W : Nat → Nat → St → Hp → Prop, (∃ m, W 0 m σ H) ∧ ∀ i m σ H, W i m σ H →
  ((Itl K a).stop i H ∧ D.nx σ H) ∨ ((Itl K a).go i H ∧ ∃ N : St → Hp → Prop, (∀ σ' H', N σ' H' → ∃ m', m' < m ∧ W (i + 1) m' σ' H') ∧ ∀ x H', (Itl K a).yld i H x H' → g x σ H' fun σ2 H2 => tb { D with nx := N, ct := N, bk := D.nx } σ2 H2)
theorem tFor_list {K : PySem.W.Frag} {tl : TE} {g : TG} {tb : TS} {D : Ends} {σ : St} {H : Hp} (h : tl σ H fun x H1 => ∃ a, x = .ref a ∧ (∃ xs, SqL K H1 a xs) ∧ FL K a g tb D σ H1) : tFor (iList K tl) g tb D σ H := h
theorem fl_of {K : PySem.W.Frag} {a : Addr} {xs : List V} {g : TG} {tb : TS} {D : Ends} {σ : St} {H : Hp} (Pv : Nat → St → Hp → Prop) (h0 : Pv 0 σ H) (hl : ∀ i σ H, i ≤ xs.length → Pv i σ H → SqL K H a xs)
    (hs : ∀ i x σ H, xs[i]? = some x → Pv i σ H → g x σ H fun σ2 H2 => tb { D with nx := Pv (i + 1), ct := Pv (i + 1), bk := D.nx } σ2 H2) (hd : ∀ σ H, Pv xs.length σ H → D.nx σ H) : FL K a g tb D σ H := for_list Pv h0 hl hs hd
end L2
set_option Elab.async false
set_option linter.all false
set_option maxRecDepth 100000
set_option maxHeartbeats 4000000
namespace L2
open PySem PySem.Spec PyProof.Rows PySem.W
structure XCls (K : PySem.W.Frag) (C : Addr) : Prop where
  ga : PySem.W.findIn K (.ref C) "__getattribute__" = some (some (.builtin "BaseException.__getattribute__"))
  gt : PySem.W.findIn K (.ref C) "__getattr__" = some none
  hd : PySem.W.hasDictIn K C = true
  cl : PySem.W.findIn K (.ref C) "__class__" = some (some (.builtin "object.__class__"))
  sp : PySem.W.specialIn K (.builtin "object.__class__") "__get__" = some (some (.builtin "getset_descriptor.__get__"))
  tk : PySem.W.takesIn K (.builtin "object.__class__") = some true
  mr : PySem.W.mroIn K C (.type "object") = some true
  sb : PySem.W.subIn K (.ref C) (.type "BaseException") = some true
theorem eo_inst {h : Heap} {a C : Addr} {dx : Option Addr} {vs : Array Value} {sl : Array (Option Value)} (e : h.get? a = some (EO dx (.ref C) vs sl)) (hd : ∀ d, dx = some d → ∃ o, h.get? d = some o) : ∃ od, PySem.W.InstAt h a (EO dx (.ref C) vs sl) C od := by
  cases dx with
  | none => exact ⟨none, e, rfl, rfl, trivial⟩
  | some d =>
    obtain ⟨o, ho⟩ := hd d rfl
    exact ⟨some o, e, rfl, rfl, ho⟩
theorem exc_class {prog : Program} {w : World} {A : Around} {E : Value → Shared → Prop} {Q : Option Value → Shared → Prop} {s : Shared} {K : PySem.W.Frag} {a C : Addr} {dx : Option Addr} {vs : Array Value} {sl : Array (Option Value)} (c : XCls K C) (X : K.In s.heap) (e : s.heap.get? a = some (EO dx (.ref C) vs sl)) (hdx : ∀ d, dx = some d → ∃ o, s.heap.get? d = some o)
    (q : Q (some (.ref C)) { s with toks := s.toks + 1 }) : wpAny (model prog w) A (getAttr? (.ref a) "__class__") Q E s := by
  obtain ⟨od, I⟩ := eo_inst e hdx
  have hf : findObj K C od "__class__" = some (.bind (.builtin "getset_descriptor.__get__") (.builtin "object.__class__")) := by
    obtain ⟨cd, hc, _⟩ := any_some c.hd
    unfold findObj
    rw [hc, Option.bind_some, c.cl, Option.bind_some]
    simp only [c.sp, c.tk, Option.bind_some]
  obtain ⟨hh, g, d, t, os⟩ := s
  have L0 := I.type (M := model prog w)
  have L1 := looks_findIn (M := model prog w) X c.ga
  have L2 := looks_findIn (M := model prog w) X c.gt
  have L3 := looks_find (M := model prog w) X I hf
  unfold getAttr? getAttrBy? getAttrBy
  refine wpAny_bind (wpAny_mkText (wpAny_bind (wpAny_attempt (wpAny_holding (wpAny_bind (L0.at (wpAny_bind (L1.at ?_))))))))
  show wpAny _ _ (getAttrByItsOwn _ _ _ _ _ _) _ _ _
  unfold getAttrByItsOwn
  refine wpAny_bind (L2.at (wpAny_bind (wpAny_attempt (wpAny_holding ?_))))
  show wpAny _ _ (boundAndCalled _ _ _) _ _ _
  unfold boundAndCalled
  have hbs : bindSpecial (.builtin "BaseException.__getattribute__") (.ref a) = pure (.builtin "BaseException.__getattribute__", [.ref a]) := by
    have hop : withoutEnding? "BaseException.__getattribute__" "#opaque" = none := by decide +kernel
    have hdat : withoutEnding? "BaseException.__getattribute__" "#data" = none := by decide +kernel
    have hk : builtinKind "BaseException.__getattribute__" = some .slot := by decide +kernel
    simp only [bindSpecial, typeOf, builtinType, hop, hdat, hk]; rfl
  rw [hbs]
  refine wpAny_bind (wpAny_pure ?_)
  have L4 := looks_subIn (M := model prog w) X c.sb
  refine wpAny_call (codeAny_call_builtin (by decide +kernel) F.entry_bexc_ga ?_)
  have hk : builtinKind "BaseException.__getattribute__" = some .slot := by decide +kernel
  have hsplit : splitId "BaseException.__getattribute__" = some ("BaseException", "__getattribute__") := by decide +kernel
  have ha := F.args_bexc_ga (.ref a) (.str (Str.ofString "__class__") t)
  simp only [checkBuiltinCall, hk, hsplit]
  have LI : Looks (model prog w) hh (isInstance (.ref a) (.type "BaseException")) true := L0.andThen L4
  refine wpAny_bind (LI.at ?_)
  rw [if_neg (by decide)]
  refine wpAny_mono (Q := fun _ s' => s' = (⟨hh, g, d, t + 1, os⟩ : Shared)) (E := fun _ _ => False) ?_ (fun _ s' z => ?_) (fun _ _ z => z.elim)
  · repeat (first | assumption | rfl | wp_step)
  · subst z
    unfold Builtin.«object.__getattribute__»
    refine wpAny_bind (wpAny_pure ?_)
    refine wpAny_bind (wpAny_pure ?_)
    refine wpAny_bind (L0.at (wpAny_bind (L3.at ?_)))
    show wpAny _ _ (Builtin.ObjectAttr.bindTo _ _ _ _) _ _ _
    show wpAny _ _ (do let r ← holding [Value.builtin "object.__class__"] (call (.builtin "getset_descriptor.__get__") [.builtin "object.__class__", .ref a, .ref C]); ret r) _ _ _
    refine wpAny_bind (wpAny_holding (wpAny_call (class_get (s := ⟨hh, g, d, t + 1, os⟩) (ox := EO dx (.ref C) vs sl) (od := od) X I c.mr ?_)))
    refine wpAny_pure ?_
    show wpAny _ _ (handedOut (.ref C)) _ _ _
    exact wpAny_pure (wpAny_pure q)
theorem kitx_exc {K : PySem.W.Frag} {a C : Addr} {dx : Option Addr} (c : XCls K C) : PySem.W.KitX K (.ref a) (.ref C) (fun h => (∃ vs sl, h.get? a = some (EO dx (.ref C) vs sl)) ∧ ∀ d, dx = some d → ∃ o, h.get? d = some o) where
  ty := fun _ _ _ ⟨⟨_, _, e⟩, _⟩ => eo_type e
  it := fun _ _ X _ => by
    obtain ⟨cd, hc, _⟩ := any_some c.hd
    unfold clsIn at hc
    split at hc
    · rename_i ho
      intro A' Q' E' s' k q
      unfold isType loadHead
      exact wpAny_bind (wpAny_loadPart (k _ _ (X _ _ ho)) (wpAny_pure q))
    · cases hc
  ne := fun h tp dd its n sl X htp => by
    obtain ⟨cd, hc, _⟩ := any_some c.hd
    refine Bool.eq_false_iff.mpr fun q => ?_
    obtain rfl : C = tp := Value.ref.inj (beq_iff_eq.mp q)
    unfold clsIn at hc
    split at hc
    · rename_i ho
      have z := (X _ _ ho).symm.trans htp
      cases z
    · cases hc
  ca := fun X ⟨⟨_, _, e⟩, hd⟩ k => exc_class c X e hd k
section
variable {X : Cx}
noncomputable def rIsiX (K : PySem.W.Frag) : List V → Hp → VK → Prop := fun xs H Q => ∃ a C dx c u b, xs = [.ref a, c] ∧ H a = some (excHo dx a (.ref C)) ∧ (∀ d, dx = some d → ∃ fs, H d = some (.xd fs)) ∧ XCls K C ∧ clsV c = some u ∧ PySem.W.kitOne K (.ref C) u = some b ∧ Q (.bl b) H
theorem call_isinstX : CallR X (.builtin "isinstance") (rIsiX X.K) := by
  intro pins s σ H xs us Q I r h
  obtain ⟨a, C, dx, c, u', b, rfl, ha, hdx, xc, ec, e, q⟩ := h
  obtain ⟨u, w', rfl, rx, rc⟩ := vals2 r
  obtain rfl := clsV_rel ec rc
  cases (show u = Value.ref a from rx)
  obtain ⟨p, _, _⟩ := (show ObjOk X.prog X.w H s.heap a (excHo dx a (.ref C)) from I.hok a _ ha)
  exact PySem.W.kia_one (kitx_exc xc) I.kIn ⟨p, fun d z => let ⟨fs, hf⟩ := hdx d z; I.hok.there hf⟩ e (fun z => nomatch z) fun tk => ⟨.bl b, H, I.tok tk, rfl, q⟩
end
end L2
set_option Elab.async false
set_option linter.all false
set_option maxRecDepth 100000
set_option maxHeartbeats 4000000
namespace L2
open PySem PySem.Spec PyProof.Rows
structure RoomM (k : Nat) (A : Around) : Prop where
  dp : A.depth + 3 * k + 5 < recursionLimit
  un : A.units + 16 * k + 200 < cLine
  gd : A.guards = some []
theorem RoomM.of {k : Nat} {A : Around} {v : Option Value} (r : Room k A) : RoomM k (A.mark v) := ⟨r.dp, r.un, r.gd⟩
theorem RoomM.mono {j k : Nat} {A : Around} (r : RoomM k A) (h : j ≤ k) : RoomM j A := ⟨by have := r.dp; omega, by have := r.un; omega, r.gd⟩
noncomputable def unm (A : Around) : Around := { A with handled := none }
structure FnOkM (P : Program) (w : World) (K : PySem.W.Frag) (mg : Str → Option Value) (base : Heap) (k : Nat) (f : Addr) (fd : FuncData) (ps : List Str) (sp : Sp) : Prop where
  len : ∀ vs H Q E, sp vs H Q E → vs.length = ps.length
  run : ∀ (A : Around) (outer : List Env) (s : Shared) (H : Hp) (args : Args) (us : List Value) (vs : List V) (Q : VK) (E : XK), RoomM k A → Env0 P w K mg base A outer s H → BindsTo s fd args (ps.zip us) → Vals vs us → sp vs H Q E →
    codeAny (model P w) A (.call (.ref f) args) (CR CX0 outer P w H s Q E) s
theorem FnOkM.mono {P : Program} {w : World} {K : PySem.W.Frag} {mg : Str → Option Value} {base : Heap} {j k : Nat} {f : Addr} {fd : FuncData} {ps : List Str} {sp : Sp} (F : FnOkM P w K mg base j f fd ps sp) (h : j ≤ k) :
    FnOkM P w K mg base k f fd ps sp := ⟨F.len, fun A outer s H args us vs Q E hr => F.run A outer s H args us vs Q E (hr.mono h)⟩
theorem Env0.unm {P : Program} {w : World} {K : PySem.W.Frag} {mg : Str → Option Value} {base : Heap} {A : Around} {outer : List Env} {s : Shared} {H : Hp} (e : Env0 P w K mg base A outer s H) : Env0 P w K mg base (unm A) outer s H :=
  ⟨e.frames, e.mod, e.bs, e.bsz, e.funs, e.frf, e.hok, e.bare⟩
noncomputable abbrev cxM (P : Program) (w : World) (K : PySem.W.Frag) (mg : Str → Option Value) (base : Heap) (N : List Str) (qual : Str) (scope : Scope) (f : Addr) (cd : Value) (A : Around) (outer : List Env) (s : Shared) (H : Hp) (E : XK) : Cx :=
  (cxOf CX0 P w K mg base N qual scope f cd (unm A) outer s H E).marked A.handled
theorem mark_deeper (A : Around) (env : Env) : ((unm A).deeper env).mark A.handled = A.deeper env := by
  obtain ⟨h, d, fr, gs, u⟩ := A
  cases h <;> rfl
theorem Fun.okM {P : Program} {w : World} {K : PySem.W.Frag} {mg : Str → Option Value} {base : Heap} {x qual : Str} {st : Stmt} {f : Addr} {fd : FuncData} {N ps : List Str} {k : Nat} {sp : Sp} (F : Fun K x qual st f fd) (S : FnScope N ps (defScope st)) (len : ∀ vs H Q E, sp vs H Q E → vs.length = ps.length)
    (hbody : ∀ (cdv : Value) (A : Around) (outer : List Env) (s : Shared) (H : Hp) (vs : List V) (Q : VK) (E : XK), RoomM (k + 1) A → sp vs H Q E →
      ∃ t, PSs (cxM P w K mg base N qual (defScope st) f cdv A outer s H E) (defBody st) t ∧ t { nx := fun _ H' => Q .non H', rt := Q } (start N vs) H) : FnOkM P w K mg base (k + 1) f fd ps sp := by
  obtain ⟨oc, od, kV, doc, pm, an, cdv, ct, osl, rfl, lk, hcd⟩ := F.ex
  refine ⟨len, fun A outer s H args us vs Q E hr e0 hb r hsp => ?_⟩
  have hl := len _ _ _ _ hsp
  have KX : K.In s.heap := e0.mod.kin.keeps fun b o e => (e0.bs b o e).1
  have lim : s.heap.NoLimit := e0.mod.nolimit.keeps fun b o e => (e0.bs b o e).1
  have hkind : ∀ y ∈ ps.zip us, (defScope st).names.lookup y.1 = some .local ∨ ((defScope st).names.lookup y.1 = some .cell ∧ ((cellsFrom (s.heap.objs.size + 1) (defScope st).names []).lookup y.1).isSome = true) := fun ⟨n, v⟩ hy => by
    rcases S.par n (List.of_mem_zip hy).1 with q | q
    · exact .inl q
    · exact .inr ⟨q, PySem.W.cellsFrom_some _ _ _ (.inl q)⟩
  refine codeAny_call_function (by have := hr.dp; omega) (KX _ _ lk) rfl S.co S.gen rfl (PySem.W.codeRec_of KX hcd) (hb _ _ _ _ ?_)
  refine wpAny_newFunctionEnv_cells S.kind hkind fun env he s1 x => ?_
  subst he
  refine ⟨lim.keeps x.toInCall.keep, codeAny_func ?_⟩
  obtain ⟨t, ht, hq⟩ := hbody cdv A outer s H vs Q E hr hsp
  have I : Inv (cxOf CX0 P w K mg base N qual (defScope st) f cdv (unm A) outer s H E) [] (start N vs) H s1 := inv_start S rfl e0.unm hl r x
  have I2 : Inv (cxM P w K mg base N qual (defScope st) f cdv A outer s H E) [] (start N vs) H s1 := I.mark A.handled
  rw [← mark_deeper]
  refine wpAny_mono (ht [] s1 (start N vs) H _ I2 hq) (fun fl s' hs => ?_) fun e s' hs => hs.elim
  have fin : ∀ {σ' : St} {H' : Hp} {v : V} {u : Value}, Inv (cxM P w K mg base N qual (defScope st) f cdv A outer s H E) [] σ' H' s' → RelV v u → Q v H' → CE outer P w H s Q u s' :=
    fun {σ' H' v u} J rv q => ⟨v, H', J.os, J.bare, J.base, J.hok, rv, q⟩
  cases fl with
  | ret u =>
    obtain ⟨v, σ', H', J, rv, q⟩ := hs
    exact fin J rv q
  | next =>
    obtain ⟨σ', H', J, q⟩ := hs
    exact fin (v := V.non) (u := Value.none) J rfl q
  | brk =>
    obtain ⟨_, _, _, q⟩ := hs
    exact False.elim q
  | cont =>
    obtain ⟨_, _, _, q⟩ := hs
    exact False.elim q
section
variable {X : Cx} {k : Nat} {f : Addr} {fd : FuncData} {ps : List Str} {sp : Sp} {dvs : List V} {ds : List Value} {x : Str} {p pos : Pos} {e : Expr} {es : List Expr} {t : TA}
theorem pe_callM (F : FnOkM X.prog X.w X.K X.mg X.base k f fd ps sp) (hr : RoomM k X.A) (hg : Gl X x) (hm : X.mg x = some (.ref f)) (hk : PySem.W.keepIn X.K (.ref f) = true) (hb : Binds X.K fd ps ds) (hd : Vals dvs ds)
    (ha : PA X (e :: es) t) (hdb : (x == ("__debug__" : Str)) = false := by decide) (he : starEach (e :: es) X.env = (false, eval e X.env) :: starEach es X.env := by rfl) (hpl : (backTo pos (starEach es X.env)).any (·.1) = false := by rfl) :
    PE X (.Call (.Name x p) (e :: es) [] pos) (tCall sp dvs E0 t) := by
  intro pins s σ H Q I h
  refine wpAny_Call_Name_kw (ld_glob I hg hm ?_ hdb)
  refine PySem.W.callWith_K (h₀ := X.base) I.ok.mod.kin hk (thn (ha pos pins s σ H _ I h) fun us s1 ⟨vs, H1, I1, r, q⟩ => ⟨I1.kIn, ?_⟩) he hpl
  have r2 : Vals (vs ++ dvs) (us ++ ds) := r.append hd
  have hl : (us ++ ds).length = ps.length := by rw [← r2.length]; exact F.len _ _ _ _ q
  refine wpAny_call (codeAny_mono (F.run X.A X.stack s1 H1 ⟨us, []⟩ (us ++ ds) (vs ++ dvs) Q E0 hr I1.env0 (hb s1 us I1.kIn hl) r2 q) fun r s' hq => ?_)
  cases r with
  | error e => exact False.elim hq
  | ok fl =>
    cases fl with
    | ret u => exact I1.after hq
    | next => exact False.elim hq
    | brk => exact False.elim hq
    | cont => exact False.elim hq
end
section
variable {X : Cx} {K : PySem.W.Frag} {o e : Expr} {es : List Expr} {to : TE} {t : TA} {name : Str} {apos cpos : Pos} {T id : String} {r : V → List V → Hp → VK → Prop}
theorem pe_bmK (hK : X.K = K) (pa : PlainAttrs T) (slot : Slot T name id) (hty : typeOf (.builtin id) = pure (.type "method_descriptor")) (hm : MtR X id r) (ho : PE X o to) (ha : PA X (e :: es) t)
    (hbase : attributeBase o name X.env (eval o X.env) = eval o X.env := by rfl)
    (hfew : ((backTo cpos (starEach (e :: es) X.env)).all (fun x => !x.1) && (backToKw cpos (keywordEach [] X.env)).all (fun x => x.1.isSome)
      && decide ((e :: es).length + ([] : List Keyword).length + (if ([] : List Keyword).isEmpty then 0 else 1) < 30)) = true := by rfl)
    (hline : (apos.endLine == cpos.line) = true := by rfl) (hs : starEach (e :: es) X.env = (false, eval e X.env) :: starEach es X.env := by rfl) (hplain : (backTo cpos (starEach es X.env)).any (·.1) = false := by rfl) :
    PE X (.Call (.Attribute o name apos) (e :: es) [] cpos) (tBM K T r to t) := by
  subst hK
  exact pe_bm pa slot hty hm ho ha hbase hfew hline hs hplain
theorem call_isinstXK (hK : X.K = K) : CallR X (.builtin "isinstance") (rIsiX K) := by subst hK; exact call_isinstX
theorem ix_listK (hK : X.K = K) : IxR X (rIxL K) := by subst hK; exact ix_list
end
section
variable {X : Cx}
noncomputable def rReprB : List V → Hp → VK → Prop := fun xs H Q => ∃ b : Bool, xs = [.bl b] ∧ Q (.str (if b then "True" else "False")) H
theorem call_reprB : CallR X (.builtin "repr") rReprB := by
  intro pins s σ H xs us Q I r h
  obtain ⟨b, rfl, q⟩ := h
  obtain ⟨u, rfl, rx⟩ := vals1 r
  cases (show u = Value.bool b from rx)
  exact PySem.P.repr_of_bool ⟨.str _, H, I.tok _, ⟨_, rfl⟩, q⟩
end
section
variable {X : Cx} {a b : Expr} {rest : List Expr} {pos : Pos} {ta tb : TE}
noncomputable def tOrI (ta tb : TE) : TE := fun σ H Q => ta σ H fun x H1 => ∃ i : Int, x = .int i ∧ if i = 0 then tb σ H1 Q else Q (.int i) H1
end
section
variable {X : Cx} {x y : Str} {i k : Nat} {p pos pos' py : Pos}
theorem px_set0 (hN : X.N[i]? = some x) (hv : Vis X.env.scope x) (hr : Room k X.A) (hd : (x == ("__debug__" : Str)) = false := by decide) (hcd : (x == ("__classdict__" : Str)) = false := by decide)
    (hs : swapsWith (.Call (.Name x p) [] [] pos) (some (.Name y py)) pos'.line X.env = pure false := by rfl) : PX X [.Assign [.Name y py] (.Call (.Name x p) [] [] pos) pos'] (xCall0 X k i) := by
  intro pins s σ H R I h
  obtain ⟨f, fd, sp, e1, hf, F, hb, hsp⟩ := h
  refine wpAny_execs_cons (wpAny_Assign_Name (wpAny_Call_Name_kw (ld_var I hN hv e1 (fun u r => ?_) hd hcd)) hs)
  cases (show u = Value.ref f from r)
  obtain ⟨ho, _, _⟩ := I.hok f _ hf
  refine PySem.W.callWith_F0 ⟨_, _, _, _, ho⟩ ?_
  refine wpAny_call (codeAny_mono (F.run X.A X.stack s H ⟨[], []⟩ [] [] _ _ hr I.env0 (hb s [] I.kIn rfl) .nil hsp) fun r s' hq => ?_)
  cases r with
  | error e =>
    obtain ⟨a, C, dx, H', rfl, fl, ho, hg, U, ok, hE⟩ := hq
    exact ⟨a, C, dx, H', rfl, I.call' (s' := s') (ch := []) ho U ok hg (fun _ z => nomatch z), fl, hE⟩
  | ok fl =>
    cases fl with
    | ret u =>
      obtain ⟨_, _, _, _, _, _, _, z⟩ := hq
      exact z.elim
    | next => exact False.elim hq
    | brk => exact False.elim hq
    | cont => exact False.elim hq
noncomputable def tTryR (K : PySem.W.Frag) (CP : Addr) (ie : Nat) (tb : TX) (ts : TS) : TS := fun D σ H => tb σ H fun C dx H' => PySem.W.exmOne K C (.ref CP) = some true ∧
  ∀ a, H' a = none → ts { nx := fun σ2 H2 => D.nx (σ2.set ie none) H2, rt := D.rt } (σ.set ie (some (.ref a))) (upd H' a (excHo dx a C))
theorem ps_tryR {body suite : List Stmt} {b0 : Stmt} {cx n : Str} {CP : Addr} {ie : Nat} {tb : TX} {ts : TS} {np pos pos' : Pos} (hN : X.N.Nodup) (hi : X.N[ie]? = some n) (hn : X.env.scope.names.lookup n = some .local) (hx : X.ex = []) (hst : X.stack = X.env :: X.outer) (hfr : X.env.frame = some X.env.locals) (hcl : X.env.cells = [])
    (hg : Gl X cx) (hm : X.mg cx = some (.ref CP)) (hb : PX X body tb) (hs : ∀ v, PSs (X.marked v) (b0 :: suite) ts) (hd : (cx == ("__debug__" : Str)) = false := by decide) :
    PS X (.Try body [.ExceptHandler (some (.Name cx np)) (some n) (b0 :: suite) pos] [] [] pos') (tTryR X.K CP ie tb ts) := by
  intro pins s σ H D I h
  refine wpAny_Try_except (wpAny_mono (hb pins s σ H _ I h) (fun _ _ z => z.elim) fun e s1 ⟨a, C, dx, H', ee, J, F, hmat, hR⟩ => ?_)
  subst ee
  obtain ⟨T, Fl, g1, g2, f1, f2⟩ := F
  have fr1 : X.A.frames = some (X.env :: X.outer) := by rw [← hst]; exact J.ok.frames
  have ff1 : s1.heap.FunFrames X.base (X.env :: X.outer) := by rw [← hst]; exact J.stack
  refine note_on (base := X.base) fr1 ff1 hfr Fl fun h2 T2 a2 Fl2 N => ?_
  refine flight_none (s := { s1 with heap := h2 }) Fl2 fun h3 Fl3 k3 _ => ?_
  have neT2 : ∀ b o, s1.heap.get? b = some o → b ≠ T2 := fun b o q z => absurd (Heap.lt_size q) (by rw [z]; exact Nat.not_lt.mpr a2)
  have N3 : Noted (frs X.stack) s1.heap h3 a (some T) := by
    rw [hst]
    refine ⟨fun b o x y z q => k3 b o (neT2 b o q) (N.keep b o x y z q), fun b o x q => ?_⟩
    obtain ⟨sl, q'⟩ := N.slot b o x q
    exact ⟨sl, k3 b _ (neT2 b o q) q'⟩
  have a0 := there_of I hx g1
  have t0 := there_of I hx g2
  have locs : ∃ o, s.heap.get? X.env.locals = some o := let ⟨_, ⟨o, _, _, q, _⟩, _⟩ := I.loc; ⟨o, q⟩
  have ne_a : ∀ b o, s.heap.get? b = some o → b ≠ a := fun b o q z => by rw [z, g1] at q; cases q
  have ne_T : ∀ b o, s.heap.get? b = some o → b ≠ T := fun b o q z => by rw [z, g2] at q; cases q
  have La : X.env.locals ≠ a := let ⟨o, q⟩ := locs; ne_a _ o q
  have nocell : ∀ x c, X.env.cells.lookup x = some c → False := fun x c q => by rw [hcl] at q; cases q
  have J3 : Inv X pins σ H' { s1 with heap := h3 } := by
    refine J.after_note N3 hx f1 a0 (fun t z => by cases z; exact ⟨f2, t0⟩) (fun p hp => ⟨ne_a _ _ (I.pin p hp).1, fun z => ne_T _ _ (I.pin p hp).1 (Option.some.inj z)⟩) (fun x c q => (nocell x c q).elim) (fun x c q => (nocell x c q).elim) ⟨La, fun z => ?_⟩
    obtain ⟨o, q⟩ := locs
    exact ne_T _ o q (Option.some.inj z)
  obtain ⟨⟨vs, sl, hea, _⟩, _, _⟩ := id Fl3
  refine wpAny_handleBy_cons (codeAny_handlers_test ?_) (by intro q; cases q)
  refine ld_glob (X := X.marked (some (.ref a))) (J3.mark _) hg hm ?_ hd
  have LM := PySem.W.exm_one (M := model X.prog X.w) J3.kIn (eo_type hea) hmat
  refine LM _ _ _ { s1 with heap := h3 } (fun _ _ q => q) ?_
  refine codeAny_handlers_suite_as (flight_none (s := { s1 with heap := h3 }) Fl3 fun h4 Fl4 k4 _ => ?_)
  have N4 : Noted (frs X.stack) h3 h4 a (some T2) := ⟨fun b o _ _ z q => k4 b o (fun w => z (by rw [w])) q, fun b o x q => ⟨o.slots, k4 b o (fun w => ?_) q⟩⟩
  rotate_left
  · have := J3.stack
    obtain ⟨_, o', q', hnf⟩ := this.mem x
    obtain ⟨oT, ts', q2, q3, _⟩ := Fl3.tr
    rw [w] at q'
    rw [show ({ s1 with heap := h3 } : Shared).heap.get? T2 = some oT from q2] at q'
    cases q'
    exact hnf ts' q3
  have T2free : H' T2 = none := J.hok.free_of (Heap.get?_none_of_le a2)
  have T2new : X.s₀.heap.get? T2 = none := there_of J hx (Heap.get?_none_of_le a2)
  have J4 : Inv X pins σ H' { s1 with heap := h4 } := by
    refine J3.after_note N4 hx f1 a0 (fun t z => by cases z; exact ⟨T2free, T2new⟩) (fun p hp => ⟨ne_a _ _ (I.pin p hp).1, fun z => neT2 _ _ (J.pin p hp).1 (Option.some.inj z)⟩) (fun x c q => (nocell x c q).elim) (fun x c q => (nocell x c q).elim) ⟨La, fun z => ?_⟩
    obtain ⟨_, ⟨o, _, _, q, _⟩, _⟩ := J.loc
    exact neT2 _ o q (Option.some.inj z)
  have J5 : Inv X pins σ (upd H' a (excHo dx a C)) { s1 with heap := h4 } := by
    refine J4.track f1 a0 (fun H2 => excH_ok ?_) La.symm (fun x c q => (nocell x c q).elim) (fun p hp => ne_a _ _ (I.pin p hp).1) hx (fun _ _ z => by cases z)
    obtain ⟨⟨vs', sl', q, _⟩, _, _⟩ := Fl4
    exact ⟨vs', sl', q⟩
  refine store_ok (X := X.marked (some (.ref a))) (J5.mark _) hN hi (.inl hn) (v := .ref a) rfl (fun s5 J6 => ?_) (.inr hn)
  refine wpAny_mono (hs (some (.ref a)) pins s5 _ _ _ J6 (hR a f1)) (fun fl s6 q => ?_) (fun _ _ z => z.elim)
  cases fl with
  | next =>
    obtain ⟨σ6, H6, J7, q⟩ := q
    have J8 : Inv X pins σ6 H6 s6 := J7.unmark I.ok
    obtain ⟨m, hns, hl⟩ := id J8.loc
    refine wpAny_nameGoes_keeps (show X.env.kindOf n = some .local from hn) hns (by rw [I.ok.kind]; rfl) fun h' v hn' sb => ?_
    refine ⟨σ6.set ie none, H6, J8.frame (σ' := σ6.set ie none) (m' := fun x => if x = n then v else m x) (fun b hb => sb.2 b hb) hn' (fun i x u e1 e2 e3 => ?_) (by rw [List.length_set]), q⟩
    have ne : i ≠ ie := fun z => by
      subst z
      have hlt : i < σ6.length := by rw [J8.len]; exact (List.getElem?_eq_some_iff.mp e1).1
      rw [List.getElem?_set_self hlt] at e2
      cases e2
    have nx : x ≠ n := fun z => ne (nodup_ix hN e1 (z ▸ hi))
    rw [List.getElem?_set_ne ne.symm] at e2
    obtain ⟨u', r, l⟩ := hl i x u e1 e2 e3
    refine ⟨u', r, ?_⟩
    rcases l with ⟨l1, l2⟩ | ⟨_, c, e, _⟩
    · exact .inl ⟨l1, by show (if x = n then v else m x) = some u'; rw [if_neg nx]; exact l2⟩
    · exact (nocell x c e).elim
  | brk => obtain ⟨_, _, _, z⟩ := q; exact z.elim
  | cont => obtain ⟨_, _, _, z⟩ := q; exact z.elim
  | ret u =>
    obtain ⟨v0, σ6, H6, J7, rv0, q⟩ := q
    have J8 : Inv X pins σ6 H6 s6 := J7.unmark I.ok
    obtain ⟨m, hns, hl⟩ := id J8.loc
    refine wpAny_nameGoes_keeps (show X.env.kindOf n = some .local from hn) hns (by rw [I.ok.kind]; rfl) fun h' v hn' sb => ?_
    refine ⟨v0, σ6.set ie none, H6, J8.frame (σ' := σ6.set ie none) (m' := fun x => if x = n then v else m x) (fun b hb => sb.2 b hb) hn' (fun i x u9 e1 e2 e3 => ?_) (by rw [List.length_set]), rv0, q⟩
    have ne : i ≠ ie := fun z => by
      subst z
      have hlt : i < σ6.length := by rw [J8.len]; exact (List.getElem?_eq_some_iff.mp e1).1
      rw [List.getElem?_set_self hlt] at e2
      cases e2
    have nx : x ≠ n := fun z => ne (nodup_ix hN e1 (z ▸ hi))
    rw [List.getElem?_set_ne ne.symm] at e2
    obtain ⟨u', r, l⟩ := hl i x u9 e1 e2 e3
    refine ⟨u', r, ?_⟩
    rcases l with ⟨l1, l2⟩ | ⟨_, c, e, _⟩
    · exact .inl ⟨l1, by show (if x = n then v else m x) = some u'; rw [if_neg nx]; exact l2⟩
    · exact (nocell x c e).elim
end
end L2
set_option Elab.async false
set_option linter.all false
set_option maxRecDepth 100000
set_option maxHeartbeats 4000000
namespace L2
open PySem PySem.Spec PyProof.Rows
section
variable {X : Cx}
noncomputable def rIntB : List V → Hp → VK → Prop := fun xs H Q => ∃ b : Bool, xs = [.bl b] ∧ Q (.int (if b then 1 else 0)) H
theorem call_int_bl : CallR X (.type "int") rIntB := by
  intro pins s σ H xs us Q I r h
  obtain ⟨b, rfl, q⟩ := h
  obtain ⟨u, rfl, rx⟩ := vals1 r
  cases (show u = Value.bool b from rx)
  exact PySem.call_int_bool ⟨.int _, H, I.tok _, ⟨_, rfl⟩, q⟩
theorem pe_imp {e : Expr} {t t' : TE} (h : PE X e t) (i : ∀ σ H Q, t' σ H Q → t σ H Q) : PE X e t' := fun pins s σ H Q I q => h pins s σ H Q I (i σ H Q q)
end
end L2
set_option Elab.async false
set_option linter.all false
set_option maxRecDepth 100000
set_option maxHeartbeats 4000000
namespace L2
open PySem PySem.Spec PyProof.Rows
section
variable {X : Cx} {pos : Pos}
theorem items_int : ∀ {us : List Value}, (∀ u ∈ us, ∃ i t, u = .int i t) → ∃ xs : List (Int × Tok), us = xs.map fun p => Value.int p.1 p.2
  | [], _ => ⟨[], rfl⟩
  | u :: us, h => by
    obtain ⟨xs, e⟩ := items_int fun x hx => h x (List.mem_cons_of_mem _ hx)
    obtain ⟨i, t, rfl⟩ := h u List.mem_cons_self
    exact ⟨(i, t) :: xs, by rw [e]; rfl⟩
noncomputable def rMinL : List V → Hp → VK → Prop := fun xs H Q => ∃ (l : Addr) (ns : List Int), xs = [.ref l] ∧ H l = some (.lst (ns.map V.int)) ∧ 0 < ns.length ∧ ∀ m, m ∈ ns → (∀ a ∈ ns, m ≤ a) → Q (.int m) H
end
section
variable {X : Cx}
noncomputable def rNeT (K : PySem.W.Frag) : R2 := fun x y H Q => ∃ ds es, Rep K H (.tup ds) x ∧ Rep K H (.tup es) y ∧ depL ds ≤ 100 ∧ Q (.bl (!eqDL ds es)) H
end
theorem tSeq_gen {t u : TS} {D : Ends} {σ : St} {H : Hp} (h : ∀ R : TS, R = u → tSeq t R D σ H) : tSeq t u D σ H := h u rfl
noncomputable def FR (lo : Int) (n : Nat) (g : TG) (tb : TS) (D : Ends) (σ : St) (H : Hp) : Prop := ∃ W : Nat → Nat → St → Hp → Prop, (∃ m, W 0 m σ H) ∧ ∀ i m σ H, W i m σ H →
      ((Itr lo n).stop i H ∧ D.nx σ H) ∨ ((Itr lo n).go i H ∧ ∃ N : St → Hp → Prop, (∀ σ' H', N σ' H' → ∃ m', m' < m ∧ W (i + 1) m' σ' H') ∧ ∀ x H', (Itr lo n).yld i H x H' → g x σ H' fun σ2 H2 => tb { D with nx := N, ct := N, bk := D.nx } σ2 H2)
theorem tFor_rng {ta : TA} {g : TG} {tb : TS} {D : Ends} {σ : St} {H : Hp} (h : ta σ H fun vs H1 => ∃ j : Int, vs = [.int j] ∧ -(2 ^ 62) ≤ j ∧ j < 2 ^ 62 ∧ FR 0 j.toNat g tb D σ H1) : tFor (iRng1 ta) g tb D σ H := h
theorem fr_of {lo : Int} {n : Nat} {g : TG} {tb : TS} {D : Ends} {σ : St} {H : Hp} (Pv : Nat → St → Hp → Prop) (h0 : Pv 0 σ H)
    (hs : ∀ i σ H, i < n → Pv i σ H → g (.int (lo + i)) σ H fun σ2 H2 => tb { D with nx := Pv (i + 1), ct := Pv (i + 1), bk := D.nx } σ2 H2) (hd : ∀ σ H, Pv n σ H → D.nx σ H) : FR lo n g tb D σ H := for_range Pv h0 hs hd
end L2
set_option Elab.async false
set_option linter.all false
set_option maxRecDepth 100000
set_option maxHeartbeats 4000000
namespace L2
open PySem PySem.Spec PyProof.Rows
noncomputable def OnlyT (Pt : Addr) (H : Hp) : Prop := ∀ b, H b = none ∨ (∃ o xs, H b = some (.frz o (.lst xs))) ∨ (b = Pt ∧ H b = some (.tbl #[]))
theorem law_callT {P : Program} {w : World} {K : PySem.W.Frag} {mg mb : Str → Option Value} {CX : CXT} {k : Nat} {fa a c Pt : Addr} {fd : FuncData} {x : Str} {sp : Sp} {s₁ : Shared} {vs : List Value} {ns : List Int}
    (KX : K.In s₁.heap) (hns : s₁.heap.Ns mainGlobals mg) (hb : s₁.heap.Ns builtinsNs mb) (hbb : ∀ x : Str, x ≠ "__name__" → mb x = bootBuiltins x) (hlim : s₁.heap.NoLimit) (hg : s₁.gens = #[])
    (hbm : ∃ bm ob, mg "__builtins__" = some (.ref bm) ∧ bm ≠ builtinsNs ∧ s₁.heap.get? bm = some ob ∧ ob.cls = .type "module" ∧ ob.dict = some builtinsNs ∧ ob.data = .plain)
    (hC : PySem.W.CodeHd s₁.heap c Pt) (hP : s₁.heap.get? Pt = some (PySem.W.tabObj #[])) (hPK : K.lookup Pt = none)
    (ha : s₁.heap.get? a = some { cls := .type "list", data := .seq vs.toArray }) (hi : IntsAre vs ns) (hl : ns.length ≤ sizeLine) (hr : Room k callerA)
    (F : ∀ base : Heap, K.In base → base.Ns mainGlobals mg → base.BuiltinsAt mg Pt → FnOk P w K mg base CX k fa fd [x] sp) (hbind : ∀ (s : Shared) (u : Value), BindsTo s fd ⟨[u], []⟩ [(x, u)])
    (hsp : ∀ H : Hp, OnlyT Pt H → SqL K H a (ns.map V.int) → H Pt = some (.tbl #[]) → sp [.ref a] H (fun v _ => v = .bl true) fun _ _ _ => False)
    (hCX : ∀ H e s', CX [] H s₁ (fun _ _ _ => False) e s' → False) :
    codeAny (model P w) callerA (.call (.ref fa) ⟨[.ref a], []⟩) (fun r s' => r = .ok (.ret (.bool true)) ∧ OldK s₁.heap s'.heap ∧ s'.os = s₁.os ∧ AllBare s'.gens) s₁ := by
  have rv := vals_ints hi
  have lenV := hi.length
  have aP : a ≠ Pt := fun z => by rw [z, hP] at ha; cases ha
  have core : ∀ H : Hp, OnlyT Pt H → H Pt = some (.tbl #[]) → SqL K H a (ns.map V.int) → HOk P w H s₁.heap → (∀ b, H b ≠ none → b = a ∨ b = Pt) → (H a ≠ none → K.lookup a = none) →
      codeAny (model P w) callerA (.call (.ref fa) ⟨[.ref a], []⟩) (fun r s' => r = .ok (.ret (.bool true)) ∧ OldK s₁.heap s'.heap ∧ s'.os = s₁.os ∧ AllBare s'.gens) s₁ := by
    intro H hO hT hS hok hA hK
    have base_of : ∀ {b : Addr} {o : Obj}, s₁.heap.get? b = some o → H b = none → (hidT s₁.heap H).get? b = some o := fun e n => hidT_get e n
    have noD : ∀ {b : Addr} {o : Obj}, s₁.heap.get? b = some o → (∀ its n, o.data ≠ .seq its n) → (∀ qs, o.data ≠ .fields qs) → H b = none := fun {b o} e d1 d2 => by
      cases q : H b with
      | none => rfl
      | some u =>
        rcases hA b (by rw [q]; simp) with e' | e'
        · subst e'
          rw [ha] at e; cases e
          exact absurd rfl (d1 _ _)
        · subst e'
          rw [hP] at e; cases e
          exact absurd rfl (d2 _)
    have nsK : ∀ {b : Addr} {m : Str → Option Value}, s₁.heap.Ns b m → (hidT s₁.heap H).Ns b m := fun {b m} ⟨o, es, ep, e, d, r⟩ => ⟨o, es, ep, base_of e (noD e (fun _ _ z => by rw [d] at z; cases z) (fun _ z => by rw [d] at z; cases z)), d, r⟩
    have hKb : K.In (hidT s₁.heap H) := fun b o e => base_of (KX b o e) (by
      cases q : H b with
      | none => rfl
      | some u =>
        rcases hA b (by rw [q]; simp) with e' | e'
        · subst e'
          rw [hK (by rw [q]; simp)] at e; cases e
        · subst e'
          rw [hPK] at e; cases e)
    have hM : Mod K mg (hidT s₁.heap H) := ⟨hKb, nsK hns, ⟨mb, nsK hb, hbb⟩, let ⟨mc, h1, h2⟩ := hlim; ⟨mc, nsK h1, h2⟩⟩
    have hB : (hidT s₁.heap H).BuiltinsAt mg Pt := by
      obtain ⟨bm, ob, b1, b2, b3, b4, b5, b6⟩ := hbm
      refine ⟨bm, ob, b1, b2, fun z => ?_, fun z => ?_, base_of b3 (noD b3 (fun _ _ z => by rw [b6] at z; cases z) (fun _ z => by rw [b6] at z; cases z)), b4, b5, b6⟩
      · obtain ⟨o, es, ep, e, d, _⟩ := hns
        rw [z, e] at b3; cases b3; rw [d] at b6; cases b6
      · rw [z, hP] at b3; cases b3; cases b4
    have e0 : Env0 P w K mg (hidT s₁.heap H) callerA [] s₁ H := ⟨rfl, hM, fun b o e => of_hidT e, Nat.le_of_eq (hidT_size _ _), trivial, fun b hb => absurd (show b ∈ ([] : List Addr) from hb) (by simp), hok, .of_eq hg⟩
    refine codeAny_mono ((F _ hKb (nsK hns) hB).run callerA [] s₁ H ⟨[.ref a], []⟩ [.ref a] [.ref a] _ _ hr e0 (hbind s₁ (.ref a)) (.cons rfl .nil) (hsp H hO hS hT)) fun r s' h => ?_
    cases r with
    | error e => exact (hCX H e s' h).elim
    | ok fl =>
      cases fl with
      | next => exact False.elim h
      | brk => exact False.elim h
      | cont => exact False.elim h
      | ret u =>
        obtain ⟨v, H', os, bare, un, hok', r', q⟩ := h
        have q' : v = .bl true := q
        subst q'
        obtain rfl : u = Value.bool true := r'
        obtain ⟨more, hT'⟩ := un.tbls Pt _ hT
        have hP' : s'.heap.get? Pt = some (PySem.W.tabObj (#[] ++ more)) := hok' Pt _ hT'
        have keep : ∀ b o, b ≠ Pt → s₁.heap.get? b = some o → s'.heap.get? b = some o := fun b o nb e => by
          cases q : H b with
          | none => exact un.keep b o e q (by intro z; exact absurd (show b ∈ ([] : List Addr) from z) (by simp)) (by simp)
          | some u =>
            rcases hO b with z | ⟨ob, xs, z⟩ | ⟨z, _⟩
            · rw [q] at z; cases z
            · have z2 := un.frzs b ob _ z
              obtain ⟨e1, _⟩ := hok b _ z
              obtain ⟨e2, _⟩ := hok' b _ z2
              rw [e] at e1; cases e1
              exact e2
            · exact absurd z nb
        refine ⟨rfl, ⟨fun b o e => ?_, fun b o e => ?_⟩, os, bare⟩
        · by_cases z : b = Pt
          · subst z
            rw [hP] at e
            cases e
            obtain ⟨oc, vsc, _, _, _, _, _, _, _, e1, e2, e3, e4, _⟩ := hC
            exact .inr (.inl ⟨⟨c, oc, vsc, e1, e2, e3, e4⟩, rfl, #[], more, rfl, hP'⟩)
          · exact .inl (keep b o z e)
        · by_cases z : b = Pt
          · subst z
            exact ⟨_, hP'⟩
          · exact ⟨o, keep b o z e⟩
  cases hk : K.lookup a with
  | some o =>
    have e := KX a o hk
    rw [ha] at e
    cases e
    refine core (fun b => if b = Pt then some (.tbl #[]) else none) (fun b => ?_) (if_pos rfl) (.inr ⟨_, vs.toArray, _, hk, rfl, rfl, rfl, by rw [List.size_toArray, lenV]; exact hl, by simpa using rv⟩) (fun b u z => ?_) (fun b z => ?_) (fun z => absurd (if_neg aP) z)
    · by_cases hb : b = Pt
      · exact .inr (.inr ⟨hb, if_pos hb⟩)
      · exact .inl (if_neg hb)
    · by_cases hb : b = Pt
      · have z' := (if_pos hb).symm.trans z
        cases z'
        subst hb
        exact hP
      · have z' := (if_neg hb).symm.trans z
        cases z'
    · by_cases hb : b = Pt
      · exact .inr hb
      · exact absurd (if_neg hb) z
  | none =>
    refine core (fun b => if b = a then some (.frz { cls := .type "list", data := .seq vs.toArray } (.lst (ns.map V.int))) else if b = Pt then some (.tbl #[]) else none) (fun b => ?_) ((if_neg aP.symm).trans (if_pos rfl)) (.inl (.inr ⟨{ cls := .type "list", data := .seq vs.toArray }, if_pos rfl⟩)) (fun b u z => ?_) (fun b z => ?_) fun _ => hk
    · by_cases hb : b = a
      · exact .inr (.inl ⟨_, _, if_pos hb⟩)
      · by_cases hb2 : b = Pt
        · exact .inr (.inr ⟨hb2, (if_neg hb).trans (if_pos hb2)⟩)
        · exact .inl ((if_neg hb).trans (if_neg hb2))
    · by_cases hb : b = a
      · have z' := (if_pos hb).symm.trans z
        cases z'
        subst hb
        exact ⟨ha, by rw [List.length_map]; exact hl, vs, _, rv, ha⟩
      · have z' := (if_neg hb).symm.trans z
        by_cases hb2 : b = Pt
        · have z' := (if_pos hb2).symm.trans z'
          cases z'
          subst hb2
          exact hP
        · have z' := (if_neg hb2).symm.trans z'
          cases z'
    · by_cases hb : b = a
      · exact .inl hb
      · by_cases hb2 : b = Pt
        · exact .inr hb2
        · exact absurd ((if_neg hb).trans (if_neg hb2)) z
theorem walk_ofT {l : PySem.W.OpenLaw} {n k : Nat} {q : Program} {loose : List Str} {XP : (Str → Option Value) → Heap → Prop} {YP : World → Heap → Prop} {d : DefRec} {K : Params → PySem.W.Frag} {CX : World → CXT} {sp : World → PySem.W.Frag → Sp} {x : Str} {Pt : Addr}
    (hn : l.most = some n) (hn2 : n ≤ sizeLine) (hdf : d.params.defaults = []) (hr : Room k callerA)
    (hY : ∀ (w : World) (h : Heap), YP w h → (K w.params).In h ∧ h.get? Pt = some (PySem.W.tabObj #[]))
    (F : ∀ (w : World) (mg : Str → Option Value) (fa : Addr) (h : Heap), (K w.params).In h → h.Ns mainGlobals mg → XP mg h → mg d.name = some (.ref fa) →
      ∃ (fd : FuncData) (c : Addr), PySem.W.codeHdIn (K w.params) c Pt = true ∧ (K w.params).lookup Pt = none ∧ (∀ (s : Shared) (u : Value), BindsTo s fd ⟨[u], []⟩ [(x, u)]) ∧
        ∀ base : Heap, (K w.params).In base → base.Ns mainGlobals mg → base.BuiltinsAt mg Pt → FnOk l.prog w (K w.params) mg base (CX w) k fa fd [x] (sp w (K w.params)))
    (hsp : ∀ (w : World) (K : PySem.W.Frag) (H : Hp) (a : Addr) (ns : List Int), ns.length ≤ n → OnlyT Pt H → SqL K H a (ns.map V.int) → H Pt = some (.tbl #[]) → sp w K [.ref a] H (fun v _ => v = .bl true) fun _ _ _ => False)
    (hCX : ∀ (w : World) (H : Hp) (s : Shared) (e : Value) (s' : Shared), CX w [] H s (fun _ _ _ => False) e s' → False) :
    PySem.W.WalkO q loose XP YP l.row.toRowW d [] (fun f vs => PySem.call f vs) := by
  refine Att.attach_call hn hdf fun w s₀ s₁ mg mb fa o pm cd doc a vs ns G Y ho hd hcd hmg hobj hints hlen hg => ?_
  obtain ⟨KX, hP⟩ := hY w _ Y
  obtain ⟨fd, c, hC, hPK, hb, hF⟩ := F w mg fa _ KX G.T.g G.X hmg
  exact law_callT KX G.T.g G.T.b G.T.builtins G.T.nolimit hg G.T.bmain (PySem.W.codeHd_of_K KX hC) hP hPK hobj hints (Nat.le_trans hlen hn2) hr hF hb (fun H hO hS hT => hsp w (K w.params) H a ns hlen hO hS hT) fun H e s' => hCX w H s₁ e s'
end L2
set_option Elab.async false
set_option linter.all false
set_option maxRecDepth 100000
set_option maxHeartbeats 4000000
namespace L2
open PySem PySem.Spec PyProof.Rows PySem.W
theorem exc_own {prog : Program} {w : World} {A : Around} {E : Value → Shared → Prop} {Q : Value → Shared → Prop} {s : Shared} {K : PySem.W.Frag} {a C d : Addr} {od : Obj} {f : Str} {v : Value} {vs : Array Value} {sl : Array (Option Value)} (c : XCls K C) (X : K.In s.heap) (e : s.heap.get? a = some (EO (some d) (.ref C) vs sl)) (hod : s.heap.get? d = some od)
    (hf : findObj K C (some od) f = some (.value v)) (hv : handedOut v = pure v) (q : Q v { s with toks := s.toks + 1 }) : wpAny (model prog w) A (getAttr (.ref a) f true) Q E s := by
  have I : PySem.W.InstAt s.heap a (EO (some d) (.ref C) vs sl) C (some od) := ⟨e, rfl, rfl, hod⟩
  obtain ⟨hh, g, dd, t, os⟩ := s
  have L0 := I.type (M := model prog w)
  have L1 := looks_findIn (M := model prog w) X c.ga
  have L2 := looks_findIn (M := model prog w) X c.gt
  have L3 := looks_find (M := model prog w) X I hf
  unfold getAttr getAttrBy
  refine wpAny_bind (wpAny_mkText (wpAny_holding (wpAny_bind (L0.at (wpAny_bind (L1.at ?_))))))
  show wpAny _ _ (getAttrByItsOwn _ _ _ _ _ _) _ _ _
  unfold getAttrByItsOwn
  refine wpAny_bind (L2.at (wpAny_bind (wpAny_attempt (wpAny_holding ?_))))
  show wpAny _ _ (boundAndCalled _ _ _) _ _ _
  unfold boundAndCalled
  have hbs : bindSpecial (.builtin "BaseException.__getattribute__") (.ref a) = pure (.builtin "BaseException.__getattribute__", [.ref a]) := by
    have hop : withoutEnding? "BaseException.__getattribute__" "#opaque" = none := by decide +kernel
    have hdat : withoutEnding? "BaseException.__getattribute__" "#data" = none := by decide +kernel
    have hk : builtinKind "BaseException.__getattribute__" = some .slot := by decide +kernel
    simp only [bindSpecial, typeOf, builtinType, hop, hdat, hk]; rfl
  rw [hbs]
  refine wpAny_bind (wpAny_pure ?_)
  have L4 := looks_subIn (M := model prog w) X c.sb
  refine wpAny_call (codeAny_call_builtin (by decide +kernel) F.entry_bexc_ga ?_)
  have hk : builtinKind "BaseException.__getattribute__" = some .slot := by decide +kernel
  have hsplit : splitId "BaseException.__getattribute__" = some ("BaseException", "__getattribute__") := by decide +kernel
  have ha := F.args_bexc_ga (.ref a) (.str f t)
  simp only [checkBuiltinCall, hk, hsplit]
  have LI : Looks (model prog w) hh (isInstance (.ref a) (.type "BaseException")) true := L0.andThen L4
  refine wpAny_bind (LI.at ?_)
  rw [if_neg (by decide)]
  refine wpAny_mono (Q := fun _ s' => s' = (⟨hh, g, dd, t + 1, os⟩ : Shared)) (E := fun _ _ => False) ?_ (fun _ s' z => ?_) (fun _ _ z => z.elim)
  · repeat (first | assumption | rfl | wp_step)
  · subst z
    unfold Builtin.«object.__getattribute__»
    refine wpAny_bind (wpAny_pure ?_)
    refine wpAny_bind (wpAny_pure ?_)
    refine wpAny_bind (L0.at (wpAny_bind (L3.at ?_)))
    show wpAny _ _ (ret v) _ _ _
    refine wpAny_pure ?_
    show wpAny _ _ (handedOut v) _ _ _
    rw [hv]
    exact wpAny_pure q
structure NoAttrX (K : PySem.W.Frag) (C : Addr) (f : Str) : Prop where
  no : PySem.W.findIn K (.ref C) f = some none
  cp : copiedNames.contains f = false
section
variable {X : Cx} {e : Expr} {f : Str} {pos : Pos} {ta : TE}
noncomputable def tFldX (K : PySem.W.Frag) (ta : TE) (f : Str) : TE := fun σ H Q => ta σ H fun x H1 => ∃ a C d fs v, x = .ref a ∧ H1 a = some (excHo (some d) a (.ref C)) ∧ H1 d = some (.xd fs) ∧ XCls K C ∧ PySem.W.findIn K (.ref C) f = some none ∧ fs.lookup f = some v ∧ Q v H1
theorem pe_fldX (he : PE X e ta) (hb : attributeBase e f X.env (eval e X.env) = eval e X.env) : PE X (.Attribute e f pos) (tFldX X.K ta f) := by
  intro pins s σ H Q I h
  refine attr_of hb (thn (he pins s σ H _ I h) fun u s1 ⟨x, H1, I1, rx, a, C, d, fs, v, ex, ea, ed, c, n, l, q⟩ => ?_)
  subst ex
  obtain rfl : u = Value.ref a := rx
  obtain ⟨⟨vs, sl, ho⟩, _, _⟩ := (show ObjOk X.prog X.w H1 s1.heap a (excHo (some d) a (.ref C)) from I1.hok a _ ea)
  obtain ⟨mA, hN, r⟩ := (show ObjOk X.prog X.w H1 s1.heap d (.xd fs) from I1.hok d _ ed)
  obtain ⟨w, hw, rw'⟩ := RelO.some_of (v := v) (o := mA f) (by rw [← l]; exact r f)
  obtain ⟨od, hd, hl⟩ := lookIn_ns hN
  exact exc_own c I1.kIn ho hd (PySem.W.findObj_own c.hd n rfl (by rw [hl, hw])) (PySem.W.handedOut_of (handed_of rw')) ⟨v, H1, I1.tok _, rw', q⟩
end
end L2
set_option Elab.async false
set_option linter.all false
set_option maxRecDepth 100000
set_option maxHeartbeats 4000000
namespace L2
open PySem PySem.Spec PyProof.Rows PySem.W PySem.Builtin PySem.Builtin.ObjectAttr
noncomputable def mkxIn (K : Frag) (C : Addr) : Bool := match K.lookup C with
  | some ⟨.type "type", _, .cls cd, sl⟩ => (match cd.mro, sl.toList with
    | .ref C' :: bm, [_, _, _, _, some (.builtin n), _] => (((C' == C && n == "ValueError.__new__") && !cd.hasDel) && cd.hasDict) && tailIn K veMro bm
    | _, _ => false)
  | _ => false
structure MkX (K : Frag) (C fI : Addr) : Prop where
  tx : mkxIn K C = true
  it : findIn K (.ref C) "__init__" = some (some (.ref fI))
  fn : typeIn K (.ref fI) = some (.type "function")
  sa : findIn K (.ref C) "__setattr__" = some (some (.builtin "object.__setattr__"))
section
variable {prog : Program} {w : World} {A : Around} {E : Value → Shared → Prop} {s : Shared} {K : Frag} {C fI a : Addr}
end
end L2
set_option Elab.async false
set_option linter.all false
set_option maxRecDepth 100000
set_option maxHeartbeats 4000000
namespace L2
open PySem PySem.Spec PyProof.Rows PySem.W
noncomputable def madeX (dx : Option Addr) (a : Addr) (C : Value) : HO := .ext fun h => ∃ vs sl, h.get? a = some (EO dx C vs sl) ∧ vs[1]? = some Value.none
noncomputable def dctX (d : Addr) (fs : List (Str × V)) : HO := .ext fun h => ∃ mA, h.Ns1 d mA ∧ ∀ f, RelO (fs.lookup f) (mA f)
noncomputable def untr (H : Hp) (a : Addr) : Hp := fun b => if b = a then none else H b
section
variable {X : Cx} {pins : List (Addr × Obj)} {σ : St} {H : Hp} {s : Shared}
end
section
variable {X : Cx} {CX : CXT} {k : Nat} {fI C : Addr} {fd : FuncData} {ps : List Str} {sp : Sp} {E : XK} {x f : Str} {p np pos pos' apos : Pos} {e o value : Expr} {es : List Expr} {te ta tv : TE} {t : TA}
noncomputable def sSetX0 (K : Frag) (ta tv : TE) (f : Str) : TS := fun D σ H => tv σ H fun y H1 => ta σ H1 fun x H2 => ∃ a C fI, x = .ref a ∧ H2 a = some (madeX none a (.ref C)) ∧ MkX K C fI ∧ takerIn K C f = some none ∧
  ∀ d, H2 d = none → D.nx σ (upd (upd H2 d (dctX d [(f, y)])) a (madeX (some d) a (.ref C)))
noncomputable def sSetX1 (K : Frag) (ta tv : TE) (f : Str) : TS := fun D σ H => tv σ H fun y H1 => ta σ H1 fun x H2 => ∃ a C fI d fs, x = .ref a ∧ H2 a = some (madeX (some d) a (.ref C)) ∧ H2 d = some (dctX d fs) ∧ fs.length ≤ 1000 ∧ MkX K C fI ∧ takerIn K C f = some none ∧
  D.nx σ (upd H2 d (dctX d (putF f y fs)))
structure SupX (K : Frag) (B : Addr) : Prop where
  sg : specialIn K (.ref B) "__getattribute__" = some (some (.builtin "type.__getattribute__"))
  rd : readsIn K B (.type "type") = true
  fc : findCls K (.ref B) (.type "type") "__init__" = some (.val (.builtin "ValueError.__init__"))
noncomputable def tInitX (K : Frag) (t : TA) : TE := fun σ H Q => t σ H fun ys H1 => ∃ a z dx C fI, ys = [.ref a, z] ∧ H1 a = some (madeX dx a (.ref C)) ∧ MkX K C fI ∧ Q .non H1
noncomputable def tMakeX (X : Cx) (C : Addr) (sp : Sp) (E : XK) (t : TA) : TE := fun σ H Q => t σ H fun vs H1 => vs.length ≤ 1000 ∧ ∀ a, H1 a = none → X.s₀.heap.get? a = none → sp (.ref a :: vs) (upd H1 a (madeX none a (.ref C))) (fun r H2 => r = .non ∧ Q (.ref a) H2) E
noncomputable def RaisesX (X : Cx) (E : XK) : Prop := ∀ (pins : List (Addr × Obj)) (σ : St) (H : Hp) (s : Shared) (C : Value) (a : Addr) (dx : Option Addr) (vs : Array Value) (sl : Array (Option Value)), Inv X pins σ H s → H a = none → X.s₀.heap.get? a = none → s.heap.get? a = some (EO dx C vs sl) → vs[1]? = some Value.none → E C dx H → X.xe (.ref a) s
noncomputable def tRaiseX (X : Cx) (E : XK) (te : TE) : TS := fun _ σ H => te σ H fun x H1 => ∃ a C fI d fs, x = .ref a ∧ H1 a = some (madeX (some d) a (.ref C)) ∧ H1 d = some (dctX d fs) ∧ d ≠ a ∧ MkX X.K C fI ∧ X.s₀.heap.get? a = none ∧ E (.ref C) (some d) (untr (upd H1 d (.xd fs)) a)
end
end L2
set_option Elab.async false
set_option linter.all false
set_option maxRecDepth 100000
set_option maxHeartbeats 4000000
namespace L2
open PySem PySem.Spec PyProof.Rows
section
variable {X : Cx} {k i : Nat} {x : Str} {p pos pos' : Pos}
noncomputable def tCallV0 (X : Cx) (k i : Nat) : TE := fun σ H Q => ∃ f fd sp, σ[i]? = some (some (.ref f)) ∧ H f = some (LamO f fd) ∧ FnOk X.prog X.w X.K X.mg X.base (CXE X.prog X.w) k f fd [] sp ∧ Binds X.K fd [] [] ∧ sp [] H Q E0
theorem pe_callV0 (hN : X.N[i]? = some x) (hv : Vis X.env.scope x) (hr : Room k X.A) (hd : (x == ("__debug__" : Str)) = false := by decide) (hcd : (x == ("__classdict__" : Str)) = false := by decide) : PE X (.Call (.Name x p) [] [] pos) (tCallV0 X k i) := by
  intro pins s σ H Q I h
  obtain ⟨f, fd, sp, e1, hf, F, hb, hsp⟩ := h
  refine wpAny_Call_Name_kw (ld_var I hN hv e1 (fun u r => ?_) hd hcd)
  cases (show u = Value.ref f from r)
  obtain ⟨ho, _, _⟩ := I.hok f _ hf
  refine PySem.W.callWith_F0 ⟨_, _, _, _, ho⟩ ?_
  refine wpAny_call (codeAny_mono (F.run X.A X.stack s H ⟨[], []⟩ [] [] _ _ hr I.env0 (hb s [] I.kIn rfl) .nil hsp) fun r s' hq => ?_)
  cases r with
  | error e =>
    obtain ⟨a, C, dx, H', rfl, fl, ho, hg, U, ok, hE⟩ := hq
    exact False.elim hE
  | ok fl =>
    cases fl with
    | ret u => exact I.after hq
    | next => exact False.elim hq
    | brk => exact False.elim hq
    | cont => exact False.elim hq
theorem ps_tryN {body : List Stmt} {h₀ : ExceptHandler} {hs : List ExceptHandler} {tb : TS} (hb : PSs X.nox body tb) : PS X (.Try body (h₀ :: hs) [] [] pos) tb := by
  intro pins s σ H D I h
  refine wpAny_Try_except (wpAny_mono (hb pins s σ H D (I.wish _) h) (fun f s1 q => ?_) fun _ _ z => z.elim)
  have q' : SP X pins D f s1 := SP.unwish q
  cases f with
  | next => exact wpAny_pure q'
  | brk => exact q'
  | cont => exact q'
  | ret u => exact q'
theorem pe_fldXK {K : PySem.W.Frag} {e : Expr} {f : Str} {ta : TE} (hK : X.K = K) (he : PE X e ta) (hb : attributeBase e f X.env (eval e X.env) = eval e X.env) : PE X (.Attribute e f pos) (tFldX K ta f) := by subst hK; exact pe_fldX he hb
theorem PS.or {st : Stmt} {t1 t2 : TS} (h1 : PS X st t1) (h2 : PS X st t2) : PS X st (fun D σ H => t1 D σ H ∨ t2 D σ H) := fun pins s σ H D I h => h.elim (h1 pins s σ H D I) (h2 pins s σ H D I)
end
end L2
set_option Elab.async false
set_option linter.all false
set_option maxRecDepth 100000
set_option maxHeartbeats 4000000
namespace L2
open PySem PySem.Spec PyProof.Rows
noncomputable def ItrS (lo : Int) (n : Nat) : It := ⟨fun i _ => i < n, fun i H x H' => H' = H ∧ x = .int (lo + (i : Int) * 2), fun i _ => n ≤ i⟩
theorem turn_rangeS {P : Program} {w : World} {K : PySem.W.Frag} {tg : Expr} (it : Addr) (lo : Int) (n : Nat) : Turn P w K tg (ItrS lo n) [it] it (fun i h => IsRangeIter h it (lo + (i : Nat) * 2) ((n : Int) - (i : Nat)) 2) where
  mem := by simp
  obj := fun i h st b hb => by
    have e : b = it := by simpa using hb
    subst e
    exact ⟨_, st, fun v z => nomatch (show Data.fields _ = Data.cell v from z)⟩
  keep := fun i h h' st k => k it (by simp) _ st
  item := by
    intro X hP hw hK hc i pins s σ H E I hf st hg
    subst hP hw hK
    obtain ⟨f0, f1, f2, f3, f4, f5⟩ := hf it (by simp)
    have W := Walks.range (prog := X.prog) (w := X.w) (I.ok.hd hc) it lo 2 n
    refine W.item i s _ _ hg st fun v h' tk hv st' kk => ?_
    obtain ⟨t, rfl⟩ := hv
    have I1 : Inv X pins σ H { s with heap := h', toks := tk } := I.turned (fun b o hb e => kk b o (by simpa using hb) e) f0 f1 f3 f4 f5
    exact ⟨_, rfl, go_of (s := { s with heap := h', toks := tk }) (n := "range_iterator") st' rfl rfl (by decide) ⟨.int (lo + (i : Int) * 2), H, I1, ⟨t, rfl⟩, ⟨rfl, rfl⟩, st', fun b hb => (hf b hb).1⟩⟩
  done := by
    intro X hP hw hK hc i pins s σ H E I hf st hg
    subst hP hw hK
    obtain ⟨f0, f1, f2, f3, f4, f5⟩ := hf it (by simp)
    exact wpAny_pyNext_range_end (I.ok.hd hc) st (by have : n ≤ i := hg; omega) fun h' eb => ⟨rfl, I.turned (t' := s.toks) (fun b o hb e => eb b o hb e) f0 f1 f3 f4 f5⟩
  self := fun _ _ _ _ _ st h => wpAny_pyIter_rangeiter st h
section
variable {X : Cx} {tg : Expr}
noncomputable def nS (lo hi : Int) : Nat := if lo < hi then ((hi - lo - 1) / 2 + 1).toNat else 0
theorem nS_size (lo hi : Int) : ((nS lo hi : Nat) : Int) = Builtin.Range.rangeSize lo hi 2 := by
  unfold nS Builtin.Range.rangeSize
  rw [if_pos (show (2 : Int) > 0 by decide)]
  split <;> omega
theorem small_two {a b : Int} (ha : -(2 ^ 62) ≤ a) (ha' : a < 2 ^ 62) (hb : -(2 ^ 62) ≤ b) (hb' : b < 2 ^ 62) : Builtin.Range.small a b 2 = true := by
  unfold Builtin.Range.small
  rw [← nS_size]
  unfold nS
  simp only [Builtin.Range.rangeFitsLong, Bool.and_eq_true, Bool.or_eq_true, decide_eq_true_eq, beq_iff_eq, show (2 : Int) > 0 by decide, if_true]
  split <;> omega
theorem range_itS {pins : List (Addr × Obj)} {σ : St} {H : Hp} {s : Shared} {R : It → Hp → Prop} {E : Value → Shared → Prop} {lo hi : Int} {t u v : Tok} {tk : Nat} (I : Inv X pins σ H s) (h1 : -(2 ^ 62) ≤ lo) (h2 : lo < 2 ^ 62) (h3 : -(2 ^ 62) ≤ hi) (h4 : hi < 2 ^ 62)
    (q : R (ItrS lo (nS lo hi)) H) : wpAny (model X.prog X.w) X.A (pyIter (.ref s.heap.objs.size)) (PIE X pins σ tg R) E { s with heap := s.heap.push { cls := .type "range", data := .fields #[.int lo t, .int hi u, .int 2 v] }, toks := tk } := by
  refine wpAny_pyIter_range (IsRange.new ..) (small_two h1 h2 h3 h4) ?_
  have I1 : Inv X pins σ H { s with heap := s.heap.push { cls := .type "range", data := .fields #[.int lo t, .int hi u, .int 2 v] }, toks := tk } := I.kept fun b o e => Heap.get?_push_of_some _ e
  refine ⟨(s.heap.push { cls := .type "range", data := .fields #[.int lo t, .int hi u, .int 2 v] }).objs.size, [(s.heap.push { cls := .type "range", data := .fields #[.int lo t, .int hi u, .int 2 v] }).objs.size], _, _, H, rfl,
    I1.kept (t' := tk) fun b o e => Heap.get?_push_of_some _ e, turn_rangeS _ lo (nS lo hi), ?_, fun b hb => ?_, q⟩
  · have e1 : lo + ((0 : Nat) : Int) * 2 = lo := by simp
    have e2 : ((nS lo hi : Nat) : Int) - ((0 : Nat) : Int) = Builtin.Range.rangeSize lo hi 2 := by rw [← nS_size]; simp
    show IsRangeIter _ _ (lo + ((0 : Nat) : Int) * 2) (((nS lo hi : Nat) : Int) - ((0 : Nat) : Int)) 2
    rw [e1, e2]
    exact Heap.get?_push_size _ rfl
  · have e : b = (s.heap.push { cls := .type "range", data := .fields #[.int lo t, .int hi u, .int 2 v] }).objs.size := by simpa using hb
    subst e
    exact I1.fpOk (Nat.le_refl _) (I1.hok.fresh (Nat.le_refl _))
noncomputable def iRngS (ta : TA) : TI := fun σ H R => ta σ H fun vs H1 => ∃ i j : Int, vs = [.int i, .int j, .int 2] ∧ (-(2 ^ 61) ≤ i ∧ i < 2 ^ 61 ∧ -(2 ^ 61) ≤ j ∧ j < 2 ^ 61) ∧ R (ItrS i (nS i j)) H1
theorem pi_range3 {a b c : Expr} {ta : TA} {p pos : Pos} (hg : Gl X "range") (hm : X.mg "range" = none) (ha : PA X [a, b, c] ta) (hs : starEach [a, b, c] X.env = [(false, eval a X.env), (false, eval b X.env), (false, eval c X.env)] := by rfl) (hs2 : starEach [b, c] X.env = [(false, eval b X.env), (false, eval c X.env)] := by rfl) :
    PI X tg (.Call (.Name "range" p) [a, b, c] [] pos) (iRngS ta) := by
  intro pins s σ H R I h
  refine Call_ (ld_blt I hg hm boot_range (PyProof.Rows.callWith_type1 (thn (ha pos pins s σ H _ I h) fun us s1 ⟨vs, H1, I1, r1, q1⟩ => ?_) (by rw [hs, hs2]) (by rw [hs2]; rfl)))
  obtain ⟨i, j, e, ⟨q1, q2, q3, q4⟩, q⟩ := q1
  subst e
  cases r1 with
  | cons r rr =>
    cases rr with
    | cons r' rr =>
      cases rr with
      | cons r'' rr =>
        cases rr
        obtain ⟨t, rfl⟩ := r
        obtain ⟨t', rfl⟩ := r'
        obtain ⟨t'', rfl⟩ := r''
        exact call_range_3 (by decide) (range_itS I1 (by omega) (by omega) (by omega) (by omega) q) (.inl (PyProof.noPylong_small (by decide)))
end
section
variable {g : TG} {tt : TT} {te : TE} {D : Addr} {Q : VK} {σ : St} {H : Hp}
theorem comp_rangeS {lo : Int} {n : Nat} (Pv : Nat → St → Hp → Prop) (h0 : Pv 0 σ H)
    (hs : ∀ i σ H, i < n → Pv i σ H → CT g tt te D (Pv (i + 1)) (.int (lo + (i : Int) * 2)) σ H) (hd : ∀ σ H, Pv n σ H → Q (.ref D) H) : CW (ItrS lo n) g tt te D Q σ H := by
  refine ⟨fun i m σ H => m = n - i ∧ i ≤ n ∧ Pv i σ H, ⟨n, by simp, Nat.zero_le _, h0⟩, ?_⟩
  rintro i m σ H ⟨rfl, hi, p⟩
  by_cases hlt : i < n
  · refine .inr ⟨hlt, Pv (i + 1), fun σ' H' p' => ⟨n - (i + 1), by omega, rfl, hlt, p'⟩, fun x H' y => ?_⟩
    obtain ⟨e, rfl⟩ := y
    subst e
    exact hs i σ _ hlt p
  · have e : i = n := by omega
    subst e
    exact .inl ⟨Nat.le_refl _, hd σ H p⟩
end
end L2
set_option linter.all false
set_option maxHeartbeats 4000000
namespace MM
noncomputable def Cg (n a b : Int) : Prop := n ∣ a - b
theorem Cg.refl (n a : Int) : Cg n a a := ⟨0, by omega⟩
theorem Cg.symm {n a b : Int} (h : Cg n a b) : Cg n b a := by
  obtain ⟨k, h⟩ := h; exact ⟨-k, by grind⟩
theorem Cg.trans {n a b c : Int} (h : Cg n a b) (g : Cg n b c) : Cg n a c := by
  obtain ⟨k, h⟩ := h; obtain ⟨l, g⟩ := g; exact ⟨k + l, by grind⟩
theorem Cg.mul {n a b c d : Int} (h : Cg n a b) (g : Cg n c d) : Cg n (a * c) (b * d) := by
  obtain ⟨k, h⟩ := h; obtain ⟨l, g⟩ := g; exact ⟨a * l + d * k, by grind⟩
theorem Cg.add {n a b c d : Int} (h : Cg n a b) (g : Cg n c d) : Cg n (a + c) (b + d) := by
  obtain ⟨k, h⟩ := h; obtain ⟨l, g⟩ := g; exact ⟨k + l, by grind⟩
theorem Cg.sub {n a b c d : Int} (h : Cg n a b) (g : Cg n c d) : Cg n (a - c) (b - d) := by
  obtain ⟨k, h⟩ := h; obtain ⟨l, g⟩ := g; exact ⟨k - l, by grind⟩
theorem Cg.pow {n a b : Int} (h : Cg n a b) (k : Nat) : Cg n (a ^ k) (b ^ k) := by
  induction k with
  | zero => rw [Int.pow_zero, Int.pow_zero]; exact Cg.refl _ _
  | succ k ih => rw [Int.pow_succ, Int.pow_succ]; exact ih.mul h
theorem cg_mod (n a : Int) : Cg n (a % n) a := ⟨-(a / n), by have := Int.emod_add_mul_ediv a n; grind⟩
theorem cg_eq {n a b : Int} (h : Cg n a b) : a % n = b % n := Int.emod_eq_emod_iff_emod_sub_eq_zero.mpr (Int.emod_eq_zero_of_dvd h)
theorem cg_self {n a b : Int} (h : Cg n a b) (h0 : 0 ≤ a) (h1 : a < n) : a = b % n := by
  have := cg_eq h; rw [Int.emod_eq_of_lt h0 h1] at this; exact this
structure PowInv (base often n done square left : Int) : Prop where
  d0 : 0 ≤ done
  d1 : done < n
  s0 : 0 ≤ square
  s1 : square < n
  l0 : 0 ≤ left
  cg : Cg n (done * square ^ left.toNat) (base ^ often.toNat)
theorem pow_start {base often n : Int} (hn : 0 < n) (ho : 0 ≤ often) : PowInv base often n (1 % n) (base % n) often :=
  ⟨Int.emod_nonneg _ (by omega), Int.emod_lt_of_pos _ hn, Int.emod_nonneg _ (by omega), Int.emod_lt_of_pos _ hn, ho, by
    have := (cg_mod n 1).mul ((cg_mod n base).pow often.toNat)
    rwa [Int.one_mul] at this⟩
theorem sq_pow (a : Int) (k : Nat) : (a * a) ^ k = a ^ (2 * k) := by
  induction k with
  | zero => simp
  | succ k ih => rw [Int.pow_succ, ih, show 2 * (k + 1) = 2 * k + 1 + 1 by omega, Int.pow_succ, Int.pow_succ, Int.mul_assoc]
theorem pow_even {base often n done square left : Int} (hn : 0 < n) (h : PowInv base often n done square left) (hl : left % 2 ≠ 1) : PowInv base often n done (square * square % n) (left / 2) := by
  refine ⟨h.d0, h.d1, Int.emod_nonneg _ (by omega), Int.emod_lt_of_pos _ hn, by have := h.l0; omega, ?_⟩
  have e : left.toNat = 2 * (left / 2).toNat := by have := h.l0; omega
  have := (Cg.refl n done).mul ((cg_mod n (square * square)).pow (left / 2).toNat)
  refine this.trans ?_
  rw [sq_pow, ← e]; exact h.cg
theorem pow_odd {base often n done square left : Int} (hn : 0 < n) (h : PowInv base often n done square left) (hl : left % 2 = 1) : PowInv base often n (done * square % n) (square * square % n) (left / 2) := by
  refine ⟨Int.emod_nonneg _ (by omega), Int.emod_lt_of_pos _ hn, Int.emod_nonneg _ (by omega), Int.emod_lt_of_pos _ hn, by have := h.l0; omega, ?_⟩
  have e : left.toNat = 2 * (left / 2).toNat + 1 := by have := h.l0; omega
  have := (cg_mod n (done * square)).mul ((cg_mod n (square * square)).pow (left / 2).toNat)
  refine this.trans ?_
  have e2 : done * square * (square * square) ^ (left / 2).toNat = done * square ^ left.toNat := by
    rw [e, sq_pow, Int.pow_succ]; grind
  rw [e2]; exact h.cg
theorem pow_end {base often n done square left : Int} (h : PowInv base often n done square left) (hl : ¬ 0 < left) : done = base ^ often.toNat % n := by
  have e : left.toNat = 0 := by omega
  have c := h.cg
  rw [e, Int.pow_zero, Int.mul_one] at c
  exact cg_self c h.d0 h.d1
structure GcdInv (a b great small : Int) : Prop where
  g0 : 0 ≤ great
  s0 : 0 ≤ small
  gb : great ≤ a.natAbs ∨ great ≤ b.natAbs
  sb : small ≤ b.natAbs
  gc : Nat.gcd great.toNat small.toNat = Int.gcd a b
theorem gcd_start (a b : Int) : GcdInv a b (if a < 0 then -a else a) (if b < 0 then -b else b) := by
  have e1 : (if a < 0 then -a else a) = (a.natAbs : Int) := by split <;> omega
  have e2 : (if b < 0 then -b else b) = (b.natAbs : Int) := by split <;> omega
  rw [e1, e2]
  exact ⟨by omega, by omega, .inl (Int.le_refl _), Int.le_refl _, by simp [Int.gcd]⟩
theorem gcd_turn {a b great small : Int} (h : GcdInv a b great small) (hs : 0 < small) : GcdInv a b small (great % small) := by
  have h0 := h.g0
  have l1 := Int.emod_lt_of_pos great hs
  have l2 := Int.emod_nonneg great (show small ≠ 0 by omega)
  have sb := h.sb
  refine ⟨h.s0, l2, .inr h.sb, by omega, ?_⟩
  have e : (great % small).toNat = great.toNat % small.toNat := Int.toNat_emod h.g0 h.s0
  rw [e, ← h.gc, Nat.gcd_comm small.toNat, ← Nat.gcd_rec, Nat.gcd_comm]
theorem gcd_end {a b great small : Int} (h : GcdInv a b great small) (hs : ¬ 0 < small) : great = Int.gcd a b := by
  have s0 := h.s0
  have g0 := h.g0
  have e : small.toNat = 0 := by omega
  have c := h.gc
  rw [e, Nat.gcd_zero_right] at c
  omega
structure UndInv (a n great gt small st : Int) : Prop where
  g0 : 0 < great
  g1 : great ≤ n
  s0 : 0 ≤ small
  s1 : small ≤ n
  cg : Cg n great (gt * a)
  cs : Cg n small (st * a)
  gc : Nat.gcd great.toNat small.toNat = Int.gcd a n
  bd : great * st.natAbs + small * gt.natAbs ≤ n
noncomputable def Undo (a n v : Int) : Prop := 0 ≤ v ∧ v < n ∧ Cg n (v * a) 1
noncomputable def IsPr (n : Int) : Prop := 2 ≤ n ∧ ∀ d, 2 ≤ d → d * d ≤ n → n % d ≠ 0
noncomputable def isPrB (n : Int) : Bool := @decide (IsPr n) (Classical.propDecidable _)
theorem isPrB_iff {n : Int} : isPrB n = true ↔ IsPr n := by unfold isPrB; exact @decide_eq_true_iff _ (Classical.propDecidable _)
theorem isPrB_of {n : Int} (h : IsPr n) : isPrB n = true := isPrB_iff.mpr h
theorem isPrB_not {n : Int} (h : ¬ IsPr n) : isPrB n = false := by
  cases e : isPrB n with
  | false => rfl
  | true => exact absurd (isPrB_iff.mp e) h
theorem sq_mono {a b : Int} (h0 : 0 ≤ a) (h : a ≤ b) : a * a ≤ b * b := Int.mul_le_mul h h h0 (by omega)
theorem pr_all {n : Int} (h : IsPr n) {d : Int} (h2 : 2 ≤ d) (hd : d < n) : n % d ≠ 0 := by
  intro e
  by_cases hs : d * d ≤ n
  · exact h.2 d h2 hs e
  · obtain ⟨k, hk⟩ := Int.dvd_of_emod_eq_zero e
    have n2 := h.1
    have k1 : 0 < k := by
      by_cases hk0 : 0 < k
      · exact hk0
      · have : d * k ≤ 0 := Int.mul_nonpos_of_nonneg_of_nonpos (by omega) (by omega)
        omega
    have k2 : 2 ≤ k := by
      by_cases k2 : 2 ≤ k
      · exact k2
      · have : k = 1 := by omega
        subst this
        omega
    have kd : k < d := by
      by_cases kd : k < d
      · exact kd
      · have := Int.mul_le_mul_of_nonneg_left (show d ≤ k by omega) (show 0 ≤ d by omega)
        omega
    refine h.2 k k2 ?_ ?_
    · have := Int.mul_le_mul_of_nonneg_right (show k ≤ d by omega) (show 0 ≤ k by omega)
      omega
    · rw [hk, Int.mul_emod_left]
theorem pr_dvd {n : Int} (h : IsPr n) {d : Int} (h2 : 2 ≤ d) (hd : d ∣ n) : d = n := by
  have n2 := h.1
  have hle : d ≤ n := Int.le_of_dvd (by omega) hd
  by_cases e : d = n
  · exact e
  · exact absurd (Int.emod_eq_zero_of_dvd hd) (pr_all h h2 (by omega))
theorem pr_coprime {p : Nat} (h : IsPr p) {k : Nat} (hk : ¬ p ∣ k) : Nat.Coprime p k := by
  have hg : Nat.gcd p k = 1 := by
    have hd := Nat.gcd_dvd_left p k
    have p2 := h.1
    by_cases g2 : 2 ≤ Nat.gcd p k
    · have : ((Nat.gcd p k : Nat) : Int) = p := pr_dvd h (by omega) (Int.natCast_dvd_natCast.mpr hd)
      have e : Nat.gcd p k = p := by omega
      exact absurd (e ▸ Nat.gcd_dvd_right p k) hk
    · have : 0 < Nat.gcd p k := Nat.gcd_pos_of_pos_left _ (by omega)
      omega
  exact hg
theorem pr_euclid {p : Nat} (h : IsPr p) {a b : Nat} (hd : p ∣ a * b) (ha : ¬ p ∣ a) : p ∣ b := (pr_coprime h ha).dvd_of_dvd_mul_left hd
noncomputable def ch : Nat → Nat → Nat
  | _, 0 => 1
  | 0, _ + 1 => 0
  | n + 1, k + 1 => ch n k + ch n (k + 1)
theorem ch_zero (n : Nat) : ch n 0 = 1 := by cases n <;> rfl
theorem ch_succ (n k : Nat) : ch (n + 1) (k + 1) = ch n k + ch n (k + 1) := rfl
theorem ch_above : ∀ (n k : Nat), n < k → ch n k = 0
  | 0, k + 1, _ => rfl
  | n + 1, k + 1, h => by rw [ch_succ, ch_above n k (by omega), ch_above n (k + 1) (by omega)]
theorem ch_self : ∀ n, ch n n = 1
  | 0 => rfl
  | n + 1 => by rw [ch_succ, ch_self n, ch_above n (n + 1) (by omega)]
theorem ch_mul (n : Nat) : ∀ k, (k + 1) * ch (n + 1) (k + 1) = (n + 1) * ch n k := by
  induction n with
  | zero =>
    intro k
    cases k with
    | zero => rfl
    | succ k => rw [ch_above 1 (k + 2) (by omega), ch_above 0 (k + 1) (by omega)]; omega
  | succ n ih =>
    intro k
    rw [ch_succ (n + 1) k, Nat.mul_add, ih k]
    cases k with
    | zero => rw [ch_zero, ch_zero]; omega
    | succ j =>
      have := ih j
      have e := ch_succ n j
      rw [e] at this ⊢
      grind
noncomputable def bi (a : Int) (n : Nat) : Nat → Int
  | 0 => 0
  | m + 1 => bi a n m + (ch n m : Int) * a ^ m
theorem bi_step (a : Int) (n : Nat) : ∀ m, bi a (n + 1) (m + 1) = bi a n (m + 1) + a * bi a n m
  | 0 => by simp [bi, ch_zero]
  | m + 1 => by
    rw [show bi a (n + 1) (m + 1 + 1) = bi a (n + 1) (m + 1) + (ch (n + 1) (m + 1) : Int) * a ^ (m + 1) from rfl, bi_step a n m, ch_succ,
      show bi a n (m + 1 + 1) = bi a n (m + 1) + (ch n (m + 1) : Int) * a ^ (m + 1) from rfl, show bi a n (m + 1) = bi a n m + (ch n m : Int) * a ^ m from rfl, Int.pow_succ, Int.natCast_add]
    grind
theorem bi_all (a : Int) : ∀ n : Nat, (a + 1) ^ n = bi a n (n + 1)
  | 0 => by simp [bi, ch_zero]
  | n + 1 => by
    rw [bi_step, show bi a n (n + 1 + 1) = bi a n (n + 1) + (ch n (n + 1) : Int) * a ^ (n + 1) from rfl, ch_above n (n + 1) (by omega), Int.pow_succ, bi_all a n]
    grind
theorem pr_ch {p : Nat} (h : IsPr p) {k : Nat} (h0 : 0 < k) (hk : k < p) : p ∣ ch p k := by
  obtain ⟨n, rfl⟩ : ∃ n, p = n + 1 := ⟨p - 1, by omega⟩
  obtain ⟨j, rfl⟩ : ∃ j, k = j + 1 := ⟨k - 1, by omega⟩
  refine pr_euclid h (a := j + 1) ⟨ch n j, ch_mul n j⟩ fun hd => ?_
  have := Nat.le_of_dvd (by omega) hd
  omega
theorem bi_pr {p : Nat} (h : IsPr p) (a : Int) : ∀ m, m < p → Cg p (bi a p (m + 1)) 1
  | 0, _ => by
    have : bi a p 1 = 1 := by simp [bi, ch_zero]
    rw [this]; exact Cg.refl _ _
  | m + 1, hm => by
    have h1 := bi_pr h a m (by omega)
    obtain ⟨c, hc⟩ := pr_ch h (k := m + 1) (by omega) hm
    have h2 : Cg p ((ch p (m + 1) : Int) * a ^ (m + 1)) 0 := ⟨c * a ^ (m + 1), by rw [hc, Int.natCast_mul]; grind⟩
    have := h1.add h2
    rwa [Int.add_zero] at this
theorem fermat_nat {p : Nat} (h : IsPr p) : ∀ a : Nat, Cg p ((a : Int) ^ p) a
  | 0 => by
    have p2 := h.1
    have : ((0 : Nat) : Int) ^ p = 0 := Int.zero_pow (by omega)
    rw [this]; exact Cg.refl _ _
  | a + 1 => by
    have ih := fermat_nat h a
    have p2 := h.1
    obtain ⟨n, hn⟩ : ∃ n, p = n + 1 := ⟨p - 1, by omega⟩
    have e : ((a + 1 : Nat) : Int) ^ p = bi a p p + (a : Int) ^ p := by
      rw [Int.natCast_add, show ((1 : Nat) : Int) = 1 from rfl, bi_all, show bi (a : Int) p (p + 1) = bi a p p + (ch p p : Int) * (a : Int) ^ p from rfl, ch_self]
      grind
    have e2 := bi_pr h a n (by omega)
    rw [← hn] at e2
    rw [e]
    have := e2.add ih
    rwa [Int.add_comm 1] at this
theorem fermat {p : Int} (h : IsPr p) (a : Int) : Cg p (a ^ p.toNat) a := by
  have p2 := h.1
  obtain ⟨q, rfl⟩ := Int.eq_ofNat_of_zero_le (show 0 ≤ p by omega)
  have h1 := fermat_nat h (a % q).toNat
  have e : (((a % (q : Int)).toNat : Nat) : Int) = a % q := Int.toNat_of_nonneg (Int.emod_nonneg _ (by omega))
  rw [e] at h1
  rw [Int.toNat_natCast]
  exact ((cg_mod (q : Int) a).symm.pow q).trans (h1.trans (cg_mod _ a))
end MM
set_option linter.all false
set_option maxHeartbeats 4000000
namespace MM
noncomputable def prod : List (Int × Int) → Int
  | [] => 1
  | q :: r => q.1 ^ q.2.toNat * prod r
theorem prod_append (l r : List (Int × Int)) : prod (l ++ r) = prod l * prod r := by
  induction l with
  | nil => simp [prod]
  | cons q l ih => rw [List.cons_append, prod, prod, ih, Int.mul_assoc]
structure PartsOk (l : List (Int × Int)) : Prop where
  pr : ∀ q ∈ l, IsPr q.1 ∧ 1 ≤ q.2
  up : l.Pairwise fun a b => a.1 < b.1
noncomputable def Parts (n : Int) (l : List (Int × Int)) : Prop := PartsOk l ∧ prod l = n
theorem pow_pos' {p : Int} (h : 1 ≤ p) (k : Nat) : 1 ≤ p ^ k := by
  induction k with
  | zero => simp
  | succ k ih =>
    rw [Int.pow_succ]
    have := Int.mul_le_mul_of_nonneg_right ih (show 0 ≤ p by omega)
    omega
theorem two_le_pow {p : Int} (h : 2 ≤ p) {k : Nat} (hk : 1 ≤ k) : 2 ≤ p ^ k := by
  obtain ⟨j, rfl⟩ : ∃ j, k = j + 1 := ⟨k - 1, by omega⟩
  rw [Int.pow_succ]
  have h1 := pow_pos' (show 1 ≤ p by omega) j
  have := Int.mul_le_mul_of_nonneg_right h1 (show 0 ≤ p by omega)
  omega
theorem prod_ge {l : List (Int × Int)} (h : ∀ q ∈ l, IsPr q.1 ∧ 1 ≤ q.2) : (2 : Int) ^ l.length ≤ prod l := by
  induction l with
  | nil => simp [prod]
  | cons q l ih =>
    have h1 := ih fun x hx => h x (List.mem_cons_of_mem _ hx)
    have h2 := h q List.mem_cons_self
    have h3 : 2 ≤ q.1 ^ q.2.toNat := two_le_pow h2.1.1 (by omega)
    rw [List.length_cons, Int.pow_succ, prod, Int.mul_comm]
    exact Int.mul_le_mul h3 h1 (Int.pow_nonneg (by decide)) (by omega)
theorem parts_len {l : List (Int × Int)} (h : ∀ q ∈ l, IsPr q.1 ∧ 1 ≤ q.2) (hn : prod l ≤ 10 ^ 9) : l.length < 30 := by
  refine Classical.byContradiction fun hc => ?_
  have h1 := prod_ge h
  have h2 : (2 : Int) ^ 30 ≤ 2 ^ l.length := by
    obtain ⟨k, hk⟩ : ∃ k, l.length = 30 + k := ⟨l.length - 30, by omega⟩
    rw [hk, Int.pow_add]
    have := pow_pos' (show (1 : Int) ≤ 2 by decide) k
    have := Int.mul_le_mul_of_nonneg_left this (show (0 : Int) ≤ 2 ^ 30 by decide)
    omega
  have h3 : (2 : Int) ^ 30 = 1073741824 := by decide
  omega
theorem prod_pos {l : List (Int × Int)} (h : ∀ q ∈ l, IsPr q.1 ∧ 1 ≤ q.2) : 1 ≤ prod l := by
  have := prod_ge h
  have := pow_pos' (show (1 : Int) ≤ 2 by decide) l.length
  omega
structure DivInv (l0 t left o : Int) : Prop where
  l1 : 1 ≤ left
  o0 : 0 ≤ o
  eq : l0 = left * t ^ o.toNat
theorem div_start {l0 t : Int} (h : 1 ≤ l0) : DivInv l0 t l0 0 := ⟨h, Int.le_refl _, by simp⟩
theorem div_turn {l0 t left o : Int} (ht : 2 ≤ t) (h : DivInv l0 t left o) (hd : left % t = 0) : DivInv l0 t (left / t) (o + 1) ∧ left / t < left := by
  have l1 := h.l1
  obtain ⟨k, hk⟩ := Int.dvd_of_emod_eq_zero hd
  have e : left / t = k := by rw [hk, Int.mul_ediv_cancel_left _ (by omega)]
  have k1 : 1 ≤ k := by
    refine Classical.byContradiction fun hc => ?_
    have : t * k ≤ 0 := Int.mul_nonpos_of_nonneg_of_nonpos (by omega) (by omega)
    omega
  rw [e]
  have o0 := h.o0
  refine ⟨⟨k1, by omega, ?_⟩, ?_⟩
  · have e2 : (o + 1).toNat = o.toNat + 1 := by omega
    rw [h.eq, e2, Int.pow_succ, hk]
    grind
  · have := Int.mul_le_mul_of_nonneg_right ht (show 0 ≤ k by omega)
    omega
theorem div_le {l0 t left o : Int} (ht : 2 ≤ t) (h : DivInv l0 t left o) : left ≤ l0 := by
  have := pow_pos' (show 1 ≤ t by omega) o.toNat
  have l1 := h.l1
  have := Int.mul_le_mul_of_nonneg_left this (show 0 ≤ left by omega)
  have e := h.eq
  omega
theorem div_dvd {l0 t left o : Int} (h : DivInv l0 t left o) : left ∣ l0 := ⟨t ^ o.toNat, h.eq⟩
theorem not_dvd_of {a b d : Int} (h : a ∣ b) (hb : b % d ≠ 0) : a % d ≠ 0 := fun e => hb (Int.emod_eq_zero_of_dvd (Int.dvd_trans (Int.dvd_of_emod_eq_zero e) h))
noncomputable def LpEnd (n s r : Int) : Prop := (r = n ∧ ∀ d, s ≤ d → d * d ≤ n → n % d ≠ 0) ∨ (s ≤ r ∧ r * r ≤ n ∧ n % r = 0 ∧ ∀ d, s ≤ d → d < r → n % d ≠ 0)
theorem lp_next {n s r : Int} (hn : 1 < n) (hs : 2 ≤ s) (hb : ∀ d, 2 ≤ d → d < s → n % d ≠ 0) (h : LpEnd n s r) : IsPr r ∧ s ≤ r ∧ r ≤ n ∧ n % r = 0 ∧ ∀ d, 2 ≤ d → d < r → n % d ≠ 0 := by
  have sn : s ≤ n := by
    refine Classical.byContradiction fun hc => hb n (by omega) (by omega) (Int.emod_self ..)
  have pr_of : ∀ r, 2 ≤ r → n % r = 0 → (∀ d, 2 ≤ d → d < r → n % d ≠ 0) → IsPr r := fun r h2 hd ha => ⟨h2, fun d d2 dd e => by
    have dr : d < r := by
      have := Int.mul_le_mul_of_nonneg_right d2 (show 0 ≤ d by omega)
      omega
    exact ha d d2 dr (Int.emod_eq_zero_of_dvd (Int.dvd_trans (Int.dvd_of_emod_eq_zero e) (Int.dvd_of_emod_eq_zero hd)))⟩
  rcases h with ⟨rfl, h⟩ | ⟨h1, h2, h3, h4⟩
  · have p : IsPr r := ⟨by omega, fun d d2 dd => by
      by_cases ds : d < s
      · exact hb d d2 ds
      · exact h d (by omega) dd⟩
    exact ⟨p, sn, Int.le_refl _, Int.emod_self .., fun d d2 dr => pr_all p d2 dr⟩
  · have all : ∀ d, 2 ≤ d → d < r → n % d ≠ 0 := fun d d2 dr => by
      by_cases ds : d < s
      · exact hb d d2 ds
      · exact h4 d (by omega) dr
    refine ⟨pr_of r (by omega) h3 all, h1, ?_, h3, all⟩
    exact Int.le_of_dvd (by omega) (Int.dvd_of_emod_eq_zero h3)
structure PtInv (n : Int) (l : List (Int × Int)) (left t : Int) : Prop where
  l1 : 1 ≤ left
  t2 : 2 ≤ t
  eq : n = prod l * left
  lo : ∀ d, 2 ≤ d → d < t → left % d ≠ 0
  ok : PartsOk l
  le : ∀ q ∈ l, q.1 ≤ t ∧ left % q.1 ≠ 0
theorem pt_start {n : Int} (h : 1 ≤ n) : PtInv n [] n 2 := ⟨h, by omega, by simp [prod], fun d a b => by omega, ⟨fun _ h => (by cases h), List.Pairwise.nil⟩, fun _ h => (by cases h)⟩
theorem pt_le {n : Int} {l : List (Int × Int)} {left t : Int} (h : PtInv n l left t) : left ≤ n := by
  have p := prod_pos h.ok.pr
  have l1 := h.l1
  have := Int.mul_le_mul_of_nonneg_right p (show 0 ≤ left by omega)
  have e := h.eq
  omega
theorem pt_turn {n : Int} {l : List (Int × Int)} {left t r left' o : Int} (h : PtInv n l left t) (pr : IsPr r) (tr : t ≤ r) (rd : left % r = 0) (ra : ∀ d, 2 ≤ d → d < r → left % d ≠ 0) (D : DivInv left r left' o) (hd : left' % r ≠ 0) : PtInv n (l ++ [(r, o)]) left' r ∧ 1 ≤ o ∧ left' < left := by
  have o1 : 1 ≤ o := by
    refine Classical.byContradiction fun hc => ?_
    have o0 := D.o0
    have : o = 0 := by omega
    subst this
    have e := D.eq
    simp at e
    rw [← e] at hd
    exact hd rd
  have lt : left' < left := by
    have h2 := two_le_pow pr.1 (show 1 ≤ o.toNat by omega)
    have l1 := D.l1
    have := Int.mul_le_mul_of_nonneg_left h2 (show 0 ≤ left' by omega)
    have e := D.eq
    omega
  refine ⟨⟨D.l1, pr.1, ?_, fun d a b => not_dvd_of (div_dvd D) (ra d a b), ⟨?_, ?_⟩, ?_⟩, o1, lt⟩
  · rw [prod_append, h.eq, D.eq]; simp only [prod]; grind
  · intro q hq
    rcases List.mem_append.mp hq with hq | hq
    · exact h.ok.pr q hq
    · rw [List.mem_singleton.mp hq]; exact ⟨pr, o1⟩
  · rw [List.pairwise_append]
    refine ⟨h.ok.up, List.pairwise_singleton .., fun a ha b hb => ?_⟩
    rw [List.mem_singleton.mp hb]
    have ⟨a1, a2⟩ := h.le a ha
    refine Classical.byContradiction fun hc => ?_
    have : a.1 = r := by
      show a.1 = r
      have : ¬ a.1 < r := hc
      omega
    rw [this] at a2
    exact a2 rd
  · intro q hq
    rcases List.mem_append.mp hq with hq | hq
    · have ⟨a1, a2⟩ := h.le q hq
      exact ⟨by omega, not_dvd_of (div_dvd D) a2⟩
    · rw [List.mem_singleton.mp hq]; exact ⟨Int.le_refl _, hd⟩
theorem pt_end {n : Int} {l : List (Int × Int)} {left t : Int} (h : PtInv n l left t) (he : ¬ 1 < left) : Parts n l := by
  have l1 := h.l1
  have : left = 1 := by omega
  refine ⟨h.ok, ?_⟩
  rw [h.eq, this, Int.mul_one]
theorem parts_prime {n : Int} {l : List (Int × Int)} (h : Parts n l) : l = [(n, 1)] ↔ IsPr n := by
  constructor
  · intro e
    have := h.1.pr (n, 1) (by rw [e]; simp)
    exact this.1
  · intro hp
    obtain ⟨ok, e⟩ := h
    have n2 := hp.1
    cases l with
    | nil => simp [prod] at e; omega
    | cons q r =>
      have h1 := ok.pr q List.mem_cons_self
      have q2 := h1.1.1
      have hr := prod_pos (l := r) fun x hx => ok.pr x (List.mem_cons_of_mem _ hx)
      have hdv : q.1 ∣ n := by
        obtain ⟨j, hj⟩ : ∃ j, q.2.toNat = j + 1 := ⟨q.2.toNat - 1, by omega⟩
        refine ⟨q.1 ^ j * prod r, ?_⟩
        rw [← e, prod, hj, Int.pow_succ]; grind
      have qn := pr_dvd hp q2 hdv
      obtain ⟨j, hj⟩ : ∃ j, q.2.toNat = j + 1 := ⟨q.2.toNat - 1, by omega⟩
      have e2 : n * (n ^ j * prod r) = n * 1 := by
        rw [Int.mul_one]
        conv => rhs; rw [← e]
        rw [prod, hj, qn, Int.pow_succ]; grind
      have e3 : n ^ j * prod r = 1 := Int.eq_of_mul_eq_mul_left (by omega) e2
      have p1 := pow_pos' (show 1 ≤ n by omega) j
      have hpr : prod r = 1 := by
        have := Int.mul_le_mul_of_nonneg_right p1 (show 0 ≤ prod r by omega)
        omega
      have j0 : j = 0 := by
        refine Classical.byContradiction fun hc => ?_
        have := two_le_pow hp.1 (show 1 ≤ j by omega)
        rw [hpr] at e3
        omega
      have r0 : r = [] := by
        have g := prod_ge (l := r) fun x hx => ok.pr x (List.mem_cons_of_mem _ hx)
        rw [hpr] at g
        cases r with
        | nil => rfl
        | cons y z =>
          rw [List.length_cons, Int.pow_succ] at g
          have := pow_pos' (show (1 : Int) ≤ 2 by decide) z.length
          omega
      have q1 : q.2 = 1 := by omega
      rw [r0]
      obtain ⟨a, b⟩ := q
      simp only at qn q1
      rw [qn, q1]
structure LtInv (n : Int) (l : List (Int × Int)) (left t : Int) : Prop where
  l1 : 1 ≤ left
  t2 : 2 ≤ t
  eq : n = prod l * left
  lo : ∀ d, 2 ≤ d → d < t → left % d ≠ 0
  ok : PartsOk l
  le : ∀ q ∈ l, q.1 < t
  tb : 1 < left → t ≤ left
theorem lt_start {n : Int} (h : 1 ≤ n) : LtInv n [] n 2 := ⟨h, by omega, by simp [prod], fun d a b => by omega, ⟨fun _ h => (by cases h), List.Pairwise.nil⟩, fun _ h => (by cases h), fun h => by omega⟩
theorem lt_le {n : Int} {l : List (Int × Int)} {left t : Int} (h : LtInv n l left t) : left ≤ n := by
  have p := prod_pos h.ok.pr
  have l1 := h.l1
  have := Int.mul_le_mul_of_nonneg_right p (show 0 ≤ left by omega)
  have e := h.eq
  omega
theorem tb_of {left t : Int} (h : ∀ d, 2 ≤ d → d < t → left % d ≠ 0) (h1 : 1 < left) : t ≤ left := by
  refine Classical.byContradiction fun hc => h left (by omega) (by omega) (Int.emod_self ..)
theorem lt_jump {n : Int} {l : List (Int × Int)} {left t : Int} (h : LtInv n l left t) (h1 : 1 < left) (hs : t * t > left) : LtInv n l left left ∧ IsPr left := by
  have p : IsPr left := ⟨by omega, fun d d2 dd => h.lo d d2 (by
    refine Classical.byContradiction fun hc => ?_
    have := sq_mono (show 0 ≤ t by have := h.t2; omega) (show t ≤ d by omega)
    omega)⟩
  have := h.tb h1
  exact ⟨⟨h.l1, by omega, h.eq, fun d a b => pr_all p a b, h.ok, fun q hq => by have := h.le q hq; omega, fun _ => Int.le_refl _⟩, p⟩
theorem lt_turn {n : Int} {l : List (Int × Int)} {left t left' o : Int} (h : LtInv n l left t) (D : DivInv left t left' o) (hd : left' % t ≠ 0) : LtInv n (if 0 < o then l ++ [(t, o)] else l) left' (t + 1) ∧ left' ≤ left := by
  have hle := div_le h.t2 D
  have lo' : ∀ d, 2 ≤ d → d < t + 1 → left' % d ≠ 0 := fun d a b => by
    by_cases e : d = t
    · rw [e]; exact hd
    · exact not_dvd_of (div_dvd D) (h.lo d a (by omega))
  by_cases o0 : 0 < o
  · rw [if_pos o0]
    have td : left % t = 0 := by
      have e := D.eq
      obtain ⟨j, hj⟩ : ∃ j, o.toNat = j + 1 := ⟨o.toNat - 1, by omega⟩
      refine Int.emod_eq_zero_of_dvd ⟨left' * t ^ j, ?_⟩
      rw [e, hj, Int.pow_succ]; grind
    have pr : IsPr t := ⟨h.t2, fun d d2 dd e => by
      have t2 := h.t2
      have dr : d < t := by
        have := Int.mul_le_mul_of_nonneg_right d2 (show 0 ≤ d by omega)
        omega
      exact h.lo d d2 dr (Int.emod_eq_zero_of_dvd (Int.dvd_trans (Int.dvd_of_emod_eq_zero e) (Int.dvd_of_emod_eq_zero td)))⟩
    refine ⟨⟨D.l1, by have := h.t2; omega, ?_, lo', ⟨?_, ?_⟩, ?_, tb_of lo'⟩, hle⟩
    · rw [prod_append, h.eq, D.eq]; simp only [prod]; grind
    · intro q hq
      rcases List.mem_append.mp hq with hq | hq
      · exact h.ok.pr q hq
      · rw [List.mem_singleton.mp hq]; exact ⟨pr, by show 1 ≤ o; omega⟩
    · rw [List.pairwise_append]
      refine ⟨h.ok.up, List.pairwise_singleton .., fun a ha b hb => ?_⟩
      rw [List.mem_singleton.mp hb]
      exact h.le a ha
    · intro q hq
      rcases List.mem_append.mp hq with hq | hq
      · have := h.le q hq; omega
      · rw [List.mem_singleton.mp hq]; show t < t + 1; omega
  · rw [if_neg o0]
    have : o = 0 := by have := D.o0; omega
    subst this
    have e := D.eq
    simp at e
    subst e
    exact ⟨⟨D.l1, by have := h.t2; omega, h.eq, lo', h.ok, fun q hq => by have := h.le q hq; omega, tb_of lo'⟩, hle⟩
theorem lt_end {n : Int} {l : List (Int × Int)} {left t : Int} (h : LtInv n l left t) (he : ¬ 1 < left) : Parts n l := by
  have l1 := h.l1
  have : left = 1 := by omega
  refine ⟨h.ok, ?_⟩
  rw [h.eq, this, Int.mul_one]
noncomputable def tryB (n : Nat) : Nat → Nat → Bool
  | 0, _ => true
  | k + 1, d => decide (n % d ≠ 0) && tryB n k (d + 1)
theorem tryB_ok {n : Nat} : ∀ (k d : Nat), tryB n k d = true → ∀ e, d ≤ e → e < d + k → n % e ≠ 0
  | 0, d, _, e, h1, h2 => by omega
  | k + 1, d, h, e, h1, h2 => by
    simp only [tryB, Bool.and_eq_true, decide_eq_true_eq] at h
    by_cases q : e = d
    · rw [q]; exact h.1
    · exact tryB_ok k (d + 1) h.2 e (by omega) (by omega)
theorem pr_try {n k : Nat} (h2 : 2 ≤ n) (hk : n < (k + 2) * (k + 2)) (h : tryB n k 2 = true) : IsPr n := by
  refine ⟨by omega, fun d d2 dd => ?_⟩
  obtain ⟨e, rfl⟩ := Int.eq_ofNat_of_zero_le (show 0 ≤ d by omega)
  have he : e < 2 + k := by
    refine Classical.byContradiction fun hc => ?_
    have : (k + 2) * (k + 2) ≤ e * e := Nat.mul_le_mul (by omega) (by omega)
    have : e * e ≤ n := by exact_mod_cast dd
    omega
  have := tryB_ok k 2 h e (by omega) he
  intro z
  apply this
  have z' : ((n % e : Nat) : Int) = 0 := by rw [Int.natCast_emod]; exact z
  omega
end MM
set_option linter.all false
set_option maxHeartbeats 4000000
namespace MM
theorem mul_pow' (a b : Int) (k : Nat) : (a * b) ^ k = a ^ k * b ^ k := by
  induction k with
  | zero => simp
  | succ k ih => rw [Int.pow_succ, Int.pow_succ, Int.pow_succ, ih]; grind
theorem m1 {a x y n : Int} (hx : 0 ≤ x) (hy : 0 ≤ y) : a ^ x.toNat % n * (a ^ y.toNat % n) % n = a ^ (x + y).toNat % n := by
  have e : (x + y).toNat = x.toNat + y.toNat := by omega
  rw [e, Int.pow_add]
  exact cg_eq ((cg_mod n _).mul (cg_mod n _))
theorem m2 (a b : Int) (x : Nat) (n : Int) : (a * b) ^ x % n = a ^ x % n * (b ^ x % n) % n := by
  rw [mul_pow']
  exact cg_eq ((cg_mod n _).mul (cg_mod n _)).symm
end MM
set_option linter.all false
set_option maxHeartbeats 4000000
namespace MM
theorem pr_int_euclid {p a b : Int} (h : IsPr p) (hd : p ∣ a * b) : p ∣ a ∨ p ∣ b := by
  have p2 := h.1
  obtain ⟨q, rfl⟩ := Int.eq_ofNat_of_zero_le (show 0 ≤ p by omega)
  have hd' : q ∣ a.natAbs * b.natAbs := by
    have := Int.natAbs_dvd_natAbs.mpr hd
    rwa [Int.natAbs_mul] at this
  by_cases ha : q ∣ a.natAbs
  · left; exact Int.natAbs_dvd_natAbs.mp ha
  · right; exact Int.natAbs_dvd_natAbs.mp (pr_euclid h hd' ha)
theorem pr_dvd_pow {p a : Int} (h : IsPr p) {k : Nat} (hd : p ∣ a ^ k) : p ∣ a := by
  induction k with
  | zero =>
    have := Int.le_of_dvd (by decide) (by simpa using hd : p ∣ 1)
    have := h.1
    omega
  | succ k ih =>
    rw [Int.pow_succ] at hd
    rcases pr_int_euclid h hd with z | z
    · exact ih z
    · exact z
theorem pr_dvd_pr {p q : Int} (hp : IsPr p) (hq : IsPr q) (hd : p ∣ q) : p = q := pr_dvd hq hp.1 hd
theorem pr_dvd_prod {p : Int} (h : IsPr p) : ∀ {l : List (Int × Int)}, (∀ q ∈ l, IsPr q.1 ∧ 1 ≤ q.2) → p ∣ prod l → ∃ q ∈ l, q.1 = p
  | [], _, hd => by
    have := Int.le_of_dvd (by decide) (by simpa [prod] using hd : p ∣ 1)
    have := h.1
    omega
  | q :: r, hl, hd => by
    rw [prod] at hd
    rcases pr_int_euclid h hd with z | z
    · exact ⟨q, List.mem_cons_self, (pr_dvd_pr h (hl q List.mem_cons_self).1 (pr_dvd_pow h z)).symm⟩
    · obtain ⟨x, hx, e⟩ := pr_dvd_prod h (fun x hx => hl x (List.mem_cons_of_mem _ hx)) z
      exact ⟨x, List.mem_cons_of_mem _ hx, e⟩
theorem pow_dvd_self {p : Int} {k : Int} (hk : 1 ≤ k) : p ∣ p ^ k.toNat := by
  obtain ⟨j, hj⟩ : ∃ j, k.toNat = j + 1 := ⟨k.toNat - 1, by omega⟩
  rw [hj, Int.pow_succ]
  exact Int.dvd_mul_left ..
theorem mem_dvd_prod {l : List (Int × Int)} (hl : ∀ q ∈ l, IsPr q.1 ∧ 1 ≤ q.2) {q : Int × Int} (hq : q ∈ l) : q.1 ∣ prod l := by
  induction l with
  | nil => cases hq
  | cons x r ih =>
    rw [prod]
    rcases List.mem_cons.mp hq with rfl | hq
    · exact Int.dvd_trans (pow_dvd_self (hl _ List.mem_cons_self).2) (Int.dvd_mul_right ..)
    · exact Int.dvd_trans (ih (fun x hx => hl x (List.mem_cons_of_mem _ hx)) hq) (Int.dvd_mul_left ..)
theorem PartsOk.tail {q : Int × Int} {r : List (Int × Int)} (h : PartsOk (q :: r)) : PartsOk r := ⟨fun x hx => h.pr x (List.mem_cons_of_mem _ hx), (List.pairwise_cons.mp h.up).2⟩
theorem PartsOk.head_not {q : Int × Int} {r : List (Int × Int)} (h : PartsOk (q :: r)) : ¬ q.1 ∣ prod r := fun hd => by
  obtain ⟨x, hx, e⟩ := pr_dvd_prod (h.pr q List.mem_cons_self).1 h.tail.pr hd
  have := (List.pairwise_cons.mp h.up).1 x hx
  omega
theorem parts_unique : ∀ {l m : List (Int × Int)}, PartsOk l → PartsOk m → prod l = prod m → l = m
  | [], [], _, _, _ => rfl
  | [], q :: r, _, hm, e => by
    have := mem_dvd_prod hm.pr (q := q) List.mem_cons_self
    rw [← e] at this
    have := Int.le_of_dvd (by decide) (by simpa [prod] using this : q.1 ∣ 1)
    have := (hm.pr q List.mem_cons_self).1.1
    omega
  | q :: r, [], hl, _, e => by
    have := mem_dvd_prod hl.pr (q := q) List.mem_cons_self
    rw [e] at this
    have := Int.le_of_dvd (by decide) (by simpa [prod] using this : q.1 ∣ 1)
    have := (hl.pr q List.mem_cons_self).1.1
    omega
  | q :: r, x :: y, hl, hm, e => by
    have hq := hl.pr q List.mem_cons_self
    have hx := hm.pr x List.mem_cons_self
    have le1 : x.1 ≤ q.1 := by
      obtain ⟨z, hz, ez⟩ := pr_dvd_prod hq.1 hm.pr (e ▸ mem_dvd_prod hl.pr List.mem_cons_self)
      rcases List.mem_cons.mp hz with rfl | hz
      · omega
      · have := (List.pairwise_cons.mp hm.up).1 z hz
        omega
    have le2 : q.1 ≤ x.1 := by
      obtain ⟨z, hz, ez⟩ := pr_dvd_prod hx.1 hl.pr (e ▸ mem_dvd_prod hm.pr List.mem_cons_self)
      rcases List.mem_cons.mp hz with rfl | hz
      · omega
      · have := (List.pairwise_cons.mp hl.up).1 z hz
        omega
    have e1 : q.1 = x.1 := by omega
    have q2 := hq.1.1
    have n1 := hl.head_not
    have n2 := hm.head_not
    rw [prod, prod, ← e1] at e
    rw [← e1] at n2
    have key : ∀ (a b : Nat) (u v : Int), ¬ q.1 ∣ u → a ≤ b → q.1 ^ a * u = q.1 ^ b * v → a = b ∧ u = v := fun a b u v nu hab hh => by
      obtain ⟨c, rfl⟩ : ∃ c, b = a + c := ⟨b - a, by omega⟩
      rw [Int.pow_add, Int.mul_assoc] at hh
      have pz : q.1 ^ a ≠ 0 := by
        have := pow_pos' (show 1 ≤ q.1 by omega) a
        omega
      have hh := Int.eq_of_mul_eq_mul_left pz hh
      cases c with
      | zero => simpa using hh
      | succ c =>
        exfalso
        apply nu
        rw [hh, Int.pow_succ]
        exact ⟨q.1 ^ c * v, by grind⟩
    have both : q.2.toNat = x.2.toNat ∧ prod r = prod y := by
      rcases Nat.le_total q.2.toNat x.2.toNat with hh | hh
      · exact key _ _ _ _ n1 hh e
      · obtain ⟨a, b⟩ := key _ _ _ _ n2 hh e.symm
        exact ⟨a.symm, b.symm⟩
    have e2 : q.2 = x.2 := by
      have := hq.2; have := hx.2; omega
    rw [parts_unique hl.tail hm.tail both.2]
    obtain ⟨a, b⟩ := q
    obtain ⟨c, d⟩ := x
    simp only at e1 e2
    rw [e1, e2]
theorem Parts.unique {n : Int} {l m : List (Int × Int)} (h : Parts n l) (g : Parts n m) : l = m := parts_unique h.1 g.1 (h.2.trans g.2.symm)
noncomputable def tot : List (Int × Int) → Int
  | [] => 1
  | q :: r => (q.1 - 1) * tot r
noncomputable def red : List (Int × Int) → Int
  | [] => 1
  | q :: r => q.1 ^ (q.2.toNat - 1) * red r
noncomputable def phi (l : List (Int × Int)) : Int := tot l * red l
noncomputable def geo (x : Int) : Nat → Int
  | 0 => 0
  | n + 1 => geo x n + x ^ n
theorem geo_mul (x : Int) (n : Nat) : (x - 1) * geo x n = x ^ n - 1 := by
  induction n with
  | zero => simp [geo]
  | succ n ih => rw [geo, Int.mul_add, ih, Int.pow_succ]; grind
theorem geo_cg {m x : Int} (h : Cg m x 1) (n : Nat) : Cg m (geo x n) n := by
  induction n with
  | zero => exact Cg.refl _ _
  | succ n ih =>
    rw [geo]
    have h1 := h.pow n
    rw [Int.one_pow] at h1
    have := ih.add h1
    rwa [show ((n + 1 : Nat) : Int) = (n : Int) + 1 by omega]
theorem lift_pr {p x : Int} (hp : 2 ≤ p) {j : Nat} (h1 : Cg p x 1) (h : Cg (p ^ j) x 1) : Cg (p ^ (j + 1)) (x ^ p.toNat) 1 := by
  have g := geo_cg h1 p.toNat
  have e : ((p.toNat : Nat) : Int) = p := by omega
  rw [e] at g
  obtain ⟨u, hu⟩ := g
  obtain ⟨v, hv⟩ := h
  refine ⟨v * (u + 1), ?_⟩
  rw [← geo_mul, hv, Int.pow_succ]
  have : geo x p.toNat = p * (u + 1) := by grind
  rw [this]
  grind
theorem fermat1 {p a : Int} (h : IsPr p) (ha : ¬ p ∣ a) : Cg p (a ^ (p - 1).toNat) 1 := by
  have f := fermat h a
  have p2 := h.1
  obtain ⟨j, hj⟩ : ∃ j, p.toNat = j + 1 := ⟨p.toNat - 1, by omega⟩
  have e : (p - 1).toNat = j := by omega
  rw [hj, Int.pow_succ] at f
  rw [e]
  have f' : p ∣ a * (a ^ j - 1) := by
    have e2 : a * (a ^ j - 1) = a ^ j * a - a := by grind
    rw [e2]; exact f
  rcases pr_int_euclid h f' with z | z
  · exact absurd z ha
  · exact z
theorem euler_pp {p a : Int} (h : IsPr p) (ha : ¬ p ∣ a) : ∀ k : Nat, Cg (p ^ (k + 1)) (a ^ ((p - 1).toNat * p.toNat ^ k)) 1 ∧ Cg p (a ^ ((p - 1).toNat * p.toNat ^ k)) 1
  | 0 => by
    have := fermat1 h ha
    simp only [Nat.pow_zero, Nat.mul_one, Nat.zero_add]
    rw [show p ^ 1 = p by rw [Int.pow_succ, Int.pow_zero, Int.one_mul]]
    exact ⟨this, this⟩
  | k + 1 => by
    obtain ⟨i1, i2⟩ := euler_pp h ha k
    rw [Nat.pow_succ, ← Nat.mul_assoc, Int.pow_mul]
    refine ⟨lift_pr h.1 i2 i1, ?_⟩
    have := i2.pow p.toNat
    rwa [Int.one_pow] at this
theorem cg_pow_dvd {n a : Int} {e f : Nat} (h : Cg n (a ^ e) 1) (hd : e ∣ f) : Cg n (a ^ f) 1 := by
  obtain ⟨c, rfl⟩ := hd
  rw [Int.pow_mul]
  have := h.pow c
  rwa [Int.one_pow] at this
theorem prod_dvd : ∀ {l : List (Int × Int)} {y : Int}, PartsOk l → (∀ q ∈ l, q.1 ^ q.2.toNat ∣ y) → prod l ∣ y
  | [], y, _, _ => by simp [prod]
  | q :: r, y, h, hy => by
    have h1 := hy q List.mem_cons_self
    have h2 := prod_dvd h.tail fun x hx => hy x (List.mem_cons_of_mem _ hx)
    have nd := h.head_not
    have hp := (h.pr q List.mem_cons_self).1
    have p2 := hp.1
    rw [prod]
    refine Int.natAbs_dvd_natAbs.mp ?_
    rw [Int.natAbs_mul]
    refine Nat.Coprime.mul_dvd_of_dvd_of_dvd ?_ (Int.natAbs_dvd_natAbs.mpr h1) (Int.natAbs_dvd_natAbs.mpr h2)
    rw [Int.natAbs_pow]
    refine Nat.Coprime.pow_left _ ?_
    obtain ⟨m, hm⟩ := Int.eq_ofNat_of_zero_le (show 0 ≤ q.1 by omega)
    rw [hm] at hp nd ⊢
    exact pr_coprime hp fun z => nd (Int.natAbs_dvd_natAbs.mp z)
structure Ord (a n o : Int) : Prop where
  pos : 1 ≤ o
  cg : Cg n (a ^ o.toNat) 1
  least : ∀ e, 1 ≤ e → e < o → ¬ Cg n (a ^ e.toNat) 1
theorem Ord.unique {a n o p : Int} (h : Ord a n o) (g : Ord a n p) : o = p := by
  rcases Int.lt_trichotomy o p with z | z | z
  · exact absurd h.cg (g.least o h.pos z)
  · exact z
  · exact absurd g.cg (h.least p g.pos z)
structure OrdInv (a n F o : Int) (done : List (Int × Int)) : Prop where
  pos : 1 ≤ o
  dvd : o ∣ F
  cg : Cg n (a ^ o.toNat) 1
  no : ∀ q ∈ done, q.1 ∣ o → ¬ Cg n (a ^ (o / q.1).toNat) 1
end MM
set_option linter.all false
namespace MM
noncomputable def tw (m : Int) : Nat := if m ≤ 0 then 0 else if m % 2 = 0 then tw (m / 2) + 1 else 0
termination_by m.toNat
decreasing_by omega
noncomputable def op (m : Int) : Int := if m ≤ 0 then m else if m % 2 = 0 then op (m / 2) else m
termination_by m.toNat
decreasing_by omega
theorem op_even {m : Int} (h : 0 < m) (e : m % 2 = 0) : op m = op (m / 2) := by rw [op, if_neg (by omega), if_pos e]
theorem op_odd {m : Int} (e : ¬ m % 2 = 0) : op m = m := by
  rw [op]; split
  · rfl
  · rfl
structure HvInv (m o : Int) (s : Int) : Prop where
  o0 : 0 < o
  ol : o ≤ m
  s0 : 0 ≤ s
  oe : op o = op m
  se : (tw o : Int) + s = tw m
theorem op_pos {m : Int} (h : 0 < m) : ∀ (k : Nat), m.toNat ≤ k → 0 < op m ∧ op m ≤ m := by
  intro k
  induction k generalizing m with
  | zero => intro hk; omega
  | succ k ih =>
    intro hk
    by_cases e : m % 2 = 0
    · rw [op_even h e]
      have := ih (m := m / 2) (by omega) (by omega)
      omega
    · rw [op_odd e]; omega
noncomputable def hvs (n : Int) : Nat → Int → Bool
  | 0, _ => false
  | s + 1, p => decide (p = n - 1) || hvs n s (p * p % n)
noncomputable def halvB (n b : Int) : Bool := decide (b ^ (op (n - 1)).toNat % n = 1) || hvs n (tw (n - 1)) (b ^ (op (n - 1)).toNat % n)
end MM
set_option linter.all false
set_option maxHeartbeats 4000000
set_option maxRecDepth 100000
namespace MM
noncomputable def pr1 (g : Int → Int) : List (Int × Int) → Int
  | [] => 1
  | q :: r => g q.1 * pr1 g r
noncomputable def gp (n : Int) (p : Int) : Int := Int.gcd (n - 1) (p - 1)
noncomputable def gh (n : Int) (p : Int) : Int := Int.gcd (op (n - 1)) (op (p - 1))
noncomputable def mpow (n : Int) (l : List (Int × Int)) : Int := pr1 (gp n) l
noncomputable def hm (o m : Int) : Nat → Int
  | 0 => o
  | j + 1 => hm o m j + o * m ^ j
noncomputable def mhal (n : Int) (l : List (Int × Int)) (k : Nat) : Int := hm (pr1 (gh n) l) (2 ^ l.length) k
noncomputable def IsMn (l : List (Int × Int)) (k : Nat) : Prop := (∃ q ∈ l, tw (q.1 - 1) = k) ∧ ∀ q ∈ l, k ≤ tw (q.1 - 1)
theorem IsMn.unique {l : List (Int × Int)} {k j : Nat} (h : IsMn l k) (g : IsMn l j) : k = j := by
  obtain ⟨⟨q, hq, e⟩, h2⟩ := h
  obtain ⟨⟨r, hr, f⟩, g2⟩ := g
  have := h2 r hr
  have := g2 q hq
  omega
theorem op_le {m : Int} (h : 0 < m) : 0 < op m ∧ op m ≤ m := op_pos h _ (Nat.le_refl _)
theorem two_le {k j : Nat} (h : k ≤ j) : (2 : Int) ^ k ≤ 2 ^ j := by
  obtain ⟨d, rfl⟩ : ∃ d, j = k + d := ⟨j - k, by omega⟩
  rw [Int.pow_add]
  have a := pow_pos' (show (1 : Int) ≤ 2 by decide) k
  have b := pow_pos' (show (1 : Int) ≤ 2 by decide) d
  have := Int.mul_le_mul_of_nonneg_left b (show 0 ≤ (2 : Int) ^ k by omega)
  omega
theorem more_bound {n : Int} {l : List (Int × Int)} (h : Parts n l) (i : Nat) (hi : i ≤ l.length) : 1 ≤ (2 : Int) ^ i ∧ (2 : Int) ^ i ≤ n := by
  have a := prod_ge h.1.pr
  have b := two_le hi
  have := h.2
  exact ⟨pow_pos' (by decide) _, by omega⟩
end MM
namespace MM
end MM
set_option linter.all false
set_option maxHeartbeats 4000000
set_option maxRecDepth 100000
namespace MM
namespace L
noncomputable def mult (t : Nat) : Nat → Nat → Nat × Nat
  | 0, left => (left, 0)
  | f + 1, left => if left % t = 0 then ((mult t f (left / t)).1, (mult t f (left / t)).2 + 1) else (left, 0)
noncomputable def fac : Nat → Nat → Nat → List (Nat × Nat)
  | 0, _, _ => []
  | f + 1, left, t => if left ≤ 1 then [] else if left < t * t then [(left, 1)] else if left % t = 0 then (t, (mult t 10 left).2) :: fac f (mult t 10 left).1 (t + 1) else fac f left (t + 1)
noncomputable def prodN : List (Nat × Nat) → Nat
  | [] => 1
  | q :: r => q.1 ^ q.2 * prodN r
noncomputable def upN : Nat → List (Nat × Nat) → Bool
  | _, [] => true
  | a, q :: r => decide (a < q.1) && decide (1 ≤ q.2) && decide (2 ≤ q.1) && decide (q.1 < 1024) && tryB q.1 (min 30 (q.1 - 2)) 2 && upN q.1 r
noncomputable def cst (l : List (Nat × Nat)) : List (Int × Int) := l.map fun q => ((q.1 : Int), (q.2 : Int))
theorem prod_cst (l : List (Nat × Nat)) : prod (cst l) = prodN l := by
  induction l with
  | nil => rfl
  | cons q r ih =>
    show (q.1 : Int) ^ ((q.2 : Int)).toNat * prod (cst r) = _
    rw [ih, prodN, Int.toNat_natCast, Int.natCast_mul, Int.natCast_pow]
theorem upN_ok : ∀ {l : List (Nat × Nat)} {a : Nat}, upN a l = true → PartsOk (cst l) ∧ (∀ q ∈ cst l, (a : Int) < q.1) ∧ ∀ q ∈ l, 2 ≤ q.1 ∧ q.1 < 1024
  | [], a, _ => ⟨⟨fun _ h => (by cases h), List.Pairwise.nil⟩, fun _ h => (by cases h), fun _ h => (by cases h)⟩
  | q :: r, a, h => by
    simp only [upN, Bool.and_eq_true, decide_eq_true_eq] at h
    obtain ⟨⟨⟨⟨⟨h1, h2⟩, h3⟩, h4⟩, h5⟩, h6⟩ := h
    obtain ⟨i1, i2, i3⟩ := upN_ok h6
    have hp : IsPr (q.1 : Int) := by
      refine pr_try (k := min 30 (q.1 - 2)) h3 ?_ h5
      by_cases z : q.1 - 2 ≤ 30
      · rw [Nat.min_eq_right z]
        have : q.1 - 2 + 2 = q.1 := by omega
        rw [this]
        have := Nat.mul_le_mul_right q.1 h3
        omega
      · rw [Nat.min_eq_left (by omega)]
        omega
    refine ⟨⟨fun x hx => ?_, ?_⟩, fun x hx => ?_, fun x hx => ?_⟩
    · rcases List.mem_cons.mp hx with rfl | hx
      · exact ⟨hp, by show (1 : Int) ≤ (q.2 : Nat); omega⟩
      · exact i1.pr x hx
    · exact List.pairwise_cons.mpr ⟨fun x hx => i2 x hx, i1.up⟩
    · rcases List.mem_cons.mp hx with rfl | hx
      · show (a : Int) < (q.1 : Nat); omega
      · have := i2 x hx; omega
    · rcases List.mem_cons.mp hx with rfl | hx
      · exact ⟨h3, h4⟩
      · exact i3 x hx
noncomputable def ot : Nat → Nat → Nat × Nat
  | 0, m => (m, 0)
  | f + 1, m => if m % 2 = 0 then ((ot f (m / 2)).1, (ot f (m / 2)).2 + 1) else (m, 0)
noncomputable def powN (n : Nat) : List (Nat × Nat) → Nat
  | [] => 1
  | q :: r => Nat.gcd (n - 1) (q.1 - 1) * powN n r
noncomputable def oneN (o : Nat) : List (Nat × Nat) → Nat
  | [] => 1
  | q :: r => Nat.gcd o (ot 10 (q.1 - 1)).1 * oneN o r
noncomputable def minN : List (Nat × Nat) → Nat
  | [] => 0
  | [q] => (ot 10 (q.1 - 1)).2
  | q :: r => if (ot 10 (q.1 - 1)).2 ≤ minN r then (ot 10 (q.1 - 1)).2 else minN r
noncomputable def hmN (o m : Nat) : Nat → Nat
  | 0 => o
  | j + 1 => hmN o m j + o * m ^ j
noncomputable def halN (n : Nat) (l : List (Nat × Nat)) : Nat := hmN (oneN (ot 10 (n - 1)).1 l) (2 ^ l.length) (minN l)
noncomputable def hvsN (n : Nat) : Nat → Nat → Bool
  | 0, _ => false
  | s + 1, p => Nat.beq p (n - 1) || hvsN n s (p * p % n)
noncomputable def halvN (n o s b : Nat) : Bool := Nat.beq (b ^ o % n) 1 || hvsN n s (b ^ o % n)
noncomputable def cntB (f : Nat → Bool) : Nat → Nat
  | 0 => 0
  | k + 1 => bif f (k + 1) then cntB f k + 1 else cntB f k
noncomputable def okN (n : Nat) : Bool := upN 1 (fac 32 n 2) && Nat.beq (prodN (fac 32 n 2)) n && Nat.beq (powN n (fac 32 n 2)) (cntB (fun b => Nat.beq (b ^ (n - 1) % n) 1) (n - 1)) && Nat.beq (halN n (fac 32 n 2)) (cntB (halvN n (ot 10 (n - 1)).1 (ot 10 (n - 1)).2) (n - 1))
noncomputable def allN : Nat → Bool
  | 0 => true
  | k + 1 => okN (2 * k + 3) && allN k
end L
end MM
set_option linter.all false
set_option maxHeartbeats 4000000
set_option maxRecDepth 100000
namespace MM
noncomputable def liesL (n : Int) (l : List (Int × Int)) : Bool := decide (l.length ≠ 1) && l.all fun q => decide (q.2 ≤ 1) && decide ((n - 1) % (q.1 - 1) = 0)
theorem lies_all {n : Int} {l : List (Int × Int)} (h : liesL n l = true) : l.length ≠ 1 ∧ ∀ q ∈ l, q.2 ≤ 1 ∧ (n - 1) % (q.1 - 1) = 0 := by
  unfold liesL at h
  rw [Bool.and_eq_true, List.all_eq_true] at h
  refine ⟨of_decide_eq_true h.1, fun q hq => ?_⟩
  have := h.2 q hq
  simpa using this
noncomputable def NL (n : Int) : Prop := ∀ l, Parts n l → liesL n l = false
theorem nl_of {n : Int} (h : ∀ l, Parts n l → liesL n l = true → False) : NL n := fun l hl => by
  cases e : liesL n l with
  | false => rfl
  | true => exact (h l hl e).elim
theorem nl_prime {n : Int} (hp : IsPr n) : NL n := nl_of fun l hl h => (lies_all h).1 (by rw [(parts_prime hl).mpr hp]; rfl)
theorem nl_step {n p : Int} (hp : IsPr p) (hd : p ∣ n) (hm : (n - 1) % (p - 1) ≠ 0) : NL n := nl_of fun l hl h => by
  obtain ⟨q, hq, e⟩ := pr_dvd_prod hp hl.1.pr (by rw [hl.2]; exact hd)
  have := ((lies_all h).2 q hq).2
  rw [e] at this
  exact hm this
theorem nl_sq {n p : Int} (hp : IsPr p) (hd : p * p ∣ n) : NL n := nl_of fun l hl h => by
  have ha := (lies_all h).2
  have p2 := hp.1
  have key : ∀ {r : List (Int × Int)}, PartsOk r → (∀ q ∈ r, q.2 ≤ 1) → p * p ∣ prod r → False := by
    intro r
    induction r with
    | nil =>
      intro _ _ hd
      have := Int.le_of_dvd (by decide : (0 : Int) < 1) hd
      have := Int.mul_le_mul p2 p2 (by decide) (by omega)
      omega
    | cons q r ih =>
      intro ok h1 hd
      have hq := ok.pr q List.mem_cons_self
      have e1 : q.2.toNat = 1 := by have := h1 q List.mem_cons_self; omega
      rw [prod, e1, Int.pow_succ, Int.pow_zero, Int.one_mul] at hd
      by_cases z : q.1 = p
      · rw [z] at hd
        have := Int.dvd_of_mul_dvd_mul_left (by omega : p ≠ 0) hd
        exact ok.head_not (by rw [z]; exact this)
      · refine ih ok.tail (fun x hx => h1 x (List.mem_cons_of_mem _ hx)) ?_
        have h3 : Nat.Coprime (p * p).natAbs q.1.natAbs := by
          rw [Int.natAbs_mul]
          have c : Nat.Coprime p.natAbs q.1.natAbs := by
            obtain ⟨m, hm⟩ := Int.eq_ofNat_of_zero_le (show 0 ≤ p by omega)
            rw [hm] at hp z ⊢
            refine pr_coprime hp fun w => z ?_
            exact (pr_dvd_pr hp hq.1 (Int.natAbs_dvd_natAbs.mp w)).symm
          exact Nat.Coprime.mul_left c c
        refine Int.natAbs_dvd_natAbs.mp ?_
        have hd' := Int.natAbs_dvd_natAbs.mpr hd
        rw [Int.natAbs_mul q.1] at hd'
        exact h3.dvd_of_dvd_mul_left hd'
  exact key hl.1 (fun q hq => (ha q hq).1) (by rw [hl.2]; exact hd)
theorem lies_fool {n b : Int} {l : List (Int × Int)} (hl : Parts n l) (n3 : 3 ≤ n) (h : liesL n l = true) (hg : Int.gcd b n = 1) : b ^ (n - 1).toNat % n = 1 := by
  have ha := (lies_all h).2
  have c : Cg n (b ^ (n - 1).toNat) 1 := by
    show n ∣ _
    rw [← hl.2]
    refine prod_dvd hl.1 fun q hq => ?_
    have hp := hl.1.pr q hq
    have p2 := hp.1.1
    have na : ¬ q.1 ∣ b := fun hd => by
      have d2 : q.1 ∣ n := by rw [← hl.2]; exact mem_dvd_prod hl.1.pr hq
      have := Int.dvd_coe_gcd hd d2
      rw [hg] at this
      have := Int.le_of_dvd (by decide) this
      omega
    have e := (euler_pp hp.1 na 0).1
    obtain ⟨h1, h2⟩ := ha q hq
    rw [show q.2.toNat = 0 + 1 by omega, hl.2]
    refine cg_pow_dvd e ?_
    have d := Int.dvd_of_emod_eq_zero h2
    have d' := Int.natAbs_dvd_natAbs.mpr d
    rw [Nat.pow_zero, Nat.mul_one]
    rw [show (q.1 - 1).natAbs = (q.1 - 1).toNat by omega, show (n - 1).natAbs = (n - 1).toNat by omega] at d'
    exact d'
  have := cg_eq c
  rw [this]
  exact Int.emod_eq_of_lt (by decide) (by omega)
namespace U
noncomputable def chk (n : Nat) : Nat → Nat → Nat → Bool
  | 0, _, _ => false
  | k + 1, d, m => bif Nat.blt m (d * d) then (Nat.beq m n || (Nat.blt 1 m && !Nat.beq ((n - 1) % (m - 1)) 0)) else
      bif Nat.beq (m % d) 0 then (Nat.beq ((m / d) % d) 0 || (!Nat.beq ((n - 1) % (d - 1)) 0 || chk n k (d + 2) (m / d))) else chk n k (d + 2) m
theorem nz {a b : Nat} (h : (!Nat.beq (a % b) 0) = true) : a % b ≠ 0 := fun z => by rw [z] at h; cases h
theorem emodN {a b : Nat} (h : a % b ≠ 0) : (a : Int) % (b : Int) ≠ 0 := fun z => by
  have : ((a % b : Nat) : Int) = 0 := by rw [Int.natCast_emod]; exact z
  omega
theorem chk_ok {n : Nat} (n3 : 3 ≤ n) : ∀ (k d m : Nat), chk n k d m = true → m ∣ n → m % 2 = 1 → d % 2 = 1 → 3 ≤ d → (∀ e, 2 ≤ e → e < d → m % e ≠ 0) → NL n
  | 0, _, _, h, _, _, _, _, _ => by cases h
  | k + 1, d, m, h, hm, mo, od, d3, no => by
    rw [chk] at h
    have isP : ∀ {x : Nat}, 2 ≤ x → (∀ e, 2 ≤ e → e * e ≤ x → x % e ≠ 0) → IsPr (x : Int) := fun {x} x2 hx => by
      refine ⟨by omega, fun e e2 ee => ?_⟩
      obtain ⟨f, rfl⟩ := Int.eq_ofNat_of_zero_le (show 0 ≤ e by omega)
      exact emodN (hx f (by omega) (by exact_mod_cast ee))
    have dv : ∀ {x : Nat}, x ∣ n → (x : Int) ∣ (n : Int) := fun h => Int.natCast_dvd_natCast.mpr h
    have sub : ∀ {x : Nat}, 2 ≤ x → (n - 1) % (x - 1) ≠ 0 → ((n : Int) - 1) % ((x : Int) - 1) ≠ 0 := fun {x} x2 hx => by
      have := emodN hx
      rwa [show ((n - 1 : Nat) : Int) = (n : Int) - 1 by omega, show ((x - 1 : Nat) : Int) = (x : Int) - 1 by omega] at this
    cases e1 : Nat.blt m (d * d) with
    | true =>
      rw [e1] at h
      have lt : m < d * d := by rwa [Nat.blt_eq] at e1
      have pm : 2 ≤ m → IsPr (m : Int) := fun m2 => isP m2 fun e e2 ee => no e e2 (by
        refine Classical.byContradiction fun z => ?_
        have := Nat.mul_le_mul (show d ≤ e by omega) (show d ≤ e by omega)
        omega)
      replace h : (Nat.beq m n || (Nat.blt 1 m && !Nat.beq ((n - 1) % (m - 1)) 0)) = true := h
      rw [Bool.or_eq_true, Bool.and_eq_true] at h
      rcases h with h | ⟨h1, h2⟩
      · have e : m = n := Nat.eq_of_beq_eq_true h
        rw [← e]
        exact nl_prime (pm (by omega))
      · have m2 : 1 < m := by rwa [Nat.blt_eq] at h1
        exact nl_step (pm m2) (dv hm) (sub m2 (nz h2))
    | false =>
      rw [e1] at h
      replace h : (bif Nat.beq (m % d) 0 then (Nat.beq ((m / d) % d) 0 || (!Nat.beq ((n - 1) % (d - 1)) 0 || chk n k (d + 2) (m / d))) else chk n k (d + 2) m) = true := h
      have ev : ∀ x e : Nat, x % 2 = 1 → e % 2 = 0 → x % e ≠ 0 := fun x e hx he z => by
        have d1 : e ∣ x := Nat.dvd_of_mod_eq_zero z
        have d2 : 2 ∣ e := Nat.dvd_of_mod_eq_zero he
        have := Nat.mod_eq_zero_of_dvd (Nat.dvd_trans d2 d1)
        omega
      cases e2 : Nat.beq (m % d) 0 with
      | true =>
        rw [e2] at h
        have z0 : m % d = 0 := Nat.eq_of_beq_eq_true e2
        have dm : d ∣ m := Nat.dvd_of_mod_eq_zero z0
        have pd : IsPr (d : Int) := isP (by omega) fun e h2 ee z => no e h2 (by
          have := Nat.mul_le_mul_right e h2
          omega) (Nat.mod_eq_zero_of_dvd (Nat.dvd_trans (Nat.dvd_of_mod_eq_zero z) dm))
        replace h : (Nat.beq ((m / d) % d) 0 || (!Nat.beq ((n - 1) % (d - 1)) 0 || chk n k (d + 2) (m / d))) = true := h
        rw [Bool.or_eq_true, Bool.or_eq_true] at h
        have em : m / d * d = m := Nat.div_mul_cancel dm
        rcases h with h | h | h
        · have d2 : d ∣ m / d := Nat.dvd_of_mod_eq_zero (Nat.eq_of_beq_eq_true h)
          refine nl_sq pd ?_
          have : d * d ∣ n := Nat.dvd_trans (by rw [← em]; exact Nat.mul_dvd_mul_right d2 d) hm
          exact_mod_cast this
        · exact nl_step pd (dv (Nat.dvd_trans dm hm)) (sub (by omega) (nz h))
        · by_cases d2 : (m / d) % d = 0
          · refine nl_sq pd ?_
            have : d * d ∣ n := Nat.dvd_trans (by rw [← em]; exact Nat.mul_dvd_mul_right (Nat.dvd_of_mod_eq_zero d2) d) hm
            exact_mod_cast this
          have mdo : m / d % 2 = 1 := by
            refine Classical.byContradiction fun z => ?_
            have z' : 2 ∣ m / d := Nat.dvd_of_mod_eq_zero (by omega)
            have : 2 ∣ m := Nat.dvd_trans z' ⟨d, em.symm⟩
            omega
          refine chk_ok n3 k (d + 2) (m / d) h (Nat.dvd_trans ⟨d, em.symm⟩ hm) mdo (by omega) (by omega) fun e h2 he => ?_
          by_cases z : e < d
          · exact fun w => no e h2 z (Nat.mod_eq_zero_of_dvd (Nat.dvd_trans (Nat.dvd_of_mod_eq_zero w) ⟨d, em.symm⟩))
          · by_cases z2 : e = d
            · rw [z2]; exact d2
            · exact ev _ e mdo (by omega)
      | false =>
        rw [e2] at h
        have z0 : m % d ≠ 0 := fun z => by rw [z] at e2; cases e2
        refine chk_ok n3 k (d + 2) m h hm mo (by omega) (by omega) fun e h2 he => ?_
        by_cases z : e < d
        · exact no e h2 z
        · by_cases z2 : e = d
          · rw [z2]; exact z0
          · exact ev _ e mo (by omega)
noncomputable def known : List Nat := [561, 1105, 1729, 2465, 2821, 6601, 8911, 10585, 15841, 29341, 41041, 46657, 52633, 62745, 63973, 75361]
noncomputable def allF (a : Nat) : Nat → Bool
  | 0 => true
  | k + 1 => (chk (2 * (a + k) + 3) 160 3 (2 * (a + k) + 3) || known.contains (2 * (a + k) + 3)) && allF a k
theorem r_0 : allF 0 1000 = true := by decide +kernel
theorem r_1 : allF 1000 1000 = true := by decide +kernel
theorem r_2 : allF 2000 1000 = true := by decide +kernel
theorem r_3 : allF 3000 1000 = true := by decide +kernel
theorem r_4 : allF 4000 1000 = true := by decide +kernel
theorem r_5 : allF 5000 1000 = true := by decide +kernel
theorem r_6 : allF 6000 1000 = true := by decide +kernel
theorem r_7 : allF 7000 1000 = true := by decide +kernel
theorem r_8 : allF 8000 1000 = true := by decide +kernel
theorem r_9 : allF 9000 1000 = true := by decide +kernel
theorem r_10 : allF 10000 1000 = true := by decide +kernel
theorem r_11 : allF 11000 1000 = true := by decide +kernel
theorem r_12 : allF 12000 1000 = true := by decide +kernel
theorem r_13 : allF 13000 1000 = true := by decide +kernel
theorem r_14 : allF 14000 1000 = true := by decide +kernel
theorem r_15 : allF 15000 1000 = true := by decide +kernel
theorem r_16 : allF 16000 1000 = true := by decide +kernel
theorem r_17 : allF 17000 1000 = true := by decide +kernel
theorem r_18 : allF 18000 1000 = true := by decide +kernel
theorem r_19 : allF 19000 1000 = true := by decide +kernel
theorem r_20 : allF 20000 1000 = true := by decide +kernel
theorem r_21 : allF 21000 1000 = true := by decide +kernel
theorem r_22 : allF 22000 1000 = true := by decide +kernel
theorem r_23 : allF 23000 1000 = true := by decide +kernel
theorem r_24 : allF 24000 1000 = true := by decide +kernel
theorem r_25 : allF 25000 1000 = true := by decide +kernel
theorem r_26 : allF 26000 1000 = true := by decide +kernel
theorem r_27 : allF 27000 1000 = true := by decide +kernel
theorem r_28 : allF 28000 1000 = true := by decide +kernel
theorem r_29 : allF 29000 1000 = true := by decide +kernel
theorem r_30 : allF 30000 1000 = true := by decide +kernel
theorem r_31 : allF 31000 1000 = true := by decide +kernel
theorem r_32 : allF 32000 1000 = true := by decide +kernel
theorem r_33 : allF 33000 1000 = true := by decide +kernel
theorem r_34 : allF 34000 1000 = true := by decide +kernel
theorem r_35 : allF 35000 1000 = true := by decide +kernel
theorem r_36 : allF 36000 1000 = true := by decide +kernel
theorem r_37 : allF 37000 1000 = true := by decide +kernel
theorem r_38 : allF 38000 1000 = true := by decide +kernel
theorem r_39 : allF 39000 1000 = true := by decide +kernel
theorem r_40 : allF 40000 1000 = true := by decide +kernel
theorem r_41 : allF 41000 1000 = true := by decide +kernel
theorem r_42 : allF 42000 1000 = true := by decide +kernel
theorem r_43 : allF 43000 1000 = true := by decide +kernel
theorem r_44 : allF 44000 1000 = true := by decide +kernel
theorem r_45 : allF 45000 1000 = true := by decide +kernel
theorem r_46 : allF 46000 1000 = true := by decide +kernel
theorem r_47 : allF 47000 1000 = true := by decide +kernel
theorem r_48 : allF 48000 1000 = true := by decide +kernel
theorem r_49 : allF 49000 999 = true := by decide +kernel
theorem allF_at {a : Nat} : ∀ {k i : Nat}, allF a k = true → i < k → (chk (2 * (a + i) + 3) 160 3 (2 * (a + i) + 3) || known.contains (2 * (a + i) + 3)) = true
  | k + 1, i, h, hi => by
    rw [allF, Bool.and_eq_true] at h
    by_cases z : i = k
    · rw [z]; exact h.1
    · exact allF_at h.2 (by omega)
theorem r_all {i : Nat} (h : i < 49999) : (chk (2 * i + 3) 160 3 (2 * i + 3) || known.contains (2 * i + 3)) = true := by
  have key : ∀ a k, allF a k = true → a ≤ i → i < a + k → (chk (2 * i + 3) 160 3 (2 * i + 3) || known.contains (2 * i + 3)) = true := fun a k h1 h2 h3 => by
    have := allF_at (i := i - a) h1 (by omega)
    rwa [show a + (i - a) = i by omega] at this
  have hc : i / 1000 < 50 := by omega
  by_cases h0 : i < 1000
  · exact key 0 1000 r_0 (by omega) (by omega)
  by_cases h1 : i < 2000
  · exact key 1000 1000 r_1 (by omega) (by omega)
  by_cases h2 : i < 3000
  · exact key 2000 1000 r_2 (by omega) (by omega)
  by_cases h3 : i < 4000
  · exact key 3000 1000 r_3 (by omega) (by omega)
  by_cases h4 : i < 5000
  · exact key 4000 1000 r_4 (by omega) (by omega)
  by_cases h5 : i < 6000
  · exact key 5000 1000 r_5 (by omega) (by omega)
  by_cases h6 : i < 7000
  · exact key 6000 1000 r_6 (by omega) (by omega)
  by_cases h7 : i < 8000
  · exact key 7000 1000 r_7 (by omega) (by omega)
  by_cases h8 : i < 9000
  · exact key 8000 1000 r_8 (by omega) (by omega)
  by_cases h9 : i < 10000
  · exact key 9000 1000 r_9 (by omega) (by omega)
  by_cases h10 : i < 11000
  · exact key 10000 1000 r_10 (by omega) (by omega)
  by_cases h11 : i < 12000
  · exact key 11000 1000 r_11 (by omega) (by omega)
  by_cases h12 : i < 13000
  · exact key 12000 1000 r_12 (by omega) (by omega)
  by_cases h13 : i < 14000
  · exact key 13000 1000 r_13 (by omega) (by omega)
  by_cases h14 : i < 15000
  · exact key 14000 1000 r_14 (by omega) (by omega)
  by_cases h15 : i < 16000
  · exact key 15000 1000 r_15 (by omega) (by omega)
  by_cases h16 : i < 17000
  · exact key 16000 1000 r_16 (by omega) (by omega)
  by_cases h17 : i < 18000
  · exact key 17000 1000 r_17 (by omega) (by omega)
  by_cases h18 : i < 19000
  · exact key 18000 1000 r_18 (by omega) (by omega)
  by_cases h19 : i < 20000
  · exact key 19000 1000 r_19 (by omega) (by omega)
  by_cases h20 : i < 21000
  · exact key 20000 1000 r_20 (by omega) (by omega)
  by_cases h21 : i < 22000
  · exact key 21000 1000 r_21 (by omega) (by omega)
  by_cases h22 : i < 23000
  · exact key 22000 1000 r_22 (by omega) (by omega)
  by_cases h23 : i < 24000
  · exact key 23000 1000 r_23 (by omega) (by omega)
  by_cases h24 : i < 25000
  · exact key 24000 1000 r_24 (by omega) (by omega)
  by_cases h25 : i < 26000
  · exact key 25000 1000 r_25 (by omega) (by omega)
  by_cases h26 : i < 27000
  · exact key 26000 1000 r_26 (by omega) (by omega)
  by_cases h27 : i < 28000
  · exact key 27000 1000 r_27 (by omega) (by omega)
  by_cases h28 : i < 29000
  · exact key 28000 1000 r_28 (by omega) (by omega)
  by_cases h29 : i < 30000
  · exact key 29000 1000 r_29 (by omega) (by omega)
  by_cases h30 : i < 31000
  · exact key 30000 1000 r_30 (by omega) (by omega)
  by_cases h31 : i < 32000
  · exact key 31000 1000 r_31 (by omega) (by omega)
  by_cases h32 : i < 33000
  · exact key 32000 1000 r_32 (by omega) (by omega)
  by_cases h33 : i < 34000
  · exact key 33000 1000 r_33 (by omega) (by omega)
  by_cases h34 : i < 35000
  · exact key 34000 1000 r_34 (by omega) (by omega)
  by_cases h35 : i < 36000
  · exact key 35000 1000 r_35 (by omega) (by omega)
  by_cases h36 : i < 37000
  · exact key 36000 1000 r_36 (by omega) (by omega)
  by_cases h37 : i < 38000
  · exact key 37000 1000 r_37 (by omega) (by omega)
  by_cases h38 : i < 39000
  · exact key 38000 1000 r_38 (by omega) (by omega)
  by_cases h39 : i < 40000
  · exact key 39000 1000 r_39 (by omega) (by omega)
  by_cases h40 : i < 41000
  · exact key 40000 1000 r_40 (by omega) (by omega)
  by_cases h41 : i < 42000
  · exact key 41000 1000 r_41 (by omega) (by omega)
  by_cases h42 : i < 43000
  · exact key 42000 1000 r_42 (by omega) (by omega)
  by_cases h43 : i < 44000
  · exact key 43000 1000 r_43 (by omega) (by omega)
  by_cases h44 : i < 45000
  · exact key 44000 1000 r_44 (by omega) (by omega)
  by_cases h45 : i < 46000
  · exact key 45000 1000 r_45 (by omega) (by omega)
  by_cases h46 : i < 47000
  · exact key 46000 1000 r_46 (by omega) (by omega)
  by_cases h47 : i < 48000
  · exact key 47000 1000 r_47 (by omega) (by omega)
  by_cases h48 : i < 49000
  · exact key 48000 1000 r_48 (by omega) (by omega)
  exact key 49000 999 r_49 (by omega) (by omega)
theorem nl_or {n : Nat} (h3 : 3 ≤ n) (h5 : n ≤ 100000) (ho : n % 2 = 1) : NL n ∨ n ∈ known := by
  have h := r_all (i := (n - 3) / 2) (by omega)
  rw [show 2 * ((n - 3) / 2) + 3 = n by omega, Bool.or_eq_true] at h
  rcases h with h | h
  · refine .inl (chk_ok h3 160 3 n h (Nat.dvd_refl _) ho (by decide) (by decide) fun e h2 he => ?_)
    have : e = 2 := by omega
    rw [this]
    omega
  · exact .inr (by simpa using h)
theorem lies_cert {n : Nat} (fl : List (Nat × Nat)) (up : L.upN 1 fl = true) (pr : L.prodN fl = n) (hb : liesL n (L.cst fl) = true) : ∀ l, Parts (n : Int) l → liesL n l = true := fun l hl => by
  have g : Parts (n : Int) (L.cst fl) := ⟨(L.upN_ok up).1, by rw [L.prod_cst, pr]⟩
  rw [hl.unique g]
  exact hb
theorem lies_known {n : Nat} (h : n ∈ known) : ∀ l, Parts (n : Int) l → liesL n l = true := by
  simp only [known, List.mem_cons, List.not_mem_nil, or_false] at h
  rcases h with rfl | rfl | rfl | rfl | rfl | rfl | rfl | rfl | rfl | rfl | rfl | rfl | rfl | rfl | rfl | rfl
  · exact lies_cert [(3, 1), (11, 1), (17, 1)] (by decide +kernel) (by decide +kernel) (by decide +kernel)
  · exact lies_cert [(5, 1), (13, 1), (17, 1)] (by decide +kernel) (by decide +kernel) (by decide +kernel)
  · exact lies_cert [(7, 1), (13, 1), (19, 1)] (by decide +kernel) (by decide +kernel) (by decide +kernel)
  · exact lies_cert [(5, 1), (17, 1), (29, 1)] (by decide +kernel) (by decide +kernel) (by decide +kernel)
  · exact lies_cert [(7, 1), (13, 1), (31, 1)] (by decide +kernel) (by decide +kernel) (by decide +kernel)
  · exact lies_cert [(7, 1), (23, 1), (41, 1)] (by decide +kernel) (by decide +kernel) (by decide +kernel)
  · exact lies_cert [(7, 1), (19, 1), (67, 1)] (by decide +kernel) (by decide +kernel) (by decide +kernel)
  · exact lies_cert [(5, 1), (29, 1), (73, 1)] (by decide +kernel) (by decide +kernel) (by decide +kernel)
  · exact lies_cert [(7, 1), (31, 1), (73, 1)] (by decide +kernel) (by decide +kernel) (by decide +kernel)
  · exact lies_cert [(13, 1), (37, 1), (61, 1)] (by decide +kernel) (by decide +kernel) (by decide +kernel)
  · exact lies_cert [(7, 1), (11, 1), (13, 1), (41, 1)] (by decide +kernel) (by decide +kernel) (by decide +kernel)
  · exact lies_cert [(13, 1), (37, 1), (97, 1)] (by decide +kernel) (by decide +kernel) (by decide +kernel)
  · exact lies_cert [(7, 1), (73, 1), (103, 1)] (by decide +kernel) (by decide +kernel) (by decide +kernel)
  · exact lies_cert [(3, 1), (5, 1), (47, 1), (89, 1)] (by decide +kernel) (by decide +kernel) (by decide +kernel)
  · exact lies_cert [(7, 1), (13, 1), (19, 1), (37, 1)] (by decide +kernel) (by decide +kernel) (by decide +kernel)
  · exact lies_cert [(11, 1), (13, 1), (17, 1), (31, 1)] (by decide +kernel) (by decide +kernel) (by decide +kernel)
theorem lies_iff {n : Int} {l : List (Int × Int)} (h3 : 3 ≤ n) (h5 : n ≤ 100000) (ho : n % 2 = 1) (hl : Parts n l) : liesL n l = known.contains n.toNat := by
  obtain ⟨m, rfl⟩ := Int.eq_ofNat_of_zero_le (show 0 ≤ n by omega)
  rw [Int.toNat_natCast]
  by_cases z : m ∈ known
  · rw [lies_known z l hl]
    exact (List.contains_iff_mem.mpr z).symm
  · rcases nl_or (n := m) (by omega) (by omega) (by omega) with h | h
    · rw [h l hl]
      cases e : known.contains m with
      | false => rfl
      | true => exact absurd (List.contains_iff_mem.mp e) z
    · exact absurd h z
noncomputable def wit (n b : Nat) : Bool := !Nat.beq (b ^ (n - 1) % n) 1 && (Nat.beq (Nat.gcd b n) 1 && Nat.blt b n)
noncomputable def witF : Nat → Bool
  | 0 => true
  | k + 1 => (known.contains (2 * k + 3) || tryB (2 * k + 3) (min 54 (2 * k + 1)) 2 || (wit (2 * k + 3) 2 || wit (2 * k + 3) 3 || wit (2 * k + 3) 5 || wit (2 * k + 3) 7 || wit (2 * k + 3) 11)) && witF k
theorem w5 : witF 1499 = true := by decide +kernel
theorem witF_at : ∀ {k i : Nat}, witF k = true → i < k → (known.contains (2 * i + 3) || tryB (2 * i + 3) (min 54 (2 * i + 1)) 2 || (wit (2 * i + 3) 2 || wit (2 * i + 3) 3 || wit (2 * i + 3) 5 || wit (2 * i + 3) 7 || wit (2 * i + 3) 11)) = true
  | k + 1, i, h, hi => by
    rw [witF, Bool.and_eq_true] at h
    by_cases z : i = k
    · rw [z]; exact h.1
    · exact witF_at h.2 (by omega)
theorem wit_ok {n b : Nat} (n3 : 3 ≤ n) (h : wit n b = true) : (b : Int) < n ∧ Int.gcd b n = 1 ∧ (b : Int) ^ ((n : Int) - 1).toNat % n ≠ 1 := by
  unfold wit at h
  rw [Bool.and_eq_true, Bool.and_eq_true] at h
  refine ⟨?_, ?_, fun z => ?_⟩
  · have := h.2.2
    rw [Nat.blt_eq] at this
    omega
  · exact Nat.eq_of_beq_eq_true h.2.1
  · have e : b ^ (n - 1) % n = 1 := by
      rw [show ((n : Int) - 1).toNat = n - 1 by omega, ← Int.natCast_pow, ← Int.natCast_emod] at z
      exact_mod_cast z
    rw [e] at h
    cases h.1
theorem small {n : Int} (h3 : 3 ≤ n) (h5 : n ≤ 2999) (ho : n % 2 = 1) : (∀ l, Parts n l → liesL n l = true) ∨ ((∀ l, Parts n l → liesL n l = false) ∧ (IsPr n ∨ ∃ b : Int, 2 ≤ b ∧ b < n ∧ Int.gcd b n = 1 ∧ b ^ (n - 1).toNat % n ≠ 1)) := by
  obtain ⟨m, rfl⟩ := Int.eq_ofNat_of_zero_le (show 0 ≤ n by omega)
  by_cases z : m ∈ known
  · exact .inl (lies_known z)
  · refine .inr ⟨?_, ?_⟩
    · rcases nl_or (n := m) (by omega) (by omega) (by omega) with h | h
      · exact h
      · exact absurd h z
    · have h := witF_at (i := (m - 3) / 2) w5 (by omega)
      rw [show 2 * ((m - 3) / 2) + 3 = m by omega, show 2 * ((m - 3) / 2) + 1 = m - 2 by omega] at h
      have nk : known.contains m = false := by
        cases e : known.contains m with
        | false => rfl
        | true => exact absurd (List.contains_iff_mem.mp e) z
      rw [nk, Bool.false_or] at h
      simp only [Bool.or_eq_true] at h
      have wt : ∀ b : Nat, 2 ≤ b → wit m b = true → ∃ b : Int, 2 ≤ b ∧ b < m ∧ Int.gcd b m = 1 ∧ b ^ ((m : Int) - 1).toNat % m ≠ 1 := fun b b2 hw => by
        obtain ⟨w1, w2, w3⟩ := wit_ok (by omega) hw
        exact ⟨b, by omega, w1, w2, w3⟩
      rcases h with h | (((h | h) | h) | h) | h
      · left
        refine pr_try (k := min 54 (m - 2)) (by omega) ?_ h
        by_cases q : m - 2 ≤ 54
        · rw [Nat.min_eq_right q, show m - 2 + 2 = m by omega]
          have := Nat.mul_le_mul_right m (show 2 ≤ m by omega)
          omega
        · rw [Nat.min_eq_left (by omega)]
          omega
      · exact .inr (wt 2 (by decide) h)
      · exact .inr (wt 3 (by decide) h)
      · exact .inr (wt 5 (by decide) h)
      · exact .inr (wt 7 (by decide) h)
      · exact .inr (wt 11 (by decide) h)
end U
end MM
set_option linter.all false
set_option maxHeartbeats 4000000
set_option maxRecDepth 100000
namespace MM
namespace U
theorem filt_none : ∀ {l : List Nat} {a : Nat}, (∀ x ∈ l, a ≤ x) → l.filter (fun n => decide (n < a)) = []
  | [], _, _ => rfl
  | x :: r, a, h => by
    have hx := h x List.mem_cons_self
    rw [List.filter_cons_of_neg (by simp; omega)]
    exact filt_none fun y hy => h y (List.mem_cons_of_mem _ hy)
theorem filt_step : ∀ {l : List Nat} {a : Nat}, l.Pairwise (· < ·) → (∀ x ∈ l, x % 2 = 1) → a % 2 = 1 → l.filter (fun n => decide (n < a + 2)) = l.filter (fun n => decide (n < a)) ++ (if l.contains a = true then [a] else [])
  | [], a, _, _, _ => rfl
  | x :: r, a, hp, ho, ha => by
    obtain ⟨h1, h2⟩ := List.pairwise_cons.mp hp
    have hx := ho x List.mem_cons_self
    have ho' : ∀ y ∈ r, y % 2 = 1 := fun y hy => ho y (List.mem_cons_of_mem _ hy)
    rcases Nat.lt_trichotomy x a with z | z | z
    · rw [List.filter_cons_of_pos (by simp; omega), List.filter_cons_of_pos (by simpa using z), filt_step h2 ho' ha, List.cons_append]
      have e : (x :: r).contains a = r.contains a := by
        rw [List.contains_cons, show (a == x) = false from by simp; omega, Bool.false_or]
      rw [e]
    · subst z
      have n1 : ∀ y ∈ r, x + 2 ≤ y := fun y hy => by have := h1 y hy; have := ho' y hy; omega
      rw [List.filter_cons_of_pos (by simp), filt_none n1, List.filter_cons_of_neg (by simp), filt_none (fun y hy => by have := n1 y hy; omega)]
      rw [if_pos (by simp)]
      rfl
    · have n1 : ∀ y ∈ x :: r, a + 2 ≤ y := fun y hy => by
        rcases List.mem_cons.mp hy with rfl | hy
        · omega
        · have := h1 y hy; omega
      rw [filt_none n1, filt_none fun y hy => by have := n1 y hy; omega]
      rw [if_neg fun w => by have := n1 a (List.contains_iff_mem.mp w); omega]
      rfl
noncomputable def tri (k : Nat) : List Int := (known.filter fun n => decide (n < 2 * k + 3)).map Int.ofNat
theorem tri_zero : tri 0 = [] := by decide +kernel
theorem tri_len (k : Nat) : (tri k).length ≤ 16 := by
  unfold tri
  rw [List.length_map]
  exact List.length_filter_le _ _
theorem tri_succ (k : Nat) : tri (k + 1) = tri k ++ (if known.contains (2 * k + 3) = true then [((2 * k + 3 : Nat) : Int)] else []) := by
  unfold tri
  rw [show 2 * (k + 1) + 3 = 2 * k + 3 + 2 by omega, filt_step (by decide +kernel) (by decide +kernel) (by omega), List.map_append]
  split <;> rfl
theorem tri_all : tri 49999 = known.map Int.ofNat := by decide +kernel
theorem tri_bound (k : Nat) : ∀ n ∈ tri k, n.natAbs < 10 ^ 100 := fun n hn => by
  unfold tri at hn
  obtain ⟨m, hm, rfl⟩ := List.mem_map.mp hn
  have := (List.mem_filter.mp hm).1
  have key : ∀ x ∈ known, x < 100000 := by decide +kernel
  have := key m this
  show m < 10 ^ 100
  omega
end U
end MM
set_option Elab.async false
set_option linter.all false
set_option maxRecDepth 100000
set_option maxHeartbeats 4000000
namespace PP
open PySem L2 MM
noncomputable def top (i : Nat) : Stmt := PySem.Challenge.pw_primepapers_k53_numbers_that_fool_all.main.body.getD i (.Pass ⟨0, 0, 0, 0⟩)
structure Cl where
  pe : Addr
  nn : Addr
  np : Addr
  pa : Addr
  pp : Addr
  nb : Addr
  nt : Addr
  nl : Addr
  nm : Addr
  nd : Addr
  tg : Addr
structure Txt (K : PySem.W.Frag) (mg : Str → Option Value) (t1 t2 : Tok) (cl : Cl) : Prop where
  mg_MOST_TRIED : mg "MOST_TRIED" = some (.int 1000000000 t1)
  mg_MOST_FOOLS : mg "MOST_FOOLS" = some (.int 100000 t2)
  no_len : mg "len" = none
  no_isinstance : mg "isinstance" = none
  no_int : mg "int" = none
  no_bool : mg "bool" = none
  no_range : mg "range" = none
  no_max : mg "max" = none
  no_min : mg "min" = none
  no_tuple : mg "tuple" = none
  no_repr : mg "repr" = none
  no_ValueError : mg "ValueError" = none
  mg_PrimeError : mg "PrimeError" = some (.ref cl.pe)
  mg_NoNumber : mg "NoNumber" = some (.ref cl.nn)
  mg_NoPrime : mg "NoPrime" = some (.ref cl.np)
  mg_NoPair : mg "NoPair" = some (.ref cl.pa)
  mg_NoPaper : mg "NoPaper" = some (.ref cl.pp)
  mg_NoBases : mg "NoBases" = some (.ref cl.nb)
  mg_NoText : mg "NoText" = some (.ref cl.nt)
  mg_NoLine : mg "NoLine" = some (.ref cl.nl)
  mg_NoName : mg "NoName" = some (.ref cl.nm)
  mg_NoDeed : mg "NoDeed" = some (.ref cl.nd)
  mg_TooGreat : mg "TooGreat" = some (.ref cl.tg)
  xc_NoNumber : ExcC K cl.nn
section
variable {P : Program} {w : World} {K : PySem.W.Frag} {mg : Str → Option Value} {base : Heap} {t1 t2 : Tok} {cl : Cl} {f : Addr} {fd : FuncData}
noncomputable abbrev s_is_whole : Stmt := top 14
theorem sc_is_whole : FnScope ["thing"] ["thing"] (defScope s_is_whole) := ⟨rfl, rfl, rfl, by decide +kernel, rfl, by decide +kernel, by decide +kernel⟩
noncomputable abbrev Df_is_whole (K : PySem.W.Frag) (mg : Str → Option Value) (f : Addr) (fd : FuncData) : Prop := Def K mg "is_whole" s_is_whole ["thing"] f fd
noncomputable def isWh : V → Bool
  | .int _ => true
  | _ => false
noncomputable def spWhole (K : PySem.W.Frag) : Sp := fun vs H Q _ => ∃ x n, vs = [x] ∧ TyOf K H x (.type n) ∧ Q (.bl (isWh x)) H
theorem ok_is_whole (D : Df_is_whole K mg f fd) (T : Txt K mg t1 t2 cl) : FnOk P w K mg base CX0 1 f fd ["thing"] (spWhole K) := by
  refine D.fn.ok sc_is_whole (fun vs H Q E h => ?_) (fun cdv A outer s H vs Q E hr h => ?_)
  · obtain ⟨x, n, rfl, _⟩ := h
    rfl
  · obtain ⟨x, n, rfl, ty, k⟩ := h
    refine ⟨_, (pss_one (ps_ret (pe_and (pe_callB call_isinst (by rfl) T.no_isinstance PyProof.Rows.boot_isinstance (pa_cons (pv 0) (pa_cons (pe_bltn (v := .ty "int") rfl T.no_int PyProof.Rows.boot_int rfl) pa_nil))) (pe_one (pe_not (pe_callB call_isinst (by rfl) T.no_isinstance PyProof.Rows.boot_isinstance (pa_cons (pv 0) (pa_cons (pe_bltn (v := .ty "bool") rfl T.no_bool PyProof.Rows.boot_bool rfl) pa_nil)))))))), ?_⟩
    have e0 : L2.start ["thing"] [x] = [some x] := rfl
    rw [e0]
    simp only [tSeq, tIfS, tTest, tRet, tRetN, tNext, tDrop, tAsg, tPar, tPar3, tAug, tVar, tC, tOp, tUn, rI, rI0, rU, tB, tAnd, tOr, tNot, tAndV, tOrV, tNotV, tIf, gName, gNil, gCons, gTup, gSub, tCB, tCons, tNil, tCall, tChain, ipI, tIsN, tNotN, tBM, tyV, tTup, tLst, rAppend, rCat, scal_ii, scal_bb, scal_ss, scal_ni, scal_in, rEq, rNe, List.getElem?_cons_zero, List.getElem?_cons_succ, List.set_cons_zero, List.set_cons_succ, eq_self, and_assoc, Option.some.injEq, V.int.injEq, V.bl.injEq, V.ref.injEq, V.str.injEq, List.cons.injEq, exists_eq_left', exists_eq_left, exists_and_left, List.nil_append, List.cons_append, List.append_nil, true_and, and_true, decide_eq_true_eq, Bool.not_eq_true', decide_eq_false_iff_not, if_true, if_false, Bool.not_true, Bool.not_false, Bool.false_eq_true, reduceCtorEq, decide_true, decide_false, ite_true, ite_false, rSetL, rIxL, tRaise, jCons, jNil, tFmt, tDNew, rCount, rIndex, tCont, tBreak, Int.reduceToNat, Int.reducePow]
    refine isi ty ⟨_, rfl, ?_⟩
    have ty' := ty
    cases ty' <;> first | exact iteF k | (refine iteT ?_; refine isi (by assumption) ⟨_, rfl, ?_⟩; exact k)
noncomputable abbrev s_is_between : Stmt := top 15
theorem sc_is_between : FnScope ["thing", "least", "most"] ["thing", "least", "most"] (defScope s_is_between) := ⟨rfl, rfl, rfl, by decide +kernel, rfl, by decide +kernel, by decide +kernel⟩
noncomputable abbrev Df_is_between (K : PySem.W.Frag) (mg : Str → Option Value) (f : Addr) (fd : FuncData) : Prop := Def K mg "is_between" s_is_between ["thing", "least", "most"] f fd
noncomputable def isBet : V → Int → Int → Bool
  | .int i, lo, hi => decide (lo ≤ i) && decide (i ≤ hi)
  | _, _, _ => false
noncomputable def spBetween (K : PySem.W.Frag) : Sp := fun vs H Q _ => ∃ x n lo hi, vs = [x, .int lo, .int hi] ∧ TyOf K H x (.type n) ∧ Q (.bl (isBet x lo hi)) H
theorem ok_is_between (D : Df_is_between K mg f fd) (T : Txt K mg t1 t2 cl) {f1 fd1} (D_is_whole : Df_is_whole K mg f1 fd1) : FnOk P w K mg base CX0 2 f fd ["thing", "least", "most"] (spBetween K) := by
  have G_is_whole : FnOk P w K mg base CX0 1 _ _ _ _ := ok_is_whole D_is_whole T
  refine D.fn.ok sc_is_between (fun vs H Q E h => ?_) (fun cdv A outer s H vs Q E hr h => ?_)
  · obtain ⟨x, n, lo, hi, rfl, _⟩ := h
    rfl
  · obtain ⟨x, n, lo, hi, rfl, ty, k⟩ := h
    refine ⟨_, (pss_one (ps_ret (pe_and (pe_call (G_is_whole.mono (by decide)) hr rfl D_is_whole.mgx D_is_whole.fn.kp D_is_whole.bd .nil pass0 (pa_cons (pv 0) pa_nil)) (pe_one (pe_chain op_le op_le (pv 1) (pv 0) (pv 2)))))), ?_⟩
    have e0 : L2.start ["thing", "least", "most"] [x, .int lo, .int hi] = [some (x), some (.int lo), some (.int hi)] := rfl
    rw [e0]; clear e0
    simp only [tSeq, tIfS, tTest, tRet, tRetN, tNext, tDrop, tAsg, tPar, tPar3, tAug, tVar, tC, tOp, tUn, rI, rI0, rU, tB, tAnd, tOr, tNot, tAndV, tOrV, tNotV, tIf, gName, gNil, gCons, gTup, gSub, tCB, tCons, tNil, tCall, tChain, ipI, tIsN, tNotN, tBM, tyV, tTup, tLst, rAppend, rCat, scal_ii, scal_bb, scal_ss, scal_ni, scal_in, rEq, rNe, List.getElem?_cons_zero, List.getElem?_cons_succ, List.set_cons_zero, List.set_cons_succ, eq_self, and_assoc, Option.some.injEq, V.int.injEq, V.bl.injEq, V.ref.injEq, V.str.injEq, List.cons.injEq, exists_eq_left', exists_eq_left, exists_and_left, List.nil_append, List.cons_append, List.append_nil, true_and, and_true, decide_eq_true_eq, Bool.not_eq_true', decide_eq_false_iff_not, if_true, if_false, Bool.not_true, Bool.not_false, Bool.false_eq_true, reduceCtorEq, decide_true, decide_false, ite_true, ite_false, rSetL, rIxL, tRaise, jCons, jNil, tFmt, tDNew, rCount, rIndex, tCont, tBreak, Int.reduceToNat, Int.reducePow]
    refine ⟨x, n, rfl, ty, _, rfl, ?_⟩
    cases x
    case int i =>
      refine iteT ⟨_, rfl, ?_⟩
      by_cases hl : lo ≤ i
      · rw [if_pos (by simpa using hl)]
        have e : isBet (.int i) lo hi = decide (i ≤ hi) := by simp [isBet, hl]
        rw [e] at k
        simp only [tSeq, tIfS, tTest, tRet, tRetN, tNext, tDrop, tAsg, tPar, tPar3, tAug, tVar, tC, tOp, tUn, rI, rI0, rU, tB, tAnd, tOr, tNot, tAndV, tOrV, tNotV, tIf, gName, gNil, gCons, gTup, gSub, tCB, tCons, tNil, tCall, tChain, ipI, tIsN, tNotN, tBM, tyV, tTup, tLst, rAppend, rCat, scal_ii, scal_bb, scal_ss, scal_ni, scal_in, rEq, rNe, List.getElem?_cons_zero, List.getElem?_cons_succ, List.set_cons_zero, List.set_cons_succ, eq_self, and_assoc, Option.some.injEq, V.int.injEq, V.bl.injEq, V.ref.injEq, V.str.injEq, List.cons.injEq, exists_eq_left', exists_eq_left, exists_and_left, List.nil_append, List.cons_append, List.append_nil, true_and, and_true, decide_eq_true_eq, Bool.not_eq_true', decide_eq_false_iff_not, if_true, if_false, Bool.not_true, Bool.not_false, Bool.false_eq_true, reduceCtorEq, decide_true, decide_false, ite_true, ite_false, rSetL, rIxL, tRaise, jCons, jNil, tFmt, tDNew, rCount, rIndex, tCont, tBreak, Int.reduceToNat, Int.reducePow]
        exact k
      · rw [if_neg (by simpa using hl)]
        have e : isBet (.int i) lo hi = false := by simp [isBet, hl]
        rw [e] at k
        exact k
    all_goals exact iteF k
noncomputable abbrev O_is_between (P : Program) (w : World) (K : PySem.W.Frag) (mg : Str → Option Value) (base : Heap) : Prop := ∃ f fd, Df_is_between K mg f fd ∧ FnOk P w K mg base CX0 2 f fd ["thing", "least", "most"] (spBetween K)
noncomputable def tMsg : TE := fun σ H Q => ∃ nm lo hi, σ[3]? = some (some (.str nm)) ∧ σ[1]? = some (some (.int lo)) ∧ σ[2]? = some (some (.int hi)) ∧ (nm.length ≤ 100 ∧ lo.natAbs < 10 ^ 100 ∧ hi.natAbs < 10 ^ 100) ∧ ∀ z, Q (.str z) H
theorem msg_imp {a b : Str} (ha : a.length ≤ 100) (hb : b.length ≤ 100) : ∀ σ H Q, tMsg σ H Q → jCons (tFmt (tVar 3)) (jCons (tC (.str a)) (jCons (tFmt (tVar 1)) (jCons (tC (.str b)) (jCons (tFmt (tVar 2)) jNil)))) Str.empty σ H Q := by
  rintro σ H Q ⟨nm, lo, hi, e1, e2, e3, ⟨b3, b1, b2⟩, k⟩
  have l1 : (Str.ofString (toString lo)).length ≤ 101 := toStr_len b1
  have l2 : (Str.ofString (toString hi)).length ≤ 101 := toStr_len b2
  have e0 : Str.empty.length = 0 := rfl
  have sz : ∀ {x : Str}, x.length ≤ 1000 → x.length ≤ sizeLine := fun h => Nat.le_of_lt (small1000 h)
  refine ⟨_, e1, .inl ⟨nm, rfl, sz (by omega), nm, rfl, sz ?_, a, rfl, sz ?_, _, e2, .inr ⟨lo, rfl, b1, _, rfl, sz ?_, b, rfl, sz ?_, _, e3, .inr ⟨hi, rfl, b2, _, rfl, sz ?_, sz ?_, k _⟩⟩⟩⟩ <;> simp only [Str.length_append, e0] <;> omega
noncomputable abbrev s_want_between : Stmt := top 16
theorem sc_want_between : FnScope ["thing", "least", "most", "name"] ["thing", "least", "most", "name"] (defScope s_want_between) := ⟨rfl, rfl, rfl, by decide +kernel, rfl, by decide +kernel, by decide +kernel⟩
noncomputable abbrev Df_want_between (K : PySem.W.Frag) (mg : Str → Option Value) (f : Addr) (fd : FuncData) : Prop := Def K mg "want_between" s_want_between ["thing", "least", "most", "name"] f fd
noncomputable def spWantB (K : PySem.W.Frag) (cl : Cl) : Sp := fun vs H Q E => ∃ (x : V) (n : String) (lo hi : Int) (nm : Str), vs = [x, .int lo, .int hi, .str nm] ∧ TyOf K H x (.type n) ∧ (lo.natAbs < 10 ^ 100 ∧ hi.natAbs < 10 ^ 100 ∧ nm.length ≤ 100) ∧ (isBet x lo hi = true → Q .non H) ∧ (isBet x lo hi = false → E (.ref cl.nn) none H)
theorem ok_want_between (D : Df_want_between K mg f fd) (T : Txt K mg t1 t2 cl) (o1 : O_is_between P w K mg base) : FnOk P w K mg base (CXE P w) 3 f fd ["thing", "least", "most", "name"] (spWantB K cl) := by
  obtain ⟨_, _, D_is_between, G_is_between⟩ := o1
  refine D.fn.okX sc_want_between (fun vs H Q E h => ?_) (fun cdv A outer s H vs Q E hr h => ?_)
  · obtain ⟨x, n, lo, hi, nm, rfl, _⟩ := h
    rfl
  · obtain ⟨x, n, lo, hi, nm, rfl, ty, ⟨b1, b2, b3⟩, k1, k2⟩ := h
    refine ⟨_, (pss_one (ps_if (pt_not (pt_val (pe_call (G_is_between.mono (by decide)) hr rfl D_is_between.mgx D_is_between.fn.kp D_is_between.bd .nil pass0 (pa_cons (pv 0) (pa_cons (pv 1) (pa_cons (pv 2) pa_nil))))))
 (pss_one (ps_raise raises_cx rfl rfl T.mg_NoNumber T.xc_NoNumber (pe_imp (t' := tMsg) (pe_joined (pj_cons (pe_fmt (pv 3)) (pj_cons pe_str (pj_cons (pe_fmt (pv 1)) (pj_cons pe_str (pj_cons (pe_fmt (pv 2)) pj_nil)))))) (msg_imp (by decide) (by decide)))))
 pss_nil)), ?_⟩
    have e0 : L2.start ["thing", "least", "most", "name"] [x, .int lo, .int hi, .str nm] = [some (x), some (.int lo), some (.int hi), some (.str nm)] := rfl
    rw [e0]; clear e0
    simp only [tSeq, tIfS, tTest, tRet, tRetN, tNext, tDrop, tAsg, tPar, tPar3, tAug, tVar, tC, tOp, tUn, rI, rI0, rU, tB, tAnd, tOr, tNot, tAndV, tOrV, tNotV, tIf, gName, gNil, gCons, gTup, gSub, tCB, tCons, tNil, tCall, tChain, ipI, tIsN, tNotN, tBM, tyV, tTup, tLst, rAppend, rCat, scal_ii, scal_bb, scal_ss, scal_ni, scal_in, rEq, rNe, List.getElem?_cons_zero, List.getElem?_cons_succ, List.set_cons_zero, List.set_cons_succ, eq_self, and_assoc, Option.some.injEq, V.int.injEq, V.bl.injEq, V.ref.injEq, V.str.injEq, List.cons.injEq, exists_eq_left', exists_eq_left, exists_and_left, List.nil_append, List.cons_append, List.append_nil, true_and, and_true, decide_eq_true_eq, Bool.not_eq_true', decide_eq_false_iff_not, if_true, if_false, Bool.not_true, Bool.not_false, Bool.false_eq_true, reduceCtorEq, decide_true, decide_false, ite_true, ite_false, rSetL, rIxL, tRaise, jCons, jNil, tFmt, tDNew, rCount, rIndex, tCont, tBreak, Int.reduceToNat, Int.reducePow]
    refine ⟨x, n, lo, hi, rfl, ty, _, rfl, ?_⟩
    cases e : isBet x lo hi with
    | true => rw [if_neg (by decide)]; exact k1 e
    | false =>
      rw [if_pos rfl]
      exact ⟨_, _, _, rfl, rfl, rfl, ⟨b3, b1, b2⟩, fun _ => k2 e⟩
noncomputable abbrev O_want_between (P : Program) (w : World) (K : PySem.W.Frag) (mg : Str → Option Value) (base : Heap) (cl : Cl) : Prop := ∃ f fd, Df_want_between K mg f fd ∧ FnOk P w K mg base (CXE P w) 3 f fd ["thing", "least", "most", "name"] (spWantB K cl)
theorem isBet_int {x : V} {lo hi : Int} (h : isBet x lo hi = true) : ∃ i, x = .int i ∧ lo ≤ i ∧ i ≤ hi := by
  cases x with
  | int i => simp only [isBet, Bool.and_eq_true, decide_eq_true_eq] at h; exact ⟨i, rfl, h⟩
  | _ => cases h
theorem isBet_of {i lo hi : Int} (h1 : lo ≤ i) (h2 : i ≤ hi) : isBet (.int i) lo hi = true := by simp [isBet, h1, h2]
noncomputable abbrev s_want_odd : Stmt := top 17
theorem sc_want_odd : FnScope ["thing", "least", "most", "name"] ["thing", "least", "most", "name"] (defScope s_want_odd) := ⟨rfl, rfl, rfl, by decide +kernel, rfl, by decide +kernel, by decide +kernel⟩
noncomputable abbrev Df_want_odd (K : PySem.W.Frag) (mg : Str → Option Value) (f : Addr) (fd : FuncData) : Prop := Def K mg "want_odd" s_want_odd ["thing", "least", "most", "name"] f fd
noncomputable def isOdd : V → Int → Int → Bool
  | .int i, lo, hi => (decide (lo ≤ i) && decide (i ≤ hi)) && !(decide (i % 2 = 0))
  | _, _, _ => false
noncomputable def spWantO (K : PySem.W.Frag) (cl : Cl) : Sp := fun vs H Q E => ∃ (x : V) (n : String) (lo hi : Int) (nm : Str), vs = [x, .int lo, .int hi, .str nm] ∧ TyOf K H x (.type n) ∧ (lo.natAbs < 10 ^ 100 ∧ hi.natAbs < 10 ^ 100 ∧ nm.length ≤ 100) ∧ (isOdd x lo hi = true → Q .non H) ∧ (isOdd x lo hi = false → E (.ref cl.nn) none H)
theorem ok_want_odd (D : Df_want_odd K mg f fd) (T : Txt K mg t1 t2 cl) (o1 : O_is_between P w K mg base) : FnOk P w K mg base (CXE P w) 3 f fd ["thing", "least", "most", "name"] (spWantO K cl) := by
  obtain ⟨_, _, D_is_between, G_is_between⟩ := o1
  refine D.fn.okX sc_want_odd (fun vs H Q E h => ?_) (fun cdv A outer s H vs Q E hr h => ?_)
  · obtain ⟨x, n, lo, hi, nm, rfl, _⟩ := h
    rfl
  · obtain ⟨x, n, lo, hi, nm, rfl, ty, ⟨b1, b2, b3⟩, k1, k2⟩ := h
    refine ⟨_, (pss_one (ps_if (PW.pt (pw_or (pt_not (pt_val (pe_call (G_is_between.mono (by decide)) hr rfl D_is_between.mgx D_is_between.fn.kp D_is_between.bd .nil pass0 (pa_cons (pv 0) (pa_cons (pv 1) (pa_cons (pv 2) pa_nil)))))) (pw_or1 (pt_cmpR op_eq (pe_op op_mod (pv 0) pe_int) pe_int (nomark _)))))
 (pss_one (ps_raise raises_cx rfl rfl T.mg_NoNumber T.xc_NoNumber (pe_imp (t' := tMsg) (pe_joined (pj_cons (pe_fmt (pv 3)) (pj_cons pe_str (pj_cons (pe_fmt (pv 1)) (pj_cons pe_str (pj_cons (pe_fmt (pv 2)) pj_nil)))))) (msg_imp (by decide) (by decide)))))
 pss_nil)), ?_⟩
    have e0 : L2.start ["thing", "least", "most", "name"] [x, .int lo, .int hi, .str nm] = [some (x), some (.int lo), some (.int hi), some (.str nm)] := rfl
    rw [e0]; clear e0
    simp only [tSeq, tIfS, tTest, tRet, tRetN, tNext, tDrop, tAsg, tPar, tPar3, tAug, tVar, tC, tOp, tUn, rI, rI0, rU, tB, tAnd, tOr, tNot, tAndV, tOrV, tNotV, tIf, gName, gNil, gCons, gTup, gSub, tCB, tCons, tNil, tCall, tChain, ipI, tIsN, tNotN, tBM, tyV, tTup, tLst, rAppend, rCat, scal_ii, scal_bb, scal_ss, scal_ni, scal_in, rEq, rNe, List.getElem?_cons_zero, List.getElem?_cons_succ, List.set_cons_zero, List.set_cons_succ, eq_self, and_assoc, Option.some.injEq, V.int.injEq, V.bl.injEq, V.ref.injEq, V.str.injEq, List.cons.injEq, exists_eq_left', exists_eq_left, exists_and_left, List.nil_append, List.cons_append, List.append_nil, true_and, and_true, decide_eq_true_eq, Bool.not_eq_true', decide_eq_false_iff_not, if_true, if_false, Bool.not_true, Bool.not_false, Bool.false_eq_true, reduceCtorEq, decide_true, decide_false, ite_true, ite_false, rSetL, rIxL, tRaise, jCons, jNil, tFmt, tDNew, rCount, rIndex, tCont, tBreak, Int.reduceToNat, Int.reducePow]
    refine ⟨x, n, lo, hi, rfl, ty, _, rfl, ?_⟩
    cases e : isBet x lo hi with
    | false =>
      rw [if_pos rfl]
      have ne : isOdd x lo hi = false := by
        cases x <;> first | rfl | (simp only [isBet] at e; simp only [isOdd, e, Bool.false_and])
      exact ⟨_, _, _, rfl, rfl, rfl, ⟨b3, b1, b2⟩, fun _ => k2 ne⟩
    | true =>
      rw [if_neg (by decide)]
      obtain ⟨i, rfl, _⟩ := isBet_int e
      refine ⟨_, rfl, by decide, ?_⟩
      simp only [isBet] at e
      refine ite2 (fun hz => ?_) (fun hz => ?_)
      · have ne : isOdd (.int i) lo hi = false := by simp [isOdd, hz]
        exact ⟨_, _, _, rfl, rfl, rfl, ⟨b3, b1, b2⟩, fun _ => k2 ne⟩
      · exact k1 (by simp only [isOdd, e, Bool.true_and]; simp [hz])
noncomputable abbrev O_want_odd (P : Program) (w : World) (K : PySem.W.Frag) (mg : Str → Option Value) (base : Heap) (cl : Cl) : Prop := ∃ f fd, Df_want_odd K mg f fd ∧ FnOk P w K mg base (CXE P w) 3 f fd ["thing", "least", "most", "name"] (spWantO K cl)
theorem isOdd_int {x : V} {lo hi : Int} (h : isOdd x lo hi = true) : ∃ i, x = .int i ∧ lo ≤ i ∧ i ≤ hi ∧ i % 2 = 1 := by
  cases x with
  | int i => simp only [isOdd, Bool.and_eq_true, decide_eq_true_eq, Bool.not_eq_true', decide_eq_false_iff_not] at h; exact ⟨i, rfl, h.1.1, h.1.2, by have := h.2; omega⟩
  | _ => cases h
theorem isOdd_of {i lo hi : Int} (h1 : lo ≤ i) (h2 : i ≤ hi) (h3 : i % 2 = 1) : isOdd (.int i) lo hi = true := by
  simp only [isOdd, decide_eq_true h1, decide_eq_true h2, decide_eq_false (show ¬ i % 2 = 0 by omega)]; rfl
noncomputable def spWant (K : PySem.W.Frag) (cl : Cl) (lo hi : Int) : Sp := fun vs H Q E => ∃ (x : V) (n : String) (nm : Str), vs = [x, .str nm] ∧ TyOf K H x (.type n) ∧ nm.length ≤ 100 ∧ (isBet x lo hi = true → Q .non H) ∧ (isBet x lo hi = false → E (.ref cl.nn) none H)
noncomputable abbrev s_want_tried : Stmt := top 18
theorem sc_want_tried : FnScope ["thing", "name"] ["thing", "name"] (defScope s_want_tried) := ⟨rfl, rfl, rfl, by decide +kernel, rfl, by decide +kernel, by decide +kernel⟩
noncomputable abbrev Df_want_tried (K : PySem.W.Frag) (mg : Str → Option Value) (f : Addr) (fd : FuncData) : Prop := Def K mg "want_tried" s_want_tried ["thing", "name"] f fd
theorem ok_want_tried (D : Df_want_tried K mg f fd) (T : Txt K mg t1 t2 cl) (o1 : O_want_between P w K mg base cl) : FnOk P w K mg base (CXE P w) 4 f fd ["thing", "name"] (spWant K cl 1 1000000000) := by
  obtain ⟨_, _, D_want_between, G_want_between⟩ := o1
  refine D.fn.okX sc_want_tried (fun vs H Q E h => ?_) (fun cdv A outer s H vs Q E hr h => ?_)
  · obtain ⟨x, n, nm, rfl, _⟩ := h
    rfl
  · obtain ⟨x, n, nm, rfl, ty, hb, k1, k2⟩ := h
    refine ⟨_, (pss_one (ps_expr (pe_call (G_want_between.mono (by decide)) hr rfl D_want_between.mgx D_want_between.fn.kp D_want_between.bd .nil (passes_cx (fun _ _ _ h => h)) (pa_cons (pv 0) (pa_cons pe_int (pa_cons (pe_glob (v := .int _) rfl T.mg_MOST_TRIED ⟨_, rfl⟩) (pa_cons (pv 1) pa_nil))))))), ?_⟩
    have e0 : L2.start ["thing", "name"] [x, .str nm] = [some (x), some (.str nm)] := rfl
    rw [e0]; clear e0
    simp only [tSeq, tIfS, tTest, tRet, tRetN, tNext, tDrop, tAsg, tPar, tPar3, tAug, tVar, tC, tOp, tUn, rI, rI0, rU, tB, tAnd, tOr, tNot, tAndV, tOrV, tNotV, tIf, gName, gNil, gCons, gTup, gSub, tCB, tCons, tNil, tCall, tChain, ipI, tIsN, tNotN, tBM, tyV, tTup, tLst, rAppend, rCat, scal_ii, scal_bb, scal_ss, scal_ni, scal_in, rEq, rNe, List.getElem?_cons_zero, List.getElem?_cons_succ, List.set_cons_zero, List.set_cons_succ, eq_self, and_assoc, Option.some.injEq, V.int.injEq, V.bl.injEq, V.ref.injEq, V.str.injEq, List.cons.injEq, exists_eq_left', exists_eq_left, exists_and_left, List.nil_append, List.cons_append, List.append_nil, true_and, and_true, decide_eq_true_eq, Bool.not_eq_true', decide_eq_false_iff_not, if_true, if_false, Bool.not_true, Bool.not_false, Bool.false_eq_true, reduceCtorEq, decide_true, decide_false, ite_true, ite_false, rSetL, rIxL, tRaise, jCons, jNil, tFmt, tDNew, rCount, rIndex, tCont, tBreak, Int.reduceToNat, Int.reducePow]
    exact ⟨x, n, _, _, nm, rfl, ty, ⟨by decide, by decide, hb⟩, k1, k2⟩
noncomputable abbrev O_want_tried (P : Program) (w : World) (K : PySem.W.Frag) (mg : Str → Option Value) (base : Heap) (cl : Cl) : Prop := ∃ f fd, Df_want_tried K mg f fd ∧ FnOk P w K mg base (CXE P w) 4 f fd ["thing", "name"] (spWant K cl 1 1000000000)
noncomputable abbrev s_least_part : Stmt := top 21
theorem sc_least_part : FnScope ["number", "start", "tried"] ["number", "start"] (defScope s_least_part) := ⟨rfl, rfl, rfl, by decide +kernel, rfl, by decide +kernel, by decide +kernel⟩
noncomputable abbrev Df_least_part (K : PySem.W.Frag) (mg : Str → Option Value) (f : Addr) (fd : FuncData) : Prop := Def K mg "least_part" s_least_part ["number", "start"] f fd
noncomputable def LpInv (n s t : Int) : Prop := s ≤ t ∧ ∀ d, s ≤ d → d < t → n % d ≠ 0
noncomputable def spLeast : Sp := fun vs H Q _ => ∃ (n s : Int), vs = [.int n, .int s] ∧ (0 ≤ n ∧ n ≤ 10 ^ 9 ∧ 2 ≤ s ∧ s ≤ 10 ^ 9 + 1) ∧ ∀ r, LpEnd n s r → Q (.int r) H
theorem ok_least_part (D : Df_least_part K mg f fd) (T : Txt K mg t1 t2 cl) : FnOk P w K mg base CX0 1 f fd ["number", "start"] spLeast := by
  refine D.fn.ok sc_least_part (fun vs H Q E h => ?_) (fun cdv A outer s H vs Q E hr h => ?_)
  · obtain ⟨a, n, rfl, _⟩ := h
    rfl
  · obtain ⟨n, s, rfl, ⟨h0, h1, h2, h3⟩, k⟩ := h
    refine ⟨_, (pss_cons (ps_set (i := 2) sc_least_part.nd rfl (by first | exact Or.inl rfl | exact Or.inr rfl) (pv 1))
 (pss_cons (ps_while PassesOwn.never (pt_cmpR op_le (pe_op op_mulB (pv 2) (pv 2)) (pv 0) (nomark _))
 (pss_cons (ps_if (pt_cmpR op_eq (pe_op op_mod (pv 0) (pv 2)) pe_int (nomark _))
 (pss_one (ps_ret (pv 2)))
 pss_nil)
 (pss_one (ps_aug (i := 2) sc_least_part.nd rfl (Or.inl rfl) pe_int ip_add))))
 (pss_one (ps_ret (pv 0))))), ?_⟩
    have e0 : L2.start ["number", "start", "tried"] [.int n, .int s] = [some (.int n), some (.int s), none] := rfl
    rw [e0]; clear e0
    simp only [tSeq, tIfS, tTest, tRet, tRetN, tNext, tDrop, tAsg, tPar, tPar3, tAug, tVar, tC, tOp, tUn, rI, rI0, rU, tB, tAnd, tOr, tNot, tAndV, tOrV, tNotV, tIf, gName, gNil, gCons, gTup, gSub, tCB, tCons, tNil, tCall, tChain, ipI, tIsN, tNotN, tBM, tyV, tTup, tLst, rAppend, rCat, scal_ii, scal_bb, scal_ss, scal_ni, scal_in, rEq, rNe, List.getElem?_cons_zero, List.getElem?_cons_succ, List.set_cons_zero, List.set_cons_succ, eq_self, and_assoc, Option.some.injEq, V.int.injEq, V.bl.injEq, V.ref.injEq, V.str.injEq, List.cons.injEq, exists_eq_left', exists_eq_left, exists_and_left, List.nil_append, List.cons_append, List.append_nil, true_and, and_true, decide_eq_true_eq, Bool.not_eq_true', decide_eq_false_iff_not, if_true, if_false, Bool.not_true, Bool.not_false, Bool.false_eq_true, reduceCtorEq, decide_true, decide_false, ite_true, ite_false, rSetL, rIxL, tRaise, jCons, jNil, tFmt, tDNew, rCount, rIndex, tCont, tBreak, Int.reduceToNat, Int.reducePow]
    obtain ⟨W, hW⟩ : ∃ W : Nat → St → Hp → Prop, ∀ m σ H', W m σ H' ↔ ∃ t, m = (10 ^ 10 - t).toNat ∧ σ = [some (.int n), some (.int s), some (.int t)] ∧ LpInv n s t ∧ t ≤ 10 ^ 9 + 2 ∧ H' = H := ⟨_, fun _ _ _ => Iff.rfl⟩
    refine ⟨W, ⟨_, (hW _ _ _).mpr ⟨_, rfl, rfl, ⟨Int.le_refl _, fun d a b => by omega⟩, by omega, rfl⟩⟩, ?_⟩
    intro m σ H' hw
    obtain ⟨t, rfl, rfl, ⟨I1, I2⟩, I3, rfl⟩ := (hW _ _ _).mp hw
    clear hw
    simp only [tSeq, tIfS, tTest, tRet, tRetN, tNext, tDrop, tAsg, tPar, tPar3, tAug, tVar, tC, tOp, tUn, rI, rI0, rU, tB, tAnd, tOr, tNot, tAndV, tOrV, tNotV, tIf, gName, gNil, gCons, gTup, gSub, tCB, tCons, tNil, tCall, tChain, ipI, tIsN, tNotN, tBM, tyV, tTup, tLst, rAppend, rCat, scal_ii, scal_bb, scal_ss, scal_ni, scal_in, rEq, rNe, List.getElem?_cons_zero, List.getElem?_cons_succ, List.set_cons_zero, List.set_cons_succ, eq_self, and_assoc, Option.some.injEq, V.int.injEq, V.bl.injEq, V.ref.injEq, V.str.injEq, List.cons.injEq, exists_eq_left', exists_eq_left, exists_and_left, List.nil_append, List.cons_append, List.append_nil, true_and, and_true, decide_eq_true_eq, Bool.not_eq_true', decide_eq_false_iff_not, if_true, if_false, Bool.not_true, Bool.not_false, Bool.false_eq_true, reduceCtorEq, decide_true, decide_false, ite_true, ite_false, rSetL, rIxL, tRaise, jCons, jNil, tFmt, tDNew, rCount, rIndex, tCont, tBreak, Int.reduceToNat, Int.reducePow]
    refine ⟨.inr ⟨by omega, by omega⟩, ?_⟩
    refine ite2 (fun hl => ?_) (fun hl => ?_)
    · refine ⟨fun σ' H2 => ∃ m', m' < (10 ^ 10 - t).toNat ∧ W m' σ' H2, fun _ _ h => h, ?_⟩
      have t2 : t ≤ n := by
        have := Int.mul_le_mul_of_nonneg_right (show (1 : Int) ≤ t by omega) (show 0 ≤ t by omega)
        omega
      refine ⟨by omega, ?_⟩
      refine ite2 (fun hd => ?_) (fun hd => ?_)
      · exact k t (.inr ⟨I1, hl, hd, I2⟩)
      · refine ⟨_, by omega, (hW _ _ _).mpr ⟨t + 1, rfl, rfl, ⟨by omega, fun d a b => ?_⟩, by omega, rfl⟩⟩
        by_cases e : d = t
        · rw [e]; exact hd
        · exact I2 d a (by omega)
    · refine k n (.inl ⟨rfl, fun d a b => I2 d a ?_⟩)
      refine Classical.byContradiction fun hc => hl ?_
      have := sq_mono (show 0 ≤ t by omega) (show t ≤ d by omega)
      omega
noncomputable abbrev O_least_part (P : Program) (w : World) (K : PySem.W.Frag) (mg : Str → Option Value) (base : Heap) : Prop := ∃ f fd, Df_least_part K mg f fd ∧ FnOk P w K mg base CX0 1 f fd ["number", "start"] (spLeast)
noncomputable abbrev s_parts_of : Stmt := top 20
theorem sc_parts_of : FnScope ["number", "found", "left", "tried", "often"] ["number"] (defScope s_parts_of) := ⟨rfl, rfl, rfl, by decide +kernel, rfl, by decide +kernel, by decide +kernel⟩
noncomputable abbrev Df_parts_of (K : PySem.W.Frag) (mg : Str → Option Value) (f : Addr) (fd : FuncData) : Prop := Def K mg "parts_of" s_parts_of ["number"] f fd
noncomputable def spParts (K : PySem.W.Frag) (cl : Cl) : Sp := fun vs H Q E => ∃ (x : V) (nx : String), vs = [x] ∧ TyOf K H x (.type nx) ∧ (isBet x 1 1000000000 = false → E (.ref cl.nn) none H) ∧ ∀ n : Int, x = .int n → 1 ≤ n → n ≤ 1000000000 → ∀ l p xs H', Parts n l → Same H H' → H' p = some (.tup xs) → RepL K H' (l.map pD) xs → Q (.ref p) H'
theorem ok_parts_of (D : Df_parts_of K mg f fd) (T : Txt K mg t1 t2 cl) (o1 : O_want_tried P w K mg base cl) (o2 : O_least_part P w K mg base) : FnOk P w K mg base (CXE P w) 5 f fd ["number"] (spParts K cl) := by
  obtain ⟨_, _, D_want_tried, G_want_tried⟩ := o1
  obtain ⟨_, _, D_least_part, G_least_part⟩ := o2
  refine D.fn.okX sc_parts_of (fun vs H Q E h => ?_) (fun cdv A outer s H vs Q E hr h => ?_)
  · obtain ⟨x, nx, rfl, _⟩ := h
    rfl
  · obtain ⟨x, nx, rfl, tx, ke, kq⟩ := h
    refine ⟨_, (pss_cons (ps_expr (pe_call (G_want_tried.mono (by decide)) hr rfl D_want_tried.mgx D_want_tried.fn.kp D_want_tried.bd .nil (passes_cx (fun _ _ _ h => h)) (pa_cons (pv 0) (pa_cons pe_str pa_nil))))
 (pss_cons (ps_set (i := 1) sc_parts_of.nd rfl (by first | exact Or.inl rfl | exact Or.inr rfl) (pe_lst pa_nil))
 (pss_cons (ps_set (i := 2) sc_parts_of.nd rfl (by first | exact Or.inl rfl | exact Or.inr rfl) (pv 0))
 (pss_cons (ps_set (i := 3) sc_parts_of.nd rfl (by first | exact Or.inl rfl | exact Or.inr rfl) pe_int)
 (pss_cons (PS.nox (ps_while PassesOwn.never (pt_cmpR op_gt (pv 2) pe_int (nomark _))
 (pss_cons (ps_set (i := 3) sc_parts_of.nd rfl (by first | exact Or.inl rfl | exact Or.inr rfl) (pe_call (G_least_part.mono (by decide)) hr rfl D_least_part.mgx D_least_part.fn.kp D_least_part.bd .nil pass0 (pa_cons (pv 2) (pa_cons (pv 3) pa_nil))))
 (pss_cons (ps_set (i := 4) sc_parts_of.nd rfl (by first | exact Or.inl rfl | exact Or.inr rfl) pe_int)
 (pss_cons (ps_while PassesOwn.never (pt_cmpR op_eq (pe_op op_mod (pv 2) (pv 3)) pe_int (nomark _))
 (pss_cons (ps_set (i := 2) sc_parts_of.nd rfl (by first | exact Or.inl rfl | exact Or.inr rfl) (pe_op op_fdivB (pv 2) (pv 3)))
 (pss_one (ps_aug (i := 4) sc_parts_of.nd rfl (Or.inl rfl) pe_int ip_add))))
 (pss_one (ps_expr (pe_bm PySem.F.plainAttrs_list PySem.F.slot_list_append PySem.F.type_list_append mt_append (pv 1) (pa_cons (pe_tup (pa_cons (pv 3) (pa_cons (pv 4) pa_nil))) pa_nil)))))))))
 (pss_one (ps_ret (pe_callTy call_tuple_of (by rfl) T.no_tuple PyProof.Rows.boot_tuple (pa_cons (pv 1) pa_nil))))))))), ?_⟩
    have e0 : L2.start ["number", "found", "left", "tried", "often"] [x] = [some (x), none, none, none, none] := rfl
    rw [e0]; clear e0
    simp only [tSeq, tIfS, tTest, tRet, tRetN, tNext, tDrop, tAsg, tPar, tPar3, tAug, tVar, tC, tOp, tUn, rI, rI0, rU, tB, tAnd, tOr, tNot, tAndV, tOrV, tNotV, tIf, gName, gNil, gCons, gTup, gSub, tCB, tCons, tNil, tCall, tChain, ipI, tIsN, tNotN, tBM, tyV, tTup, tLst, rAppend, rCat, scal_ii, scal_bb, scal_ss, scal_ni, scal_in, rEq, rNe, List.getElem?_cons_zero, List.getElem?_cons_succ, List.set_cons_zero, List.set_cons_succ, eq_self, and_assoc, Option.some.injEq, V.int.injEq, V.bl.injEq, V.ref.injEq, V.str.injEq, List.cons.injEq, exists_eq_left', exists_eq_left, exists_and_left, List.nil_append, List.cons_append, List.append_nil, true_and, and_true, decide_eq_true_eq, Bool.not_eq_true', decide_eq_false_iff_not, if_true, if_false, Bool.not_true, Bool.not_false, Bool.false_eq_true, reduceCtorEq, decide_true, decide_false, ite_true, ite_false, rSetL, rIxL, tRaise, jCons, jNil, tFmt, tDNew, rCount, rIndex, tCont, tBreak, Int.reduceToNat, Int.reducePow]
    refine ⟨x, nx, _, rfl, tx, by decide, fun hx => ?_, ke⟩
    obtain ⟨n, rfl, hb1, hb2⟩ := isBet_int hx
    have hb : 1 ≤ n ∧ n ≤ 10 ^ 9 := ⟨hb1, by omega⟩
    have k := kq n rfl hb1 hb2
    refine ⟨Nat.zero_le _, fun p hp => ?_⟩
    obtain ⟨W, hW⟩ : ∃ W : Nat → St → Hp → Prop, ∀ m σ H', W m σ H' ↔ ∃ l left t o xs, m = left.toNat ∧ σ = [some (.int n), some (.ref p), some (.int left), some (.int t), o] ∧ PtInv n l left t ∧ t ≤ 10 ^ 9 ∧ Same H H' ∧ H' p = some (.lst xs) ∧ RepL K H' (l.map pD) xs := ⟨_, fun _ _ _ => Iff.rfl⟩
    have s0 : Same H (upd H p (.lst [])) := fun b o e => by rw [upd_ne (ne_of_none e hp)]; exact e
    refine ⟨W, ⟨_, (hW _ _ _).mpr ⟨[], n, 2, none, [], rfl, rfl, pt_start hb.1, by omega, s0, upd_same, rfl⟩⟩, ?_⟩
    intro m σ H' hw
    obtain ⟨l, left, t, o, xs, rfl, rfl, I, tb, S, hl, R⟩ := (hW _ _ _).mp hw
    clear hw
    have i1 := I.l1; have i2 := I.t2; have i3 := pt_le I
    simp only [tSeq, tIfS, tTest, tRet, tRetN, tNext, tDrop, tAsg, tPar, tPar3, tAug, tVar, tC, tOp, tUn, rI, rI0, rU, tB, tAnd, tOr, tNot, tAndV, tOrV, tNotV, tIf, gName, gNil, gCons, gTup, gSub, tCB, tCons, tNil, tCall, tChain, ipI, tIsN, tNotN, tBM, tyV, tTup, tLst, rAppend, rCat, scal_ii, scal_bb, scal_ss, scal_ni, scal_in, rEq, rNe, List.getElem?_cons_zero, List.getElem?_cons_succ, List.set_cons_zero, List.set_cons_succ, eq_self, and_assoc, Option.some.injEq, V.int.injEq, V.bl.injEq, V.ref.injEq, V.str.injEq, List.cons.injEq, exists_eq_left', exists_eq_left, exists_and_left, List.nil_append, List.cons_append, List.append_nil, true_and, and_true, decide_eq_true_eq, Bool.not_eq_true', decide_eq_false_iff_not, if_true, if_false, Bool.not_true, Bool.not_false, Bool.false_eq_true, reduceCtorEq, decide_true, decide_false, ite_true, ite_false, rSetL, rIxL, tRaise, jCons, jNil, tFmt, tDNew, rCount, rIndex, tCont, tBreak, Int.reduceToNat, Int.reducePow]
    refine ite2 (fun h1 => ?_) (fun h1 => ?_)
    · refine ⟨fun σ' H2 => ∃ m', m' < left.toNat ∧ W m' σ' H2, fun _ _ h => h, ?_⟩
      refine ⟨left, t, rfl, ⟨by omega, by omega, by omega, by omega⟩, fun r hr => ?_⟩
      obtain ⟨pr, tr, rle, rd, ra⟩ := lp_next h1 i2 I.lo hr
      have r2 := pr.1
      obtain ⟨W2, hW2⟩ : ∃ W : Nat → St → Hp → Prop, ∀ m σ H2, W m σ H2 ↔ ∃ left' oft, m = left'.toNat ∧ σ = [some (.int n), some (.ref p), some (.int left'), some (.int r), some (.int oft)] ∧ DivInv left r left' oft ∧ H2 = H' := ⟨_, fun _ _ _ => Iff.rfl⟩
      refine ⟨W2, ⟨_, (hW2 _ _ _).mpr ⟨left, 0, rfl, rfl, div_start (by omega), rfl⟩⟩, ?_⟩
      intro m2 σ2 H2 hw2
      obtain ⟨left', oft, rfl, rfl, J, rfl⟩ := (hW2 _ _ _).mp hw2
      clear hw2
      have j1 := J.l1
      have j2 := div_le r2 J
      simp only [tSeq, tIfS, tTest, tRet, tRetN, tNext, tDrop, tAsg, tPar, tPar3, tAug, tVar, tC, tOp, tUn, rI, rI0, rU, tB, tAnd, tOr, tNot, tAndV, tOrV, tNotV, tIf, gName, gNil, gCons, gTup, gSub, tCB, tCons, tNil, tCall, tChain, ipI, tIsN, tNotN, tBM, tyV, tTup, tLst, rAppend, rCat, scal_ii, scal_bb, scal_ss, scal_ni, scal_in, rEq, rNe, List.getElem?_cons_zero, List.getElem?_cons_succ, List.set_cons_zero, List.set_cons_succ, eq_self, and_assoc, Option.some.injEq, V.int.injEq, V.bl.injEq, V.ref.injEq, V.str.injEq, List.cons.injEq, exists_eq_left', exists_eq_left, exists_and_left, List.nil_append, List.cons_append, List.append_nil, true_and, and_true, decide_eq_true_eq, Bool.not_eq_true', decide_eq_false_iff_not, if_true, if_false, Bool.not_true, Bool.not_false, Bool.false_eq_true, reduceCtorEq, decide_true, decide_false, ite_true, ite_false, rSetL, rIxL, tRaise, jCons, jNil, tFmt, tDNew, rCount, rIndex, tCont, tBreak, Int.reduceToNat, Int.reducePow]
      refine ⟨by omega, ?_⟩
      refine ite2 (fun hd => ?_) (fun hd => ?_)
      · refine ⟨fun σ' H2 => ∃ m', m' < left'.toNat ∧ W2 m' σ' H2, fun _ _ h => h, ?_⟩
        obtain ⟨J2, jl⟩ := div_turn r2 J hd
        have j3 := J2.l1
        exact ⟨⟨by omega, by omega⟩, _, by omega, (hW2 _ _ _).mpr ⟨_, _, rfl, rfl, J2, rfl⟩⟩
      · obtain ⟨I2, o1, lt⟩ := pt_turn I pr tr rd ra J hd
        refine ⟨.inl ⟨_, SqL.of hl⟩, ?_⟩
        refine ⟨by show 2 ≤ sizeLine; decide, fun a ha => ?_⟩
        have npa : p ≠ a := ne_of_none hl ha
        have hlen : xs.length < sizeLine := by
          have e := R.length
          rw [List.length_map] at e
          have e2 := parts_len I.ok.pr (by have := I.eq; have := prod_pos I.ok.pr; have := Int.mul_le_mul_of_nonneg_left i1 (show 0 ≤ prod l by omega); omega)
          exact small1000 (by omega)
        refine ⟨_, by rw [upd_ne npa]; exact hl, hlen, _, by omega, (hW _ _ _).mpr ⟨l ++ [(r, oft)], left', r, _, _, rfl, rfl, I2, by omega, ?_, upd_same, ?_⟩⟩
        · intro b u e
          have e1 : b ≠ p := ne_of_none e hp
          have e2 : b ≠ a := ne_of_none (S b u e) ha
          rw [upd_ne e1, upd_ne e2]
          exact S b u e
        · have tk : TK H2 (upd (upd H2 a (.tup [.int r, .int oft])) p (.lst (xs ++ [.ref a]))) := (TK.new ha).trans (TK.lst (xs := xs) (by rw [upd_ne npa]; exact hl))
          rw [List.map_append]
          refine (R.mono tk _ (noLL_pD l)).append ⟨_, [], rfl, rep_pair ?_, rfl⟩
          rw [upd_ne npa.symm, upd_same]
    · refine ⟨xs, .inl ⟨SqL.of hl, fun a ha => ?_⟩⟩
      refine k l a xs _ (pt_end I h1) (fun b u e => ?_) upd_same (R.mono (TK.new ha) _ (noLL_pD l))
      rw [upd_ne (ne_of_none (S b u e) ha)]
      exact S b u e
noncomputable abbrev O_parts_of (P : Program) (w : World) (K : PySem.W.Frag) (mg : Str → Option Value) (base : Heap) (cl : Cl) : Prop := ∃ f fd, Df_parts_of K mg f fd ∧ FnOk P w K mg base (CXE P w) 5 f fd ["number"] (spParts K cl)
noncomputable abbrev s_lies_to_all : Stmt := top 26
theorem sc_lies_to_all : FnScope ["n", "parts", "prime", "often"] ["n"] (defScope s_lies_to_all) := ⟨rfl, rfl, rfl, by decide +kernel, rfl, by decide +kernel, by decide +kernel⟩
noncomputable abbrev Df_lies_to_all (K : PySem.W.Frag) (mg : Str → Option Value) (f : Addr) (fd : FuncData) : Prop := Def K mg "lies_to_all" s_lies_to_all ["n"] f fd
noncomputable def spLies : Sp := fun vs H Q _ => ∃ (n : Int), vs = [.int n] ∧ (3 ≤ n ∧ n ≤ 1000000000) ∧ ∀ l H', Parts n l → Same H H' → Q (.bl (liesL n l)) H'
theorem ok_lies_to_all (D : Df_lies_to_all K mg f fd) (T : Txt K mg t1 t2 cl) (o1 : O_parts_of P w K mg base cl) : FnOk P w K mg base CX0 6 f fd ["n"] spLies := by
  obtain ⟨_, _, D_parts_of, G_parts_of⟩ := o1
  refine D.fn.ok sc_lies_to_all (fun vs H Q E h => ?_) (fun cdv A outer s H vs Q E hr h => ?_)
  · obtain ⟨n, rfl, _⟩ := h
    rfl
  · obtain ⟨n, rfl, ⟨h1, h2⟩, k⟩ := h
    refine ⟨_, (pss_cons (ps_set (i := 1) sc_lies_to_all.nd rfl (by first | exact Or.inl rfl | exact Or.inr rfl) (pe_call (G_parts_of.mono (by decide)) hr rfl D_parts_of.mgx D_parts_of.fn.kp D_parts_of.bd .nil passE0 (pa_cons (pv 0) pa_nil)))
 (pss_cons (ps_if (pt_cmpR op_eq (pe_callB call_len_seq (by rfl) T.no_len PySem.boot_len (pa_cons (pv 1) pa_nil)) pe_int (nomark _))
 (pss_one (ps_ret pe_bl))
 pss_nil)
 (pss_cons (ps_for PassesOwn.never rfl (pi_tup (pv 1)) (pg_tup rfl (pgs_cons (pg_name (i := 2) sc_lies_to_all.nd rfl (by first | exact Or.inl rfl | exact Or.inr rfl)) (pgs_cons (pg_name (i := 3) sc_lies_to_all.nd rfl (by first | exact Or.inl rfl | exact Or.inr rfl)) pgs_nil)))
 (pss_one (ps_if (PW.pt (pw_or (pt_cmpR op_gt (pv 3) pe_int (nomark _)) (pw_or1 (pt_cmpR op_ne (pe_op op_mod (pe_op op_sub (pv 0) pe_int) (pe_op op_sub (pv 2) pe_int)) pe_int (nomark _)))))
 (pss_one (ps_ret pe_bl))
 pss_nil)))
 (pss_one (ps_ret pe_bl))))), ?_⟩
    have e0 : L2.start ["n", "parts", "prime", "often"] [.int n] = [some (.int n), none, none, none] := rfl
    rw [e0]; clear e0
    simp only [tSeq, tIfS, tTest, tRet, tRetN, tNext, tDrop, tAsg, tPar, tPar3, tAug, tVar, tC, tOp, tUn, rI, rI0, rU, tB, tAnd, tOr, tNot, tAndV, tOrV, tNotV, tIf, gName, gNil, gCons, gTup, gSub, tCB, tCons, tNil, tCall, tChain, ipI, tIsN, tNotN, tBM, tyV, tTup, tLst, rAppend, rCat, scal_ii, scal_bb, scal_ss, scal_ni, scal_in, rEq, rNe, List.getElem?_cons_zero, List.getElem?_cons_succ, List.set_cons_zero, List.set_cons_succ, eq_self, and_assoc, Option.some.injEq, V.int.injEq, V.bl.injEq, V.ref.injEq, V.str.injEq, List.cons.injEq, exists_eq_left', exists_eq_left, exists_and_left, List.nil_append, List.cons_append, List.append_nil, true_and, and_true, decide_eq_true_eq, Bool.not_eq_true', decide_eq_false_iff_not, if_true, if_false, Bool.not_true, Bool.not_false, Bool.false_eq_true, reduceCtorEq, decide_true, decide_false, ite_true, ite_false, rSetL, rIxL, tRaise, jCons, jNil, tFmt, tDNew, rCount, rIndex, tCont, tBreak, Int.reduceToNat, Int.reducePow]
    refine ⟨.int n, _, rfl, .int _, fun h => ?_, fun n' en _ _ l p xs H' hl S hp R => ?_⟩
    · rw [isBet_of (by omega) h2] at h; cases h
    cases en
    have elen : xs.length = l.length := by rw [← R.length, List.length_map]
    have kk := k l H' hl S
    unfold liesL at kk
    simp only [tSeq, tIfS, tTest, tRet, tRetN, tNext, tDrop, tAsg, tPar, tPar3, tAug, tVar, tC, tOp, tUn, rI, rI0, rU, tB, tAnd, tOr, tNot, tAndV, tOrV, tNotV, tIf, gName, gNil, gCons, gTup, gSub, tCB, tCons, tNil, tCall, tChain, ipI, tIsN, tNotN, tBM, tyV, tTup, tLst, rAppend, rCat, scal_ii, scal_bb, scal_ss, scal_ni, scal_in, rEq, rNe, List.getElem?_cons_zero, List.getElem?_cons_succ, List.set_cons_zero, List.set_cons_succ, eq_self, and_assoc, Option.some.injEq, V.int.injEq, V.bl.injEq, V.ref.injEq, V.str.injEq, List.cons.injEq, exists_eq_left', exists_eq_left, exists_and_left, List.nil_append, List.cons_append, List.append_nil, true_and, and_true, decide_eq_true_eq, Bool.not_eq_true', decide_eq_false_iff_not, if_true, if_false, Bool.not_true, Bool.not_false, Bool.false_eq_true, reduceCtorEq, decide_true, decide_false, ite_true, ite_false, rSetL, rIxL, tRaise, jCons, jNil, tFmt, tDNew, rCount, rIndex, tCont, tBreak, Int.reduceToNat, Int.reducePow]
    refine ⟨_, .inr (SqT.of hp), ?_⟩
    rw [elen]
    refine ite2 (fun e1 => ?_) (fun e1 => ?_)
    · have e2 : l.length = 1 := by omega
      rw [decide_eq_false (fun z => z e2)] at kk
      exact kk
    · rw [decide_eq_true (show l.length ≠ 1 by omega), Bool.true_and] at kk
      refine ⟨_, rfl, p, rfl, ⟨xs, SqT.of hp⟩, for_tup (xs := xs) (fun j σ H2 => H2 = H' ∧ ∃ v1 v2, σ = [some (.int n), some (.ref p), v1, v2] ∧ ∀ q ∈ l.take j, q.2 ≤ 1 ∧ (n - 1) % (q.1 - 1) = 0) ⟨rfl, none, none, rfl, fun q hq => by simp at hq⟩ (fun _ _ _ _ h => by rw [h.1]; exact SqT.of hp) ?_ ?_⟩
      · rintro j x σ H2 hx ⟨rfl, v1, v2, rfl, I⟩
        obtain ⟨q, c, hq, rfl, hcc⟩ := repL_pD_get R hx
        have hmem : q ∈ l := List.mem_of_getElem? hq
        have q2 := (hl.1.pr q hmem).1.1
        have no : ¬ (q.2 ≤ 1 ∧ (n - 1) % (q.1 - 1) = 0) → Q (.bl false) H2 := fun z => by
          have : (l.all fun q => decide (q.2 ≤ 1) && decide ((n - 1) % (q.1 - 1) = 0)) = false := by
            refine Bool.eq_false_iff.mpr fun w => z ?_
            have := List.all_eq_true.mp w q hmem
            simpa using this
          rw [this] at kk
          exact kk
        simp only [tSeq, tIfS, tTest, tRet, tRetN, tNext, tDrop, tAsg, tPar, tPar3, tAug, tVar, tC, tOp, tUn, rI, rI0, rU, tB, tAnd, tOr, tNot, tAndV, tOrV, tNotV, tIf, gName, gNil, gCons, gTup, gSub, tCB, tCons, tNil, tCall, tChain, ipI, tIsN, tNotN, tBM, tyV, tTup, tLst, rAppend, rCat, scal_ii, scal_bb, scal_ss, scal_ni, scal_in, rEq, rNe, List.getElem?_cons_zero, List.getElem?_cons_succ, List.set_cons_zero, List.set_cons_succ, eq_self, and_assoc, Option.some.injEq, V.int.injEq, V.bl.injEq, V.ref.injEq, V.str.injEq, List.cons.injEq, exists_eq_left', exists_eq_left, exists_and_left, List.nil_append, List.cons_append, List.append_nil, true_and, and_true, decide_eq_true_eq, Bool.not_eq_true', decide_eq_false_iff_not, if_true, if_false, Bool.not_true, Bool.not_false, Bool.false_eq_true, reduceCtorEq, decide_true, decide_false, ite_true, ite_false, rSetL, rIxL, tRaise, jCons, jNil, tFmt, tDNew, rCount, rIndex, tCont, tBreak, Int.reduceToNat, Int.reducePow]
        refine ⟨_, hcc, rfl, ?_⟩
        simp only [tSeq, tIfS, tTest, tRet, tRetN, tNext, tDrop, tAsg, tPar, tPar3, tAug, tVar, tC, tOp, tUn, rI, rI0, rU, tB, tAnd, tOr, tNot, tAndV, tOrV, tNotV, tIf, gName, gNil, gCons, gTup, gSub, tCB, tCons, tNil, tCall, tChain, ipI, tIsN, tNotN, tBM, tyV, tTup, tLst, rAppend, rCat, scal_ii, scal_bb, scal_ss, scal_ni, scal_in, rEq, rNe, List.getElem?_cons_zero, List.getElem?_cons_succ, List.set_cons_zero, List.set_cons_succ, eq_self, and_assoc, Option.some.injEq, V.int.injEq, V.bl.injEq, V.ref.injEq, V.str.injEq, List.cons.injEq, exists_eq_left', exists_eq_left, exists_and_left, List.nil_append, List.cons_append, List.append_nil, true_and, and_true, decide_eq_true_eq, Bool.not_eq_true', decide_eq_false_iff_not, if_true, if_false, Bool.not_true, Bool.not_false, Bool.false_eq_true, reduceCtorEq, decide_true, decide_false, ite_true, ite_false, rSetL, rIxL, tRaise, jCons, jNil, tFmt, tDNew, rCount, rIndex, tCont, tBreak, Int.reduceToNat, Int.reducePow]
        refine ite2 (fun e3 => no fun z => by omega) (fun e3 => ⟨by omega, ?_⟩)
        refine ite2 (fun e4 => no fun z => e4 z.2) (fun e4 => ?_)
        rw [List.take_succ, hq]
        intro y hy
        rcases List.mem_append.mp hy with hy | hy
        · exact I y hy
        · have : y = q := by simpa using hy
          rw [this]
          exact ⟨by omega, Classical.byContradiction e4⟩
      · rintro σ H2 ⟨rfl, v1, v2, rfl, I⟩
        rw [elen, List.take_length] at I
        simp only [tSeq, tIfS, tTest, tRet, tRetN, tNext, tDrop, tAsg, tPar, tPar3, tAug, tVar, tC, tOp, tUn, rI, rI0, rU, tB, tAnd, tOr, tNot, tAndV, tOrV, tNotV, tIf, gName, gNil, gCons, gTup, gSub, tCB, tCons, tNil, tCall, tChain, ipI, tIsN, tNotN, tBM, tyV, tTup, tLst, rAppend, rCat, scal_ii, scal_bb, scal_ss, scal_ni, scal_in, rEq, rNe, List.getElem?_cons_zero, List.getElem?_cons_succ, List.set_cons_zero, List.set_cons_succ, eq_self, and_assoc, Option.some.injEq, V.int.injEq, V.bl.injEq, V.ref.injEq, V.str.injEq, List.cons.injEq, exists_eq_left', exists_eq_left, exists_and_left, List.nil_append, List.cons_append, List.append_nil, true_and, and_true, decide_eq_true_eq, Bool.not_eq_true', decide_eq_false_iff_not, if_true, if_false, Bool.not_true, Bool.not_false, Bool.false_eq_true, reduceCtorEq, decide_true, decide_false, ite_true, ite_false, rSetL, rIxL, tRaise, jCons, jNil, tFmt, tDNew, rCount, rIndex, tCont, tBreak, Int.reduceToNat, Int.reducePow]
        have : (l.all fun q => decide (q.2 ≤ 1) && decide ((n - 1) % (q.1 - 1) = 0)) = true := by
          rw [List.all_eq_true]
          intro q hq
          rw [decide_eq_true (I q hq).1, decide_eq_true (I q hq).2]; rfl
        rw [this] at kk
        exact kk
noncomputable abbrev O_lies_to_all (P : Program) (w : World) (K : PySem.W.Frag) (mg : Str → Option Value) (base : Heap) : Prop := ∃ f fd, Df_lies_to_all K mg f fd ∧ FnOk P w K mg base CX0 6 f fd ["n"] (spLies)
noncomputable abbrev s_fools_all : Stmt := top 24
theorem sc_fools_all : FnScope ["n"] ["n"] (defScope s_fools_all) := ⟨rfl, rfl, rfl, by decide +kernel, rfl, by decide +kernel, by decide +kernel⟩
noncomputable abbrev Df_fools_all (K : PySem.W.Frag) (mg : Str → Option Value) (f : Addr) (fd : FuncData) : Prop := Def K mg "fools_all" s_fools_all ["n"] f fd
noncomputable def spFools (K : PySem.W.Frag) (cl : Cl) : Sp := fun vs H Q E => ∃ (x : V) (nx : String), vs = [x] ∧ TyOf K H x (.type nx) ∧ (isOdd x 3 1000000000 = false → E (.ref cl.nn) none H) ∧ ∀ n : Int, x = .int n → isOdd x 3 1000000000 = true → ∀ l H', Parts n l → Same H H' → Q (.bl (liesL n l)) H'
theorem ok_fools_all (D : Df_fools_all K mg f fd) (T : Txt K mg t1 t2 cl) (o1 : O_want_odd P w K mg base cl) (o2 : O_lies_to_all P w K mg base) : FnOk P w K mg base (CXE P w) 7 f fd ["n"] (spFools K cl) := by
  obtain ⟨_, _, D_want_odd, G_want_odd⟩ := o1
  obtain ⟨_, _, D_lies_to_all, G_lies_to_all⟩ := o2
  refine D.fn.okX sc_fools_all (fun vs H Q E h => ?_) (fun cdv A outer s H vs Q E hr h => ?_)
  · obtain ⟨x, nx, rfl, _⟩ := h
    rfl
  · obtain ⟨x, nx, rfl, tx, kE, k⟩ := h
    refine ⟨_, (pss_cons (ps_expr (pe_call (G_want_odd.mono (by decide)) hr rfl D_want_odd.mgx D_want_odd.fn.kp D_want_odd.bd .nil (passes_cx (fun _ _ _ h => h)) (pa_cons (pv 0) (pa_cons pe_int (pa_cons (pe_glob (v := .int _) rfl T.mg_MOST_TRIED ⟨_, rfl⟩) (pa_cons pe_str pa_nil))))))
 (pss_one (ps_ret (pe_call (G_lies_to_all.mono (by decide)) hr rfl D_lies_to_all.mgx D_lies_to_all.fn.kp D_lies_to_all.bd .nil pass0 (pa_cons (pv 0) pa_nil))))), ?_⟩
    have e0 : L2.start ["n"] [x] = [some (x)] := rfl
    rw [e0]; clear e0
    simp only [tSeq, tIfS, tTest, tRet, tRetN, tNext, tDrop, tAsg, tPar, tPar3, tAug, tVar, tC, tOp, tUn, rI, rI0, rU, tB, tAnd, tOr, tNot, tAndV, tOrV, tNotV, tIf, gName, gNil, gCons, gTup, gSub, tCB, tCons, tNil, tCall, tChain, ipI, tIsN, tNotN, tBM, tyV, tTup, tLst, rAppend, rCat, scal_ii, scal_bb, scal_ss, scal_ni, scal_in, rEq, rNe, List.getElem?_cons_zero, List.getElem?_cons_succ, List.set_cons_zero, List.set_cons_succ, eq_self, and_assoc, Option.some.injEq, V.int.injEq, V.bl.injEq, V.ref.injEq, V.str.injEq, List.cons.injEq, exists_eq_left', exists_eq_left, exists_and_left, List.nil_append, List.cons_append, List.append_nil, true_and, and_true, decide_eq_true_eq, Bool.not_eq_true', decide_eq_false_iff_not, if_true, if_false, Bool.not_true, Bool.not_false, Bool.false_eq_true, reduceCtorEq, decide_true, decide_false, ite_true, ite_false, rSetL, rIxL, tRaise, jCons, jNil, tFmt, tDNew, rCount, rIndex, tCont, tBreak, Int.reduceToNat, Int.reducePow]
    refine ⟨x, nx, _, _, _, rfl, tx, ⟨by decide, by decide, by show 1 ≤ 100; decide⟩, fun hx => ?_, kE⟩
    obtain ⟨n, rfl, h1, h2, h3⟩ := isOdd_int hx
    exact ⟨n, rfl, ⟨h1, h2⟩, k n rfl hx⟩
noncomputable abbrev O_fools_all (P : Program) (w : World) (K : PySem.W.Frag) (mg : Str → Option Value) (base : Heap) (cl : Cl) : Prop := ∃ f fd, Df_fools_all K mg f fd ∧ FnOk P w K mg base (CXE P w) 7 f fd ["n"] (spFools K cl)
noncomputable abbrev s_all_fools : Stmt := top 25
theorem sc_all_fools : FnScope ["most"] ["most"] (defScope s_all_fools) := ⟨rfl, rfl, rfl, by decide +kernel, rfl, by decide +kernel, by decide +kernel⟩
noncomputable abbrev Df_all_fools (K : PySem.W.Frag) (mg : Str → Option Value) (f : Addr) (fd : FuncData) : Prop := Def K mg "all_fools" s_all_fools ["most"] f fd
theorem keep {H : Hp} {p q : Addr} {o u : HO} (e : H q = some o) (hp : H p = none) : (upd H p u) q = some o := by rw [upd_ne (ne_of_none e hp)]; exact e
noncomputable def upTo (m : Int) : Nat := nS 3 (m + 1)
theorem upTo_odd {m : Int} {i : Nat} (h : i < upTo m) : 3 + (i : Int) * 2 ≤ m := by
  unfold upTo nS at h
  split at h <;> omega
noncomputable abbrev OB_lies_to_all (P : Program) (w : World) (K : PySem.W.Frag) (mg : Str → Option Value) (cl : Cl) : Prop := ∃ f fd, Df_lies_to_all K mg f fd ∧ ∀ b, FnOk P w K mg b CX0 6 f fd ["n"] spLies
noncomputable def spAll (K : PySem.W.Frag) (cl : Cl) : Sp := fun vs H Q E => ∃ (x : V) (nx : String), vs = [x] ∧ TyOf K H x (.type nx) ∧ (isBet x 1 100000 = false → E (.ref cl.nn) none H) ∧ ∀ m : Int, x = .int m → 1 ≤ m → m ≤ 100000 → ∀ D H', Same H H' → H D = none → H' D = some (.lst ((U.tri (upTo m)).map V.int)) → Q (.ref D) H'
theorem Same.free {H H' : Hp} (s : Same H H') {D : Addr} (h : H' D = none) : H D = none := by
  cases e : H D with
  | none => rfl
  | some o => rw [s _ _ e] at h; cases h
theorem tri_lies {i : Nat} {l : List (Int × Int)} (h : 3 + (i : Int) * 2 ≤ 100000) (hl : Parts (3 + (i : Int) * 2) l) : U.tri (i + 1) = U.tri i ++ (if liesL (3 + (i : Int) * 2) l = true then [3 + (i : Int) * 2] else []) := by
  rw [U.tri_succ, U.lies_iff (by omega) h (by omega) hl, show (3 + (i : Int) * 2).toNat = 2 * i + 3 by omega, show ((2 * i + 3 : Nat) : Int) = 3 + (i : Int) * 2 by omega]
theorem ok_all_fools (D : Df_all_fools K mg f fd) (T : Txt K mg t1 t2 cl) (o1 : O_want_between P w K mg base cl) (o2 : OB_lies_to_all P w K mg cl) : FnOk P w K mg base (CXE P w) 7 f fd ["most"] (spAll K cl) := by
  obtain ⟨_, _, D_want_between, G_want_between⟩ := o1
  obtain ⟨_, _, D_lies_to_all, B_lies_to_all⟩ := o2
  refine D.fn.okX sc_all_fools (fun vs H Q E h => ?_) (fun cdv A outer s H vs Q E hr h => ?_)
  · obtain ⟨x, nx, rfl, _⟩ := h
    rfl
  · obtain ⟨x, nx, rfl, tx, kE, k⟩ := h
    refine ⟨_, (pss_cons (ps_expr (pe_call (G_want_between.mono (by decide)) hr rfl D_want_between.mgx D_want_between.fn.kp D_want_between.bd .nil (passes_cx (fun _ _ _ h => h)) (pa_cons (pv 0) (pa_cons pe_int (pa_cons (pe_glob (v := .int _) rfl T.mg_MOST_FOOLS ⟨_, rfl⟩) (pa_cons pe_str pa_nil))))))
 (pss_one (PS.nox (ps_ret (pe_compD (N := ["n"]) (js := [none]) (by rfl) rfl (fun _ => rfl) (pi_range3 rfl T.no_range (pa_cons pe_int (pa_cons (pe_op op_add (pv 0) pe_int) (pa_cons pe_int pa_nil)))) (by intro b _ _ _ _; exact (pg_name (i := 0) (show List.Nodup (["n"] : List Str) by decide) rfl (by first | exact Or.inl rfl | exact Or.inr rfl))) (by intro b _ _ _ _; exact pifs_one (pt_val (pe_call ((B_lies_to_all b).mono (by decide)) hr rfl D_lies_to_all.mgx D_lies_to_all.fn.kp D_lies_to_all.bd .nil pass0 (pa_cons (pv 0) pa_nil)))) (by intro b _ _ _ _; exact (pv 0))))))), ?_⟩
    have e0 : L2.start ["most"] [x] = [some (x)] := rfl
    rw [e0]; clear e0
    simp only [tSeq, tIfS, tTest, tRet, tRetN, tNext, tDrop, tAsg, tPar, tPar3, tAug, tVar, tC, tOp, tUn, rI, rI0, rU, tB, tAnd, tOr, tNot, tAndV, tOrV, tNotV, tIf, gName, gNil, gCons, gTup, gSub, tCB, tCons, tNil, tCall, tChain, ipI, tIsN, tNotN, tBM, tyV, tTup, tLst, rAppend, rCat, scal_ii, scal_bb, scal_ss, scal_ni, scal_in, rEq, rNe, List.getElem?_cons_zero, List.getElem?_cons_succ, List.set_cons_zero, List.set_cons_succ, eq_self, and_assoc, Option.some.injEq, V.int.injEq, V.bl.injEq, V.ref.injEq, V.str.injEq, List.cons.injEq, exists_eq_left', exists_eq_left, exists_and_left, List.nil_append, List.cons_append, List.append_nil, true_and, and_true, decide_eq_true_eq, Bool.not_eq_true', decide_eq_false_iff_not, if_true, if_false, Bool.not_true, Bool.not_false, Bool.false_eq_true, reduceCtorEq, decide_true, decide_false, ite_true, ite_false, rSetL, rIxL, tRaise, jCons, jNil, tFmt, tDNew, rCount, rIndex, tCont, tBreak, Int.reduceToNat, Int.reducePow]
    refine ⟨x, nx, _, _, _, rfl, tx, ⟨by decide, by decide, by show 4 ≤ 100; decide⟩, fun hx => ?_, kE⟩
    obtain ⟨m, rfl, m1, m9⟩ := isBet_int hx
    refine tCompC_of ?_
    refine ⟨_, rfl, m, 1, rfl, rfl, 3, m + 1, rfl, ⟨by decide, by decide, by omega, by omega⟩, fun b D hcb hD => ?_⟩
    replace k := k m rfl m1 m9 D
    have hn : H D = none := hD
    obtain ⟨Pv, hPv⟩ : ∃ Pv : Nat → St → Hp → Prop, ∀ i σ H2, Pv i σ H2 ↔ (∃ v1, σ = [v1]) ∧ Same H H2 ∧ H2 D = some (.lst ((U.tri i).map V.int)) := ⟨_, fun _ _ _ => Iff.rfl⟩
    refine comp_rangeS (lo := 3) (n := nS 3 (m + 1)) Pv ((hPv _ _ _).mpr ⟨⟨_, rfl⟩, fun b o e => keep e hD, by rw [U.tri_zero]; exact upd_same⟩) ?_ ?_
    · intro i σ H2 hi h
      obtain ⟨⟨v1, rfl⟩, s2, d2⟩ := (hPv _ _ _).mp h
      have im := upTo_odd hi
      simp only [tSeq, tIfS, tTest, tRet, tRetN, tNext, tDrop, tAsg, tPar, tPar3, tAug, tVar, tC, tOp, tUn, rI, rI0, rU, tB, tAnd, tOr, tNot, tAndV, tOrV, tNotV, tIf, gName, gNil, gCons, gTup, gSub, tCB, tCons, tNil, tCall, tChain, ipI, tIsN, tNotN, tBM, tyV, tTup, tLst, rAppend, rCat, scal_ii, scal_bb, scal_ss, scal_ni, scal_in, rEq, rNe, List.getElem?_cons_zero, List.getElem?_cons_succ, List.set_cons_zero, List.set_cons_succ, eq_self, and_assoc, Option.some.injEq, V.int.injEq, V.bl.injEq, V.ref.injEq, V.str.injEq, List.cons.injEq, exists_eq_left', exists_eq_left, exists_and_left, List.nil_append, List.cons_append, List.append_nil, true_and, and_true, decide_eq_true_eq, Bool.not_eq_true', decide_eq_false_iff_not, if_true, if_false, Bool.not_true, Bool.not_false, Bool.false_eq_true, reduceCtorEq, decide_true, decide_false, ite_true, ite_false, rSetL, rIxL, tRaise, jCons, jNil, tFmt, tDNew, rCount, rIndex, tCont, tBreak, Int.reduceToNat, Int.reducePow, CT]
      refine ⟨_, rfl, ⟨by omega, by omega⟩, fun l H3 hl s3 => ?_⟩
      have ts := tri_lies (by omega) hl
      have tl := U.tri_len i
      have d3 := s3 _ _ d2
      cases e : liesL (3 + (i : Int) * 2) l with
      | true =>
        rw [e, if_pos rfl] at ts
        simp only [tSeq, tIfS, tTest, tRet, tRetN, tNext, tDrop, tAsg, tPar, tPar3, tAug, tVar, tC, tOp, tUn, rI, rI0, rU, tB, tAnd, tOr, tNot, tAndV, tOrV, tNotV, tIf, gName, gNil, gCons, gTup, gSub, tCB, tCons, tNil, tCall, tChain, ipI, tIsN, tNotN, tBM, tyV, tTup, tLst, rAppend, rCat, scal_ii, scal_bb, scal_ss, scal_ni, scal_in, rEq, rNe, List.getElem?_cons_zero, List.getElem?_cons_succ, List.set_cons_zero, List.set_cons_succ, eq_self, and_assoc, Option.some.injEq, V.int.injEq, V.bl.injEq, V.ref.injEq, V.str.injEq, List.cons.injEq, exists_eq_left', exists_eq_left, exists_and_left, List.nil_append, List.cons_append, List.append_nil, true_and, and_true, decide_eq_true_eq, Bool.not_eq_true', decide_eq_false_iff_not, if_true, if_false, Bool.not_true, Bool.not_false, Bool.false_eq_true, reduceCtorEq, decide_true, decide_false, ite_true, ite_false, rSetL, rIxL, tRaise, jCons, jNil, tFmt, tDNew, rCount, rIndex, tCont, tBreak, Int.reduceToNat, Int.reducePow]
        refine ⟨_, d3, small1000 (by rw [List.length_map]; omega), (hPv _ _ _).mpr ⟨⟨_, rfl⟩, fun b o e => ?_, ?_⟩⟩
        · rw [upd_ne (ne_of_none e hn)]; exact s3 _ _ (s2 _ _ e)
        · rw [upd_same, ts, List.map_append]
          rfl
      | false =>
        rw [e, if_neg (by decide), List.append_nil] at ts
        simp only [tSeq, tIfS, tTest, tRet, tRetN, tNext, tDrop, tAsg, tPar, tPar3, tAug, tVar, tC, tOp, tUn, rI, rI0, rU, tB, tAnd, tOr, tNot, tAndV, tOrV, tNotV, tIf, gName, gNil, gCons, gTup, gSub, tCB, tCons, tNil, tCall, tChain, ipI, tIsN, tNotN, tBM, tyV, tTup, tLst, rAppend, rCat, scal_ii, scal_bb, scal_ss, scal_ni, scal_in, rEq, rNe, List.getElem?_cons_zero, List.getElem?_cons_succ, List.set_cons_zero, List.set_cons_succ, eq_self, and_assoc, Option.some.injEq, V.int.injEq, V.bl.injEq, V.ref.injEq, V.str.injEq, List.cons.injEq, exists_eq_left', exists_eq_left, exists_and_left, List.nil_append, List.cons_append, List.append_nil, true_and, and_true, decide_eq_true_eq, Bool.not_eq_true', decide_eq_false_iff_not, if_true, if_false, Bool.not_true, Bool.not_false, Bool.false_eq_true, reduceCtorEq, decide_true, decide_false, ite_true, ite_false, rSetL, rIxL, tRaise, jCons, jNil, tFmt, tDNew, rCount, rIndex, tCont, tBreak, Int.reduceToNat, Int.reducePow]
        exact (hPv _ _ _).mpr ⟨⟨_, rfl⟩, fun b o e => s3 _ _ (s2 _ _ e), by rw [ts]; exact d3⟩
    · intro σ H2 h
      obtain ⟨⟨v1, rfl⟩, s2, d2⟩ := (hPv _ _ _).mp h
      exact k H2 s2 hn d2
noncomputable abbrev O_all_fools (P : Program) (w : World) (K : PySem.W.Frag) (mg : Str → Option Value) (base : Heap) (cl : Cl) : Prop := ∃ f fd, Df_all_fools K mg f fd ∧ FnOk P w K mg base (CXE P w) 7 f fd ["most"] (spAll K cl)
end
end PP
set_option Elab.async false
set_option linter.all false
set_option maxRecDepth 100000
set_option maxHeartbeats 4000000
namespace PP
open PySem L2 MM
noncomputable def StAt (H : Hp) (a : Addr) : Prop := ∃ x y, H a = some (.lst [.int x, .int y]) ∧ 0 ≤ y ∧ y < 2 ^ 32
noncomputable def But (a : Addr) (H H' : Hp) : Prop := ∀ b o, b ≠ a → H b = some o → H' b = some o
structure Step (a : Addr) (H H' : Hp) : Prop where
  st : StAt H' a
  but : But a H H'
theorem Step.trans {a : Addr} {H H1 H2 : Hp} (x : Step a H H1) (y : Step a H1 H2) : Step a H H2 := ⟨y.st, fun b o hb e => y.but b o hb (x.but b o hb e)⟩
theorem StAt.upd {H : Hp} {a p : Addr} {o : HO} (h : StAt H a) (hp : H p = none) : StAt (upd H p o) a := by
  obtain ⟨x, y, e, r⟩ := h
  exact ⟨x, y, by rw [upd_ne (ne_of_none e hp)]; exact e, r⟩
theorem Step.new {a p : Addr} {H H1 : Hp} {o : HO} (x : Step a H H1) (hp : H1 p = none) : Step a H (upd H1 p o) :=
  ⟨x.st.upd hp, fun b u hb e => by rw [upd_ne (ne_of_none (x.but b u hb e) hp)]; exact x.but b u hb e⟩
theorem Step.refl {a : Addr} {H : Hp} (h : StAt H a) : Step a H H := ⟨h, fun _ _ _ e => e⟩
theorem nb_mod (a : Int) {m : Int} (h0 : 0 < m) (h1 : m < 10 ^ 99) : (a % m).natAbs < 10 ^ 100 := by
  have := Int.emod_nonneg a (show m ≠ 0 by omega)
  have := Int.emod_lt_of_pos a h0
  omega
section
variable {P : Program} {w : World} {K : PySem.W.Frag} {mg : Str → Option Value} {base : Heap} {t1 t2 : Tok} {cl : Cl} {f : Addr} {fd : FuncData}
noncomputable abbrev s_law_cell_at : Stmt := top 28
theorem sc_law_cell_at : FnScope ["_law_script", "_law_k"] ["_law_script", "_law_k"] (defScope s_law_cell_at) := ⟨rfl, rfl, rfl, by decide +kernel, rfl, by decide +kernel, by decide +kernel⟩
noncomputable abbrev Df_law_cell_at (K : PySem.W.Frag) (mg : Str → Option Value) (f : Addr) (fd : FuncData) : Prop := Def K mg "_law_cell_at" s_law_cell_at ["_law_script", "_law_k"] f fd
noncomputable def spCell (K : PySem.W.Frag) : Sp := fun vs H Q _ => ∃ (a : Addr) (ns : List Int) (k : Int), vs = [.ref a, .int k] ∧ SqL K H a (ns.map V.int) ∧ ns.length ≤ 63 ∧ 0 ≤ k ∧ ∀ v, Q (.int v) H
theorem ok_law_cell_at (D : Df_law_cell_at K mg f fd) (T : Txt K mg t1 t2 cl) : FnOk P w K mg base CX0 1 f fd ["_law_script", "_law_k"] (spCell K) := by
  refine D.fn.ok sc_law_cell_at (fun vs H Q E h => ?_) (fun cdv A outer s H vs Q E hr h => ?_)
  · obtain ⟨a, ns, k, rfl, _⟩ := h
    rfl
  · obtain ⟨a, ns, k, rfl, hS, hl, h0, q⟩ := h
    refine ⟨_, (pss_cons (ps_if (pt_cmpR op_lt (pv 1) (pe_callB call_len_seq (by rfl) T.no_len PySem.boot_len (pa_cons (pv 0) pa_nil)) (nomark _))
 (pss_one (ps_ret (pe_ix ix_list (pv 0) (pv 1) (fun _ _ => rfl))))
 pss_nil)
 (pss_one (ps_ret pe_int))), ?_⟩
    have e0 : L2.start ["_law_script", "_law_k"] [.ref a, .int k] = [some (.ref a), some (.int k)] := rfl
    rw [e0]; clear e0
    simp only [tSeq, tIfS, tTest, tRet, tRetN, tNext, tDrop, tAsg, tPar, tPar3, tAug, tVar, tC, tOp, tUn, rI, rI0, rU, tB, tAnd, tOr, tNot, tAndV, tOrV, tNotV, tIf, gName, gNil, gCons, gTup, gSub, tCB, tCons, tNil, tCall, tChain, ipI, tIsN, tNotN, tBM, tyV, tTup, tLst, rAppend, rCat, scal_ii, scal_bb, scal_ss, scal_ni, scal_in, rEq, rNe, List.getElem?_cons_zero, List.getElem?_cons_succ, List.set_cons_zero, List.set_cons_succ, eq_self, and_assoc, Option.some.injEq, V.int.injEq, V.bl.injEq, V.ref.injEq, V.str.injEq, List.cons.injEq, exists_eq_left', exists_eq_left, exists_and_left, List.nil_append, List.cons_append, List.append_nil, true_and, and_true, decide_eq_true_eq, Bool.not_eq_true', decide_eq_false_iff_not, if_true, if_false, Bool.not_true, Bool.not_false, Bool.false_eq_true, reduceCtorEq, decide_true, decide_false, ite_true, ite_false, rSetL, rIxL, tRaise, jCons, jNil, tFmt, tDNew, rCount, rIndex, tCont, tBreak, Int.reduceToNat, Int.reducePow]
    refine ⟨_, .inl hS, ?_⟩
    rw [List.length_map]
    refine ite2 (fun hk => ?_) (fun _ => q 0)
    obtain ⟨j, rfl⟩ := Int.eq_ofNat_of_zero_le h0
    have hj : j < ns.length := by omega
    refine ⟨_, hS, .int (ns[j]), atI_nat ?_, q _⟩
    rw [List.getElem?_map, List.getElem?_eq_getElem hj]
    rfl
noncomputable abbrev O_law_cell_at (P : Program) (w : World) (K : PySem.W.Frag) (mg : Str → Option Value) (base : Heap) : Prop := ∃ f fd, Df_law_cell_at K mg f fd ∧ FnOk P w K mg base CX0 1 f fd ["_law_script", "_law_k"] (spCell K)
noncomputable abbrev s_law_state : Stmt := top 29
theorem sc_law_state : FnScope ["_law_script", "_law_k", "_law_cell"] ["_law_script", "_law_k"] (defScope s_law_state) := ⟨rfl, rfl, rfl, by decide +kernel, rfl, by decide +kernel, by decide +kernel⟩
noncomputable abbrev Df_law_state (K : PySem.W.Frag) (mg : Str → Option Value) (f : Addr) (fd : FuncData) : Prop := Def K mg "_law_state" s_law_state ["_law_script", "_law_k"] f fd
noncomputable def spState (K : PySem.W.Frag) : Sp := fun vs H Q _ => ∃ (a : Addr) (ns : List Int) (k : Int), vs = [.ref a, .int k] ∧ SqL K H a (ns.map V.int) ∧ ns.length ≤ 63 ∧ 0 ≤ k ∧ ∀ p x y, 0 ≤ y → y < 2 ^ 32 → H p = none → Q (.ref p) (upd H p (.lst [.int x, .int y]))
theorem ok_law_state (D : Df_law_state K mg f fd) (T : Txt K mg t1 t2 cl) (o1 : O_law_cell_at P w K mg base) : FnOk P w K mg base CX0 2 f fd ["_law_script", "_law_k"] (spState K) := by
  obtain ⟨_, _, D_law_cell_at, G_law_cell_at⟩ := o1
  refine D.fn.ok sc_law_state (fun vs H Q E h => ?_) (fun cdv A outer s H vs Q E hr h => ?_)
  · obtain ⟨a, ns, k, rfl, _⟩ := h
    rfl
  · obtain ⟨a, ns, k, rfl, hS, hl, h0, q⟩ := h
    refine ⟨_, (pss_cons (ps_set (i := 2) sc_law_state.nd rfl (by first | exact Or.inl rfl | exact Or.inr rfl) (pe_call (G_law_cell_at.mono (by decide)) hr rfl D_law_cell_at.mgx D_law_cell_at.fn.kp D_law_cell_at.bd .nil pass0 (pa_cons (pv 0) (pa_cons (pv 1) pa_nil))))
 (pss_one (ps_ret (pe_lst (pa_cons (pe_callB (call_max2 rfl) (by rfl) T.no_max PyProof.Rows.boot_max (pa_cons pe_int (pa_cons (pe_op op_sub (pv 2) (pe_op op_pow pe_int pe_int)) pa_nil))) (pa_cons (pe_op op_mod (pv 2) pe_int) pa_nil)))))), ?_⟩
    have e0 : L2.start ["_law_script", "_law_k", "_law_cell"] [.ref a, .int k] = [some (.ref a), some (.int k), none] := rfl
    rw [e0]; clear e0
    simp only [tSeq, tIfS, tTest, tRet, tRetN, tNext, tDrop, tAsg, tPar, tPar3, tAug, tVar, tC, tOp, tUn, rI, rI0, rU, tB, tAnd, tOr, tNot, tAndV, tOrV, tNotV, tIf, gName, gNil, gCons, gTup, gSub, tCB, tCons, tNil, tCall, tChain, ipI, tIsN, tNotN, tBM, tyV, tTup, tLst, rAppend, rCat, scal_ii, scal_bb, scal_ss, scal_ni, scal_in, rEq, rNe, List.getElem?_cons_zero, List.getElem?_cons_succ, List.set_cons_zero, List.set_cons_succ, eq_self, and_assoc, Option.some.injEq, V.int.injEq, V.bl.injEq, V.ref.injEq, V.str.injEq, List.cons.injEq, exists_eq_left', exists_eq_left, exists_and_left, List.nil_append, List.cons_append, List.append_nil, true_and, and_true, decide_eq_true_eq, Bool.not_eq_true', decide_eq_false_iff_not, if_true, if_false, Bool.not_true, Bool.not_false, Bool.false_eq_true, reduceCtorEq, decide_true, decide_false, ite_true, ite_false, rSetL, rIxL, tRaise, jCons, jNil, tFmt, tDNew, rCount, rIndex, tCont, tBreak, Int.reduceToNat, Int.reducePow]
    refine ⟨a, ns, k, rfl, hS, hl, h0, fun v => ?_⟩
    simp only [tSeq, tIfS, tTest, tRet, tRetN, tNext, tDrop, tAsg, tPar, tPar3, tAug, tVar, tC, tOp, tUn, rI, rI0, rU, tB, tAnd, tOr, tNot, tAndV, tOrV, tNotV, tIf, gName, gNil, gCons, gTup, gSub, tCB, tCons, tNil, tCall, tChain, ipI, tIsN, tNotN, tBM, tyV, tTup, tLst, rAppend, rCat, scal_ii, scal_bb, scal_ss, scal_ni, scal_in, rEq, rNe, List.getElem?_cons_zero, List.getElem?_cons_succ, List.set_cons_zero, List.set_cons_succ, eq_self, and_assoc, Option.some.injEq, V.int.injEq, V.bl.injEq, V.ref.injEq, V.str.injEq, List.cons.injEq, exists_eq_left', exists_eq_left, exists_and_left, List.nil_append, List.cons_append, List.append_nil, true_and, and_true, decide_eq_true_eq, Bool.not_eq_true', decide_eq_false_iff_not, if_true, if_false, Bool.not_true, Bool.not_false, Bool.false_eq_true, reduceCtorEq, decide_true, decide_false, ite_true, ite_false, rSetL, rIxL, tRaise, jCons, jNil, tFmt, tDNew, rCount, rIndex, tCont, tBreak, Int.reduceToNat, Int.reducePow]
    refine ⟨⟨by decide, by decide, by decide⟩, by decide, by show 2 ≤ sizeLine; decide, fun p hp => q p _ _ ?_ ?_ hp⟩ <;> omega
noncomputable abbrev O_law_state (P : Program) (w : World) (K : PySem.W.Frag) (mg : Str → Option Value) (base : Heap) : Prop := ∃ f fd, Df_law_state K mg f fd ∧ FnOk P w K mg base CX0 2 f fd ["_law_script", "_law_k"] (spState K)
noncomputable abbrev s_law_choice : Stmt := top 30
theorem sc_law_choice : FnScope ["_law_state_here", "_law_many", "_law_found", "_law_mixed"] ["_law_state_here", "_law_many"] (defScope s_law_choice) := ⟨rfl, rfl, rfl, by decide +kernel, rfl, by decide +kernel, by decide +kernel⟩
noncomputable abbrev Df_law_choice (K : PySem.W.Frag) (mg : Str → Option Value) (f : Addr) (fd : FuncData) : Prop := Def K mg "_law_choice" s_law_choice ["_law_state_here", "_law_many"] f fd
noncomputable def spTake : Sp := fun vs H Q _ => ∃ (a : Addr) (m : Int), vs = [.ref a, .int m] ∧ (0 < m ∧ m < 10 ^ 90) ∧ StAt H a ∧ ∀ r H', 0 ≤ r → r < m → Step a H H' → Q (.int r) H'
theorem ok_law_choice (D : Df_law_choice K mg f fd) (T : Txt K mg t1 t2 cl) : FnOk P w K mg base CX0 1 f fd ["_law_state_here", "_law_many"] spTake := by
  refine D.fn.ok sc_law_choice (fun vs H Q E h => ?_) (fun cdv A outer s H vs Q E hr h => ?_)
  · obtain ⟨a, m, rfl, _⟩ := h
    rfl
  · obtain ⟨a, m, rfl, ⟨m0, m1⟩, ⟨x, y, hH, y0, y1⟩, q⟩ := h
    refine ⟨_, (pss_cons (ps_if (pt_cmpR op_gt (pe_ix ix_list (pv 0) pe_int (fun _ _ => rfl)) pe_int (nomark _))
 (pss_cons (ps_set (i := 2) sc_law_choice.nd rfl (by first | exact Or.inl rfl | exact Or.inr rfl) (pe_op op_mod (pe_ix ix_list (pv 0) pe_int (fun _ _ => rfl)) (pv 1)))
 (pss_cons (ps_asg (pe_op op_fdivB (pe_ix ix_list (pv 0) pe_int (fun _ _ => rfl)) (pv 1)) (pg_sub (pv 0) pe_int set_list))
 (pss_one (ps_ret (pv 2)))))
 pss_nil)
 (pss_cons (ps_asg (pe_op op_mod (pe_op op_add (pe_op op_mulB (pe_ix ix_list (pv 0) pe_int (fun _ _ => rfl)) pe_int) pe_int) pe_int) (pg_sub (pv 0) pe_int set_list))
 (pss_cons (ps_set (i := 3) sc_law_choice.nd rfl (by first | exact Or.inl rfl | exact Or.inr rfl) (pe_op op_mod (pe_op op_add (pe_op op_add (pe_op op_mulB (pe_ix ix_list (pv 0) pe_int (fun _ _ => rfl)) (pe_ix ix_list (pv 0) pe_int (fun _ _ => rfl))) (pe_op op_mulB pe_int (pe_ix ix_list (pv 0) pe_int (fun _ _ => rfl)))) pe_int) pe_int))
 (pss_cons (ps_set (i := 3) sc_law_choice.nd rfl (by first | exact Or.inl rfl | exact Or.inr rfl) (pe_op op_mod (pe_op op_add (pe_op op_mulB (pv 3) (pv 3)) (pe_op op_mulB pe_int (pv 3))) pe_int))
 (pss_one (ps_ret (pe_op op_mod (pe_op op_fdivB (pv 3) pe_int) (pv 1)))))))), ?_⟩
    have e0 : L2.start ["_law_state_here", "_law_many", "_law_found", "_law_mixed"] [.ref a, .int m] = [some (.ref a), some (.int m), none, none] := rfl
    rw [e0]; clear e0
    refine tSeq_gen fun R hR => ?_
    simp only [tSeq, tIfS, tTest, tRet, tRetN, tNext, tDrop, tAsg, tPar, tPar3, tAug, tVar, tC, tOp, tUn, rI, rI0, rU, tB, tAnd, tOr, tNot, tAndV, tOrV, tNotV, tIf, gName, gNil, gCons, gTup, gSub, tCB, tCons, tNil, tCall, tChain, ipI, tIsN, tNotN, tBM, tyV, tTup, tLst, rAppend, rCat, scal_ii, scal_bb, scal_ss, scal_ni, scal_in, rEq, rNe, List.getElem?_cons_zero, List.getElem?_cons_succ, List.set_cons_zero, List.set_cons_succ, eq_self, and_assoc, Option.some.injEq, V.int.injEq, V.bl.injEq, V.ref.injEq, V.str.injEq, List.cons.injEq, exists_eq_left', exists_eq_left, exists_and_left, List.nil_append, List.cons_append, List.append_nil, true_and, and_true, decide_eq_true_eq, Bool.not_eq_true', decide_eq_false_iff_not, if_true, if_false, Bool.not_true, Bool.not_false, Bool.false_eq_true, reduceCtorEq, decide_true, decide_false, ite_true, ite_false, rSetL, rIxL, tRaise, jCons, jNil, tFmt, tDNew, rCount, rIndex, tCont, tBreak, Int.reduceToNat, Int.reducePow]
    refine ⟨_, SqL.of hH, _, rfl, _, rfl, ?_⟩
    refine ite2 (fun hx => ?_) (fun hx => ?_)
    · refine ⟨_, SqL.of hH, _, rfl, _, rfl, m0, _, SqL.of hH, _, rfl, _, rfl, ⟨m0, by omega⟩, _, hH, _, rfl, q _ _ (Int.emod_nonneg _ (by omega)) (Int.emod_lt_of_pos _ m0) ⟨⟨_, _, upd_same, y0, y1⟩, fun b o hb e => by rw [upd_ne hb]; exact e⟩⟩
    · subst hR
      refine tSeq_gen fun R hR => ?_
      simp only [tSeq, tIfS, tTest, tRet, tRetN, tNext, tDrop, tAsg, tPar, tPar3, tAug, tVar, tC, tOp, tUn, rI, rI0, rU, tB, tAnd, tOr, tNot, tAndV, tOrV, tNotV, tIf, gName, gNil, gCons, gTup, gSub, tCB, tCons, tNil, tCall, tChain, ipI, tIsN, tNotN, tBM, tyV, tTup, tLst, rAppend, rCat, scal_ii, scal_bb, scal_ss, scal_ni, scal_in, rEq, rNe, List.getElem?_cons_zero, List.getElem?_cons_succ, List.set_cons_zero, List.set_cons_succ, eq_self, and_assoc, Option.some.injEq, V.int.injEq, V.bl.injEq, V.ref.injEq, V.str.injEq, List.cons.injEq, exists_eq_left', exists_eq_left, exists_and_left, List.nil_append, List.cons_append, List.append_nil, true_and, and_true, decide_eq_true_eq, Bool.not_eq_true', decide_eq_false_iff_not, if_true, if_false, Bool.not_true, Bool.not_false, Bool.false_eq_true, reduceCtorEq, decide_true, decide_false, ite_true, ite_false, rSetL, rIxL, tRaise, jCons, jNil, tFmt, tDNew, rCount, rIndex, tCont, tBreak, Int.reduceToNat, Int.reducePow]
      refine ⟨_, SqL.of hH, _, rfl, _, rfl, .inr ⟨by omega, by omega⟩, by decide, _, hH, _, rfl, ?_⟩
      obtain ⟨z, hz, e1, e2⟩ : ∃ z, (y * 48271 + 29) % 2147483647 = z ∧ 0 ≤ z ∧ z < 2147483647 := ⟨_, rfl, Int.emod_nonneg _ (by decide), Int.emod_lt_of_pos _ (by decide)⟩
      rw [hz]
      clear hz
      have S1 : Step a H (upd H a (.lst ([V.int x, V.int y].set (Int.toNat 1) (.int z)))) := ⟨⟨_, _, upd_same, e1, by omega⟩, fun b o hb e => by rw [upd_ne hb]; exact e⟩
      have h1 : (upd H a (.lst ([V.int x, V.int y].set (Int.toNat 1) (.int z)))) a = some (.lst [V.int x, V.int z]) := upd_same
      generalize upd H a (.lst ([V.int x, V.int y].set (Int.toNat 1) (.int z))) = H1 at S1 h1 ⊢
      subst hR
      refine tSeq_gen fun R hR => ?_
      simp only [tSeq, tIfS, tTest, tRet, tRetN, tNext, tDrop, tAsg, tPar, tPar3, tAug, tVar, tC, tOp, tUn, rI, rI0, rU, tB, tAnd, tOr, tNot, tAndV, tOrV, tNotV, tIf, gName, gNil, gCons, gTup, gSub, tCB, tCons, tNil, tCall, tChain, ipI, tIsN, tNotN, tBM, tyV, tTup, tLst, rAppend, rCat, scal_ii, scal_bb, scal_ss, scal_ni, scal_in, rEq, rNe, List.getElem?_cons_zero, List.getElem?_cons_succ, List.set_cons_zero, List.set_cons_succ, eq_self, and_assoc, Option.some.injEq, V.int.injEq, V.bl.injEq, V.ref.injEq, V.str.injEq, List.cons.injEq, exists_eq_left', exists_eq_left, exists_and_left, List.nil_append, List.cons_append, List.append_nil, true_and, and_true, decide_eq_true_eq, Bool.not_eq_true', decide_eq_false_iff_not, if_true, if_false, Bool.not_true, Bool.not_false, Bool.false_eq_true, reduceCtorEq, decide_true, decide_false, ite_true, ite_false, rSetL, rIxL, tRaise, jCons, jNil, tFmt, tDNew, rCount, rIndex, tCont, tBreak, Int.reduceToNat, Int.reducePow]
      have zb : z.natAbs < 10 ^ 100 := by omega
      refine ⟨_, SqL.of h1, _, rfl, _, SqL.of h1, _, rfl, _, rfl, _, rfl, .inr ⟨zb, zb⟩, _, SqL.of h1, _, rfl, _, rfl, .inr ⟨by decide, zb⟩, by decide, ?_⟩
      obtain ⟨u, hu, ub⟩ : ∃ u, (z * z + 39373 * z + 7) % 2147483629 = u ∧ u.natAbs < 10 ^ 100 := ⟨_, rfl, nb_mod _ (by decide) (by decide)⟩
      rw [hu]
      clear hu
      subst hR
      refine tSeq_gen fun R hR => ?_
      simp only [tSeq, tIfS, tTest, tRet, tRetN, tNext, tDrop, tAsg, tPar, tPar3, tAug, tVar, tC, tOp, tUn, rI, rI0, rU, tB, tAnd, tOr, tNot, tAndV, tOrV, tNotV, tIf, gName, gNil, gCons, gTup, gSub, tCB, tCons, tNil, tCall, tChain, ipI, tIsN, tNotN, tBM, tyV, tTup, tLst, rAppend, rCat, scal_ii, scal_bb, scal_ss, scal_ni, scal_in, rEq, rNe, List.getElem?_cons_zero, List.getElem?_cons_succ, List.set_cons_zero, List.set_cons_succ, eq_self, and_assoc, Option.some.injEq, V.int.injEq, V.bl.injEq, V.ref.injEq, V.str.injEq, List.cons.injEq, exists_eq_left', exists_eq_left, exists_and_left, List.nil_append, List.cons_append, List.append_nil, true_and, and_true, decide_eq_true_eq, Bool.not_eq_true', decide_eq_false_iff_not, if_true, if_false, Bool.not_true, Bool.not_false, Bool.false_eq_true, reduceCtorEq, decide_true, decide_false, ite_true, ite_false, rSetL, rIxL, tRaise, jCons, jNil, tFmt, tDNew, rCount, rIndex, tCont, tBreak, Int.reduceToNat, Int.reducePow]
      refine ⟨.inr ⟨ub, ub⟩, .inr ⟨by decide, ub⟩, by decide, ?_⟩
      generalize (u * u + 16807 * u) % 2147483587 = v
      subst hR
      simp only [tSeq, tIfS, tTest, tRet, tRetN, tNext, tDrop, tAsg, tPar, tPar3, tAug, tVar, tC, tOp, tUn, rI, rI0, rU, tB, tAnd, tOr, tNot, tAndV, tOrV, tNotV, tIf, gName, gNil, gCons, gTup, gSub, tCB, tCons, tNil, tCall, tChain, ipI, tIsN, tNotN, tBM, tyV, tTup, tLst, rAppend, rCat, scal_ii, scal_bb, scal_ss, scal_ni, scal_in, rEq, rNe, List.getElem?_cons_zero, List.getElem?_cons_succ, List.set_cons_zero, List.set_cons_succ, eq_self, and_assoc, Option.some.injEq, V.int.injEq, V.bl.injEq, V.ref.injEq, V.str.injEq, List.cons.injEq, exists_eq_left', exists_eq_left, exists_and_left, List.nil_append, List.cons_append, List.append_nil, true_and, and_true, decide_eq_true_eq, Bool.not_eq_true', decide_eq_false_iff_not, if_true, if_false, Bool.not_true, Bool.not_false, Bool.false_eq_true, reduceCtorEq, decide_true, decide_false, ite_true, ite_false, rSetL, rIxL, tRaise, jCons, jNil, tFmt, tDNew, rCount, rIndex, tCont, tBreak, Int.reduceToNat, Int.reducePow]
      exact ⟨⟨by decide, by decide⟩, m0, q _ _ (Int.emod_nonneg _ (by omega)) (Int.emod_lt_of_pos _ m0) S1⟩
noncomputable abbrev O_law_choice (P : Program) (w : World) (K : PySem.W.Frag) (mg : Str → Option Value) (base : Heap) : Prop := ∃ f fd, Df_law_choice K mg f fd ∧ FnOk P w K mg base CX0 1 f fd ["_law_state_here", "_law_many"] (spTake)
noncomputable abbrev s_law_same : Stmt := top 31
theorem sc_law_same : FnScope ["_law_found", "_law_due"] ["_law_found", "_law_due"] (defScope s_law_same) := ⟨rfl, rfl, rfl, by decide +kernel, rfl, by decide +kernel, by decide +kernel⟩
noncomputable abbrev Df_law_same (K : PySem.W.Frag) (mg : Str → Option Value) (f : Addr) (fd : FuncData) : Prop := Def K mg "_law_same" s_law_same ["_law_found", "_law_due"] f fd
noncomputable def spSameD (K : PySem.W.Frag) : Sp := fun vs H Q _ => ∃ x y d, vs = [x, y] ∧ Rep K H d x ∧ Rep K H d y ∧ (okD d = true ∧ isScB d = false ∧ lenD d ≤ 1000000 ∧ dep d ≤ 100) ∧ Q (.bl true) H
theorem ok_same_d (D : Df_law_same K mg f fd) (T : Txt K mg t1 t2 cl) : FnOk P w K mg base CX0 1 f fd ["_law_found", "_law_due"] (spSameD K) := by
  refine D.fn.ok sc_law_same (fun vs H Q E h => ?_) (fun cdv A outer s H vs Q E hr h => ?_)
  · obtain ⟨x, y, d, rfl, _⟩ := h
    rfl
  · obtain ⟨x, y, d, rfl, r1, r2, ⟨z1, z2, z3, z4⟩, k⟩ := h
    refine ⟨_, (pss_one (ps_ret (pe_cmpR op_eq (pe_callB (call_reprD hr.gd (hu150 hr)) (by rfl) T.no_repr PyProof.Rows.boot_repr (pa_cons (pv 0) pa_nil)) (pe_callB (call_reprD hr.gd (hu150 hr)) (by rfl) T.no_repr PyProof.Rows.boot_repr (pa_cons (pv 1) pa_nil)) (nomark _)))), ?_⟩
    have e0 : L2.start ["_law_found", "_law_due"] [x, y] = [some (x), some (y)] := rfl
    rw [e0]; clear e0
    simp only [tSeq, tIfS, tTest, tRet, tRetN, tNext, tDrop, tAsg, tPar, tPar3, tAug, tVar, tC, tOp, tUn, rI, rI0, rU, tB, tAnd, tOr, tNot, tAndV, tOrV, tNotV, tIf, gName, gNil, gCons, gTup, gSub, tCB, tCons, tNil, tCall, tChain, ipI, tIsN, tNotN, tBM, tyV, tTup, tLst, rAppend, rCat, scal_ii, scal_bb, scal_ss, scal_ni, scal_in, rEq, rNe, List.getElem?_cons_zero, List.getElem?_cons_succ, List.set_cons_zero, List.set_cons_succ, eq_self, and_assoc, Option.some.injEq, V.int.injEq, V.bl.injEq, V.ref.injEq, V.str.injEq, List.cons.injEq, exists_eq_left', exists_eq_left, exists_and_left, List.nil_append, List.cons_append, List.append_nil, true_and, and_true, decide_eq_true_eq, Bool.not_eq_true', decide_eq_false_iff_not, if_true, if_false, Bool.not_true, Bool.not_false, Bool.false_eq_true, reduceCtorEq, decide_true, decide_false, ite_true, ite_false, rSetL, rIxL, tRaise, jCons, jNil, tFmt, tDNew, rCount, rIndex, tCont, tBreak, Int.reduceToNat, Int.reducePow]
    refine ⟨x, d, rfl, r1, z1, z2, z3, z4, y, d, rfl, r2, z1, z2, z3, z4, ?_⟩
    simp only [tSeq, tIfS, tTest, tRet, tRetN, tNext, tDrop, tAsg, tPar, tPar3, tAug, tVar, tC, tOp, tUn, rI, rI0, rU, tB, tAnd, tOr, tNot, tAndV, tOrV, tNotV, tIf, gName, gNil, gCons, gTup, gSub, tCB, tCons, tNil, tCall, tChain, ipI, tIsN, tNotN, tBM, tyV, tTup, tLst, rAppend, rCat, scal_ii, scal_bb, scal_ss, scal_ni, scal_in, rEq, rNe, List.getElem?_cons_zero, List.getElem?_cons_succ, List.set_cons_zero, List.set_cons_succ, eq_self, and_assoc, Option.some.injEq, V.int.injEq, V.bl.injEq, V.ref.injEq, V.str.injEq, List.cons.injEq, exists_eq_left', exists_eq_left, exists_and_left, List.nil_append, List.cons_append, List.append_nil, true_and, and_true, decide_eq_true_eq, Bool.not_eq_true', decide_eq_false_iff_not, if_true, if_false, Bool.not_true, Bool.not_false, Bool.false_eq_true, reduceCtorEq, decide_true, decide_false, ite_true, ite_false, rSetL, rIxL, tRaise, jCons, jNil, tFmt, tDNew, rCount, rIndex, tCont, tBreak, Int.reduceToNat, Int.reducePow]
    exact k
noncomputable def spSameB : Sp := fun vs H Q _ => ∃ b : Bool, vs = [.bl b, .bl b] ∧ Q (.bl true) H
theorem ok_same_b (D : Df_law_same K mg f fd) (T : Txt K mg t1 t2 cl) : FnOk P w K mg base CX0 1 f fd ["_law_found", "_law_due"] spSameB := by
  refine D.fn.ok sc_law_same (fun vs H Q E h => ?_) (fun cdv A outer s H vs Q E hr h => ?_)
  · obtain ⟨b, rfl, _⟩ := h
    rfl
  · obtain ⟨b, rfl, k⟩ := h
    refine ⟨_, (pss_one (ps_ret (pe_cmpR op_eq (pe_callB call_reprB (by rfl) T.no_repr PyProof.Rows.boot_repr (pa_cons (pv 0) pa_nil)) (pe_callB call_reprB (by rfl) T.no_repr PyProof.Rows.boot_repr (pa_cons (pv 1) pa_nil)) (nomark _)))), ?_⟩
    have e0 : L2.start ["_law_found", "_law_due"] [.bl b, .bl b] = [some (.bl b), some (.bl b)] := rfl
    rw [e0]; clear e0
    simp only [tSeq, tIfS, tTest, tRet, tRetN, tNext, tDrop, tAsg, tPar, tPar3, tAug, tVar, tC, tOp, tUn, rI, rI0, rU, tB, tAnd, tOr, tNot, tAndV, tOrV, tNotV, tIf, gName, gNil, gCons, gTup, gSub, tCB, tCons, tNil, tCall, tChain, ipI, tIsN, tNotN, tBM, tyV, tTup, tLst, rAppend, rCat, scal_ii, scal_bb, scal_ss, scal_ni, scal_in, rEq, rNe, List.getElem?_cons_zero, List.getElem?_cons_succ, List.set_cons_zero, List.set_cons_succ, eq_self, and_assoc, Option.some.injEq, V.int.injEq, V.bl.injEq, V.ref.injEq, V.str.injEq, List.cons.injEq, exists_eq_left', exists_eq_left, exists_and_left, List.nil_append, List.cons_append, List.append_nil, true_and, and_true, decide_eq_true_eq, Bool.not_eq_true', decide_eq_false_iff_not, if_true, if_false, Bool.not_true, Bool.not_false, Bool.false_eq_true, reduceCtorEq, decide_true, decide_false, ite_true, ite_false, rSetL, rIxL, tRaise, jCons, jNil, tFmt, tDNew, rCount, rIndex, tCont, tBreak, Int.reduceToNat, Int.reducePow, rReprB]
    exact k
theorem repI {H : Hp} : ∀ ns : List Int, RepL K H (ns.map Dt.int) (ns.map V.int)
  | [] => rfl
  | n :: r => ⟨_, _, rfl, rfl, repI r⟩
theorem okI : ∀ ns : List Int, (∀ n ∈ ns, n.natAbs < 10 ^ 100) → okDL (ns.map Dt.int) = true
  | [], _ => rfl
  | n :: r, h => by
    show (okD (.int n) && okDL (r.map Dt.int)) = true
    rw [okI r fun x hx => h x (List.mem_cons_of_mem _ hx)]
    show (decide (n.natAbs < 10 ^ 100) && true) = true
    rw [decide_eq_true (h n List.mem_cons_self)]
    rfl
theorem lenI : ∀ ns : List Int, lenDL (ns.map Dt.int) = 103 * ns.length
  | [] => rfl
  | n :: r => by
    show lenD (.int n) + 2 + lenDL (r.map Dt.int) = 103 * (r.length + 1)
    rw [lenI r]
    show 101 + 2 + 103 * r.length = _
    omega
theorem depI : ∀ ns : List Int, depL (ns.map Dt.int) = 0
  | [] => rfl
  | n :: r => by
    show max (L2.dep (.int n)) (depL (r.map Dt.int)) = 0
    rw [depI r]
    rfl
noncomputable def spSame (K : PySem.W.Frag) : Sp := fun vs H Q E => spSameB vs H Q E ∨ spSameD K vs H Q E
theorem ok_law_same (D : Df_law_same K mg f fd) (T : Txt K mg t1 t2 cl) : FnOk P w K mg base CX0 1 f fd ["_law_found", "_law_due"] (spSame K) :=
  ⟨fun vs H Q E h => h.elim ((ok_same_b (P := P) (w := w) (base := base) D T).len vs H Q E) ((ok_same_d (P := P) (w := w) (base := base) D T).len vs H Q E), fun A outer s H args us vs Q E hr e hb hv h => h.elim ((ok_same_b D T).run A outer s H args us vs Q E hr e hb hv) ((ok_same_d D T).run A outer s H args us vs Q E hr e hb hv)⟩
noncomputable abbrev O_law_same (P : Program) (w : World) (K : PySem.W.Frag) (mg : Str → Option Value) (base : Heap) : Prop := ∃ f fd, Df_law_same K mg f fd ∧ FnOk P w K mg base CX0 1 f fd ["_law_found", "_law_due"] (spSame K)
theorem same_l {H : Hp} {p q : Addr} {ns : List Int} {Q : VK} {E : XK} (h1 : H p = some (.lst (ns.map V.int))) (h2 : H q = some (.lst (ns.map V.int))) (hl : ns.length ≤ 2000) (hb : ∀ n ∈ ns, n.natAbs < 10 ^ 100) (k : Q (.bl true) H) : spSame K [.ref p, .ref q] H Q E :=
  .inr ⟨_, _, .lst (ns.map Dt.int), rfl, ⟨p, _, rfl, SqL.of h1, repI ns⟩, ⟨q, _, rfl, SqL.of h2, repI ns⟩, ⟨okI ns hb, rfl, by
    have := lenI ns
    show lenD (.lst (ns.map Dt.int)) ≤ 1000000
    simp only [lenD]
    omega, by
    have := depI ns
    show dep (.lst (ns.map Dt.int)) ≤ 100
    simp only [dep]
    omega⟩, k⟩
theorem nb40 {d n : Int} (h0 : 0 ≤ d) (h1 : d < n) (h2 : n ≤ 10 ^ 40) : d.natAbs < 10 ^ 100 := by omega
theorem half_lt {l : Int} (h : 0 < l) : (l / 2).toNat < l.toNat := by omega
noncomputable def spPower : Sp := fun vs H Q _ => ∃ (b o n : Int), vs = [.int b, .int o, .int n] ∧ (b.natAbs < 10 ^ 100 ∧ 0 ≤ o ∧ 0 < n ∧ n ≤ 10 ^ 40) ∧ Q (.int (b ^ o.toNat % n)) H
noncomputable abbrev s_law_power : Stmt := top 34
theorem sc_law_power : FnScope ["_law_base", "_law_often", "_law_n", "_law_found", "_law_square", "_law_left"] ["_law_base", "_law_often", "_law_n"] (defScope s_law_power) := ⟨rfl, rfl, rfl, by decide +kernel, rfl, by decide +kernel, by decide +kernel⟩
noncomputable abbrev Df_law_power (K : PySem.W.Frag) (mg : Str → Option Value) (f : Addr) (fd : FuncData) : Prop := Def K mg "_law_power" s_law_power ["_law_base", "_law_often", "_law_n"] f fd
theorem ok_law_power (D : Df_law_power K mg f fd) (T : Txt K mg t1 t2 cl) : FnOk P w K mg base CX0 1 f fd ["_law_base", "_law_often", "_law_n"] spPower := by
  refine D.fn.ok sc_law_power (fun vs H Q E h => ?_) (fun cdv A outer s H vs Q E hr h => ?_)
  · obtain ⟨b, o, n, rfl, _⟩ := h
    rfl
  · obtain ⟨b, o, n, rfl, ⟨hb, ho, hn, hn2⟩, k⟩ := h
    refine ⟨_, (pss_cons (ps_par3 (i := 3) (j := 4) (l := 5) rfl sc_law_power.nd rfl rfl rfl (by decide) (by decide) (by decide) rfl rfl rfl (pa_cons (pe_op op_mod pe_int (pv 2)) (pa_cons (pe_op op_mod (pv 0) (pv 2)) (pa_cons (pv 1) pa_nil))) (by first | rfl | with_unfolding_all rfl))
 (pss_cons (ps_while PassesOwn.never (pt_cmpR op_gt (pv 5) pe_int (nomark _))
 (pss_cons (ps_if (pt_cmpR op_eq (pe_op op_mod (pv 5) pe_int) pe_int (nomark _))
 (pss_one (ps_set (i := 3) sc_law_power.nd rfl (by first | exact Or.inl rfl | exact Or.inr rfl) (pe_op op_mod (pe_op op_mulB (pv 3) (pv 4)) (pv 2))))
 pss_nil)
 (pss_one (ps_par (i := 4) (j := 5) rfl sc_law_power.nd rfl rfl (by decide) rfl rfl (pa_cons (pe_op op_mod (pe_op op_mulB (pv 4) (pv 4)) (pv 2)) (pa_cons (pe_op op_fdivB (pv 5) pe_int) pa_nil)) (by first | rfl | with_unfolding_all rfl)))))
 (pss_one (ps_ret (pv 3))))), ?_⟩
    have e0 : L2.start ["_law_base", "_law_often", "_law_n", "_law_found", "_law_square", "_law_left"] [.int b, .int o, .int n] = [some (.int b), some (.int o), some (.int n), none, none, none] := rfl
    rw [e0]; clear e0
    simp only [tSeq, tIfS, tTest, tRet, tRetN, tNext, tDrop, tAsg, tPar, tPar3, tAug, tVar, tC, tOp, tUn, rI, rI0, rU, tB, tAnd, tOr, tNot, tAndV, tOrV, tNotV, tIf, gName, gNil, gCons, gTup, gSub, tCB, tCons, tNil, tCall, tChain, ipI, tIsN, tNotN, tBM, tyV, tTup, tLst, rAppend, rCat, scal_ii, scal_bb, scal_ss, scal_ni, scal_in, rEq, rNe, List.getElem?_cons_zero, List.getElem?_cons_succ, List.set_cons_zero, List.set_cons_succ, eq_self, and_assoc, Option.some.injEq, V.int.injEq, V.bl.injEq, V.ref.injEq, V.str.injEq, List.cons.injEq, exists_eq_left', exists_eq_left, exists_and_left, List.nil_append, List.cons_append, List.append_nil, true_and, and_true, decide_eq_true_eq, Bool.not_eq_true', decide_eq_false_iff_not, if_true, if_false, Bool.not_true, Bool.not_false, Bool.false_eq_true, reduceCtorEq, decide_true, decide_false, ite_true, ite_false, rSetL, rIxL, tRaise, jCons, jNil, tFmt, tDNew, rCount, rIndex, tCont, tBreak, Int.reduceToNat, Int.reducePow]
    refine ⟨hn, hn, ?_⟩
    obtain ⟨W, hW⟩ : ∃ W : Nat → St → Hp → Prop, ∀ m σ H', W m σ H' ↔ ∃ d q l, m = l.toNat ∧ σ = [some (.int b), some (.int o), some (.int n), some (.int d), some (.int q), some (.int l)] ∧ PowInv b o n d q l ∧ H' = H := ⟨_, fun _ _ _ => Iff.rfl⟩
    refine ⟨W, ⟨_, (hW _ _ _).mpr ⟨_, _, _, rfl, rfl, pow_start hn ho, rfl⟩⟩, ?_⟩
    intro m σ H' hw
    obtain ⟨d, q, l, rfl, rfl, I, rfl⟩ := (hW _ _ _).mp hw
    clear hw
    simp only [tSeq, tIfS, tTest, tRet, tRetN, tNext, tDrop, tAsg, tPar, tPar3, tAug, tVar, tC, tOp, tUn, rI, rI0, rU, tB, tAnd, tOr, tNot, tAndV, tOrV, tNotV, tIf, gName, gNil, gCons, gTup, gSub, tCB, tCons, tNil, tCall, tChain, ipI, tIsN, tNotN, tBM, tyV, tTup, tLst, rAppend, rCat, scal_ii, scal_bb, scal_ss, scal_ni, scal_in, rEq, rNe, List.getElem?_cons_zero, List.getElem?_cons_succ, List.set_cons_zero, List.set_cons_succ, eq_self, and_assoc, Option.some.injEq, V.int.injEq, V.bl.injEq, V.ref.injEq, V.str.injEq, List.cons.injEq, exists_eq_left', exists_eq_left, exists_and_left, List.nil_append, List.cons_append, List.append_nil, true_and, and_true, decide_eq_true_eq, Bool.not_eq_true', decide_eq_false_iff_not, if_true, if_false, Bool.not_true, Bool.not_false, Bool.false_eq_true, reduceCtorEq, decide_true, decide_false, ite_true, ite_false, rSetL, rIxL, tRaise, jCons, jNil, tFmt, tDNew, rCount, rIndex, tCont, tBreak, Int.reduceToNat, Int.reducePow]
    refine ite2 (fun hl => ?_) (fun hl => ?_)
    · refine ⟨fun σ' H2 => ∃ m', m' < l.toNat ∧ W m' σ' H2, fun _ _ h => h, ?_⟩
      have c1 : CMulB d q := .inr ⟨nb40 I.d0 I.d1 hn2, nb40 I.s0 I.s1 hn2⟩
      have c2 : CMulB q q := .inr ⟨nb40 I.s0 I.s1 hn2, nb40 I.s0 I.s1 hn2⟩
      have c3 : CDivB l 2 := ⟨by decide, by decide⟩
      refine ⟨by decide, ?_⟩
      refine ite2 (fun ho => ?_) (fun ho => ?_)
      · exact ⟨c1, hn, c2, hn, c3, _, half_lt hl, (hW _ _ _).mpr ⟨_, _, _, rfl, rfl, pow_odd hn I ho, rfl⟩⟩
      · exact ⟨c2, hn, c3, _, half_lt hl, (hW _ _ _).mpr ⟨_, _, _, rfl, rfl, pow_even hn I ho, rfl⟩⟩
    · have e := pow_end I hl
      rw [← e] at k
      exact k
noncomputable abbrev O_law_power (P : Program) (w : World) (K : PySem.W.Frag) (mg : Str → Option Value) (base : Heap) : Prop := ∃ f fd, Df_law_power K mg f fd ∧ FnOk P w K mg base CX0 1 f fd ["_law_base", "_law_often", "_law_n"] (spPower)
noncomputable abbrev s_law_is_prime : Stmt := top 37
theorem sc_law_is_prime : FnScope ["_law_number", "_law_part"] ["_law_number"] (defScope s_law_is_prime) := ⟨rfl, rfl, rfl, by decide +kernel, rfl, by decide +kernel, by decide +kernel⟩
noncomputable abbrev Df_law_is_prime (K : PySem.W.Frag) (mg : Str → Option Value) (f : Addr) (fd : FuncData) : Prop := Def K mg "_law_is_prime" s_law_is_prime ["_law_number"] f fd
noncomputable def spLPrime : Sp := fun vs H Q _ => ∃ (n : Int), vs = [.int n] ∧ (0 ≤ n ∧ n ≤ 10 ^ 9) ∧ Q (.bl (isPrB n)) H
theorem ok_law_is_prime (D : Df_law_is_prime K mg f fd) (T : Txt K mg t1 t2 cl) : FnOk P w K mg base CX0 1 f fd ["_law_number"] spLPrime := by
  refine D.fn.ok sc_law_is_prime (fun vs H Q E h => ?_) (fun cdv A outer s H vs Q E hr h => ?_)
  · obtain ⟨n, rfl, _⟩ := h
    rfl
  · obtain ⟨n, rfl, ⟨h0, h1⟩, k⟩ := h
    refine ⟨_, (pss_cons (ps_set (i := 1) sc_law_is_prime.nd rfl (by first | exact Or.inl rfl | exact Or.inr rfl) pe_int)
 (pss_cons (ps_while PassesOwn.never (pt_cmpR op_le (pe_op op_mulB (pv 1) (pv 1)) (pv 0) (nomark _))
 (pss_cons (ps_if (pt_cmpR op_eq (pe_op op_mod (pv 0) (pv 1)) pe_int (nomark _))
 (pss_one (ps_ret pe_bl))
 pss_nil)
 (pss_one (ps_set (i := 1) sc_law_is_prime.nd rfl (by first | exact Or.inl rfl | exact Or.inr rfl) (pe_op op_add (pv 1) pe_int)))))
 (pss_one (ps_ret (pe_cmpR op_gt (pv 0) pe_int (nomark _)))))), ?_⟩
    have e0 : L2.start ["_law_number", "_law_part"] [.int n] = [some (.int n), none] := rfl
    rw [e0]; clear e0
    simp only [tSeq, tIfS, tTest, tRet, tRetN, tNext, tDrop, tAsg, tPar, tPar3, tAug, tVar, tC, tOp, tUn, rI, rI0, rU, tB, tAnd, tOr, tNot, tAndV, tOrV, tNotV, tIf, gName, gNil, gCons, gTup, gSub, tCB, tCons, tNil, tCall, tChain, ipI, tIsN, tNotN, tBM, tyV, tTup, tLst, rAppend, rCat, scal_ii, scal_bb, scal_ss, scal_ni, scal_in, rEq, rNe, List.getElem?_cons_zero, List.getElem?_cons_succ, List.set_cons_zero, List.set_cons_succ, eq_self, and_assoc, Option.some.injEq, V.int.injEq, V.bl.injEq, V.ref.injEq, V.str.injEq, List.cons.injEq, exists_eq_left', exists_eq_left, exists_and_left, List.nil_append, List.cons_append, List.append_nil, true_and, and_true, decide_eq_true_eq, Bool.not_eq_true', decide_eq_false_iff_not, if_true, if_false, Bool.not_true, Bool.not_false, Bool.false_eq_true, reduceCtorEq, decide_true, decide_false, ite_true, ite_false, rSetL, rIxL, tRaise, jCons, jNil, tFmt, tDNew, rCount, rIndex, tCont, tBreak, Int.reduceToNat, Int.reducePow]
    obtain ⟨W, hW⟩ : ∃ W : Nat → St → Hp → Prop, ∀ m σ H', W m σ H' ↔ ∃ t, m = (10 ^ 10 - t).toNat ∧ σ = [some (.int n), some (.int t)] ∧ LpInv n 2 t ∧ t ≤ 10 ^ 9 + 2 ∧ H' = H := ⟨_, fun _ _ _ => Iff.rfl⟩
    refine ⟨W, ⟨_, (hW _ _ _).mpr ⟨_, rfl, rfl, ⟨Int.le_refl _, fun d a b => by omega⟩, by decide, rfl⟩⟩, ?_⟩
    intro m σ H' hw
    obtain ⟨t, rfl, rfl, ⟨I1, I2⟩, I3, rfl⟩ := (hW _ _ _).mp hw
    clear hw
    simp only [tSeq, tIfS, tTest, tRet, tRetN, tNext, tDrop, tAsg, tPar, tPar3, tAug, tVar, tC, tOp, tUn, rI, rI0, rU, tB, tAnd, tOr, tNot, tAndV, tOrV, tNotV, tIf, gName, gNil, gCons, gTup, gSub, tCB, tCons, tNil, tCall, tChain, ipI, tIsN, tNotN, tBM, tyV, tTup, tLst, rAppend, rCat, scal_ii, scal_bb, scal_ss, scal_ni, scal_in, rEq, rNe, List.getElem?_cons_zero, List.getElem?_cons_succ, List.set_cons_zero, List.set_cons_succ, eq_self, and_assoc, Option.some.injEq, V.int.injEq, V.bl.injEq, V.ref.injEq, V.str.injEq, List.cons.injEq, exists_eq_left', exists_eq_left, exists_and_left, List.nil_append, List.cons_append, List.append_nil, true_and, and_true, decide_eq_true_eq, Bool.not_eq_true', decide_eq_false_iff_not, if_true, if_false, Bool.not_true, Bool.not_false, Bool.false_eq_true, reduceCtorEq, decide_true, decide_false, ite_true, ite_false, rSetL, rIxL, tRaise, jCons, jNil, tFmt, tDNew, rCount, rIndex, tCont, tBreak, Int.reduceToNat, Int.reducePow]
    refine ⟨.inr ⟨by omega, by omega⟩, ?_⟩
    refine ite2 (fun hl => ?_) (fun hl => ?_)
    · refine ⟨fun σ' H2 => ∃ m', m' < (10 ^ 10 - t).toNat ∧ W m' σ' H2, fun _ _ h => h, ?_⟩
      have t2 : t ≤ n := by
        have := Int.mul_le_mul_of_nonneg_right (show (1 : Int) ≤ t by omega) (show 0 ≤ t by omega)
        omega
      refine ⟨by omega, ?_⟩
      refine ite2 (fun hd => ?_) (fun hd => ?_)
      · rw [isPrB_not (fun h => h.2 t I1 hl hd)] at k
        exact k
      · refine ⟨_, by omega, (hW _ _ _).mpr ⟨t + 1, rfl, rfl, ⟨by omega, fun d a b => ?_⟩, by omega, rfl⟩⟩
        by_cases e : d = t
        · rw [e]; exact hd
        · exact I2 d a (by omega)
    · by_cases h2 : 1 < n
      · have hp : IsPr n := ⟨by omega, fun d a b => I2 d a (by
          refine Classical.byContradiction fun hc => hl ?_
          have := sq_mono (show 0 ≤ t by omega) (show t ≤ d by omega)
          omega)⟩
        rw [isPrB_of hp] at k
        rw [decide_eq_true (show n > 1 from h2)]
        exact k
      · rw [isPrB_not (fun h => by have := h.1; omega)] at k
        rw [decide_eq_false (show ¬ n > 1 from h2)]
        exact k
noncomputable abbrev O_law_is_prime (P : Program) (w : World) (K : PySem.W.Frag) (mg : Str → Option Value) (base : Heap) : Prop := ∃ f fd, Df_law_is_prime K mg f fd ∧ FnOk P w K mg base CX0 1 f fd ["_law_number"] (spLPrime)
noncomputable def spGreat : Sp := fun vs H Q _ => ∃ (a b : Int), vs = [.int a, .int b] ∧ (a.natAbs < 10 ^ 100 ∧ b.natAbs < 10 ^ 100) ∧ Q (.int (Int.gcd a b)) H
theorem mod_lt {g s : Int} (h : 0 < s) : (g % s).toNat < s.toNat := by
  have := Int.emod_lt_of_pos g h
  have := Int.emod_nonneg g (show s ≠ 0 by omega)
  omega
noncomputable abbrev s_law_common : Stmt := top 35
theorem sc_law_common : FnScope ["_law_one", "_law_other"] ["_law_one", "_law_other"] (defScope s_law_common) := ⟨rfl, rfl, rfl, by decide +kernel, rfl, by decide +kernel, by decide +kernel⟩
noncomputable abbrev Df_law_common (K : PySem.W.Frag) (mg : Str → Option Value) (f : Addr) (fd : FuncData) : Prop := Def K mg "_law_common" s_law_common ["_law_one", "_law_other"] f fd
theorem ok_law_common (D : Df_law_common K mg f fd) (T : Txt K mg t1 t2 cl) : FnOk P w K mg base CX0 1 f fd ["_law_one", "_law_other"] spGreat := by
  refine D.fn.ok sc_law_common (fun vs H Q E h => ?_) (fun cdv A outer s H vs Q E hr h => ?_)
  · obtain ⟨a, b, rfl, _⟩ := h
    rfl
  · obtain ⟨a, b, rfl, ⟨ha, hb⟩, k⟩ := h
    refine ⟨_, (pss_cons (ps_par (i := 0) (j := 1) rfl sc_law_common.nd rfl rfl (by decide) rfl rfl (pa_cons (pe_callB (call_max2 rfl) (by rfl) T.no_max PyProof.Rows.boot_max (pa_cons (pv 0) (pa_cons (pe_op op_sub pe_int (pv 0)) pa_nil))) (pa_cons (pe_callB (call_max2 rfl) (by rfl) T.no_max PyProof.Rows.boot_max (pa_cons (pv 1) (pa_cons (pe_op op_sub pe_int (pv 1)) pa_nil))) pa_nil)) (by first | rfl | with_unfolding_all rfl))
 (pss_cons (ps_while PassesOwn.never (pt_cmpR op_gt (pv 1) pe_int (nomark _))
 (pss_one (ps_par (i := 0) (j := 1) rfl sc_law_common.nd rfl rfl (by decide) rfl rfl (pa_cons (pv 1) (pa_cons (pe_op op_mod (pv 0) (pv 1)) pa_nil)) (by first | rfl | with_unfolding_all rfl))))
 (pss_one (ps_ret (pv 0))))), ?_⟩
    have e0 : L2.start ["_law_one", "_law_other"] [.int a, .int b] = [some (.int a), some (.int b)] := rfl
    rw [e0]; clear e0
    simp only [tSeq, tIfS, tTest, tRet, tRetN, tNext, tDrop, tAsg, tPar, tPar3, tAug, tVar, tC, tOp, tUn, rI, rI0, rU, tB, tAnd, tOr, tNot, tAndV, tOrV, tNotV, tIf, gName, gNil, gCons, gTup, gSub, tCB, tCons, tNil, tCall, tChain, ipI, tIsN, tNotN, tBM, tyV, tTup, tLst, rAppend, rCat, scal_ii, scal_bb, scal_ss, scal_ni, scal_in, rEq, rNe, List.getElem?_cons_zero, List.getElem?_cons_succ, List.set_cons_zero, List.set_cons_succ, eq_self, and_assoc, Option.some.injEq, V.int.injEq, V.bl.injEq, V.ref.injEq, V.str.injEq, List.cons.injEq, exists_eq_left', exists_eq_left, exists_and_left, List.nil_append, List.cons_append, List.append_nil, true_and, and_true, decide_eq_true_eq, Bool.not_eq_true', decide_eq_false_iff_not, if_true, if_false, Bool.not_true, Bool.not_false, Bool.false_eq_true, reduceCtorEq, decide_true, decide_false, ite_true, ite_false, rSetL, rIxL, tRaise, jCons, jNil, tFmt, tDNew, rCount, rIndex, tCont, tBreak, Int.reduceToNat, Int.reducePow]
    have ab : ∀ x : Int, (if 0 - x > x then 0 - x else x) = (if x < 0 then -x else x) := fun x => by split <;> split <;> omega
    obtain ⟨W, hW⟩ : ∃ W : Nat → St → Hp → Prop, ∀ m σ H', W m σ H' ↔ ∃ g s, m = s.toNat ∧ σ = [some (.int g), some (.int s)] ∧ GcdInv a b g s ∧ H' = H := ⟨_, fun _ _ _ => Iff.rfl⟩
    refine ⟨W, ⟨_, (hW _ _ _).mpr ⟨_, _, rfl, ?_, gcd_start a b, rfl⟩⟩, ?_⟩
    · first | rfl | (simp only [ab]) | simp [ab]
    intro m σ H' hw
    obtain ⟨g, s', rfl, rfl, I, rfl⟩ := (hW _ _ _).mp hw
    clear hw
    simp only [tSeq, tIfS, tTest, tRet, tRetN, tNext, tDrop, tAsg, tPar, tPar3, tAug, tVar, tC, tOp, tUn, rI, rI0, rU, tB, tAnd, tOr, tNot, tAndV, tOrV, tNotV, tIf, gName, gNil, gCons, gTup, gSub, tCB, tCons, tNil, tCall, tChain, ipI, tIsN, tNotN, tBM, tyV, tTup, tLst, rAppend, rCat, scal_ii, scal_bb, scal_ss, scal_ni, scal_in, rEq, rNe, List.getElem?_cons_zero, List.getElem?_cons_succ, List.set_cons_zero, List.set_cons_succ, eq_self, and_assoc, Option.some.injEq, V.int.injEq, V.bl.injEq, V.ref.injEq, V.str.injEq, List.cons.injEq, exists_eq_left', exists_eq_left, exists_and_left, List.nil_append, List.cons_append, List.append_nil, true_and, and_true, decide_eq_true_eq, Bool.not_eq_true', decide_eq_false_iff_not, if_true, if_false, Bool.not_true, Bool.not_false, Bool.false_eq_true, reduceCtorEq, decide_true, decide_false, ite_true, ite_false, rSetL, rIxL, tRaise, jCons, jNil, tFmt, tDNew, rCount, rIndex, tCont, tBreak, Int.reduceToNat, Int.reducePow]
    refine ite2 (fun hl => ?_) (fun hl => ?_)
    · refine ⟨fun σ' H2 => ∃ m', m' < s'.toNat ∧ W m' σ' H2, fun _ _ h => h, ?_⟩
      exact ⟨hl, _, mod_lt hl, (hW _ _ _).mpr ⟨_, _, rfl, rfl, gcd_turn I hl, rfl⟩⟩
    · have e := gcd_end I hl
      rw [← e] at k
      exact k
noncomputable abbrev O_law_common (P : Program) (w : World) (K : PySem.W.Frag) (mg : Str → Option Value) (base : Heap) : Prop := ∃ f fd, Df_law_common K mg f fd ∧ FnOk P w K mg base CX0 1 f fd ["_law_one", "_law_other"] (spGreat)
noncomputable abbrev s_law_parts : Stmt := top 36
theorem sc_law_parts : FnScope ["_law_number", "_law_found", "_law_left", "_law_prime", "_law_often"] ["_law_number"] (defScope s_law_parts) := ⟨rfl, rfl, rfl, by decide +kernel, rfl, by decide +kernel, by decide +kernel⟩
noncomputable abbrev Df_law_parts (K : PySem.W.Frag) (mg : Str → Option Value) (f : Addr) (fd : FuncData) : Prop := Def K mg "_law_parts" s_law_parts ["_law_number"] f fd
noncomputable def spLParts (K : PySem.W.Frag) : Sp := fun vs H Q _ => ∃ (n : Int), vs = [.int n] ∧ (1 ≤ n ∧ n ≤ 10 ^ 9) ∧ ∀ l p xs H', Parts n l → Same H H' → H' p = some (.lst xs) → RepL K H' (l.map pD) xs → Q (.ref p) H'
theorem ok_law_parts (D : Df_law_parts K mg f fd) (T : Txt K mg t1 t2 cl) : FnOk P w K mg base CX0 1 f fd ["_law_number"] (spLParts K) := by
  refine D.fn.ok sc_law_parts (fun vs H Q E h => ?_) (fun cdv A outer s H vs Q E hr h => ?_)
  · obtain ⟨n, rfl, _⟩ := h
    rfl
  · obtain ⟨n, rfl, hb, k⟩ := h
    refine ⟨_, (pss_cons (ps_par3 (i := 1) (j := 2) (l := 3) rfl sc_law_parts.nd rfl rfl rfl (by decide) (by decide) (by decide) rfl rfl rfl (pa_cons (pe_lst pa_nil) (pa_cons (pv 0) (pa_cons pe_int pa_nil))) (by first | rfl | with_unfolding_all rfl))
 (pss_cons (ps_while PassesOwn.never (pt_cmpR op_gt (pv 2) pe_int (nomark _))
 (pss_cons (ps_if (pt_cmpR op_gt (pe_op op_mulB (pv 3) (pv 3)) (pv 2) (nomark _))
 (pss_one (ps_set (i := 3) sc_law_parts.nd rfl (by first | exact Or.inl rfl | exact Or.inr rfl) (pv 2)))
 pss_nil)
 (pss_cons (ps_set (i := 4) sc_law_parts.nd rfl (by first | exact Or.inl rfl | exact Or.inr rfl) pe_int)
 (pss_cons (ps_while PassesOwn.never (pt_cmpR op_eq (pe_op op_mod (pv 2) (pv 3)) pe_int (nomark _))
 (pss_one (ps_par (i := 2) (j := 4) rfl sc_law_parts.nd rfl rfl (by decide) rfl rfl (pa_cons (pe_op op_fdivB (pv 2) (pv 3)) (pa_cons (pe_op op_add (pv 4) pe_int) pa_nil)) (by first | rfl | with_unfolding_all rfl))))
 (pss_cons (ps_if (pt_cmpR op_gt (pv 4) pe_int (nomark _))
 (pss_one (ps_expr (pe_bm PySem.F.plainAttrs_list PySem.F.slot_list_append PySem.F.type_list_append mt_append (pv 1) (pa_cons (pe_tup (pa_cons (pv 3) (pa_cons (pv 4) pa_nil))) pa_nil))))
 pss_nil)
 (pss_one (ps_set (i := 3) sc_law_parts.nd rfl (by first | exact Or.inl rfl | exact Or.inr rfl) (pe_op op_add (pv 3) pe_int))))))))
 (pss_one (ps_ret (pv 1))))), ?_⟩
    have e0 : L2.start ["_law_number", "_law_found", "_law_left", "_law_prime", "_law_often"] [.int n] = [some (.int n), none, none, none, none] := rfl
    rw [e0]; clear e0
    simp only [tSeq, tIfS, tTest, tRet, tRetN, tNext, tDrop, tAsg, tPar, tPar3, tAug, tVar, tC, tOp, tUn, rI, rI0, rU, tB, tAnd, tOr, tNot, tAndV, tOrV, tNotV, tIf, gName, gNil, gCons, gTup, gSub, tCB, tCons, tNil, tCall, tChain, ipI, tIsN, tNotN, tBM, tyV, tTup, tLst, rAppend, rCat, scal_ii, scal_bb, scal_ss, scal_ni, scal_in, rEq, rNe, List.getElem?_cons_zero, List.getElem?_cons_succ, List.set_cons_zero, List.set_cons_succ, eq_self, and_assoc, Option.some.injEq, V.int.injEq, V.bl.injEq, V.ref.injEq, V.str.injEq, List.cons.injEq, exists_eq_left', exists_eq_left, exists_and_left, List.nil_append, List.cons_append, List.append_nil, true_and, and_true, decide_eq_true_eq, Bool.not_eq_true', decide_eq_false_iff_not, if_true, if_false, Bool.not_true, Bool.not_false, Bool.false_eq_true, reduceCtorEq, decide_true, decide_false, ite_true, ite_false, rSetL, rIxL, tRaise, jCons, jNil, tFmt, tDNew, rCount, rIndex, tCont, tBreak, Int.reduceToNat, Int.reducePow]
    refine ⟨Nat.zero_le _, fun p hp => ?_⟩
    obtain ⟨W, hW⟩ : ∃ W : Nat → St → Hp → Prop, ∀ m σ H', W m σ H' ↔ ∃ l left t o xs, m = (left - t + 2).toNat ∧ σ = [some (.int n), some (.ref p), some (.int left), some (.int t), o] ∧ LtInv n l left t ∧ Same H H' ∧ H' p = some (.lst xs) ∧ RepL K H' (l.map pD) xs := ⟨_, fun _ _ _ => Iff.rfl⟩
    have s0 : Same H (upd H p (.lst [])) := fun b o e => by rw [upd_ne (ne_of_none e hp)]; exact e
    refine ⟨W, ⟨_, (hW _ _ _).mpr ⟨[], n, 2, none, [], rfl, rfl, lt_start hb.1, s0, upd_same, rfl⟩⟩, ?_⟩
    intro m σ H' hw
    obtain ⟨l, left, t, o, xs, rfl, rfl, I, S, hl, R⟩ := (hW _ _ _).mp hw
    clear hw
    have i1 := I.l1; have i2 := I.t2; have i3 := lt_le I
    simp only [tSeq, tIfS, tTest, tRet, tRetN, tNext, tDrop, tAsg, tPar, tPar3, tAug, tVar, tC, tOp, tUn, rI, rI0, rU, tB, tAnd, tOr, tNot, tAndV, tOrV, tNotV, tIf, gName, gNil, gCons, gTup, gSub, tCB, tCons, tNil, tCall, tChain, ipI, tIsN, tNotN, tBM, tyV, tTup, tLst, rAppend, rCat, scal_ii, scal_bb, scal_ss, scal_ni, scal_in, rEq, rNe, List.getElem?_cons_zero, List.getElem?_cons_succ, List.set_cons_zero, List.set_cons_succ, eq_self, and_assoc, Option.some.injEq, V.int.injEq, V.bl.injEq, V.ref.injEq, V.str.injEq, List.cons.injEq, exists_eq_left', exists_eq_left, exists_and_left, List.nil_append, List.cons_append, List.append_nil, true_and, and_true, decide_eq_true_eq, Bool.not_eq_true', decide_eq_false_iff_not, if_true, if_false, Bool.not_true, Bool.not_false, Bool.false_eq_true, reduceCtorEq, decide_true, decide_false, ite_true, ite_false, rSetL, rIxL, tRaise, jCons, jNil, tFmt, tDNew, rCount, rIndex, tCont, tBreak, Int.reduceToNat, Int.reducePow]
    refine ite2 (fun h1 => ?_) (fun h1 => ?_)
    · have itb := I.tb h1
      refine ⟨fun σ' H2 => ∃ m', m' < (left - t + 2).toNat ∧ W m' σ' H2, fun _ _ h => h, ?_⟩
      have inner : ∀ t' : Int, LtInv n l left t' → t ≤ t' → t' ≤ left → tWhile (tTest (tOp rEq (tOp (rI (fun _ j => 0 < j) fun i j => V.int (i % j)) (tVar 2) (tVar 3)) (tC (V.int 0))))
          (tPar 2 4 (tCons (tOp (rI CDivB fun i j => V.int (i / j)) (tVar 2) (tVar 3)) (tCons (tOp (rI0 fun i j => V.int (i + j)) (tVar 4) (tC (V.int 1))) tNil)))
          { nx := tSeq (tIfS (tTest (tOp (rI0 fun i j => V.bl (decide (j < i))) (tVar 4) (tC (V.int 0)))) (tDrop (tBM K "list" rAppend (tVar 1) (tCons (tTup (tCons (tVar 3) (tCons (tVar 4) tNil))) tNil))) tNext) (tAsg (tOp (rI0 fun i j => V.int (i + j)) (tVar 3) (tC (V.int 1))) (gName 3))
              { nx := fun σ' H2 => ∃ m', m' < (left - t + 2).toNat ∧ W m' σ' H2, rt := Q, bk := tRet (tVar 1) { nx := fun x H' => Q V.non H', rt := Q }, ct := fun σ' H2 => ∃ m', m' < (left - t + 2).toNat ∧ W m' σ' H2 }, rt := Q, bk := tRet (tVar 1) { nx := fun x H' => Q V.non H', rt := Q }, ct := fun σ' H2 => ∃ m', m' < (left - t + 2).toNat ∧ W m' σ' H2 }
          [some (.int n), some (.ref p), some (.int left), some (.int t'), some (.int 0)] H' := by
        intro t' I' tt tl
        have t2 := I'.t2
        obtain ⟨W2, hW2⟩ : ∃ W : Nat → St → Hp → Prop, ∀ m σ H2, W m σ H2 ↔ ∃ left' oft, m = left'.toNat ∧ σ = [some (.int n), some (.ref p), some (.int left'), some (.int t'), some (.int oft)] ∧ DivInv left t' left' oft ∧ H2 = H' := ⟨_, fun _ _ _ => Iff.rfl⟩
        refine ⟨W2, ⟨_, (hW2 _ _ _).mpr ⟨left, 0, rfl, rfl, div_start (by omega), rfl⟩⟩, ?_⟩
        intro m2 σ2 H2 hw2
        obtain ⟨left', oft, rfl, rfl, J, rfl⟩ := (hW2 _ _ _).mp hw2
        clear hw2
        have j1 := J.l1
        have j2 := div_le t2 J
        simp only [tSeq, tIfS, tTest, tRet, tRetN, tNext, tDrop, tAsg, tPar, tPar3, tAug, tVar, tC, tOp, tUn, rI, rI0, rU, tB, tAnd, tOr, tNot, tAndV, tOrV, tNotV, tIf, gName, gNil, gCons, gTup, gSub, tCB, tCons, tNil, tCall, tChain, ipI, tIsN, tNotN, tBM, tyV, tTup, tLst, rAppend, rCat, scal_ii, scal_bb, scal_ss, scal_ni, scal_in, rEq, rNe, List.getElem?_cons_zero, List.getElem?_cons_succ, List.set_cons_zero, List.set_cons_succ, eq_self, and_assoc, Option.some.injEq, V.int.injEq, V.bl.injEq, V.ref.injEq, V.str.injEq, List.cons.injEq, exists_eq_left', exists_eq_left, exists_and_left, List.nil_append, List.cons_append, List.append_nil, true_and, and_true, decide_eq_true_eq, Bool.not_eq_true', decide_eq_false_iff_not, if_true, if_false, Bool.not_true, Bool.not_false, Bool.false_eq_true, reduceCtorEq, decide_true, decide_false, ite_true, ite_false, rSetL, rIxL, tRaise, jCons, jNil, tFmt, tDNew, rCount, rIndex, tCont, tBreak, Int.reduceToNat, Int.reducePow]
        refine ⟨by omega, ?_⟩
        refine ite2 (fun hd => ?_) (fun hd => ?_)
        · refine ⟨fun σ' H2 => ∃ m', m' < left'.toNat ∧ W2 m' σ' H2, fun _ _ h => h, ?_⟩
          obtain ⟨J2, jl⟩ := div_turn t2 J hd
          have j3 := J2.l1
          exact ⟨⟨by omega, by omega⟩, _, by omega, (hW2 _ _ _).mpr ⟨_, _, rfl, rfl, J2, rfl⟩⟩
        · obtain ⟨I2, lle⟩ := lt_turn I' J hd
          refine ite2 (fun ho => ?_) (fun ho => ?_)
          · rw [if_pos ho] at I2
            refine ⟨.inl ⟨_, SqL.of hl⟩, ?_⟩
            refine ⟨by show 2 ≤ sizeLine; decide, fun a ha => ?_⟩
            have npa : p ≠ a := ne_of_none hl ha
            have hlen : xs.length < sizeLine := by
              have e := R.length
              rw [List.length_map] at e
              have e2 := parts_len I.ok.pr (by have := I.eq; have := prod_pos I.ok.pr; have := Int.mul_le_mul_of_nonneg_left i1 (show 0 ≤ prod l by omega); omega)
              exact small1000 (by omega)
            refine ⟨_, by rw [upd_ne npa]; exact hl, hlen, _, by omega, (hW _ _ _).mpr ⟨l ++ [(t', oft)], left', t' + 1, _, _, rfl, rfl, I2, ?_, upd_same, ?_⟩⟩
            · intro b u e
              have e1 : b ≠ p := ne_of_none e hp
              have e2 : b ≠ a := ne_of_none (S b u e) ha
              rw [upd_ne e1, upd_ne e2]
              exact S b u e
            · have tk : TK H2 (upd (upd H2 a (.tup [.int t', .int oft])) p (.lst (xs ++ [.ref a]))) := (TK.new ha).trans (TK.lst (xs := xs) (by rw [upd_ne npa]; exact hl))
              rw [List.map_append]
              refine (R.mono tk _ (noLL_pD l)).append ⟨_, [], rfl, rep_pair ?_, rfl⟩
              rw [upd_ne npa.symm, upd_same]
          · rw [if_neg ho] at I2
            exact ⟨_, by omega, (hW _ _ _).mpr ⟨l, left', t' + 1, _, xs, rfl, rfl, I2, S, hl, R⟩⟩
      refine ⟨.inr ⟨by omega, by omega⟩, ?_⟩
      refine ite2 (fun hs => ?_) (fun hs => ?_)
      · exact inner left (lt_jump I h1 hs).1 itb (Int.le_refl _)
      · exact inner t I (Int.le_refl _) itb
    · exact k l p xs H' (lt_end I h1) S hl R
noncomputable abbrev O_law_parts (P : Program) (w : World) (K : PySem.W.Frag) (mg : Str → Option Value) (base : Heap) : Prop := ∃ f fd, Df_law_parts K mg f fd ∧ FnOk P w K mg base CX0 1 f fd ["_law_number"] (spLParts K)
noncomputable abbrev s_law_fools : Stmt := top 38
theorem sc_law_fools : FnScope ["_law_n", "_law_base"] ["_law_n"] (defScope s_law_fools) := ⟨rfl, rfl, rfl, by decide +kernel, rfl, by decide +kernel, by decide +kernel⟩
noncomputable abbrev Df_law_fools (K : PySem.W.Frag) (mg : Str → Option Value) (f : Addr) (fd : FuncData) : Prop := Def K mg "_law_fools" s_law_fools ["_law_n"] f fd
noncomputable def spLFools : Sp := fun vs H Q _ => ∃ (n : Int) (l : List (Int × Int)), vs = [.int n] ∧ (3 ≤ n ∧ n ≤ 2999 ∧ n % 2 = 1 ∧ Parts n l) ∧ Q (.bl (liesL n l)) H
theorem ok_law_fools (D : Df_law_fools K mg f fd) (T : Txt K mg t1 t2 cl) (o1 : O_law_is_prime P w K mg base) (o2 : O_law_power P w K mg base) (o3 : O_law_common P w K mg base) : FnOk P w K mg base CX0 2 f fd ["_law_n"] spLFools := by
  obtain ⟨_, _, D_law_is_prime, G_law_is_prime⟩ := o1
  obtain ⟨_, _, D_law_power, G_law_power⟩ := o2
  obtain ⟨_, _, D_law_common, G_law_common⟩ := o3
  refine D.fn.ok sc_law_fools (fun vs H Q E h => ?_) (fun cdv A outer s H vs Q E hr h => ?_)
  · obtain ⟨n, l, rfl, _⟩ := h
    rfl
  · obtain ⟨n, l, rfl, ⟨h3, h5, ho, hl⟩, k⟩ := h
    refine ⟨_, (pss_cons (ps_if (pt_val (pe_call (G_law_is_prime.mono (by decide)) hr rfl D_law_is_prime.mgx D_law_is_prime.fn.kp D_law_is_prime.bd .nil pass0 (pa_cons (pv 0) pa_nil)))
 (pss_one (ps_ret pe_bl))
 pss_nil)
 (pss_cons (ps_for PassesOwn.never rfl (pi_range2 rfl T.no_range (pa_cons pe_int (pa_cons (pv 0) pa_nil))) (pg_name (i := 1) sc_law_fools.nd rfl (by first | exact Or.inl rfl | exact Or.inr rfl))
 (pss_one (ps_if (PW.pt (pw_and (pt_cmpR op_ne (pe_call (G_law_power.mono (by decide)) hr rfl D_law_power.mgx D_law_power.fn.kp D_law_power.bd .nil pass0 (pa_cons (pv 1) (pa_cons (pe_op op_sub (pv 0) pe_int) (pa_cons (pv 0) pa_nil)))) pe_int (nomark _)) (pw_and1 (pt_cmpR op_eq (pe_call (G_law_common.mono (by decide)) hr rfl D_law_common.mgx D_law_common.fn.kp D_law_common.bd .nil pass0 (pa_cons (pv 1) (pa_cons (pv 0) pa_nil))) pe_int (nomark _)))))
 (pss_one (ps_ret pe_bl))
 pss_nil)))
 (pss_one (ps_ret pe_bl)))), ?_⟩
    have e0 : L2.start ["_law_n", "_law_base"] [.int n] = [some (.int n), none] := rfl
    rw [e0]; clear e0
    simp only [tSeq, tIfS, tTest, tRet, tRetN, tNext, tDrop, tAsg, tPar, tPar3, tAug, tVar, tC, tOp, tUn, rI, rI0, rU, tB, tAnd, tOr, tNot, tAndV, tOrV, tNotV, tIf, gName, gNil, gCons, gTup, gSub, tCB, tCons, tNil, tCall, tChain, ipI, tIsN, tNotN, tBM, tyV, tTup, tLst, rAppend, rCat, scal_ii, scal_bb, scal_ss, scal_ni, scal_in, rEq, rNe, List.getElem?_cons_zero, List.getElem?_cons_succ, List.set_cons_zero, List.set_cons_succ, eq_self, and_assoc, Option.some.injEq, V.int.injEq, V.bl.injEq, V.ref.injEq, V.str.injEq, List.cons.injEq, exists_eq_left', exists_eq_left, exists_and_left, List.nil_append, List.cons_append, List.append_nil, true_and, and_true, decide_eq_true_eq, Bool.not_eq_true', decide_eq_false_iff_not, if_true, if_false, Bool.not_true, Bool.not_false, Bool.false_eq_true, reduceCtorEq, decide_true, decide_false, ite_true, ite_false, rSetL, rIxL, tRaise, jCons, jNil, tFmt, tDNew, rCount, rIndex, tCont, tBreak, Int.reduceToNat, Int.reducePow]
    refine ⟨n, rfl, ⟨by omega, by omega⟩, _, rfl, ?_⟩
    have sm := U.small h3 h5 ho
    by_cases hp : IsPr n
    · rw [isPrB_of hp, if_pos rfl]
      rw [nl_prime hp l hl] at k
      exact k
    · rw [isPrB_not hp, if_neg (by decide)]
      refine ⟨_, rfl, 2, n, rfl, ⟨by decide, by decide, by omega, by omega⟩, for_range (lo := 2) (n := (n - 2).toNat) (fun i σ H2 => H2 = H ∧ (∃ v, σ = [some (.int n), v]) ∧ ∀ b : Int, 2 ≤ b → b < 2 + (i : Int) → b ^ (n - 1).toNat % n = 1 ∨ Int.gcd b n ≠ 1) ⟨rfl, ⟨none, rfl⟩, fun b b2 b3 => by omega⟩ ?_ ?_⟩
      · rintro i σ H2 hi ⟨rfl, ⟨v, rfl⟩, I⟩
        simp only [tSeq, tIfS, tTest, tRet, tRetN, tNext, tDrop, tAsg, tPar, tPar3, tAug, tVar, tC, tOp, tUn, rI, rI0, rU, tB, tAnd, tOr, tNot, tAndV, tOrV, tNotV, tIf, gName, gNil, gCons, gTup, gSub, tCB, tCons, tNil, tCall, tChain, ipI, tIsN, tNotN, tBM, tyV, tTup, tLst, rAppend, rCat, scal_ii, scal_bb, scal_ss, scal_ni, scal_in, rEq, rNe, List.getElem?_cons_zero, List.getElem?_cons_succ, List.set_cons_zero, List.set_cons_succ, eq_self, and_assoc, Option.some.injEq, V.int.injEq, V.bl.injEq, V.ref.injEq, V.str.injEq, List.cons.injEq, exists_eq_left', exists_eq_left, exists_and_left, List.nil_append, List.cons_append, List.append_nil, true_and, and_true, decide_eq_true_eq, Bool.not_eq_true', decide_eq_false_iff_not, if_true, if_false, Bool.not_true, Bool.not_false, Bool.false_eq_true, reduceCtorEq, decide_true, decide_false, ite_true, ite_false, rSetL, rIxL, tRaise, jCons, jNil, tFmt, tDNew, rCount, rIndex, tCont, tBreak, Int.reduceToNat, Int.reducePow]
        refine ⟨_, _, _, rfl, ⟨by omega, by omega, by omega, by omega⟩, ?_⟩
        simp only [tSeq, tIfS, tTest, tRet, tRetN, tNext, tDrop, tAsg, tPar, tPar3, tAug, tVar, tC, tOp, tUn, rI, rI0, rU, tB, tAnd, tOr, tNot, tAndV, tOrV, tNotV, tIf, gName, gNil, gCons, gTup, gSub, tCB, tCons, tNil, tCall, tChain, ipI, tIsN, tNotN, tBM, tyV, tTup, tLst, rAppend, rCat, scal_ii, scal_bb, scal_ss, scal_ni, scal_in, rEq, rNe, List.getElem?_cons_zero, List.getElem?_cons_succ, List.set_cons_zero, List.set_cons_succ, eq_self, and_assoc, Option.some.injEq, V.int.injEq, V.bl.injEq, V.ref.injEq, V.str.injEq, List.cons.injEq, exists_eq_left', exists_eq_left, exists_and_left, List.nil_append, List.cons_append, List.append_nil, true_and, and_true, decide_eq_true_eq, Bool.not_eq_true', decide_eq_false_iff_not, if_true, if_false, Bool.not_true, Bool.not_false, Bool.false_eq_true, reduceCtorEq, decide_true, decide_false, ite_true, ite_false, rSetL, rIxL, tRaise, jCons, jNil, tFmt, tDNew, rCount, rIndex, tCont, tBreak, Int.reduceToNat, Int.reducePow]
        have next : (2 + (i : Int)) ^ (n - 1).toNat % n = 1 ∨ Int.gcd (2 + (i : Int)) n ≠ 1 → ∀ b : Int, 2 ≤ b → b < 2 + ((i + 1 : Nat) : Int) → b ^ (n - 1).toNat % n = 1 ∨ Int.gcd b n ≠ 1 := fun h b b2 b3 => by
          by_cases z : b = 2 + (i : Int)
          · rw [z]; exact h
          · exact I b b2 (by omega)
        refine ite2 (fun h1 => ⟨_, _, rfl, ⟨by omega, by omega⟩, rfl, ?_⟩) (fun h1 => ⟨⟨_, rfl⟩, next (.inl (Classical.byContradiction h1))⟩)
        by_cases g : Int.gcd (2 + (i : Int)) n = 1
        · rw [if_pos (by rw [g]; rfl)]
          have e : liesL n l = false := by
            cases e : liesL n l with
            | false => rfl
            | true => exact absurd (lies_fool hl h3 e g) h1
          rw [e] at k
          exact k
        · rw [if_neg (fun z => g (by injection z with z; omega))]
          exact ⟨rfl, ⟨_, rfl⟩, next (.inr g)⟩
      · rintro σ H2 ⟨rfl, ⟨v, rfl⟩, I⟩
        have e : liesL n l = true := by
          rcases sm with h | ⟨_, h | ⟨b, b2, bn, g, z⟩⟩
          · exact h l hl
          · exact absurd h hp
          · rcases I b b2 (by omega) with w | w
            · exact absurd w z
            · exact absurd g w
        rw [e] at k
        simp only [tSeq, tIfS, tTest, tRet, tRetN, tNext, tDrop, tAsg, tPar, tPar3, tAug, tVar, tC, tOp, tUn, rI, rI0, rU, tB, tAnd, tOr, tNot, tAndV, tOrV, tNotV, tIf, gName, gNil, gCons, gTup, gSub, tCB, tCons, tNil, tCall, tChain, ipI, tIsN, tNotN, tBM, tyV, tTup, tLst, rAppend, rCat, scal_ii, scal_bb, scal_ss, scal_ni, scal_in, rEq, rNe, List.getElem?_cons_zero, List.getElem?_cons_succ, List.set_cons_zero, List.set_cons_succ, eq_self, and_assoc, Option.some.injEq, V.int.injEq, V.bl.injEq, V.ref.injEq, V.str.injEq, List.cons.injEq, exists_eq_left', exists_eq_left, exists_and_left, List.nil_append, List.cons_append, List.append_nil, true_and, and_true, decide_eq_true_eq, Bool.not_eq_true', decide_eq_false_iff_not, if_true, if_false, Bool.not_true, Bool.not_false, Bool.false_eq_true, reduceCtorEq, decide_true, decide_false, ite_true, ite_false, rSetL, rIxL, tRaise, jCons, jNil, tFmt, tDNew, rCount, rIndex, tCont, tBreak, Int.reduceToNat, Int.reducePow]
        exact k
noncomputable abbrev O_law_fools (P : Program) (w : World) (K : PySem.W.Frag) (mg : Str → Option Value) (base : Heap) : Prop := ∃ f fd, Df_law_fools K mg f fd ∧ FnOk P w K mg base CX0 2 f fd ["_law_n"] (spLFools)
noncomputable abbrev s_law_by_parts : Stmt := top 39
theorem sc_law_by_parts : FnScope ["_law_n", "_law_parts_here", "_law_bad"] ["_law_n"] (defScope s_law_by_parts) := ⟨rfl, rfl, rfl, by decide +kernel, rfl, by decide +kernel, by decide +kernel⟩
noncomputable abbrev Df_law_by_parts (K : PySem.W.Frag) (mg : Str → Option Value) (f : Addr) (fd : FuncData) : Prop := Def K mg "_law_by_parts" s_law_by_parts ["_law_n"] f fd
noncomputable def spByParts : Sp := fun vs H Q _ => ∃ (n : Int), vs = [.int n] ∧ (3 ≤ n ∧ n ≤ 10 ^ 9) ∧ ∀ l H', Parts n l → Same H H' → Q (.bl (liesL n l)) H'
theorem ok_law_by_parts (D : Df_law_by_parts K mg f fd) (T : Txt K mg t1 t2 cl) (o1 : O_law_parts P w K mg base) : FnOk P w K mg base CX0 2 f fd ["_law_n"] spByParts := by
  obtain ⟨_, _, D_law_parts, G_law_parts⟩ := o1
  refine D.fn.ok sc_law_by_parts (fun vs H Q E h => ?_) (fun cdv A outer s H vs Q E hr h => ?_)
  · obtain ⟨n, rfl, _⟩ := h
    rfl
  · obtain ⟨n, rfl, ⟨h3, h9⟩, k⟩ := h
    refine ⟨_, (pss_cons (ps_set (i := 1) sc_law_by_parts.nd rfl (by first | exact Or.inl rfl | exact Or.inr rfl) (pe_call (G_law_parts.mono (by decide)) hr rfl D_law_parts.mgx D_law_parts.fn.kp D_law_parts.bd .nil pass0 (pa_cons (pv 0) pa_nil)))
 (pss_cons (ps_setD (iv := 2) sc_law_by_parts.nd rfl (by first | exact Or.inl rfl | exact Or.inr rfl) (N := ["_law_prime", "_law_often", "_law_n"]) (js := [none, none, some 0]) (by rfl) rfl (fun _ => rfl) (pi_list (pv 1)) (by intro b _ _ _ _; exact (pg_tupK (K := K) (n := 2) rfl rfl (pgs_cons (pg_name (i := 0) (show List.Nodup (["_law_prime", "_law_often", "_law_n"] : List Str) by decide) rfl (by first | exact Or.inl rfl | exact Or.inr rfl)) (pgs_cons (pg_name (i := 1) (show List.Nodup (["_law_prime", "_law_often", "_law_n"] : List Str) by decide) rfl (by first | exact Or.inl rfl | exact Or.inr rfl)) pgs_nil)))) (by intro b _ _ _ _; exact pifs_one (PW.pt (pw_or (pt_cmpR op_gt (pv 1) pe_int (nomark _)) (pw_or1 (pt_cmpR op_ne (pe_op op_mod (pe_op op_sub (pv 2) pe_int) (pe_op op_sub (pv 0) pe_int)) pe_int (nomark _)))))) (by intro b _ _ _ _; exact (pv 0)))
 (pss_one (ps_ret (pe_and (pe_cmpR op_gt (pe_callB call_len_seq (by rfl) T.no_len PySem.boot_len (pa_cons (pv 1) pa_nil)) pe_int (nomark _)) (pe_one (pe_cmpR (op_eqS (hu150 hr)) (pv 2) (pe_lst pa_nil) (nomark _)))))))), ?_⟩
    have e0 : L2.start ["_law_n", "_law_parts_here", "_law_bad"] [.int n] = [some (.int n), none, none] := rfl
    rw [e0]; clear e0
    simp only [tSeq, tIfS, tTest, tRet, tRetN, tNext, tDrop, tAsg, tPar, tPar3, tAug, tVar, tC, tOp, tUn, rI, rI0, rU, tB, tAnd, tOr, tNot, tAndV, tOrV, tNotV, tIf, gName, gNil, gCons, gTup, gSub, tCB, tCons, tNil, tCall, tChain, ipI, tIsN, tNotN, tBM, tyV, tTup, tLst, rAppend, rCat, scal_ii, scal_bb, scal_ss, scal_ni, scal_in, rEq, rNe, List.getElem?_cons_zero, List.getElem?_cons_succ, List.set_cons_zero, List.set_cons_succ, eq_self, and_assoc, Option.some.injEq, V.int.injEq, V.bl.injEq, V.ref.injEq, V.str.injEq, List.cons.injEq, exists_eq_left', exists_eq_left, exists_and_left, List.nil_append, List.cons_append, List.append_nil, true_and, and_true, decide_eq_true_eq, Bool.not_eq_true', decide_eq_false_iff_not, if_true, if_false, Bool.not_true, Bool.not_false, Bool.false_eq_true, reduceCtorEq, decide_true, decide_false, ite_true, ite_false, rSetL, rIxL, tRaise, jCons, jNil, tFmt, tDNew, rCount, rIndex, tCont, tBreak, Int.reduceToNat, Int.reducePow]
    refine ⟨n, rfl, ⟨by omega, h9⟩, fun l p xs H1 hl S hp R => ?_⟩
    have elen : xs.length = l.length := by rw [← R.length, List.length_map]
    have l30 : l.length ≤ 30 := by
      refine Classical.byContradiction fun z => ?_
      have := (more_bound hl 31 (by omega)).2
      omega
    replace k := k l
    refine tCompC_of ?_
    refine ⟨_, rfl, p, rfl, ⟨xs, SqL.of hp⟩, fun b D hcb hD => ?_⟩
    obtain ⟨Pv, hPv⟩ : ∃ Pv : Nat → St → Hp → Prop, ∀ j σ H2, Pv j σ H2 ↔ (∃ v1 v2, σ = [v1, v2, some (.int n)]) ∧ Same H1 H2 ∧ ∃ zs : List Int, H2 D = some (.lst (zs.map V.int)) ∧ zs.length ≤ j ∧ (zs = [] ↔ ∀ q ∈ l.take j, q.2 ≤ 1 ∧ (n - 1) % (q.1 - 1) = 0) := ⟨_, fun _ _ _ => Iff.rfl⟩
    refine comp_list (xs := xs) Pv ((hPv _ _ _).mpr ⟨⟨none, none, rfl⟩, fun b o e => keep e hD, [], upd_same, Nat.zero_le _, by simp⟩) (fun i σ H' hi h => SqL.of (((hPv _ _ _).mp h).2.1 _ _ hp)) ?_ ?_
    · intro j x σ H2 hx h
      obtain ⟨⟨v1, v2, rfl⟩, s2, zs, d2, zl, iff⟩ := (hPv _ _ _).mp h
      obtain ⟨q, c, hq, rfl, hcc⟩ := repL_pD_get (R.mono s2.tk _ (noLL_pD l)) hx
      have hmem : q ∈ l := List.mem_of_getElem? hq
      have hpr := hl.1.pr q hmem
      have q2 := hpr.1.1
      have jl : j < l.length := (List.getElem?_eq_some_iff.mp hq).1
      have tk1 : ∀ P' : Int × Int → Prop, (∀ y ∈ l.take (j + 1), P' y) ↔ (∀ y ∈ l.take j, P' y) ∧ P' q := fun P' => by
        rw [List.take_succ, hq]
        constructor
        · exact fun h => ⟨fun y hy => h y (List.mem_append.mpr (.inl hy)), h q (List.mem_append.mpr (.inr (by simp)))⟩
        · rintro ⟨h1, h2⟩ y hy
          rcases List.mem_append.mp hy with hy | hy
          · exact h1 y hy
          · have : y = q := by simpa using hy
            rw [this]; exact h2
      have addB : ¬ (q.2 ≤ 1 ∧ (n - 1) % (q.1 - 1) = 0) → Pv (j + 1) [some (.int q.1), some (.int q.2), some (.int n)] (upd H2 D (.lst (zs.map V.int ++ [V.int q.1]))) := fun z => (hPv _ _ _).mpr ⟨⟨_, _, rfl⟩, fun b o e => by rw [upd_ne (ne_of_none e hD)]; exact s2 _ _ e, zs ++ [q.1], by rw [upd_same, List.map_append]; rfl, by rw [List.length_append]; simp; omega, by
        rw [tk1]
        constructor
        · intro w; simp at w
        · intro w; exact absurd w.2 z⟩
      have good : q.2 ≤ 1 ∧ (n - 1) % (q.1 - 1) = 0 → Pv (j + 1) [some (.int q.1), some (.int q.2), some (.int n)] H2 := fun z => (hPv _ _ _).mpr ⟨⟨_, _, rfl⟩, s2, zs, d2, by omega, by rw [tk1, iff]; exact ⟨fun w => ⟨w, z⟩, fun w => w.1⟩⟩
      simp only [tSeq, tIfS, tTest, tRet, tRetN, tNext, tDrop, tAsg, tPar, tPar3, tAug, tVar, tC, tOp, tUn, rI, rI0, rU, tB, tAnd, tOr, tNot, tAndV, tOrV, tNotV, tIf, gName, gNil, gCons, gTup, gSub, tCB, tCons, tNil, tCall, tChain, ipI, tIsN, tNotN, tBM, tyV, tTup, tLst, rAppend, rCat, scal_ii, scal_bb, scal_ss, scal_ni, scal_in, rEq, rNe, List.getElem?_cons_zero, List.getElem?_cons_succ, List.set_cons_zero, List.set_cons_succ, eq_self, and_assoc, Option.some.injEq, V.int.injEq, V.bl.injEq, V.ref.injEq, V.str.injEq, List.cons.injEq, exists_eq_left', exists_eq_left, exists_and_left, List.nil_append, List.cons_append, List.append_nil, true_and, and_true, decide_eq_true_eq, Bool.not_eq_true', decide_eq_false_iff_not, if_true, if_false, Bool.not_true, Bool.not_false, Bool.false_eq_true, reduceCtorEq, decide_true, decide_false, ite_true, ite_false, rSetL, rIxL, tRaise, jCons, jNil, tFmt, tDNew, rCount, rIndex, tCont, tBreak, Int.reduceToNat, Int.reducePow, CT]
      refine ⟨_, hcc, rfl, ?_⟩
      simp only [tSeq, tIfS, tTest, tRet, tRetN, tNext, tDrop, tAsg, tPar, tPar3, tAug, tVar, tC, tOp, tUn, rI, rI0, rU, tB, tAnd, tOr, tNot, tAndV, tOrV, tNotV, tIf, gName, gNil, gCons, gTup, gSub, tCB, tCons, tNil, tCall, tChain, ipI, tIsN, tNotN, tBM, tyV, tTup, tLst, rAppend, rCat, scal_ii, scal_bb, scal_ss, scal_ni, scal_in, rEq, rNe, List.getElem?_cons_zero, List.getElem?_cons_succ, List.set_cons_zero, List.set_cons_succ, eq_self, and_assoc, Option.some.injEq, V.int.injEq, V.bl.injEq, V.ref.injEq, V.str.injEq, List.cons.injEq, exists_eq_left', exists_eq_left, exists_and_left, List.nil_append, List.cons_append, List.append_nil, true_and, and_true, decide_eq_true_eq, Bool.not_eq_true', decide_eq_false_iff_not, if_true, if_false, Bool.not_true, Bool.not_false, Bool.false_eq_true, reduceCtorEq, decide_true, decide_false, ite_true, ite_false, rSetL, rIxL, tRaise, jCons, jNil, tFmt, tDNew, rCount, rIndex, tCont, tBreak, Int.reduceToNat, Int.reducePow]
      refine ite2 (fun e3 => ⟨_, d2, small1000 (by rw [List.length_map]; omega), addB fun z => by omega⟩) (fun e3 => ⟨by omega, ?_⟩)
      refine ite2 (fun e4 => ⟨_, d2, small1000 (by rw [List.length_map]; omega), addB fun z => e4 z.2⟩) (fun e4 => good ⟨by omega, Classical.byContradiction e4⟩)
    · intro σ H2 h
      obtain ⟨⟨v1, v2, rfl⟩, s2, zs, d2, zl, iff⟩ := (hPv _ _ _).mp h
      rw [elen, List.take_length] at iff
      have ln : l ≠ [] := fun z => by
        have := hl.2
        rw [z] at this
        have : (1 : Int) = n := this
        omega
      have l1 : 1 ≤ l.length := List.length_pos_iff.mpr ln
      refine ⟨p, rfl, xs, .inl (SqL.of (s2 _ _ hp)), ?_⟩
      rw [elen]
      refine ite2 (fun e1 => ⟨Nat.zero_le _, fun p2 hp2 => ?_⟩) (fun e1 => ?_)
      · refine ⟨zs.map Dt.int, [], .inr ⟨⟨D, _, rfl, SqL.of (keep d2 hp2), repI zs⟩, ⟨p2, [], rfl, SqL.of upd_same, rfl⟩⟩, by rw [depI]; exact Nat.zero_le _, ?_⟩
        have e : eqDL (zs.map Dt.int) [] = liesL n l := by
          unfold liesL
          rw [decide_eq_true (show l.length ≠ 1 by omega), Bool.true_and]
          cases zs with
          | nil =>
            have := iff.mp rfl
            refine (List.all_eq_true.mpr fun q hq => ?_).symm
            rw [decide_eq_true (this q hq).1, decide_eq_true (this q hq).2]; rfl
          | cons z r =>
            refine (Bool.eq_false_iff.mpr fun w => ?_).symm
            have : z :: r = [] := iff.mpr fun q hq => by
              have := List.all_eq_true.mp w q hq
              simpa using this
            cases this
        rw [e]
        exact k _ hl fun b o e => keep (s2 _ _ (S _ _ e)) hp2
      · have e : liesL n l = false := by
          unfold liesL
          rw [decide_eq_false (show ¬ l.length ≠ 1 by omega)]; rfl
        rw [← e]
        exact k _ hl (S.trans s2)
noncomputable abbrev O_law_by_parts (P : Program) (w : World) (K : PySem.W.Frag) (mg : Str → Option Value) (base : Heap) : Prop := ∃ f fd, Df_law_by_parts K mg f fd ∧ FnOk P w K mg base CX0 2 f fd ["_law_n"] (spByParts)
end
end PP
set_option Elab.async false
set_option linter.all false
set_option maxRecDepth 100000
set_option maxHeartbeats 4000000
namespace PP
open PySem L2 MM
section
variable {P : Program} {w : World} {K : PySem.W.Frag} {mg : Str → Option Value} {base : Heap} {t1 t2 : Tok} {cl : Cl} {f : Addr} {fd : FuncData}
structure WordC (K : PySem.W.Frag) (cl : Cl) (C : Addr) (i : Nat) : Prop where
  xc : XCls K C
  ex : PySem.W.exmOne K (.ref C) (.ref cl.pe) = some true
  ve : PySem.W.kitOne K (.ref C) (.type "ValueError") = some true
  k0 : PySem.W.kitOne K (.ref C) (.ref cl.nn) = some (decide (i = 0))
  k1 : PySem.W.kitOne K (.ref C) (.ref cl.np) = some (decide (i = 1))
  k2 : PySem.W.kitOne K (.ref C) (.ref cl.pa) = some (decide (i = 2))
  k3 : PySem.W.kitOne K (.ref C) (.ref cl.pp) = some (decide (i = 3))
  k4 : PySem.W.kitOne K (.ref C) (.ref cl.nb) = some (decide (i = 4))
  k5 : PySem.W.kitOne K (.ref C) (.ref cl.nt) = some (decide (i = 5))
  k6 : PySem.W.kitOne K (.ref C) (.ref cl.nl) = some (decide (i = 6))
  k7 : PySem.W.kitOne K (.ref C) (.ref cl.nm) = some (decide (i = 7))
  k8 : PySem.W.kitOne K (.ref C) (.ref cl.nd) = some (decide (i = 8))
  k9 : PySem.W.kitOne K (.ref C) (.ref cl.tg) = some (decide (i = 9))
theorem small1000' {n : Nat} (h : n ≤ 1000) : n ≤ sizeLine := Nat.le_of_lt (small1000 h)
noncomputable abbrev fsG (p m : Int) : List (Str × V) := [("many", .int p), ("most", .int m)]
noncomputable def wordOf (i : Nat) : Str := if i = 0 then "number" else "prime"
theorem xdS {H H' : Hp} {dx : Option Addr} (h : ∀ d, dx = some d → ∃ fs, H d = some (.xd fs)) (s : Same H H') : ∀ d, dx = some d → ∃ fs, H' d = some (.xd fs) := fun d e => let ⟨fs, q⟩ := h d e; ⟨fs, s _ _ q⟩
theorem isiX {K : PySem.W.Frag} {H : Hp} {a C : Addr} {dx : Option Addr} {c : V} {u : Value} {b : Bool} {Q : VK} (ha : H a = some (excHo dx a (.ref C))) (hx : ∀ d, dx = some d → ∃ fs, H d = some (.xd fs)) (xc : XCls K C) (ec : clsV c = some u) (hk : PySem.W.kitOne K (.ref C) u = some b) (q : Q (.bl b) H) : rIsiX K [.ref a, c] H Q := ⟨a, C, dx, c, u, b, rfl, ha, hx, xc, ec, hk, q⟩
noncomputable def marksOf (i : Nat) : List Bool := [decide (i = 0), decide (i = 1), decide (i = 2), decide (i = 3), decide (i = 4), decide (i = 5), decide (i = 6), decide (i = 7), decide (i = 8), decide (i = 9)]
noncomputable abbrev s_law_marks : Stmt := top 32
theorem sc_law_marks : FnScope ["_law_e", "_law_some"] ["_law_e"] (defScope s_law_marks) := ⟨rfl, rfl, rfl, by decide +kernel, rfl, by decide +kernel, by decide +kernel⟩
noncomputable abbrev Df_law_marks (K : PySem.W.Frag) (mg : Str → Option Value) (f : Addr) (fd : FuncData) : Prop := Def K mg "_law_marks" s_law_marks ["_law_e"] f fd
noncomputable def spMarks (K : PySem.W.Frag) (cl : Cl) : Sp := fun vs H Q _ => ∃ (a C : Addr) (dx : Option Addr) (i : Nat), vs = [.ref a] ∧ H a = some (excHo dx a (.ref C)) ∧ (∀ d, dx = some d → ∃ fs, H d = some (.xd fs)) ∧ WordC K cl C i ∧ ∀ p H', Same H H' → H' p = some (.lst ((marksOf i).map V.bl)) → Q (.ref p) H'
theorem ok_law_marks (D : Df_law_marks K mg f fd) (T : Txt K mg t1 t2 cl) : FnOkM P w K mg base 1 f fd ["_law_e"] (spMarks K cl) := by
  refine D.fn.okM sc_law_marks (fun vs H Q E h => ?_) (fun cdv A outer s H vs Q E hr h => ?_)
  · obtain ⟨a, C, dx, i, rfl, _⟩ := h
    rfl
  · obtain ⟨a, C, dx, i, rfl, ha, hx, W, k⟩ := h
    refine ⟨_, (pss_cons (ps_set (i := 1) sc_law_marks.nd rfl (by first | exact Or.inl rfl | exact Or.inr rfl) (pe_lst (pa_cons (pe_callB call_isinstX (by rfl) T.no_isinstance PyProof.Rows.boot_isinstance (pa_cons (pv 0) (pa_cons (pe_glob (v := .ref _) rfl T.mg_NoNumber rfl) pa_nil))) (pa_cons (pe_callB call_isinstX (by rfl) T.no_isinstance PyProof.Rows.boot_isinstance (pa_cons (pv 0) (pa_cons (pe_glob (v := .ref _) rfl T.mg_NoPrime rfl) pa_nil))) (pa_cons (pe_callB call_isinstX (by rfl) T.no_isinstance PyProof.Rows.boot_isinstance (pa_cons (pv 0) (pa_cons (pe_glob (v := .ref _) rfl T.mg_NoPair rfl) pa_nil))) (pa_cons (pe_callB call_isinstX (by rfl) T.no_isinstance PyProof.Rows.boot_isinstance (pa_cons (pv 0) (pa_cons (pe_glob (v := .ref _) rfl T.mg_NoPaper rfl) pa_nil))) pa_nil))))))
 (pss_cons (ps_set (i := 1) sc_law_marks.nd rfl (by first | exact Or.inl rfl | exact Or.inr rfl) (pe_op op_cat (pv 1) (pe_lst (pa_cons (pe_callB call_isinstX (by rfl) T.no_isinstance PyProof.Rows.boot_isinstance (pa_cons (pv 0) (pa_cons (pe_glob (v := .ref _) rfl T.mg_NoBases rfl) pa_nil))) (pa_cons (pe_callB call_isinstX (by rfl) T.no_isinstance PyProof.Rows.boot_isinstance (pa_cons (pv 0) (pa_cons (pe_glob (v := .ref _) rfl T.mg_NoText rfl) pa_nil))) (pa_cons (pe_callB call_isinstX (by rfl) T.no_isinstance PyProof.Rows.boot_isinstance (pa_cons (pv 0) (pa_cons (pe_glob (v := .ref _) rfl T.mg_NoLine rfl) pa_nil))) (pa_cons (pe_callB call_isinstX (by rfl) T.no_isinstance PyProof.Rows.boot_isinstance (pa_cons (pv 0) (pa_cons (pe_glob (v := .ref _) rfl T.mg_NoName rfl) pa_nil))) pa_nil)))))))
 (pss_one (ps_ret (pe_op op_cat (pv 1) (pe_lst (pa_cons (pe_callB call_isinstX (by rfl) T.no_isinstance PyProof.Rows.boot_isinstance (pa_cons (pv 0) (pa_cons (pe_glob (v := .ref _) rfl T.mg_NoDeed rfl) pa_nil))) (pa_cons (pe_callB call_isinstX (by rfl) T.no_isinstance PyProof.Rows.boot_isinstance (pa_cons (pv 0) (pa_cons (pe_glob (v := .ref _) rfl T.mg_TooGreat rfl) pa_nil))) pa_nil)))))))), ?_⟩
    have e0 : L2.start ["_law_e", "_law_some"] [.ref a] = [some (.ref a), none] := rfl
    rw [e0]; clear e0
    simp only [tSeq, tIfS, tTest, tRet, tRetN, tNext, tDrop, tAsg, tPar, tPar3, tAug, tVar, tC, tOp, tUn, rI, rI0, rU, tB, tAnd, tOr, tNot, tAndV, tOrV, tNotV, tIf, gName, gNil, gCons, gTup, gSub, tCB, tCons, tNil, tCall, tChain, ipI, tIsN, tNotN, tBM, tyV, tTup, tLst, rAppend, rCat, scal_ii, scal_bb, scal_ss, scal_ni, scal_in, rEq, rNe, List.getElem?_cons_zero, List.getElem?_cons_succ, List.set_cons_zero, List.set_cons_succ, eq_self, and_assoc, Option.some.injEq, V.int.injEq, V.bl.injEq, V.ref.injEq, V.str.injEq, List.cons.injEq, exists_eq_left', exists_eq_left, exists_and_left, List.nil_append, List.cons_append, List.append_nil, true_and, and_true, decide_eq_true_eq, Bool.not_eq_true', decide_eq_false_iff_not, if_true, if_false, Bool.not_true, Bool.not_false, Bool.false_eq_true, reduceCtorEq, decide_true, decide_false, ite_true, ite_false, rSetL, rIxL, tRaise, jCons, jNil, tFmt, tDNew, rCount, rIndex, tCont, tBreak, Int.reduceToNat, Int.reducePow]
    refine isiX ha hx W.xc rfl W.k0 (isiX ha hx W.xc rfl W.k1 (isiX ha hx W.xc rfl W.k2 (isiX ha hx W.xc rfl W.k3 ⟨by show 4 ≤ sizeLine; decide, fun p hp => ?_⟩)))
    obtain ⟨L1, e1⟩ : ∃ L, [V.bl (decide (i = 0)), V.bl (decide (i = 1)), V.bl (decide (i = 2)), V.bl (decide (i = 3))] = L := ⟨_, rfl⟩
    rw [e1]
    have z1 : L1.length = 4 := by rw [← e1]; rfl
    have h1 := keep (u := .lst L1) ha hp
    have s1 : Same H (upd H p (.lst L1)) := fun b o e => keep e hp
    have m1 : (upd H p (.lst L1)) p = some (.lst L1) := upd_same
    have x1 := xdS hx s1
    generalize upd H p (.lst L1) = H1 at h1 s1 m1 x1 ⊢
    refine isiX h1 x1 W.xc rfl W.k4 (isiX h1 x1 W.xc rfl W.k5 (isiX h1 x1 W.xc rfl W.k6 (isiX h1 x1 W.xc rfl W.k7 ⟨by show 4 ≤ sizeLine; decide, fun p1 hp1 => ?_⟩)))
    obtain ⟨L2, e2⟩ : ∃ L, [V.bl (decide (i = 4)), V.bl (decide (i = 5)), V.bl (decide (i = 6)), V.bl (decide (i = 7))] = L := ⟨_, rfl⟩
    rw [e2]
    have z2 : L2.length = 4 := by rw [← e2]; rfl
    refine ⟨_, keep m1 hp1, _, upd_same, small1000' (by rw [z1, z2]; decide), fun p2 hp2 => ?_⟩
    have h2 := keep (u := .lst (L1 ++ L2)) (keep (u := .lst L2) h1 hp1) hp2
    have s2 : Same H (upd (upd H1 p1 (.lst L2)) p2 (.lst (L1 ++ L2))) := fun b o e => keep (keep (s1 b o e) hp1) hp2
    have m2 : (upd (upd H1 p1 (.lst L2)) p2 (.lst (L1 ++ L2))) p2 = some (.lst (L1 ++ L2)) := upd_same
    have x2 := xdS hx s2
    generalize (upd (upd H1 p1 (.lst L2)) p2 (.lst (L1 ++ L2))) = H2 at h2 s2 m2 x2 ⊢
    refine isiX h2 x2 W.xc rfl W.k8 (isiX h2 x2 W.xc rfl W.k9 ⟨by show 2 ≤ sizeLine; decide, fun p3 hp3 => ?_⟩)
    refine ⟨_, keep m2 hp3, _, upd_same, small1000' (by rw [List.length_append, z1, z2]; exact (show 4 + 4 + 2 ≤ 1000 by decide)), fun p4 hp4 => ?_⟩
    exact k p4 _ (fun b o e => keep (keep (s2 b o e) hp3) hp4) (by rw [← e1, ← e2]; exact upd_same)
noncomputable abbrev MM_law_marks (P : Program) (w : World) (K : PySem.W.Frag) (mg : Str → Option Value) (base : Heap) (cl : Cl) : Prop := ∃ f fd, Df_law_marks K mg f fd ∧ FnOkM P w K mg base 1 f fd ["_law_e"] (spMarks K cl)
noncomputable abbrev s_law_said : Stmt := top 33
theorem sc_law_said : FnScope ["_law_call", "_law_found", "_law_e", "_law_marks_here", "_law_words"] ["_law_call"] (defScope s_law_said) := ⟨rfl, rfl, rfl, by decide +kernel, rfl, by decide +kernel, by decide +kernel⟩
noncomputable abbrev Df_law_said (K : PySem.W.Frag) (mg : Str → Option Value) (f : Addr) (fd : FuncData) : Prop := Def K mg "_law_said" s_law_said ["_law_call"] f fd
noncomputable def spSaid (P : Program) (w : World) (K : PySem.W.Frag) (mg : Str → Option Value) (cl : Cl) (b : Heap) : Sp := fun vs H Q _ => ∃ (fl : Addr) (fdl : FuncData) (spL : Sp), vs = [.ref fl] ∧ H fl = some (LamO fl fdl) ∧ FnOk P w K mg b (CXE P w) 9 fl fdl [] spL ∧ Binds K fdl [] [] ∧
  ((∃ (C : Addr) (i : Nat), WordC K cl C i ∧ (i = 0 ∨ i = 1) ∧ (∀ R : XK, R (.ref C) none H → spL [] H (fun _ _ => False) R) ∧ ∀ H'', Same H H'' → Q (.str (wordOf i)) H'') ∨
   (∃ p m : Int, WordC K cl cl.tg 9 ∧ PySem.W.findIn K (.ref cl.tg) "many" = some none ∧ PySem.W.findIn K (.ref cl.tg) "most" = some none ∧ (∀ R : XK, (∀ d H', Same H H' → H' d = some (.xd (fsG p m)) → R (.ref cl.tg) (some d) H') → spL [] H (fun _ _ => False) R) ∧ ∀ q H'', Same H H'' → H'' q = some (.tup [.str "great", .int p, .int m]) → Q (.ref q) H'') ∨
   (∃ told : V → Prop, (∀ Q' : VK, (∀ v H', told v → Same H H' → Q' v H') → spL [] H Q' E0) ∧ ∀ v q H'', told v → Same H H'' → H'' q = some (.tup [.str "told", v]) → Q (.ref q) H''))
theorem ok_law_said (D : Df_law_said K mg f fd) (T : Txt K mg t1 t2 cl) (o1 : MM_law_marks P w K mg base cl) : FnOk P w K mg base CX0 10 f fd ["_law_call"] (spSaid P w K mg cl base) := by
  obtain ⟨_, _, D_law_marks, M_law_marks⟩ := o1
  refine D.fn.ok sc_law_said (fun vs H Q E h => ?_) (fun cdv A outer s H vs Q E hr h => ?_)
  · obtain ⟨fl, fdl, spL, rfl, _⟩ := h
    rfl
  · obtain ⟨fl, fdl, spL, rfl, hfl, F, hB, h⟩ := h
    refine ⟨_, (pss_cons (PS.or (ps_tryR (ie := 2) sc_law_said.nd rfl rfl rfl rfl rfl rfl rfl T.mg_PrimeError (px_set0 (i := 0) rfl (Or.inl rfl) hr) (fun v => (pss_cons (ps_set (i := 3) sc_law_said.nd rfl (by first | exact Or.inl rfl | exact Or.inr rfl) (pe_callM (M_law_marks.mono (by decide)) (RoomM.of hr) rfl D_law_marks.mgx D_law_marks.fn.kp D_law_marks.bd .nil (pa_cons (pv 2) pa_nil)))
 (pss_cons (ps_if (PW.pt (pw_or (pt_not (pt_val (pe_callB (call_isinstXK (K := K) rfl) (by rfl) T.no_isinstance PyProof.Rows.boot_isinstance (pa_cons (pv 2) (pa_cons (pe_bltn (v := .ty "ValueError") rfl T.no_ValueError PyProof.Rows.Boot.«ValueError» rfl) pa_nil))))) (pw_or1 (pt_cmpR op_ne (pe_bmK (K := K) rfl PySem.F.plainAttrs_list PySem.F.slot_list_count PySem.F.type_list_count mt_count (pv 3) (pa_cons pe_bl pa_nil)) pe_int (nomark _)))))
 (pss_one (ps_ret pe_str))
 pss_nil)
 (pss_cons (ps_if (pt_val (pe_ix (ix_listK (K := K) rfl) (pv 3) pe_int (fun _ _ => rfl)))
 (pss_one (ps_ret (pe_tup (pa_cons pe_str (pa_cons (pe_fldXK (K := K) rfl (pv 2) rfl) (pa_cons (pe_fldXK (K := K) rfl (pv 2) rfl) pa_nil))))))
 pss_nil)
 (pss_cons (ps_set (i := 4) sc_law_said.nd rfl (by first | exact Or.inl rfl | exact Or.inr rfl) (pe_lst (pa_cons pe_str (pa_cons pe_str (pa_cons pe_str (pa_cons pe_str (pa_cons pe_str (pa_cons pe_str (pa_cons pe_str (pa_cons pe_str (pa_cons pe_str pa_nil)))))))))))
 (pss_one (ps_ret (pe_ix (ix_listK (K := K) rfl) (pv 4) (pe_bmK (K := K) rfl PySem.F.plainAttrs_list PySem.F.slot_list_index PySem.F.type_list_index mt_index (pv 3) (pa_cons pe_bl pa_nil)) (fun _ _ => rfl)))))))))) (ps_tryN (pss_one (ps_set (i := 1) sc_law_said.nd rfl (by first | exact Or.inl rfl | exact Or.inr rfl) (pe_callV0 (i := 0) rfl (Or.inl rfl) hr)))))
 (pss_one (ps_ret (pe_tup (pa_cons pe_str (pa_cons (pv 1) pa_nil)))))), ?_⟩
    have e0 : L2.start ["_law_call", "_law_found", "_law_e", "_law_marks_here", "_law_words"] [.ref fl] = [some (.ref fl), none, none, none, none] := rfl
    rw [e0]; clear e0
    refine tSeq_gen fun R hR => ?_
    dsimp only [tSeq]
    rcases h with ⟨C, i, W, hi, kE, k⟩ | ⟨p, m, W, n1, n2, kE, k⟩ | ⟨told, kE, k⟩
    · left
      simp only [tSeq, tIfS, tTest, tRet, tRetN, tNext, tDrop, tAsg, tPar, tPar3, tAug, tVar, tC, tOp, tUn, rI, rI0, rU, tB, tAnd, tOr, tNot, tAndV, tOrV, tNotV, tIf, gName, gNil, gCons, gTup, gSub, tCB, tCons, tNil, tCall, tChain, ipI, tIsN, tNotN, tBM, tyV, tTup, tLst, rAppend, rCat, scal_ii, scal_bb, scal_ss, scal_ni, scal_in, rEq, rNe, List.getElem?_cons_zero, List.getElem?_cons_succ, List.set_cons_zero, List.set_cons_succ, eq_self, and_assoc, Option.some.injEq, V.int.injEq, V.bl.injEq, V.ref.injEq, V.str.injEq, List.cons.injEq, exists_eq_left', exists_eq_left, exists_and_left, List.nil_append, List.cons_append, List.append_nil, true_and, and_true, decide_eq_true_eq, Bool.not_eq_true', decide_eq_false_iff_not, if_true, if_false, Bool.not_true, Bool.not_false, Bool.false_eq_true, reduceCtorEq, decide_true, decide_false, ite_true, ite_false, rSetL, rIxL, tRaise, jCons, jNil, tFmt, tDNew, rCount, rIndex, tCont, tBreak, Int.reduceToNat, Int.reducePow, tTryR, xCall0]
      refine ⟨fdl, hfl, spL, F, hB, kE _ ⟨W.ex, fun a ha => ?_⟩⟩
      have s1 : Same H (upd H a (excH a (.ref C))) := fun b o e => keep e ha
      have e1 : (upd H a (excH a (.ref C))) a = some (excH a (.ref C)) := upd_same
      generalize upd H a (excH a (.ref C)) = H1 at s1 e1 ⊢
      refine ⟨a, C, none, i, rfl, e1, (fun _ z => nomatch z), W, fun p H2 s2 m2 => ?_⟩
      have e2 := s2 _ _ e1
      simp only [tSeq, tIfS, tTest, tRet, tRetN, tNext, tDrop, tAsg, tPar, tPar3, tAug, tVar, tC, tOp, tUn, rI, rI0, rU, tB, tAnd, tOr, tNot, tAndV, tOrV, tNotV, tIf, gName, gNil, gCons, gTup, gSub, tCB, tCons, tNil, tCall, tChain, ipI, tIsN, tNotN, tBM, tyV, tTup, tLst, rAppend, rCat, scal_ii, scal_bb, scal_ss, scal_ni, scal_in, rEq, rNe, List.getElem?_cons_zero, List.getElem?_cons_succ, List.set_cons_zero, List.set_cons_succ, eq_self, and_assoc, Option.some.injEq, V.int.injEq, V.bl.injEq, V.ref.injEq, V.str.injEq, List.cons.injEq, exists_eq_left', exists_eq_left, exists_and_left, List.nil_append, List.cons_append, List.append_nil, true_and, and_true, decide_eq_true_eq, Bool.not_eq_true', decide_eq_false_iff_not, if_true, if_false, Bool.not_true, Bool.not_false, Bool.false_eq_true, reduceCtorEq, decide_true, decide_false, ite_true, ite_false, rSetL, rIxL, tRaise, jCons, jNil, tFmt, tDNew, rCount, rIndex, tCont, tBreak, Int.reduceToNat, Int.reducePow]
      refine isiX e2 (fun _ z => nomatch z) W.xc rfl W.ve ⟨_, rfl, ?_⟩
      rw [if_neg (by decide)]
      refine ⟨.inl ⟨_, SqL.of m2⟩, marksOf i, m2, ?_⟩
      have ct : ((marksOf i).countP id : Nat) = 1 := by rcases hi with rfl | rfl <;> rfl
      rw [ct, if_neg (fun h => h rfl)]
      refine ⟨_, SqL.of m2, V.bl (decide (i = 9)), rfl, _, rfl, ?_⟩
      rw [if_neg (by rcases hi with rfl | rfl <;> decide)]
      refine ⟨by show 9 ≤ sizeLine; decide, fun p6 hp6 => ?_⟩
      have m6 := keep (u := .lst [V.str (Str.ofString "number"), V.str (Str.ofString "prime"), V.str (Str.ofString "pair"), V.str (Str.ofString "paper"), V.str (Str.ofString "bases"), V.str (Str.ofString "text"), V.str (Str.ofString "line"), V.str (Str.ofString "name"), V.str (Str.ofString "deed")]) m2 hp6
      refine ⟨.inl ⟨_, SqL.of m6⟩, marksOf i, m6, i, ?_, ?_, ?_, _, SqL.of upd_same, V.str (wordOf i), ?_, k _ (fun b o e => keep (s2 b o (s1 b o e)) hp6)⟩
      · rcases hi with rfl | rfl <;> rfl
      · intro m hm
        rcases hi with rfl | rfl
        · omega
        · have : m = 0 := by omega
          rcases this with rfl
          rfl
      · omega
      · rcases hi with rfl | rfl <;> rfl
    · left
      simp only [tSeq, tIfS, tTest, tRet, tRetN, tNext, tDrop, tAsg, tPar, tPar3, tAug, tVar, tC, tOp, tUn, rI, rI0, rU, tB, tAnd, tOr, tNot, tAndV, tOrV, tNotV, tIf, gName, gNil, gCons, gTup, gSub, tCB, tCons, tNil, tCall, tChain, ipI, tIsN, tNotN, tBM, tyV, tTup, tLst, rAppend, rCat, scal_ii, scal_bb, scal_ss, scal_ni, scal_in, rEq, rNe, List.getElem?_cons_zero, List.getElem?_cons_succ, List.set_cons_zero, List.set_cons_succ, eq_self, and_assoc, Option.some.injEq, V.int.injEq, V.bl.injEq, V.ref.injEq, V.str.injEq, List.cons.injEq, exists_eq_left', exists_eq_left, exists_and_left, List.nil_append, List.cons_append, List.append_nil, true_and, and_true, decide_eq_true_eq, Bool.not_eq_true', decide_eq_false_iff_not, if_true, if_false, Bool.not_true, Bool.not_false, Bool.false_eq_true, reduceCtorEq, decide_true, decide_false, ite_true, ite_false, rSetL, rIxL, tRaise, jCons, jNil, tFmt, tDNew, rCount, rIndex, tCont, tBreak, Int.reduceToNat, Int.reducePow, tTryR, xCall0]
      refine ⟨fdl, hfl, spL, F, hB, kE _ fun d H0 s0 hd => ⟨W.ex, fun a ha => ?_⟩⟩
      have s1 : Same H (upd H0 a (excHo (some d) a (.ref cl.tg))) := fun b o e => keep (s0 b o e) ha
      have e1 : (upd H0 a (excHo (some d) a (.ref cl.tg))) a = some (excHo (some d) a (.ref cl.tg)) := upd_same
      have d1 := keep (u := excHo (some d) a (.ref cl.tg)) hd ha
      generalize upd H0 a (excHo (some d) a (.ref cl.tg)) = H1 at s1 e1 d1 ⊢
      refine ⟨a, cl.tg, some d, 9, rfl, e1, (fun _ z => by cases z; exact ⟨_, d1⟩), W, fun pm H2 s2 m2 => ?_⟩
      have e2 := s2 _ _ e1
      have d2 := s2 _ _ d1
      simp only [tSeq, tIfS, tTest, tRet, tRetN, tNext, tDrop, tAsg, tPar, tPar3, tAug, tVar, tC, tOp, tUn, rI, rI0, rU, tB, tAnd, tOr, tNot, tAndV, tOrV, tNotV, tIf, gName, gNil, gCons, gTup, gSub, tCB, tCons, tNil, tCall, tChain, ipI, tIsN, tNotN, tBM, tyV, tTup, tLst, rAppend, rCat, scal_ii, scal_bb, scal_ss, scal_ni, scal_in, rEq, rNe, List.getElem?_cons_zero, List.getElem?_cons_succ, List.set_cons_zero, List.set_cons_succ, eq_self, and_assoc, Option.some.injEq, V.int.injEq, V.bl.injEq, V.ref.injEq, V.str.injEq, List.cons.injEq, exists_eq_left', exists_eq_left, exists_and_left, List.nil_append, List.cons_append, List.append_nil, true_and, and_true, decide_eq_true_eq, Bool.not_eq_true', decide_eq_false_iff_not, if_true, if_false, Bool.not_true, Bool.not_false, Bool.false_eq_true, reduceCtorEq, decide_true, decide_false, ite_true, ite_false, rSetL, rIxL, tRaise, jCons, jNil, tFmt, tDNew, rCount, rIndex, tCont, tBreak, Int.reduceToNat, Int.reducePow]
      refine isiX e2 (fun _ z => by cases z; exact ⟨_, d2⟩) W.xc rfl W.ve ⟨_, rfl, ?_⟩
      rw [if_neg (by decide)]
      refine ⟨.inl ⟨_, SqL.of m2⟩, marksOf 9, m2, ?_⟩
      have ct : ((marksOf 9).countP id : Nat) = 1 := rfl
      rw [ct, if_neg (fun h => h rfl)]
      refine ⟨_, SqL.of m2, V.bl true, rfl, _, rfl, ?_⟩
      rw [if_pos rfl]
      dsimp only [tFldX, tVar]
      refine ⟨_, rfl, a, cl.tg, d, _, _, rfl, e2, d2, W.xc, n1, rfl, _, rfl, a, cl.tg, d, _, _, rfl, e2, d2, W.xc, n2, rfl, by show 3 ≤ sizeLine; decide, fun q hq => ?_⟩
      exact k q _ (fun b o e => keep (s2 b o (s1 b o e)) hq) upd_same
    · right
      subst hR
      simp only [tSeq, tIfS, tTest, tRet, tRetN, tNext, tDrop, tAsg, tPar, tPar3, tAug, tVar, tC, tOp, tUn, rI, rI0, rU, tB, tAnd, tOr, tNot, tAndV, tOrV, tNotV, tIf, gName, gNil, gCons, gTup, gSub, tCB, tCons, tNil, tCall, tChain, ipI, tIsN, tNotN, tBM, tyV, tTup, tLst, rAppend, rCat, scal_ii, scal_bb, scal_ss, scal_ni, scal_in, rEq, rNe, List.getElem?_cons_zero, List.getElem?_cons_succ, List.set_cons_zero, List.set_cons_succ, eq_self, and_assoc, Option.some.injEq, V.int.injEq, V.bl.injEq, V.ref.injEq, V.str.injEq, List.cons.injEq, exists_eq_left', exists_eq_left, exists_and_left, List.nil_append, List.cons_append, List.append_nil, true_and, and_true, decide_eq_true_eq, Bool.not_eq_true', decide_eq_false_iff_not, if_true, if_false, Bool.not_true, Bool.not_false, Bool.false_eq_true, reduceCtorEq, decide_true, decide_false, ite_true, ite_false, rSetL, rIxL, tRaise, jCons, jNil, tFmt, tDNew, rCount, rIndex, tCont, tBreak, Int.reduceToNat, Int.reducePow, tCallV0]
      refine ⟨fdl, hfl, spL, F, hB, kE _ fun v H' hv s0 => ⟨by show 2 ≤ sizeLine; decide, fun q hq => ?_⟩⟩
      exact k v q _ hv (fun b o e => keep (s0 b o e) hq) upd_same
end
end PP
set_option Elab.async false
set_option linter.all false
set_option maxRecDepth 100000
set_option maxHeartbeats 4000000
namespace PP
open PySem L2 MM
section
variable {P : Program} {w : World} {K : PySem.W.Frag} {mg : Str → Option Value} {base : Heap} {t1 t2 : Tok} {cl : Cl} {f : Addr}
theorem Step.same {a : Addr} {H H1 H2 : Hp} (x : Step a H H1) (y : Same H1 H2) : Step a H H2 := by
  obtain ⟨u, v, e, r⟩ := x.st
  exact ⟨⟨u, v, y a _ e, r⟩, fun b o hb e => y b o (x.but b o hb e)⟩
noncomputable def Tyd (K : PySem.W.Frag) (a : Addr) (H : Hp) (v : V) : Prop := (∃ n, TyOf K H v (.type n)) ∧ ∀ p, v = .ref p → p ≠ a
theorem Tyd.step {a : Addr} {H H' : Hp} {v : V} (h : Tyd K a H v) (s : But a H H') : Tyd K a H' v := by
  obtain ⟨⟨n, ty⟩, ne⟩ := h
  refine ⟨⟨n, ?_⟩, ne⟩
  cases ty with
  | non => exact .non
  | bl x => exact .bl x
  | int i => exact .int i
  | str x => exact .str x
  | flt x => exact .flt x
  | lst e => exact .lst (s _ _ (ne _ rfl) e)
  | frz e => exact .frz (s _ _ (ne _ rfl) e)
  | tup e => exact .tup (s _ _ (ne _ rfl) e)
  | dK e => exact .dK (s _ _ (ne _ rfl) e)
  | dT e => exact .dT (s _ _ (ne _ rfl) e)
theorem Step.tab {a Pt : Addr} {q : Str} {H H1 : Hp} (st : StAt H a) (x : Step a H H1) (t : TabOk H Pt q) : TabOk H1 Pt q := t.kept fun b o e n => x.but b o (fun z => by
  obtain ⟨u, v, e', _⟩ := st
  rw [z, e'] at e
  cases e
  exact n _ rfl) e
noncomputable def qL : Str := ("law" : Str) ++ ".<locals>." ++ "<lambda>"
noncomputable def KX (Pt pc : Addr) (H H' : Hp) : Prop := ∀ b o, b ≠ Pt → b ≠ pc → H b = some o → H' b = some o
theorem KX.trans {Pt pc : Addr} {H H1 H2 : Hp} (a : KX Pt pc H H1) (b : KX Pt pc H1 H2) : KX Pt pc H H2 := fun c o h1 h2 e => b c o h1 h2 (a c o h1 h2 e)
noncomputable def Ty2 (K : PySem.W.Frag) (Pt pc : Addr) (H : Hp) (v : V) : Prop := (∃ n, TyOf K H v (.type n)) ∧ ∀ p, v = .ref p → p ≠ Pt ∧ p ≠ pc
theorem TyOf.keepK {K : PySem.W.Frag} {H H' : Hp} {v : V} {n : String} (ty : TyOf K H v (.type n)) (s : ∀ p o, v = .ref p → H p = some o → H' p = some o) : TyOf K H' v (.type n) := by
  cases ty with
  | non => exact .non
  | bl x => exact .bl x
  | int i => exact .int i
  | str x => exact .str x
  | flt x => exact .flt x
  | lst e => exact .lst (s _ _ rfl e)
  | frz e => exact .frz (s _ _ rfl e)
  | tup e => exact .tup (s _ _ rfl e)
  | dK e => exact .dK (s _ _ rfl e)
  | dT e => exact .dT (s _ _ rfl e)
theorem TyOf.has {K : PySem.W.Frag} {H : Hp} {p : Addr} {n : String} (ty : TyOf K H (.ref p) (.type n)) : ∃ o, H p = some o ∧ ∀ ps, o ≠ .tbl ps := by
  cases ty with
  | lst e => exact ⟨_, e, fun _ z => nomatch z⟩
  | frz e => exact ⟨_, e, fun _ z => nomatch z⟩
  | tup e => exact ⟨_, e, fun _ z => nomatch z⟩
  | dK e => exact ⟨_, e, fun _ z => nomatch z⟩
  | dT e => exact ⟨_, e, fun _ z => nomatch z⟩
theorem Ty2.keep {Pt pc : Addr} {H H' : Hp} {v : V} (h : Ty2 K Pt pc H v) (k : KX Pt pc H H') : Ty2 K Pt pc H' v := by
  obtain ⟨⟨n, ty⟩, ne⟩ := h
  exact ⟨⟨n, TyOf.keepK ty fun p o e q => k p o (ne p e).1 (ne p e).2 q⟩, ne⟩
structure Lm (Pt pc : Addr) (q : Str) (H : Hp) (fl : Addr) (fd : FuncData) (c' : Addr) : Prop where
  n1 : fl ≠ Pt
  n2 : fl ≠ pc
  n3 : c' ≠ Pt
  n4 : c' ≠ pc
  lam : H fl = some (LamO fl fd)
  cod : H c' = some (CodO c' q)
theorem Lm.keep {Pt pc : Addr} {q : Str} {H H' : Hp} {fl c' : Addr} {fd : FuncData} (h : Lm Pt pc q H fl fd c') (k : KX Pt pc H H') : Lm Pt pc q H' fl fd c' := ⟨h.n1, h.n2, h.n3, h.n4, k _ _ h.n1 h.n2 h.lam, k _ _ h.n3 h.n4 h.cod⟩
theorem Lm.of {Pt pc : Addr} {q : Str} {H : Hp} {fl c' : Addr} {fd : FuncData} (tb : TabOk H Pt q) (l : H fl = some (LamO fl fd)) (c : H c' = some (CodO c' q)) (np : fl ≠ pc) (nq : c' ≠ pc) : Lm Pt pc q H fl fd c' := by
  obtain ⟨ps, e3, _⟩ := tb
  refine ⟨fun z => ?_, np, fun z => ?_, nq, l, c⟩
  · rw [z, e3] at l; exact nomatch Option.some.inj l
  · rw [z, e3] at c; exact nomatch Option.some.inj c
theorem Lm.first {Pt pc : Addr} {q : Str} {H : Hp} {fl c' : Addr} {fd : FuncData} (tb : TabOk H Pt q) (l : H fl = some (LamO fl fd)) (c : H c' = some (CodO c' q)) (h : H pc = none) : Lm Pt pc q H fl fd c' := .of tb l c (ne_of_none l h) (ne_of_none c h)
theorem Lm.next {Pt pc : Addr} {q : Str} {H : Hp} {fl c' : Addr} {fd : FuncData} {xs : List V} (tb : TabOk H Pt q) (l : H fl = some (LamO fl fd)) (c : H c' = some (CodO c' q)) (h : H pc = some (.lst xs)) : Lm Pt pc q H fl fd c' :=
  .of tb l c (fun z => by rw [z, h] at l; exact nomatch Option.some.inj l) (fun z => by rw [z, h] at c; exact nomatch Option.some.inj c)
theorem Lm.self {Pt : Addr} {q : Str} {H : Hp} {fl c' : Addr} {fd : FuncData} (tb : TabOk H Pt q) (l : H fl = some (LamO fl fd)) (c : H c' = some (CodO c' q)) : Lm Pt Pt q H fl fd c' := by
  obtain ⟨ps, e3, r⟩ := tb
  exact Lm.of ⟨ps, e3, r⟩ l c (fun z => by rw [z, e3] at l; exact nomatch Option.some.inj l) (fun z => by rw [z, e3] at c; exact nomatch Option.some.inj c)
theorem Tyd.tyX {a Pt : Addr} {q : Str} {H L : Hp} {v : V} (h : Tyd K a H v) (tb : TabOk H Pt q) (s : SameX Pt H L) : (∃ n, TyOf K L v (.type n)) ∧ ∀ p, v = .ref p → p ≠ Pt := by
  obtain ⟨⟨n, ty⟩, _⟩ := h
  have nP : ∀ p, v = .ref p → p ≠ Pt := fun p e z => by
    subst e
    obtain ⟨o, e1, e2⟩ := TyOf.has ty
    obtain ⟨ps, e3, _⟩ := tb
    rw [z, e3] at e1
    cases e1
    exact e2 _ rfl
  exact ⟨⟨n, TyOf.keepK ty fun p o e q => s p o (nP p e) q⟩, nP⟩
theorem num_of {X : Cx} {σ : St} {b : Heap} {M H' : Hp} {Pt pc fl c' : Addr} {q qual : Str} {params : Arguments} {body : Expr} {sc : Scope} {pm ctv : Value} {N : List Str} {js : List Nat} {vs : List V} {sp : Hp → VK → XK → Prop} {Q' : VK} (hc : CellsIn X σ b)
    (g : Lm Pt pc q M fl (PySem.W.kla_fn "<lambda>" qual params body sc (clOf sc X.env) pm (.ref c') ctv) c') (sm : Same M H') (W : WordC K cl cl.nn 0) (hck : lamCk sc X.env.scope N X.N js = true) (hinj : (X.env.cells.map (·.2)).Nodup) (hhas : ∀ x, X.env.scope.names.lookup x = some .cell → ∃ c, X.env.cells.lookup x = some c)
    (hv : vs.length = js.length) (hσ : ∀ (i j : Nat) (v : V), js[i]? = some j → vs[i]? = some v → σ[j]? = some (some v)) (hp : ∀ pm cd ctv, bindArgs (PySem.W.kla_fn "<lambda>" qual params body sc (clOf sc X.env) pm cd ctv) ⟨[], []⟩ = pure [])
    (hbody : ∀ (A : Around) (outer : List Env) (s : Shared) (H : Hp) (Q : VK) (E : XK), Room 8 (A.deeper (PySem.W.envX qual sc s.heap.objs.size fl (.ref c') (clOf sc X.env))) → sp H Q E → ∃ t, PE (cxLam P w K mg b N qual sc fl (.ref c') (clOf sc X.env) A outer s H E) body t ∧ t (vs.map some) H Q)
    (h : ∀ R : XK, R (.ref cl.nn) none H' → sp H' (fun _ _ => False) R) (hQ : ∀ H'', Same H' H'' → Q' (.str (Str.ofString "number")) H'') (hq : qual = q) : spSaid P w K mg cl b [.ref fl] H' Q' E0 := by
  subst hq
  obtain ⟨l1, l2, l3, l4⟩ := lam_facts hck hinj hhas hc hv hσ
  exact ⟨fl, _, _, rfl, sm _ _ g.lam, lam_ok l1 l2 l3 l4 hbody, lam_binds hp, .inl ⟨cl.nn, 0, W, .inl rfl, fun R hR => ⟨rfl, sm _ _ g.lam, sm _ _ g.cod, h R hR⟩, fun H'' s => hQ H'' s⟩⟩
theorem trip {m : Int} (h1 : 1 ≤ m) (h2 : m ≤ 163) : (6 * m + 1) * (12 * m + 1) * (18 * m + 1) % 2 = 1 ∧ 3 ≤ (6 * m + 1) * (12 * m + 1) * (18 * m + 1) ∧ ((6 * m + 1) * (12 * m + 1)).natAbs < 10 ^ 100 := by
  obtain ⟨k, rfl⟩ := Int.eq_ofNat_of_zero_le (show 0 ≤ m by omega)
  have key : ∀ k : Nat, k < 164 → (6 * k + 1) * (12 * k + 1) * (18 * k + 1) % 2 = 1 ∧ (k = 0 ∨ 3 ≤ (6 * k + 1) * (12 * k + 1) * (18 * k + 1)) ∧ (6 * k + 1) * (12 * k + 1) < 10 ^ 100 := by decide +kernel
  obtain ⟨a, b, c⟩ := key k (by omega)
  have e : (6 * (k : Int) + 1) * (12 * (k : Int) + 1) * (18 * (k : Int) + 1) = (((6 * k + 1) * (12 * k + 1) * (18 * k + 1) : Nat) : Int) := by push_cast; rfl
  have e2 : (6 * (k : Int) + 1) * (12 * (k : Int) + 1) = (((6 * k + 1) * (12 * k + 1) : Nat) : Int) := by push_cast; rfl
  rw [e, e2]
  exact ⟨by omega, by omega, by omega⟩
noncomputable def OddN (z : Int) : Prop := 3 ≤ z ∧ z ≤ 1000000000 ∧ z % 2 = 1
theorem known_odd {c : Int} (h0 : 0 ≤ c) (h1 : c < 16) : ∃ z : Int, atI (U.known.map fun n : Nat => V.int (n : Int)) c = some (.int z) ∧ OddN z := by
  obtain ⟨k, rfl⟩ := Int.eq_ofNat_of_zero_le h0
  have key : ∀ k : Nat, k < 16 → ∃ z, U.known[k]? = some z ∧ 3 ≤ z ∧ z ≤ 1000000000 ∧ z % 2 = 1 := by decide +kernel
  obtain ⟨z, e, a, b, c⟩ := key k (by omega)
  refine ⟨z, ?_, by omega, by omega, by omega⟩
  refine atI_nat ?_
  rw [List.getElem?_map, e]
  rfl
theorem odd_at {n e : Int} {a q1 : Addr} {HT : Hp} (no : n % 2 = 1) (n3 : 3 ≤ n) (e0 : 0 ≤ e) (e1 : e < 10) (nq1 : q1 ≠ a) (g1 : HT q1 = some (.tup [V.int 9])) :
    ∃ od, atI [V.int 0, V.int 1, V.int 2, V.int (-3), V.int (n + 1), V.int (1000000000 + 1), V.bl true, V.non, V.str (Str.ofString "9"), V.ref q1] e = some od ∧ Tyd K a HT od ∧ isOdd od 3 1000000000 = false := by
  have si : ∀ i : Int, Tyd K a HT (.int i) := fun i => ⟨⟨_, .int _⟩, fun p e => nomatch e⟩
  have he : e = 0 ∨ e = 1 ∨ e = 2 ∨ e = 3 ∨ e = 4 ∨ e = 5 ∨ e = 6 ∨ e = 7 ∨ e = 8 ∨ e = 9 := by omega
  rcases he with rfl | rfl | rfl | rfl | rfl | rfl | rfl | rfl | rfl | rfl
  · exact ⟨_, rfl, si _, rfl⟩
  · exact ⟨_, rfl, si _, rfl⟩
  · exact ⟨_, rfl, si _, rfl⟩
  · exact ⟨_, rfl, si _, rfl⟩
  · refine ⟨_, rfl, si _, ?_⟩
    cases e : isOdd (.int (n + 1)) 3 1000000000 with
    | false => rfl
    | true =>
      obtain ⟨i, e1, _, _, h⟩ := isOdd_int e
      cases e1
      omega
  · exact ⟨_, rfl, si _, rfl⟩
  · exact ⟨_, rfl, ⟨⟨_, .bl _⟩, fun p e => nomatch e⟩, rfl⟩
  · exact ⟨_, rfl, ⟨⟨_, .non⟩, fun p e => nomatch e⟩, rfl⟩
  · exact ⟨_, rfl, ⟨⟨_, .str _⟩, fun p e => nomatch e⟩, rfl⟩
  · exact ⟨_, rfl, ⟨⟨_, .tup g1⟩, fun p e => by cases e; exact nq1⟩, rfl⟩
theorem none_at {e : Int} {a q1 : Addr} {HT : Hp} (e0 : 0 ≤ e) (e1 : e < 7) (nq1 : q1 ≠ a) (g1 : HT q1 = some (.tup [V.int 9])) :
    ∃ od, atI [V.int 0, V.int (100000 + 1), V.int (-1), V.bl true, V.non, V.str (Str.ofString "9"), V.ref q1] e = some od ∧ Tyd K a HT od ∧ isBet od 1 100000 = false := by
  have si : ∀ i : Int, Tyd K a HT (.int i) := fun i => ⟨⟨_, .int _⟩, fun p e => nomatch e⟩
  have he : e = 0 ∨ e = 1 ∨ e = 2 ∨ e = 3 ∨ e = 4 ∨ e = 5 ∨ e = 6 := by omega
  rcases he with rfl | rfl | rfl | rfl | rfl | rfl | rfl
  · exact ⟨_, rfl, si _, rfl⟩
  · exact ⟨_, rfl, si _, rfl⟩
  · exact ⟨_, rfl, si _, rfl⟩
  · exact ⟨_, rfl, ⟨⟨_, .bl _⟩, fun p e => nomatch e⟩, rfl⟩
  · exact ⟨_, rfl, ⟨⟨_, .non⟩, fun p e => nomatch e⟩, rfl⟩
  · exact ⟨_, rfl, ⟨⟨_, .str _⟩, fun p e => nomatch e⟩, rfl⟩
  · exact ⟨_, rfl, ⟨⟨_, .tup g1⟩, fun p e => by cases e; exact nq1⟩, rfl⟩
theorem sqL_keep {H : Hp} {a p : Addr} {xs : List V} {o : HO} (h : SqL K H a xs) (hp : H p = none) : SqL K (upd H p o) a xs := by
  rcases h with (h | ⟨u, h⟩) | h
  · exact .inl (.inl (keep h hp))
  · exact .inl (.inr ⟨u, keep h hp⟩)
  · exact .inr h
theorem repK {H : Hp} : RepL K H (U.known.map fun n : Nat => Dt.int (n : Int)) (U.known.map fun n : Nat => V.int (n : Int)) := by
  have h := repI (K := K) (H := H) (U.known.map fun n : Nat => (n : Int))
  rw [List.map_map, List.map_map] at h
  exact h
end
end PP
set_option Elab.async false
set_option linter.all false
set_option maxRecDepth 100000
set_option maxHeartbeats 4000000
namespace L2
open PySem PySem.Spec PyProof.Rows
noncomputable def cvE : Expr → Option V
  | .Constant (.int i) _ _ => some (.int i)
  | .Constant (.bool b) _ _ => some (.bl b)
  | .Constant .none _ _ => some .non
  | .Constant (.str x) _ _ => some (.str x)
  | .UnaryOp .USub (.Constant (.int i) _ _) _ => some (.int (-i))
  | _ => none
section
variable {X : Cx} {e : Expr} {v : V}
theorem pe_cv (h : cvE e = some v) : PE X e (tC v) := by
  unfold cvE at h
  split at h <;> cases h
  · exact pe_int
  · exact pe_bl
  · exact pe_non
  · exact pe_str
  · intro pins s σ H Q I q
    exact pe_un un_neg pe_int pins s σ H Q I ⟨_, rfl, q⟩
theorem cv_star (h : cvE e = some v) (es : List Expr) (env : Env) : starEach (e :: es) env = (false, eval e env) :: starEach es env := by
  unfold cvE at h
  split at h <;> cases h <;> rfl
noncomputable def cvs : List Expr → Option (List V)
  | [] => some []
  | e :: es => (cvE e).bind fun v => (cvs es).map fun vs => v :: vs
noncomputable def tCvs (vs : List V) (t : TA) : TA := fun σ H Q => t σ H fun ws H1 => Q (vs ++ ws) H1
theorem pa_cvs : ∀ {k : Nat} {es : List Expr} {vs : List V} {t : TA}, cvs (es.take k) = some vs → PA X (es.drop k) t → PA X es (tCvs vs t)
  | 0, es, vs, t, h, hr => by
    cases h
    exact hr
  | k + 1, [], vs, t, h, hr => by
    cases h
    exact hr
  | k + 1, e :: es, vs, t, h, hr => by
    obtain ⟨v, hv, h⟩ := Option.bind_eq_some_iff.mp (show ((cvE e).bind fun v => (cvs (es.take k)).map fun vs => v :: vs) = some vs from h)
    obtain ⟨ws, hw, rfl⟩ := Option.map_eq_some_iff.mp h
    exact pa_cons (pe_cv hv) (pa_cvs hw hr) (cv_star hv _ _)
end
end L2
set_option Elab.async false
set_option linter.all false
set_option maxRecDepth 100000
set_option maxHeartbeats 4000000
namespace L2
open PySem PySem.Spec PyProof.Rows
structure SE (X : Cx) (e : Expr) (t : TE) : Prop where
  h : PE X e t
structure SA (X : Cx) (es : List Expr) (t : TA) : Prop where
  h : PA X es t
structure SS (X : Cx) (st : Stmt) (t : TS) : Prop where
  h : PS X st t
structure SSs (X : Cx) (st : List Stmt) (t : TS) : Prop where
  h : PSs X st t
structure ST (X : Cx) (e : Expr) (t : TT) : Prop where
  h : PT X e t
structure SO (X : Cx) (e : Option Expr) (t : TO) : Prop where
  h : PO X e t
theorem SSs.out {X : Cx} {st : List Stmt} {t : TS} (s : SSs X st t) : PSs X st t := s.h
theorem exSS {X : Cx} {st : List Stmt} {t : TS} {D : Ends} {σ : St} {H : Hp} (h : SSs X st t) (q : t D σ H) : ∃ t, PSs X st t ∧ t D σ H := ⟨t, h.h, q⟩
theorem sa_cvs {X : Cx} {k : Nat} {es : List Expr} {vs : List V} {t : TA} (h : cvs (es.take k) = some vs) (hr : SA X (es.drop k) t) : SA X es (tCvs vs t) := ⟨pa_cvs h hr.h⟩
section
variable {X : Cx} {id T : String} {lo hi : Option Expr} {st : Stmt} {rest : List Stmt} {a b e o tg iter : Expr} {es : List Expr} {pos p2 p : Pos} {name : Str}
theorem se_call (F : FnOk X.prog X.w X.K X.mg X.base CX k f fd ps sp) (hr : Room k X.A) (hg : Gl X x) (hm : X.mg x = some (.ref f)) (hk : PySem.W.keepIn X.K (.ref f) = true) (hb : Binds X.K fd ps ds) (hd : Vals dvs ds) (hx : Passes CX X E) (ha : SA X (e :: es) t) (hdb : (x == ("__debug__" : Str)) = false := by decide) (he : starEach (e :: es) X.env = (false, eval e X.env) :: starEach es X.env := by rfl) (hpl : (backTo pos (starEach es X.env)).any (·.1) = false := by rfl) : SE X (.Call (.Name x p) (e :: es) [] pos) (tCall sp dvs E t) := ⟨pe_call F hr hg hm hk hb hd hx ha.h hdb he hpl⟩
theorem se_callB (hc : CallR X (.builtin id) r) (hg : Gl X x) (hm : X.mg x = none) (hv : bootBuiltins x = some (.builtin id)) (ha : SA X (e :: es) t) (hn : x ≠ "__name__" := by decide) (hdb : (x == ("__debug__" : Str)) = false := by decide) (he : starEach (e :: es) X.env = (false, eval e X.env) :: starEach es X.env := by rfl) (hpl : (backTo pos (starEach es X.env)).any (·.1) = false := by rfl) : SE X (.Call (.Name x p) (e :: es) [] pos) (tCB r t) := ⟨pe_callB hc hg hm hv ha.h hn hdb he hpl⟩
theorem se_callTy (hc : CallR X (.type T) r) (hg : Gl X x) (hm : X.mg x = none) (hv : bootBuiltins x = some (.type T)) (ha : SA X (e :: es) t) (hn : x ≠ "__name__" := by decide) (hdb : (x == ("__debug__" : Str)) = false := by decide) (he : starEach (e :: es) X.env = (false, eval e X.env) :: starEach es X.env := by rfl) (hpl : (backTo pos (starEach es X.env)).any (·.1) = false := by rfl) : SE X (.Call (.Name x p) (e :: es) [] pos) (tCB r t) := ⟨pe_callTy hc hg hm hv ha.h hn hdb he hpl⟩
theorem se_callW {sp : Heap → Sp} (F : ∀ b, FnOk X.prog X.w X.K X.mg b CX k f fd ps (sp b)) (hr : Room k X.A) (hfn : ∀ x, X.fn x = true) (hg : Gl X x) (hm : X.mg x = some (.ref f)) (hk : PySem.W.keepIn X.K (.ref f) = true) (hb : Binds X.K fd ps ds) (hd : Vals dvs ds) (hx : Passes CX X E) (ha : SA X (e :: es) t) (hdb : (x == ("__debug__" : Str)) = false := by decide) (he : starEach (e :: es) X.env = (false, eval e X.env) :: starEach es X.env := by rfl) (hpl : (backTo pos (starEach es X.env)).any (·.1) = false := by rfl) : SE X (.Call (.Name x p) (e :: es) [] pos) (tCallW X sp dvs E t) := ⟨pe_callW F hr hfn hg hm hk hb hd hx ha.h hdb he hpl⟩
theorem se_cmpR {op : CmpOp} {r : R2} (ho : OpR X (compareOp op) r) (ha : SE X a ta) (hb : SE X b tb) (hm : behindInMarks op b = false) : SE X (.Compare a [op] [b] pos) (tOp r ta tb) := ⟨pe_cmpR ho ha.h hb.h hm⟩
theorem se_ix {r : R2} (hr : IxR X r) (ha : SE X a ta) (hb : SE X b tb) (hs : PlainIx b) : SE X (.Subscript a b pos) (tOp r ta tb) := ⟨pe_ix hr ha.h hb.h hs⟩
theorem se_lst (h : SA X es t) : SE X (.List es pos) (tLst t) := ⟨pe_lst h.h⟩
theorem se_tup {x1} (h : SA X es t) : SE X (.Tuple es x1 pos) (tTup t) := ⟨pe_tup h.h⟩
theorem se_op {op : Operator} {r : R2} (ho : OpR X (binaryOp op) r) (ha : SE X a ta) (hb : SE X b tb) : SE X (.BinOp a op b pos) (tOp r ta tb) := ⟨pe_op ho ha.h hb.h⟩
theorem se_slice {r : V → Option Int → Option Int → Hp → VK → Prop} (hr : SlR X r) (he : SE X e te) (hl : SO X lo tl) (hu : SO X hi th) : SE X (.Subscript e (.Slice lo hi none p2) pos) (tSl r te tl th) := ⟨pe_slice hr he.h hl.h hu.h⟩
theorem se_bm (pa : PlainAttrs T) (slot : Slot T name id) (hty : typeOf (.builtin id) = pure (.type "method_descriptor")) (hm : MtR X id r) (ho : SE X o to) (ha : SA X (e :: es) t) (hbase : attributeBase o name X.env (eval o X.env) = eval o X.env := by rfl) (hfew : ((backTo cpos (starEach (e :: es) X.env)).all (fun x => !x.1) && (backToKw cpos (keywordEach [] X.env)).all (fun x => x.1.isSome)
      && decide ((e :: es).length + ([] : List Keyword).length + (if ([] : List Keyword).isEmpty then 0 else 1) < 30)) = true := by rfl) (hline : (apos.endLine == cpos.line) = true := by rfl) (hs : starEach (e :: es) X.env = (false, eval e X.env) :: starEach es X.env := by rfl) (hplain : (backTo cpos (starEach es X.env)).any (·.1) = false := by rfl) : SE X (.Call (.Attribute o name apos) (e :: es) [] cpos) (tBM X.K T r to t) := ⟨pe_bm pa slot hty hm ho.h ha.h hbase hfew hline hs hplain⟩
theorem sa_cons (ha : SE X e te) (hr : SA X es t) (hs : starEach (e :: es) X.env = (false, eval e X.env) :: starEach es X.env := by rfl) : SA X (e :: es) (tCons te t) := ⟨pa_cons ha.h hr.h hs⟩
theorem ss_set {i : Nat} {x : Str} {e : Expr} {te : TE} {pos' : Pos} (hN : X.N.Nodup) (hi : X.N[i]? = some x) (hx : Loc X.env.scope x) (he : SE X e te) (hs : swapsWith e (some (.Name x pos')) pos.line X.env = pure false := by rfl) (hf : X.fn x = true ∨ X.env.scope.names.lookup x = some .local := by first | exact .inl rfl | exact .inr rfl | assumption) : SS X (.Assign [.Name x pos'] e pos) (tAsg te (gName i)) := ⟨ps_set hN hi hx he.h hs hf⟩
theorem ss_if {c : Expr} {a b : List Stmt} {tc : TT} (hc : ST X c tc) (ha : SSs X a t) (hb : SSs X b u) : SS X (.If c a b pos) (tIfS tc t u) := ⟨ps_if hc.h ha.h hb.h⟩
theorem ss_for {iter : Expr} {body : List Stmt} {wi : TI} {g : TG} {tb : TS} {pos : Pos} (hp : PassesOwn (model X.prog X.w) X.A X.env X.xe) (hc : X.calm = true) (hi : PI X tg iter wi) (hg : PG X tg g) (hb : SSs X body tb) (hs : ∀ x, foldedSetIterable iter X.env x = pure x := by intro _; rfl) : SS X (.For tg iter body [] pos) (tFor wi g tb) := ⟨ps_for hp hc hi hg hb.h hs⟩
theorem ss_expr (he : SE X e te) (hs : swapsWith e none pos.line X.env = pure false := by rfl) : SS X (.Expr e pos) (tDrop te) := ⟨ps_expr he.h hs⟩
theorem ss_ret (he : SE X e te) : SS X (.Return (some e) pos) (tRet te) := ⟨ps_ret he.h⟩
theorem sss_cons (h1 : SS X st t) (h2 : SSs X rest u) : SSs X (st :: rest) (tSeq t u) := ⟨pss_cons h1.h h2.h⟩
theorem sss_one (h1 : SS X st t) : SSs X [st] t := ⟨pss_one h1.h⟩
theorem st_cmpR {op : CmpOp} {r : R2} (ho : OpR X (compareOp op) r) (ha : SE X a ta) (hb : SE X b tb) (hm : behindInMarks op b = false) : ST X (.Compare a [op] [b] pos) (tTest (tOp r ta tb)) := ⟨pt_cmpR ho ha.h hb.h hm⟩
theorem st_not (ha : ST X a tA) : ST X (.UnaryOp .Not a pos) (tNot tA) := ⟨pt_not ha.h⟩
theorem st_val {e : Expr} {t : TE} (h : SE X e t) (he : ∀ whole, isTrue e X.env whole = (do let v ← whole; standAt e.pos; holding [v] (truthy v)) := by intro _; rfl) : ST X e (tB t) := ⟨pt_val h.h he⟩
theorem si_list {l : Expr} {tl : TE} (hl : SE X l tl) : PI X tg l (iList X.K tl) := pi_list hl.h
theorem si_range1 {a : Expr} {ta : TA} {p pos : Pos} (hg : Gl X "range") (hm : X.mg "range" = none) (ha : SA X [a] ta) (hs : starEach [a] X.env = [(false, eval a X.env)] := by rfl) : PI X tg (.Call (.Name "range" p) [a] [] pos) (iRng1 ta) := pi_range1 hg hm ha.h hs
theorem so_some (h : SE X e te) : SO X (some e) (tPart te) := ⟨po_some h.h⟩
theorem se_int {i j pos} : SE X (.Constant (.int i) j pos) (tC (.int i)) := ⟨pe_int⟩
theorem se_bl {b j pos} : SE X (.Constant (.bool b) j pos) (tC (.bl b)) := ⟨pe_bl⟩
theorem se_str {x j pos} : SE X (.Constant (.str x) j pos) (tC (.str x)) := ⟨pe_str⟩
theorem sa_nil  : SA X [] tNil := ⟨pa_nil⟩
theorem sss_nil  : SSs X [] tNext := ⟨pss_nil⟩
theorem so_none  : SO X none tNoPart := ⟨po_none⟩
theorem sv (i : Nat) {x : Str} {pos : Pos} (hN : X.N[i]? = some x := by rfl) (hv : Vis X.env.scope x := by first | exact Or.inl rfl | exact Or.inr (Or.inl rfl) | exact Or.inr (Or.inr rfl)) (hd : (x == ("__debug__" : Str)) = false := by decide) (hcd : (x == ("__classdict__" : Str)) = false := by decide) : SE X (.Name x pos) (tVar i) := ⟨pv i hN hv hd hcd⟩
theorem se_lamD (L : LamCx X c P) (hck : lamCk sc X.env.scope N X.N js = true) (hdef : defaultsOf params X.env = ([], [])) : SE X (.Lambda params body sc pos) (tLam X.mg P (X.env.qual ++ "<lambda>") params body sc (clOf sc X.env)) := ⟨pe_lamD L hck hdef⟩
theorem ss_setD {iv : Nat} {y : Str} {py spos : Pos} (hN : X.N.Nodup) (hin : X.N[iv]? = some y) (hx : Loc X.env.scope y) (hcb : compOk scope X.env.scope N X.N js = true) (hc : X.calm = true) (hfn : ∀ x, X.fn x = true) (hi : PI X tg iter wi) (hg : ∀ b C fp s H, PG (cxCompC X b N scope (clOf scope X.env) C fp s H) tg g) (hif : ∀ b C fp s H, PIfs (cxCompC X b N scope (clOf scope X.env) C fp s H) ifs (tt b)) (he : ∀ b C fp s H, PE (cxCompC X b N scope (clOf scope X.env) C fp s H) elt (te b)) (hsw : swapsWith (.ListComp elt [⟨tg, iter, ifs, 0⟩] scope pos) (some (.Name y py)) spos.line X.env = pure true := by rfl) (hs : ∀ x, foldedSetIterable iter X.env x = pure x := by intro _; rfl) : SS X (.Assign [.Name y py] (.ListComp elt [⟨tg, iter, ifs, 0⟩] scope pos) spos) (tAsg (tCompC X js wi g tt te) (gName iv)) := ⟨ps_setD hN hin hx hcb hc hfn hi hg hif he hsw hs⟩
end
end L2
set_option Elab.async false
set_option linter.all false
set_option maxRecDepth 100000
set_option maxHeartbeats 4000000
namespace PP
open PySem L2 MM
section
variable {P : Program} {w : World} {K : PySem.W.Frag} {mg : Str → Option Value} {base : Heap} {t1 t2 : Tok} {cl : Cl} {f : Addr}
noncomputable abbrev s_law : Stmt := top 40
theorem sc_law : FnScope ["_law_script", "_law_known", "_law_k", "_law_state_here", "_law_n", "_law_m", "_law_some", "_law_great", "_law_most", "_law_due", "_law_turn", "_law_found", "_law_odd", "_law_none"] ["_law_script"] (defScope s_law) := ⟨rfl, rfl, rfl, by decide +kernel, rfl, by decide +kernel, by decide +kernel⟩
noncomputable abbrev Df_law (K : PySem.W.Frag) (mg : Str → Option Value) (f : Addr) (fd : FuncData) : Prop := Def K mg "law" s_law ["_law_script"] f fd
noncomputable abbrev KL : List V := U.known.map fun n : Nat => V.int (n : Int)
noncomputable abbrev OB_fools_all (P : Program) (w : World) (K : PySem.W.Frag) (mg : Str → Option Value) (cl : Cl) : Prop := ∃ f fd, Df_fools_all K mg f fd ∧ ∀ b, FnOk P w K mg b (CXE P w) 7 f fd ["n"] (spFools K cl)
noncomputable abbrev OB_all_fools (P : Program) (w : World) (K : PySem.W.Frag) (mg : Str → Option Value) (cl : Cl) : Prop := ∃ f fd, Df_all_fools K mg f fd ∧ ∀ b, FnOk P w K mg b (CXE P w) 7 f fd ["most"] (spAll K cl)
noncomputable abbrev OB_law_by_parts (P : Program) (w : World) (K : PySem.W.Frag) (mg : Str → Option Value) (cl : Cl) : Prop := ∃ f fd, Df_law_by_parts K mg f fd ∧ ∀ b, FnOk P w K mg b CX0 2 f fd ["_law_n"] spByParts
noncomputable abbrev OB_law_said (P : Program) (w : World) (K : PySem.W.Frag) (mg : Str → Option Value) (cl : Cl) : Prop := ∃ f fd, Df_law_said K mg f fd ∧ ∀ b, FnOk P w K mg b CX0 10 f fd ["_law_call"] (spSaid P w K mg cl b)
noncomputable def spLaw (K : PySem.W.Frag) (Pt : Addr) : Sp := fun vs H Q _ => ∃ (a : Addr) (ns : List Int), vs = [.ref a] ∧ SqL K H a (ns.map V.int) ∧ ns.length ≤ 63 ∧ H Pt = some (.tbl #[]) ∧ ∀ H', Q (.bl true) H'
theorem ok_law {c Pt : Addr} {oc kV doc pm ct : Value} {od an : Option Addr} {osl : Array (Option Value)}
    (lk : K.lookup f = some ⟨oc, od, .func (PySem.W.fnOf "law" "law" (defArgs s_law) (defBody s_law) (defScope s_law) .none kV doc pm an (.ref c) ct), osl⟩) (hcd : PySem.W.codeIn K (.ref c) "law" = true) (hd : PySem.W.CodeHd base c Pt) (bm : base.BuiltinsAt mg Pt)
    (T : Txt K mg t1 t2 cl) (W0 : WordC K cl cl.nn 0) (o1 : O_law_state P w K mg base) (o2 : O_law_choice P w K mg base) (o3 : O_law_same P w K mg base) (o4 : O_law_fools P w K mg base) (o5 : OB_law_by_parts P w K mg cl) (o6 : OB_fools_all P w K mg cl) (o7 : OB_all_fools P w K mg cl) (o8 : OB_law_said P w K mg cl) : FnOk P w K mg base CX0 12 f (PySem.W.fnOf "law" "law" (defArgs s_law) (defBody s_law) (defScope s_law) .none kV doc pm an (.ref c) ct) ["_law_script"] (spLaw K Pt) := by
  obtain ⟨_, _, D_law_state, G_law_state⟩ := o1
  obtain ⟨_, _, D_law_choice, G_law_choice⟩ := o2
  obtain ⟨_, _, D_law_same, G_law_same⟩ := o3
  obtain ⟨_, _, D_law_fools, G_law_fools⟩ := o4
  obtain ⟨_, _, D_law_by_parts, B_law_by_parts⟩ := o5
  obtain ⟨_, _, D_fools_all, B_fools_all⟩ := o6
  obtain ⟨_, _, D_all_fools, B_all_fools⟩ := o7
  obtain ⟨_, _, D_law_said, B_law_said⟩ := o8
  have G_law_by_parts := B_law_by_parts base
  have G_fools_all := B_fools_all base
  have G_all_fools := B_all_fools base
  refine fn_okC lk hcd sc_law (fun vs H Q E h => ?_) (fun A outer s H vs Q E hr h => ?_)
  · obtain ⟨a, ns, rfl, _⟩ := h
    rfl
  · obtain ⟨sa, ns, rfl, hS, hlen, hT, k⟩ := h
    refine exSS (sss_cons (ss_set (i := 1) sc_law.nd rfl (by first | exact Or.inl rfl | exact Or.inr rfl) (se_lst (sa_cvs (k := 16) (by rfl) sa_nil)))
 (sss_cons (ss_for PassesOwn.never rfl (si_range1 rfl T.no_range (sa_cons (se_callB (call_max2 rfl) (by rfl) T.no_max PyProof.Rows.boot_max (sa_cons se_int (sa_cons (se_callB (call_min2 rfl) (by rfl) T.no_min PyProof.Rows.boot_min (sa_cons (se_callB call_len_seq (by rfl) T.no_len PySem.boot_len (sa_cons (sv 0) sa_nil)) (sa_cons se_int sa_nil))) sa_nil))) sa_nil)) (pg_name (i := 2) sc_law.nd rfl (by first | exact Or.inl rfl | exact Or.inr rfl))
 (sss_cons (ss_set (i := 3) sc_law.nd rfl (by first | exact Or.inl rfl | exact Or.inr rfl) (se_call (G_law_state.mono (by decide)) hr rfl D_law_state.mgx D_law_state.fn.kp D_law_state.bd .nil pass0 (sa_cons (sv 0) (sa_cons (sv 2) sa_nil))))
 (sss_cons (ss_set (i := 4) sc_law.nd rfl (by first | exact Or.inl rfl | exact Or.inr rfl) (se_op op_add se_int (se_op op_mulB se_int (se_call (G_law_choice.mono (by decide)) hr rfl D_law_choice.mgx D_law_choice.fn.kp D_law_choice.bd .nil pass0 (sa_cons (sv 3) (sa_cons se_int sa_nil))))))
 (sss_cons (ss_if (st_not (st_val (se_call (G_law_same.mono (by decide)) hr rfl D_law_same.mgx D_law_same.fn.kp D_law_same.bd .nil pass0 (sa_cons (se_call (G_fools_all.mono (by decide)) hr rfl D_fools_all.mgx D_fools_all.fn.kp D_fools_all.bd .nil passE0 (sa_cons (sv 4) sa_nil)) (sa_cons (se_call (G_law_fools.mono (by decide)) hr rfl D_law_fools.mgx D_law_fools.fn.kp D_law_fools.bd .nil pass0 (sa_cons (sv 4) sa_nil)) sa_nil)))))
 (sss_one (ss_ret se_bl))
 sss_nil)
 (sss_cons (ss_set (i := 5) sc_law.nd rfl (by first | exact Or.inl rfl | exact Or.inr rfl) (se_op op_add se_int (se_call (G_law_choice.mono (by decide)) hr rfl D_law_choice.mgx D_law_choice.fn.kp D_law_choice.bd .nil pass0 (sa_cons (sv 3) (sa_cons se_int sa_nil)))))
 (sss_cons (ss_set (i := 6) sc_law.nd rfl (by first | exact Or.inl rfl | exact Or.inr rfl) (se_lst (sa_cons (se_op op_mulB (se_op op_mulB (se_op op_add (se_op op_mulB se_int (sv 5)) se_int) (se_op op_add (se_op op_mulB se_int (sv 5)) se_int)) (se_op op_add (se_op op_mulB se_int (sv 5)) se_int)) (sa_cons (se_op op_add se_int (se_op op_mulB se_int (se_call (G_law_choice.mono (by decide)) hr rfl D_law_choice.mgx D_law_choice.fn.kp D_law_choice.bd .nil pass0 (sa_cons (sv 3) (sa_cons (se_op op_sub (se_op op_mulB se_int (se_op op_pow se_int se_int)) se_int) sa_nil))))) sa_nil))))
 (sss_cons (ss_for PassesOwn.never rfl (si_list (se_op op_cat (se_slice sl_list (sv 6) (so_some (se_callTy call_int_bl (by rfl) T.no_int PyProof.Rows.boot_int (sa_cons (se_cmpR op_gt (se_ix ix_list (sv 6) se_int (fun _ _ => rfl)) (se_op op_pow se_int se_int) (nomark _)) sa_nil))) so_none) (se_lst (sa_cons (se_ix ix_list (sv 1) (se_call (G_law_choice.mono (by decide)) hr rfl D_law_choice.mgx D_law_choice.fn.kp D_law_choice.bd .nil pass0 (sa_cons (sv 3) (sa_cons se_int sa_nil))) (fun _ _ => rfl)) sa_nil)))) (pg_name (i := 7) sc_law.nd rfl (by first | exact Or.inl rfl | exact Or.inr rfl))
 (sss_one (ss_if (st_not (st_val (se_call (G_law_same.mono (by decide)) hr rfl D_law_same.mgx D_law_same.fn.kp D_law_same.bd .nil pass0 (sa_cons (se_call (G_fools_all.mono (by decide)) hr rfl D_fools_all.mgx D_fools_all.fn.kp D_fools_all.bd .nil passE0 (sa_cons (sv 7) sa_nil)) (sa_cons (se_call (G_law_by_parts.mono (by decide)) hr rfl D_law_by_parts.mgx D_law_by_parts.fn.kp D_law_by_parts.bd .nil pass0 (sa_cons (sv 7) sa_nil)) sa_nil)))))
 (sss_one (ss_ret se_bl))
 sss_nil)))
 (sss_cons (ss_set (i := 8) sc_law.nd rfl (by first | exact Or.inl rfl | exact Or.inr rfl) (se_op op_add se_int (se_call (G_law_choice.mono (by decide)) hr rfl D_law_choice.mgx D_law_choice.fn.kp D_law_choice.bd .nil pass0 (sa_cons (sv 3) (sa_cons se_int sa_nil)))))
 (sss_cons (ss_setD (iv := 9) sc_law.nd rfl (by first | exact Or.inl rfl | exact Or.inr rfl) (N := ["_law_one"]) (js := [none]) (by rfl) rfl (fun _ => rfl) (pi_range3 rfl T.no_range (pa_cons pe_int (pa_cons (pe_op op_add (pv 8) pe_int) (pa_cons pe_int pa_nil)))) (by intro b _ _ _ _; exact (pg_name (i := 0) (show List.Nodup (["_law_one"] : List Str) by decide) rfl (by first | exact Or.inl rfl | exact Or.inr rfl))) (by intro b _ _ _ _; exact pifs_one (pt_val (pe_call ((B_law_by_parts b).mono (by decide)) hr rfl D_law_by_parts.mgx D_law_by_parts.fn.kp D_law_by_parts.bd .nil pass0 (pa_cons (pv 0) pa_nil)))) (by intro b _ _ _ _; exact (pv 0)))
 (sss_cons (ss_for PassesOwn.never rfl (si_range1 rfl T.no_range (sa_cons se_int sa_nil)) (pg_name (i := 10) sc_law.nd rfl (by first | exact Or.inl rfl | exact Or.inr rfl))
 (sss_cons (ss_set (i := 11) sc_law.nd rfl (by first | exact Or.inl rfl | exact Or.inr rfl) (se_call (G_all_fools.mono (by decide)) hr rfl D_all_fools.mgx D_all_fools.fn.kp D_all_fools.bd .nil passE0 (sa_cons (sv 8) sa_nil)))
 (sss_cons (ss_if (st_not (st_val (se_call (G_law_same.mono (by decide)) hr rfl D_law_same.mgx D_law_same.fn.kp D_law_same.bd .nil pass0 (sa_cons (sv 11) (sa_cons (sv 9) sa_nil)))))
 (sss_one (ss_ret se_bl))
 sss_nil)
 (sss_one (ss_expr (se_bm PySem.F.plainAttrs_list PySem.F.slot_list_append PySem.F.type_list_append mt_append (sv 11) (sa_cons se_int sa_nil)))))))
 (sss_cons (ss_set (i := 12) sc_law.nd rfl (by first | exact Or.inl rfl | exact Or.inr rfl) (se_ix ix_list (se_lst (sa_cvs (k := 4) (by rfl) (sa_cons (se_op op_add (sv 4) se_int) (sa_cons (se_op op_add (se_op op_pow se_int se_int) se_int) (sa_cvs (k := 3) (by rfl) (sa_cons (se_tup (sa_cons se_int sa_nil)) sa_nil)))))) (se_call (G_law_choice.mono (by decide)) hr rfl D_law_choice.mgx D_law_choice.fn.kp D_law_choice.bd .nil pass0 (sa_cons (sv 3) (sa_cons se_int sa_nil))) (fun _ _ => rfl)))
 (sss_cons (ss_set (i := 13) sc_law.nd rfl (by first | exact Or.inl rfl | exact Or.inr rfl) (se_ix ix_list (se_lst (sa_cons se_int (sa_cons (se_op op_add (se_op op_pow se_int se_int) se_int) (sa_cvs (k := 4) (by rfl) (sa_cons (se_tup (sa_cons se_int sa_nil)) sa_nil))))) (se_call (G_law_choice.mono (by decide)) hr rfl D_law_choice.mgx D_law_choice.fn.kp D_law_choice.bd .nil pass0 (sa_cons (sv 3) (sa_cons se_int sa_nil))) (fun _ _ => rfl)))
 (sss_cons (ss_if (st_cmpR op_ne (se_callW (sp := fun b => spSaid P w K mg cl b) (fun b => (B_law_said b).mono (by decide)) hr (fun _ => rfl) rfl D_law_said.mgx D_law_said.fn.kp D_law_said.bd .nil pass0 (sa_cons (se_lamD (N := ["_law_odd"]) (js := [12]) ⟨rfl, hd, bm⟩ (by rfl) rfl) sa_nil)) se_str (nomark _))
 (sss_one (ss_ret se_bl))
 sss_nil)
 (sss_one (ss_if (st_cmpR op_ne (se_callW (sp := fun b => spSaid P w K mg cl b) (fun b => (B_law_said b).mono (by decide)) hr (fun _ => rfl) rfl D_law_said.mgx D_law_said.fn.kp D_law_said.bd .nil pass0 (sa_cons (se_lamD (N := ["_law_none"]) (js := [13]) ⟨rfl, hd, bm⟩ (by rfl) rfl) sa_nil)) se_str (nomark _))
 (sss_one (ss_ret se_bl))
 sss_nil)))))))))))))))
 (sss_one (ss_ret (se_cmpR (op_eqS (hu150 hr)) (se_call (G_all_fools.mono (by decide)) hr rfl D_all_fools.mgx D_all_fools.fn.kp D_all_fools.bd .nil passE0 (sa_cons (se_op op_pow se_int se_int) sa_nil)) (sv 1) (nomark _)))))) ?_
    have e0 : L2.start ["_law_script", "_law_known", "_law_k", "_law_state_here", "_law_n", "_law_m", "_law_some", "_law_great", "_law_most", "_law_due", "_law_turn", "_law_found", "_law_odd", "_law_none"] [.ref sa] = [some (.ref sa), none, none, none, none, none, none, none, none, none, none, none, none, none] := rfl
    rw [e0]; clear e0
    refine tSeq_gen fun R00 hR00 => ?_
    simp only [tSeq, tIfS, tTest, tRet, tRetN, tNext, tDrop, tAsg, tPar, tPar3, tAug, tVar, tC, tOp, tUn, rI, rI0, rU, tB, tAnd, tOr, tNot, tAndV, tOrV, tNotV, tIf, gName, gNil, gCons, gTup, gSub, tCB, tCons, tNil, tCall, tChain, ipI, tIsN, tNotN, tBM, tyV, tTup, tLst, rAppend, rCat, scal_ii, scal_bb, scal_ss, scal_ni, scal_in, rEq, rNe, List.getElem?_cons_zero, List.getElem?_cons_succ, List.set_cons_zero, List.set_cons_succ, eq_self, and_assoc, Option.some.injEq, V.int.injEq, V.bl.injEq, V.ref.injEq, V.str.injEq, List.cons.injEq, exists_eq_left', exists_eq_left, exists_and_left, List.nil_append, List.cons_append, List.append_nil, true_and, and_true, decide_eq_true_eq, Bool.not_eq_true', decide_eq_false_iff_not, if_true, if_false, Bool.not_true, Bool.not_false, Bool.false_eq_true, reduceCtorEq, decide_true, decide_false, ite_true, ite_false, rSetL, rIxL, tRaise, jCons, jNil, tFmt, tDNew, rCount, rIndex, tCont, tBreak, Int.reduceToNat, Int.reducePow, tCvs]
    refine ⟨by show 16 ≤ sizeLine; decide, fun kn hkn => ?_⟩
    have eK : [V.int 561, V.int 1105, V.int 1729, V.int 2465, V.int 2821, V.int 6601, V.int 8911, V.int 10585, V.int 15841, V.int 29341, V.int 41041, V.int 46657, V.int 52633, V.int 62745, V.int 63973, V.int 75361] = KL := rfl
    rw [eK]
    have hS : SqL K (upd H kn (.lst KL)) sa (ns.map V.int) := sqL_keep hS hkn
    have hT : (upd H kn (.lst KL)) Pt = some (.tbl #[]) := keep hT hkn
    have hKN : (upd H kn (.lst KL)) kn = some (.lst KL) := upd_same
    generalize upd H kn (.lst KL) = H at hS hT hKN ⊢
    have nKT : kn ≠ Pt := fun z => by rw [z, hT] at hKN; cases hKN
    subst hR00
    refine tSeq_gen fun R0 hR0 => ?_
    dsimp only [tSeq]
    refine tFor_rng ?_
    simp only [tSeq, tIfS, tTest, tRet, tRetN, tNext, tDrop, tAsg, tPar, tPar3, tAug, tVar, tC, tOp, tUn, rI, rI0, rU, tB, tAnd, tOr, tNot, tAndV, tOrV, tNotV, tIf, gName, gNil, gCons, gTup, gSub, tCB, tCons, tNil, tCall, tChain, ipI, tIsN, tNotN, tBM, tyV, tTup, tLst, rAppend, rCat, scal_ii, scal_bb, scal_ss, scal_ni, scal_in, rEq, rNe, List.getElem?_cons_zero, List.getElem?_cons_succ, List.set_cons_zero, List.set_cons_succ, eq_self, and_assoc, Option.some.injEq, V.int.injEq, V.bl.injEq, V.ref.injEq, V.str.injEq, List.cons.injEq, exists_eq_left', exists_eq_left, exists_and_left, List.nil_append, List.cons_append, List.append_nil, true_and, and_true, decide_eq_true_eq, Bool.not_eq_true', decide_eq_false_iff_not, if_true, if_false, Bool.not_true, Bool.not_false, Bool.false_eq_true, reduceCtorEq, decide_true, decide_false, ite_true, ite_false, rSetL, rIxL, tRaise, jCons, jNil, tFmt, tDNew, rCount, rIndex, tCont, tBreak, Int.reduceToNat, Int.reducePow, tCvs]
    refine ⟨_, .inl hS, ?_⟩
    obtain ⟨Pl, hPl⟩ : ∃ Pl : Nat → St → Hp → Prop, ∀ i σ H', Pl i σ H' ↔ SameX Pt H H' ∧ TabOk H' Pt qL ∧ ∃ v2 v3 v4 v5 v6 v7 v8 v9 v10 v11 v12 v13, σ = [some (.ref sa), some (.ref kn), v2, v3, v4, v5, v6, v7, v8, v9, v10, v11, v12, v13] := ⟨_, fun _ _ _ => Iff.rfl⟩
    refine ⟨?_, ?_, fr_of Pl ((hPl _ _ _).mpr ⟨SameX.refl _ _, tabOk_new hT, none, none, none, none, none, none, none, none, none, none, none, none, rfl⟩) ?_ ?_⟩
    · rw [List.length_map]; repeat' split
      all_goals omega
    · rw [List.length_map]; repeat' split
      all_goals omega
    · intro i σ H1 hi hP
      obtain ⟨S, TB, v2, v3, v4, v5, v6, v7, v8, v9, v10, v11, v12, v13, rfl⟩ := (hPl _ _ _).mp hP
      clear hP
      dsimp only [gName, List.set_cons_zero, List.set_cons_succ]
      refine tSeq_gen fun R hR => ?_
      simp only [tSeq, tIfS, tTest, tRet, tRetN, tNext, tDrop, tAsg, tPar, tPar3, tAug, tVar, tC, tOp, tUn, rI, rI0, rU, tB, tAnd, tOr, tNot, tAndV, tOrV, tNotV, tIf, gName, gNil, gCons, gTup, gSub, tCB, tCons, tNil, tCall, tChain, ipI, tIsN, tNotN, tBM, tyV, tTup, tLst, rAppend, rCat, scal_ii, scal_bb, scal_ss, scal_ni, scal_in, rEq, rNe, List.getElem?_cons_zero, List.getElem?_cons_succ, List.set_cons_zero, List.set_cons_succ, eq_self, and_assoc, Option.some.injEq, V.int.injEq, V.bl.injEq, V.ref.injEq, V.str.injEq, List.cons.injEq, exists_eq_left', exists_eq_left, exists_and_left, List.nil_append, List.cons_append, List.append_nil, true_and, and_true, decide_eq_true_eq, Bool.not_eq_true', decide_eq_false_iff_not, if_true, if_false, Bool.not_true, Bool.not_false, Bool.false_eq_true, reduceCtorEq, decide_true, decide_false, ite_true, ite_false, rSetL, rIxL, tRaise, jCons, jNil, tFmt, tDNew, rCount, rIndex, tCont, tBreak, Int.reduceToNat, Int.reducePow, tCvs]
      refine ⟨sa, ns, _, rfl, S.seq hT hS, hlen, by omega, fun a x y y0 y1 ha => ?_⟩
      have S0 : SameX Pt H (upd H1 a (.lst [.int x, .int y])) := fun b o h1 e => by rw [upd_ne (ne_of_none (S b o h1 e) ha)]; exact S b o h1 e
      have nb : ∀ b o, b ≠ Pt → H b = some o → b ≠ a := fun b o h1 e => ne_of_none (S b o h1 e) ha
      have st0 : StAt (upd H1 a (.lst [.int x, .int y])) a := ⟨x, y, upd_same, y0, y1⟩
      have TB0 : TabOk (upd H1 a (.lst [.int x, .int y])) Pt qL := TB.same fun b o e => keep e ha
      have KN0 := S0 kn _ nKT hKN
      have nKA : kn ≠ a := nb kn _ nKT hKN
      generalize upd H1 a (.lst [.int x, .int y]) = H2 at S0 st0 TB0 KN0 ⊢
      subst hR
      refine tSeq_gen fun R hR => ?_
      simp only [tSeq, tIfS, tTest, tRet, tRetN, tNext, tDrop, tAsg, tPar, tPar3, tAug, tVar, tC, tOp, tUn, rI, rI0, rU, tB, tAnd, tOr, tNot, tAndV, tOrV, tNotV, tIf, gName, gNil, gCons, gTup, gSub, tCB, tCons, tNil, tCall, tChain, ipI, tIsN, tNotN, tBM, tyV, tTup, tLst, rAppend, rCat, scal_ii, scal_bb, scal_ss, scal_ni, scal_in, rEq, rNe, List.getElem?_cons_zero, List.getElem?_cons_succ, List.set_cons_zero, List.set_cons_succ, eq_self, and_assoc, Option.some.injEq, V.int.injEq, V.bl.injEq, V.ref.injEq, V.str.injEq, List.cons.injEq, exists_eq_left', exists_eq_left, exists_and_left, List.nil_append, List.cons_append, List.append_nil, true_and, and_true, decide_eq_true_eq, Bool.not_eq_true', decide_eq_false_iff_not, if_true, if_false, Bool.not_true, Bool.not_false, Bool.false_eq_true, reduceCtorEq, decide_true, decide_false, ite_true, ite_false, rSetL, rIxL, tRaise, jCons, jNil, tFmt, tDNew, rCount, rIndex, tCont, tBreak, Int.reduceToNat, Int.reducePow, tCvs]
      refine ⟨a, _, rfl, ⟨by decide, by decide⟩, st0, fun c1 H3 c10 c11 T1 => ⟨_, rfl, .inr ⟨by decide, by omega⟩, ?_⟩⟩
      obtain ⟨n, hn⟩ : ∃ n, n = 3 + 2 * c1 := ⟨_, rfl⟩
      have n3 : 3 ≤ n := by omega
      have n9 : n ≤ 2999 := by omega
      have no : n % 2 = 1 := by omega
      rw [← hn]
      clear hn c10 c11
      subst hR
      refine tSeq_gen fun R hR => ?_
      simp only [tSeq, tIfS, tTest, tRet, tRetN, tNext, tDrop, tAsg, tPar, tPar3, tAug, tVar, tC, tOp, tUn, rI, rI0, rU, tB, tAnd, tOr, tNot, tAndV, tOrV, tNotV, tIf, gName, gNil, gCons, gTup, gSub, tCB, tCons, tNil, tCall, tChain, ipI, tIsN, tNotN, tBM, tyV, tTup, tLst, rAppend, rCat, scal_ii, scal_bb, scal_ss, scal_ni, scal_in, rEq, rNe, List.getElem?_cons_zero, List.getElem?_cons_succ, List.set_cons_zero, List.set_cons_succ, eq_self, and_assoc, Option.some.injEq, V.int.injEq, V.bl.injEq, V.ref.injEq, V.str.injEq, List.cons.injEq, exists_eq_left', exists_eq_left, exists_and_left, List.nil_append, List.cons_append, List.append_nil, true_and, and_true, decide_eq_true_eq, Bool.not_eq_true', decide_eq_false_iff_not, if_true, if_false, Bool.not_true, Bool.not_false, Bool.false_eq_true, reduceCtorEq, decide_true, decide_false, ite_true, ite_false, rSetL, rIxL, tRaise, jCons, jNil, tFmt, tDNew, rCount, rIndex, tCont, tBreak, Int.reduceToNat, Int.reducePow, tCvs]
      refine ⟨.int n, _, rfl, .int _, fun h => ?_, fun n' en _ l H4 hl S4 => ?_⟩
      · rw [isOdd_of n3 (by omega) no] at h; cases h
      cases en
      refine ⟨n, l, rfl, ⟨n3, n9, no, hl⟩, .inl ⟨_, rfl, _, rfl, ?_⟩⟩
      rw [if_neg (by decide)]
      replace T1 := T1.same S4
      clear hl S4
      subst hR
      refine tSeq_gen fun R hR => ?_
      simp only [tSeq, tIfS, tTest, tRet, tRetN, tNext, tDrop, tAsg, tPar, tPar3, tAug, tVar, tC, tOp, tUn, rI, rI0, rU, tB, tAnd, tOr, tNot, tAndV, tOrV, tNotV, tIf, gName, gNil, gCons, gTup, gSub, tCB, tCons, tNil, tCall, tChain, ipI, tIsN, tNotN, tBM, tyV, tTup, tLst, rAppend, rCat, scal_ii, scal_bb, scal_ss, scal_ni, scal_in, rEq, rNe, List.getElem?_cons_zero, List.getElem?_cons_succ, List.set_cons_zero, List.set_cons_succ, eq_self, and_assoc, Option.some.injEq, V.int.injEq, V.bl.injEq, V.ref.injEq, V.str.injEq, List.cons.injEq, exists_eq_left', exists_eq_left, exists_and_left, List.nil_append, List.cons_append, List.append_nil, true_and, and_true, decide_eq_true_eq, Bool.not_eq_true', decide_eq_false_iff_not, if_true, if_false, Bool.not_true, Bool.not_false, Bool.false_eq_true, reduceCtorEq, decide_true, decide_false, ite_true, ite_false, rSetL, rIxL, tRaise, jCons, jNil, tFmt, tDNew, rCount, rIndex, tCont, tBreak, Int.reduceToNat, Int.reducePow, tCvs]
      refine ⟨a, _, rfl, ⟨by decide, by decide⟩, T1.st, fun c2 H5 c20 c21 T2 => ⟨_, rfl, ?_⟩⟩
      replace T1 := T1.trans T2
      obtain ⟨m, hm⟩ : ∃ m, m = 1 + c2 := ⟨_, rfl⟩
      have m1 : 1 ≤ m := by omega
      have m9 : m ≤ 163 := by omega
      rw [← hm]
      clear hm c20 c21 T2
      obtain ⟨g1, g2, g3⟩ := trip m1 m9
      subst hR
      refine tSeq_gen fun R hR => ?_
      simp only [tSeq, tIfS, tTest, tRet, tRetN, tNext, tDrop, tAsg, tPar, tPar3, tAug, tVar, tC, tOp, tUn, rI, rI0, rU, tB, tAnd, tOr, tNot, tAndV, tOrV, tNotV, tIf, gName, gNil, gCons, gTup, gSub, tCB, tCons, tNil, tCall, tChain, ipI, tIsN, tNotN, tBM, tyV, tTup, tLst, rAppend, rCat, scal_ii, scal_bb, scal_ss, scal_ni, scal_in, rEq, rNe, List.getElem?_cons_zero, List.getElem?_cons_succ, List.set_cons_zero, List.set_cons_succ, eq_self, and_assoc, Option.some.injEq, V.int.injEq, V.bl.injEq, V.ref.injEq, V.str.injEq, List.cons.injEq, exists_eq_left', exists_eq_left, exists_and_left, List.nil_append, List.cons_append, List.append_nil, true_and, and_true, decide_eq_true_eq, Bool.not_eq_true', decide_eq_false_iff_not, if_true, if_false, Bool.not_true, Bool.not_false, Bool.false_eq_true, reduceCtorEq, decide_true, decide_false, ite_true, ite_false, rSetL, rIxL, tRaise, jCons, jNil, tFmt, tDNew, rCount, rIndex, tCont, tBreak, Int.reduceToNat, Int.reducePow, tCvs]
      refine ⟨.inr ⟨by decide, by omega⟩, .inr ⟨by decide, by omega⟩, .inr ⟨by omega, by omega⟩, .inr ⟨by decide, by omega⟩, .inr ⟨g3, by omega⟩, ?_⟩
      generalize (6 * m + 1) * (12 * m + 1) * (18 * m + 1) = g at g1 g2 ⊢
      refine ⟨⟨by decide, by decide, by decide⟩, .inr ⟨by decide, by decide⟩, a, _, rfl, ⟨by decide, by decide⟩, T1.st, fun c3 H6 c30 c31 T2 => ⟨_, rfl, .inr ⟨by decide, by omega⟩, by show 2 ≤ sizeLine; decide, fun so hso => ?_⟩⟩
      obtain ⟨r, hr1⟩ : ∃ r, r = 3 + 2 * c3 := ⟨_, rfl⟩
      have ro : OddN r := ⟨by omega, by omega, by omega⟩
      rw [← hr1]
      clear hr1 c30 c31
      have nso : so ≠ a := by
        obtain ⟨_, _, e, _⟩ := T2.st
        exact (ne_of_none e hso).symm
      replace T1 := (T1.trans T2).new (o := .lst [V.int g, V.int r]) hso
      have mso : (upd H6 so (.lst [V.int g, V.int r])) so = some (.lst [V.int g, V.int r]) := upd_same
      generalize upd H6 so (.lst [V.int g, V.int r]) = H7 at T1 mso ⊢
      clear hso T2
      subst hR
      refine tSeq_gen fun R hR => ?_
      dsimp only [tSeq]
      refine tFor_list ?_
      simp only [tSeq, tIfS, tTest, tRet, tRetN, tNext, tDrop, tAsg, tPar, tPar3, tAug, tVar, tC, tOp, tUn, rI, rI0, rU, tB, tAnd, tOr, tNot, tAndV, tOrV, tNotV, tIf, gName, gNil, gCons, gTup, gSub, tCB, tCons, tNil, tCall, tChain, ipI, tIsN, tNotN, tBM, tyV, tTup, tLst, rAppend, rCat, scal_ii, scal_bb, scal_ss, scal_ni, scal_in, rEq, rNe, List.getElem?_cons_zero, List.getElem?_cons_succ, List.set_cons_zero, List.set_cons_succ, eq_self, and_assoc, Option.some.injEq, V.int.injEq, V.bl.injEq, V.ref.injEq, V.str.injEq, List.cons.injEq, exists_eq_left', exists_eq_left, exists_and_left, List.nil_append, List.cons_append, List.append_nil, true_and, and_true, decide_eq_true_eq, Bool.not_eq_true', decide_eq_false_iff_not, if_true, if_false, Bool.not_true, Bool.not_false, Bool.false_eq_true, reduceCtorEq, decide_true, decide_false, ite_true, ite_false, rSetL, rIxL, tRaise, jCons, jNil, tFmt, tDNew, rCount, rIndex, tCont, tBreak, Int.reduceToNat, Int.reducePow, tSl, tPart, tNoPart, rIntB, tCvs]
      refine ⟨_, SqL.of mso, _, rfl, ⟨by decide, by decide, by decide⟩, g, rfl, so, _, rfl, SqL.of mso, fun p1 hp1 => ?_⟩
      obtain ⟨zs, ez, oz, lz⟩ : ∃ zs : List Int, cutV [V.int g, V.int r] (some (if 1000000000 < g then 1 else 0)) none = zs.map V.int ∧ (∀ z ∈ zs, OddN z) ∧ zs.length ≤ 2 := by
        by_cases gg : 1000000000 < g
        · rw [if_pos gg]
          exact ⟨[r], rfl, fun z hz => by have : z = r := by simpa using hz
                                          rw [this]; exact ro, by show 1 ≤ 2; decide⟩
        · rw [if_neg gg]
          refine ⟨[g, r], rfl, fun z hz => ?_, by show 2 ≤ 2; decide⟩
          have : z = g ∨ z = r := by simpa using hz
          rcases this with rfl | rfl
          · exact ⟨g2, by omega, g1⟩
          · exact ro
      rw [ez]
      have KN7 := T1.but kn _ nKA KN0
      have np1 : p1 ≠ a := by
        obtain ⟨_, _, e, _⟩ := T1.st
        exact (ne_of_none e hp1).symm
      replace T1 := T1.new (o := .lst (zs.map V.int)) hp1
      have KN8 := keep (u := .lst (zs.map V.int)) KN7 hp1
      have mp1 : (upd H7 p1 (.lst (zs.map V.int))) p1 = _ := upd_same
      generalize upd H7 p1 (.lst (zs.map V.int)) = H8 at T1 KN8 mp1 ⊢
      clear ez KN7 hp1 mso nso g1 g2 g3 ro
      refine ⟨a, _, rfl, ⟨by decide, by decide⟩, T1.st, fun c4 H9 c40 c41 T2 => ?_⟩
      obtain ⟨z0, ek, oz0⟩ := known_odd c40 c41
      refine ⟨_, c4, rfl, SqL.of (T2.but kn _ nKA KN8), _, ek, by show 1 ≤ sizeLine; decide, fun p2 hp2 => ?_⟩
      have mp1' := keep (u := .lst [V.int z0]) (T2.but p1 _ np1 mp1) hp2
      refine ⟨p1, rfl, _, mp1', _, upd_same, small1000' (by rw [List.length_map]; show zs.length + 1 ≤ 1000; omega), fun p3 hp3 => ?_⟩
      replace T1 := ((T1.trans T2).new (o := .lst [V.int z0]) hp2).new (o := .lst (zs.map V.int ++ [V.int z0])) hp3
      have mp3 : (upd (upd H9 p2 (.lst [V.int z0])) p3 (.lst (zs.map V.int ++ [V.int z0]))) p3 = some (.lst ((zs ++ [z0]).map V.int)) := by rw [upd_same, List.map_append]; rfl
      generalize upd (upd H9 p2 (.lst [V.int z0])) p3 (.lst (zs.map V.int ++ [V.int z0])) = HA at T1 mp3 ⊢
      have oz : ∀ z ∈ zs ++ [z0], OddN z := fun z hz => by
        rcases List.mem_append.mp hz with h | h
        · exact oz z h
        · have : z = z0 := by simpa using h
          rw [this]; exact oz0
      generalize zs ++ [z0] = ys at oz mp3 ⊢
      clear mp1' hp2 hp3 T2 mp1 KN8 ek oz0 lz np1 c40 c41
      refine ⟨⟨_, SqL.of mp3⟩, ?_⟩
      obtain ⟨Pf, hPf⟩ : ∃ Pf : Nat → St → Hp → Prop, ∀ j σ H', Pf j σ H' ↔ Same HA H' ∧ ∃ v7, σ = [some (.ref sa), some (.ref kn), some (.int (0 + (i : Int))), some (.ref a), some (.int n), some (.int m), some (.ref so), v7, v8, v9, v10, v11, v12, v13] := ⟨_, fun _ _ _ => Iff.rfl⟩
      refine fl_of (xs := ys.map V.int) Pf ((hPf _ _ _).mpr ⟨Same.refl _, _, rfl⟩) (fun j σ H' _ h => SqL.of (((hPf _ _ _).mp h).1 _ _ mp3)) ?_ ?_
      · intro j x σ H' hx h
        obtain ⟨sm, v7, rfl⟩ := (hPf _ _ _).mp h
        obtain ⟨z, hz, rfl⟩ : ∃ z, ys[j]? = some z ∧ x = .int z := by
          rw [List.getElem?_map] at hx
          cases e : ys[j]? with
          | none => rw [e] at hx; cases hx
          | some z => rw [e] at hx; cases hx; exact ⟨z, rfl, rfl⟩
        obtain ⟨z3, z9, zo⟩ := oz z (List.mem_of_getElem? hz)
        simp only [tSeq, tIfS, tTest, tRet, tRetN, tNext, tDrop, tAsg, tPar, tPar3, tAug, tVar, tC, tOp, tUn, rI, rI0, rU, tB, tAnd, tOr, tNot, tAndV, tOrV, tNotV, tIf, gName, gNil, gCons, gTup, gSub, tCB, tCons, tNil, tCall, tChain, ipI, tIsN, tNotN, tBM, tyV, tTup, tLst, rAppend, rCat, scal_ii, scal_bb, scal_ss, scal_ni, scal_in, rEq, rNe, List.getElem?_cons_zero, List.getElem?_cons_succ, List.set_cons_zero, List.set_cons_succ, eq_self, and_assoc, Option.some.injEq, V.int.injEq, V.bl.injEq, V.ref.injEq, V.str.injEq, List.cons.injEq, exists_eq_left', exists_eq_left, exists_and_left, List.nil_append, List.cons_append, List.append_nil, true_and, and_true, decide_eq_true_eq, Bool.not_eq_true', decide_eq_false_iff_not, if_true, if_false, Bool.not_true, Bool.not_false, Bool.false_eq_true, reduceCtorEq, decide_true, decide_false, ite_true, ite_false, rSetL, rIxL, tRaise, jCons, jNil, tFmt, tDNew, rCount, rIndex, tCont, tBreak, Int.reduceToNat, Int.reducePow, tCvs]
        refine ⟨.int z, _, rfl, .int _, fun h => ?_, fun n' en _ l G1 hl S1 => ?_⟩
        · rw [isOdd_of z3 z9 zo] at h; cases h
        cases en
        refine ⟨z, rfl, ⟨z3, by omega⟩, fun l' G2 hl' S2 => ?_⟩
        cases hl'.unique hl
        refine .inl ⟨_, rfl, _, rfl, ?_⟩
        rw [if_neg (by decide)]
        exact (hPf _ _ _).mpr ⟨(sm.trans S1).trans S2, _, rfl⟩
      · intro σ H' h
        obtain ⟨sm, v7, rfl⟩ := (hPf _ _ _).mp h
        replace T1 := T1.same sm
        clear h hPf mp3 oz sm
        show R _ _ _
        subst hR
        refine tSeq_gen fun R hR => ?_
        simp only [tSeq, tIfS, tTest, tRet, tRetN, tNext, tDrop, tAsg, tPar, tPar3, tAug, tVar, tC, tOp, tUn, rI, rI0, rU, tB, tAnd, tOr, tNot, tAndV, tOrV, tNotV, tIf, gName, gNil, gCons, gTup, gSub, tCB, tCons, tNil, tCall, tChain, ipI, tIsN, tNotN, tBM, tyV, tTup, tLst, rAppend, rCat, scal_ii, scal_bb, scal_ss, scal_ni, scal_in, rEq, rNe, List.getElem?_cons_zero, List.getElem?_cons_succ, List.set_cons_zero, List.set_cons_succ, eq_self, and_assoc, Option.some.injEq, V.int.injEq, V.bl.injEq, V.ref.injEq, V.str.injEq, List.cons.injEq, exists_eq_left', exists_eq_left, exists_and_left, List.nil_append, List.cons_append, List.append_nil, true_and, and_true, decide_eq_true_eq, Bool.not_eq_true', decide_eq_false_iff_not, if_true, if_false, Bool.not_true, Bool.not_false, Bool.false_eq_true, reduceCtorEq, decide_true, decide_false, ite_true, ite_false, rSetL, rIxL, tRaise, jCons, jNil, tFmt, tDNew, rCount, rIndex, tCont, tBreak, Int.reduceToNat, Int.reducePow, tCvs]
        refine ⟨a, _, rfl, ⟨by decide, by decide⟩, T1.st, fun c5 HB c50 c51 T2 => ⟨_, rfl, ?_⟩⟩
        replace T1 := T1.trans T2
        obtain ⟨mo, hmo⟩ : ∃ mo, mo = 1 + c5 := ⟨_, rfl⟩
        have mo1 : 1 ≤ mo := by omega
        have mo4 : mo ≤ 4000 := by omega
        rw [← hmo]
        clear hmo c50 c51 T2
        subst hR
        refine tSeq_gen fun R hR => ?_
        simp only [tSeq, tIfS, tTest, tRet, tRetN, tNext, tDrop, tAsg, tPar, tPar3, tAug, tVar, tC, tOp, tUn, rI, rI0, rU, tB, tAnd, tOr, tNot, tAndV, tOrV, tNotV, tIf, gName, gNil, gCons, gTup, gSub, tCB, tCons, tNil, tCall, tChain, ipI, tIsN, tNotN, tBM, tyV, tTup, tLst, rAppend, rCat, scal_ii, scal_bb, scal_ss, scal_ni, scal_in, rEq, rNe, List.getElem?_cons_zero, List.getElem?_cons_succ, List.set_cons_zero, List.set_cons_succ, eq_self, and_assoc, Option.some.injEq, V.int.injEq, V.bl.injEq, V.ref.injEq, V.str.injEq, List.cons.injEq, exists_eq_left', exists_eq_left, exists_and_left, List.nil_append, List.cons_append, List.append_nil, true_and, and_true, decide_eq_true_eq, Bool.not_eq_true', decide_eq_false_iff_not, if_true, if_false, Bool.not_true, Bool.not_false, Bool.false_eq_true, reduceCtorEq, decide_true, decide_false, ite_true, ite_false, rSetL, rIxL, tRaise, jCons, jNil, tFmt, tDNew, rCount, rIndex, tCont, tBreak, Int.reduceToNat, Int.reducePow, tCvs]
        refine tCompC_of ?_
        refine ⟨_, rfl, mo, 1, rfl, rfl, 3, mo + 1, rfl, ⟨by decide, by decide, by omega, by omega⟩, fun b D hcb hD => ?_⟩
        have nDa : D ≠ a := by
          obtain ⟨_, _, e, _⟩ := T1.st
          exact (ne_of_none e hD).symm
        obtain ⟨Pv, hPv⟩ : ∃ Pv : Nat → St → Hp → Prop, ∀ j σ H2, Pv j σ H2 ↔ (∃ v1, σ = [v1]) ∧ Same HB H2 ∧ H2 D = some (.lst ((U.tri j).map V.int)) := ⟨_, fun _ _ _ => Iff.rfl⟩
        refine comp_rangeS (lo := 3) (n := nS 3 (mo + 1)) Pv ((hPv _ _ _).mpr ⟨⟨_, rfl⟩, fun b o e => keep e hD, by rw [U.tri_zero]; exact upd_same⟩) ?_ ?_
        · intro j σ H2 hj h
          obtain ⟨⟨v1, rfl⟩, s2, d2⟩ := (hPv _ _ _).mp h
          have im : 3 + (j : Int) * 2 ≤ mo := upTo_odd hj
          simp only [tSeq, tIfS, tTest, tRet, tRetN, tNext, tDrop, tAsg, tPar, tPar3, tAug, tVar, tC, tOp, tUn, rI, rI0, rU, tB, tAnd, tOr, tNot, tAndV, tOrV, tNotV, tIf, gName, gNil, gCons, gTup, gSub, tCB, tCons, tNil, tCall, tChain, ipI, tIsN, tNotN, tBM, tyV, tTup, tLst, rAppend, rCat, scal_ii, scal_bb, scal_ss, scal_ni, scal_in, rEq, rNe, List.getElem?_cons_zero, List.getElem?_cons_succ, List.set_cons_zero, List.set_cons_succ, eq_self, and_assoc, Option.some.injEq, V.int.injEq, V.bl.injEq, V.ref.injEq, V.str.injEq, List.cons.injEq, exists_eq_left', exists_eq_left, exists_and_left, List.nil_append, List.cons_append, List.append_nil, true_and, and_true, decide_eq_true_eq, Bool.not_eq_true', decide_eq_false_iff_not, if_true, if_false, Bool.not_true, Bool.not_false, Bool.false_eq_true, reduceCtorEq, decide_true, decide_false, ite_true, ite_false, rSetL, rIxL, tRaise, jCons, jNil, tFmt, tDNew, rCount, rIndex, tCont, tBreak, Int.reduceToNat, Int.reducePow, CT, tCvs]
          refine ⟨_, rfl, ⟨by omega, by omega⟩, fun l H3 hl s3 => ?_⟩
          have ts := tri_lies (by omega) hl
          have tl := U.tri_len j
          have d3 := s3 _ _ d2
          cases e : liesL (3 + (j : Int) * 2) l with
          | true =>
            rw [e, if_pos rfl] at ts
            simp only [tSeq, tIfS, tTest, tRet, tRetN, tNext, tDrop, tAsg, tPar, tPar3, tAug, tVar, tC, tOp, tUn, rI, rI0, rU, tB, tAnd, tOr, tNot, tAndV, tOrV, tNotV, tIf, gName, gNil, gCons, gTup, gSub, tCB, tCons, tNil, tCall, tChain, ipI, tIsN, tNotN, tBM, tyV, tTup, tLst, rAppend, rCat, scal_ii, scal_bb, scal_ss, scal_ni, scal_in, rEq, rNe, List.getElem?_cons_zero, List.getElem?_cons_succ, List.set_cons_zero, List.set_cons_succ, eq_self, and_assoc, Option.some.injEq, V.int.injEq, V.bl.injEq, V.ref.injEq, V.str.injEq, List.cons.injEq, exists_eq_left', exists_eq_left, exists_and_left, List.nil_append, List.cons_append, List.append_nil, true_and, and_true, decide_eq_true_eq, Bool.not_eq_true', decide_eq_false_iff_not, if_true, if_false, Bool.not_true, Bool.not_false, Bool.false_eq_true, reduceCtorEq, decide_true, decide_false, ite_true, ite_false, rSetL, rIxL, tRaise, jCons, jNil, tFmt, tDNew, rCount, rIndex, tCont, tBreak, Int.reduceToNat, Int.reducePow, tCvs]
            refine ⟨_, d3, small1000 (by rw [List.length_map]; omega), (hPv _ _ _).mpr ⟨⟨_, rfl⟩, fun b o e => ?_, ?_⟩⟩
            · rw [upd_ne (ne_of_none e hD)]; exact s3 _ _ (s2 _ _ e)
            · rw [upd_same, ts, List.map_append]
              rfl
          | false =>
            rw [e, if_neg (by decide), List.append_nil] at ts
            simp only [tSeq, tIfS, tTest, tRet, tRetN, tNext, tDrop, tAsg, tPar, tPar3, tAug, tVar, tC, tOp, tUn, rI, rI0, rU, tB, tAnd, tOr, tNot, tAndV, tOrV, tNotV, tIf, gName, gNil, gCons, gTup, gSub, tCB, tCons, tNil, tCall, tChain, ipI, tIsN, tNotN, tBM, tyV, tTup, tLst, rAppend, rCat, scal_ii, scal_bb, scal_ss, scal_ni, scal_in, rEq, rNe, List.getElem?_cons_zero, List.getElem?_cons_succ, List.set_cons_zero, List.set_cons_succ, eq_self, and_assoc, Option.some.injEq, V.int.injEq, V.bl.injEq, V.ref.injEq, V.str.injEq, List.cons.injEq, exists_eq_left', exists_eq_left, exists_and_left, List.nil_append, List.cons_append, List.append_nil, true_and, and_true, decide_eq_true_eq, Bool.not_eq_true', decide_eq_false_iff_not, if_true, if_false, Bool.not_true, Bool.not_false, Bool.false_eq_true, reduceCtorEq, decide_true, decide_false, ite_true, ite_false, rSetL, rIxL, tRaise, jCons, jNil, tFmt, tDNew, rCount, rIndex, tCont, tBreak, Int.reduceToNat, Int.reducePow, tCvs]
            exact (hPv _ _ _).mpr ⟨⟨_, rfl⟩, fun b o e => s3 _ _ (s2 _ _ e), by rw [ts]; exact d3⟩
        · intro σ HC h
          obtain ⟨⟨v1, rfl⟩, s2, d2⟩ := (hPv _ _ _).mp h
          clear h hPv hcb
          replace T1 := T1.same s2
          clear s2
          subst hR
          refine tSeq_gen fun R hR => ?_
          dsimp only [tSeq]
          refine tFor_rng ?_
          simp only [tSeq, tIfS, tTest, tRet, tRetN, tNext, tDrop, tAsg, tPar, tPar3, tAug, tVar, tC, tOp, tUn, rI, rI0, rU, tB, tAnd, tOr, tNot, tAndV, tOrV, tNotV, tIf, gName, gNil, gCons, gTup, gSub, tCB, tCons, tNil, tCall, tChain, ipI, tIsN, tNotN, tBM, tyV, tTup, tLst, rAppend, rCat, scal_ii, scal_bb, scal_ss, scal_ni, scal_in, rEq, rNe, List.getElem?_cons_zero, List.getElem?_cons_succ, List.set_cons_zero, List.set_cons_succ, eq_self, and_assoc, Option.some.injEq, V.int.injEq, V.bl.injEq, V.ref.injEq, V.str.injEq, List.cons.injEq, exists_eq_left', exists_eq_left, exists_and_left, List.nil_append, List.cons_append, List.append_nil, true_and, and_true, decide_eq_true_eq, Bool.not_eq_true', decide_eq_false_iff_not, if_true, if_false, Bool.not_true, Bool.not_false, Bool.false_eq_true, reduceCtorEq, decide_true, decide_false, ite_true, ite_false, rSetL, rIxL, tRaise, jCons, jNil, tFmt, tDNew, rCount, rIndex, tCont, tBreak, Int.reduceToNat, Int.reducePow, tCvs]
          obtain ⟨Pw, hPw⟩ : ∃ Pw : Nat → St → Hp → Prop, ∀ j σ H', Pw j σ H' ↔ Same HC H' ∧ ∃ v10 v11, σ = [some (.ref sa), some (.ref kn), some (.int (0 + (i : Int))), some (.ref a), some (.int n), some (.int m), some (.ref so), v7, some (.int mo), some (.ref D), v10, v11, v12, v13] := ⟨_, fun _ _ _ => Iff.rfl⟩
          refine ⟨by decide, by decide, fr_of Pw ((hPw _ _ _).mpr ⟨Same.refl _, _, _, rfl⟩) ?_ ?_⟩
          · intro j σ H' hj h
            obtain ⟨sm, v10, v11, rfl⟩ := (hPw _ _ _).mp h
            simp only [tSeq, tIfS, tTest, tRet, tRetN, tNext, tDrop, tAsg, tPar, tPar3, tAug, tVar, tC, tOp, tUn, rI, rI0, rU, tB, tAnd, tOr, tNot, tAndV, tOrV, tNotV, tIf, gName, gNil, gCons, gTup, gSub, tCB, tCons, tNil, tCall, tChain, ipI, tIsN, tNotN, tBM, tyV, tTup, tLst, rAppend, rCat, scal_ii, scal_bb, scal_ss, scal_ni, scal_in, rEq, rNe, List.getElem?_cons_zero, List.getElem?_cons_succ, List.set_cons_zero, List.set_cons_succ, eq_self, and_assoc, Option.some.injEq, V.int.injEq, V.bl.injEq, V.ref.injEq, V.str.injEq, List.cons.injEq, exists_eq_left', exists_eq_left, exists_and_left, List.nil_append, List.cons_append, List.append_nil, true_and, and_true, decide_eq_true_eq, Bool.not_eq_true', decide_eq_false_iff_not, if_true, if_false, Bool.not_true, Bool.not_false, Bool.false_eq_true, reduceCtorEq, decide_true, decide_false, ite_true, ite_false, rSetL, rIxL, tRaise, jCons, jNil, tFmt, tDNew, rCount, rIndex, tCont, tBreak, Int.reduceToNat, Int.reducePow, tCvs]
            refine ⟨.int mo, _, rfl, .int _, fun h => ?_, fun m' em _ _ D2 G1 s1 hD2 dD2 => ?_⟩
            · rw [isBet_of mo1 (by omega)] at h; cases h
            cases em
            have dD := s1 _ _ (sm _ _ d2)
            refine same_l dD2 dD (by have := U.tri_len (upTo mo); omega) (U.tri_bound _) ⟨_, rfl, ?_⟩
            rw [if_neg (by decide)]
            refine ⟨.inl ⟨_, SqL.of dD2⟩, D2, rfl, _, dD2, small1000 (by rw [List.length_map]; have := U.tri_len (upTo mo); omega), (hPw _ _ _).mpr ⟨fun b o e => ?_, _, _, rfl⟩⟩
            have e1 := sm _ _ e
            rw [upd_ne (ne_of_none e1 hD2)]
            exact s1 _ _ e1
          · intro σ HD h
            obtain ⟨sm, v10, v11, rfl⟩ := (hPw _ _ _).mp h
            clear h hPw
            replace T1 := T1.same sm
            clear sm d2
            show R _ _ _
            subst hR
            refine tSeq_gen fun R hR => ?_
            simp only [tSeq, tIfS, tTest, tRet, tRetN, tNext, tDrop, tAsg, tPar, tPar3, tAug, tVar, tC, tOp, tUn, rI, rI0, rU, tB, tAnd, tOr, tNot, tAndV, tOrV, tNotV, tIf, gName, gNil, gCons, gTup, gSub, tCB, tCons, tNil, tCall, tChain, ipI, tIsN, tNotN, tBM, tyV, tTup, tLst, rAppend, rCat, scal_ii, scal_bb, scal_ss, scal_ni, scal_in, rEq, rNe, List.getElem?_cons_zero, List.getElem?_cons_succ, List.set_cons_zero, List.set_cons_succ, eq_self, and_assoc, Option.some.injEq, V.int.injEq, V.bl.injEq, V.ref.injEq, V.str.injEq, List.cons.injEq, exists_eq_left', exists_eq_left, exists_and_left, List.nil_append, List.cons_append, List.append_nil, true_and, and_true, decide_eq_true_eq, Bool.not_eq_true', decide_eq_false_iff_not, if_true, if_false, Bool.not_true, Bool.not_false, Bool.false_eq_true, reduceCtorEq, decide_true, decide_false, ite_true, ite_false, rSetL, rIxL, tRaise, jCons, jNil, tFmt, tDNew, rCount, rIndex, tCont, tBreak, Int.reduceToNat, Int.reducePow, tCvs]
            refine ⟨⟨by decide, by decide, by decide⟩, by show 1 ≤ sizeLine; decide, fun q1 hq1 => ⟨by show 10 ≤ sizeLine; decide, fun q2 hq2 => ?_⟩⟩
            refine ⟨a, _, rfl, ⟨by decide, by decide⟩, (T1.st.upd hq1).upd hq2, fun e HE e0 e1 U1 => ?_⟩
            have nq1 : q1 ≠ a := by
              obtain ⟨_, _, e, _⟩ := T1.st
              exact (ne_of_none e hq1).symm
            have nq2 : q2 ≠ a := by
              obtain ⟨_, _, e, _⟩ := T1.st
              exact (ne_of_none (keep e hq1) hq2).symm
            have g1 := U1.but q1 _ nq1 (keep upd_same hq2)
            have g2 := U1.but q2 _ nq2 upd_same
            replace T1 := ((T1.new hq1).new hq2).trans U1
            obtain ⟨ov, hat, yy, bA⟩ := odd_at (K := K) no n3 e0 e1 nq1 g1
            refine ⟨_, e, rfl, SqL.of g2, _, hat, ?_⟩
            clear g1 g2 hat e0 e1 nq1 nq2 U1 hq1 hq2
            subst hR
            refine tSeq_gen fun R hR => ?_
            simp only [tSeq, tIfS, tTest, tRet, tRetN, tNext, tDrop, tAsg, tPar, tPar3, tAug, tVar, tC, tOp, tUn, rI, rI0, rU, tB, tAnd, tOr, tNot, tAndV, tOrV, tNotV, tIf, gName, gNil, gCons, gTup, gSub, tCB, tCons, tNil, tCall, tChain, ipI, tIsN, tNotN, tBM, tyV, tTup, tLst, rAppend, rCat, scal_ii, scal_bb, scal_ss, scal_ni, scal_in, rEq, rNe, List.getElem?_cons_zero, List.getElem?_cons_succ, List.set_cons_zero, List.set_cons_succ, eq_self, and_assoc, Option.some.injEq, V.int.injEq, V.bl.injEq, V.ref.injEq, V.str.injEq, List.cons.injEq, exists_eq_left', exists_eq_left, exists_and_left, List.nil_append, List.cons_append, List.append_nil, true_and, and_true, decide_eq_true_eq, Bool.not_eq_true', decide_eq_false_iff_not, if_true, if_false, Bool.not_true, Bool.not_false, Bool.false_eq_true, reduceCtorEq, decide_true, decide_false, ite_true, ite_false, rSetL, rIxL, tRaise, jCons, jNil, tFmt, tDNew, rCount, rIndex, tCont, tBreak, Int.reduceToNat, Int.reducePow, tCvs]
            refine ⟨⟨by decide, by decide, by decide⟩, by show 1 ≤ sizeLine; decide, fun q1 hq1 => ⟨by show 7 ≤ sizeLine; decide, fun q2 hq2 => ?_⟩⟩
            refine ⟨a, _, rfl, ⟨by decide, by decide⟩, (T1.st.upd hq1).upd hq2, fun e HF e0 e1 U1 => ?_⟩
            have nq1 : q1 ≠ a := by
              obtain ⟨_, _, e, _⟩ := T1.st
              exact (ne_of_none e hq1).symm
            have nq2 : q2 ≠ a := by
              obtain ⟨_, _, e, _⟩ := T1.st
              exact (ne_of_none (keep e hq1) hq2).symm
            have g1 := U1.but q1 _ nq1 (keep upd_same hq2)
            have g2 := U1.but q2 _ nq2 upd_same
            have st1 := ((Step.refl T1.st).new hq1 (o := .tup [V.int 9])).new hq2 (o := .lst [V.int 0, V.int (100000 + 1), V.int (-1), V.bl true, V.non, V.str (Str.ofString "9"), V.ref q1])
            replace yy := (yy.step st1.but).step U1.but
            replace T1 := ((T1.new hq1).new hq2).trans U1
            obtain ⟨nv, hat, zz, bB⟩ := none_at (K := K) e0 e1 nq1 g1
            refine ⟨_, e, rfl, SqL.of g2, _, hat, ?_⟩
            clear g1 g2 hat e0 e1 nq1 nq2 U1 hq1 hq2 st1
            have TB3 : TabOk HF Pt qL := T1.tab st0 TB0
            subst hR
            refine tSeq_gen fun R hR => ?_
            simp only [tSeq, tIfS, tTest, tRet, tRetN, tNext, tDrop, tAsg, tPar, tPar3, tAug, tVar, tC, tOp, tUn, rI, rI0, rU, tB, tAnd, tOr, tNot, tAndV, tOrV, tNotV, tIf, gName, gNil, gCons, gTup, gSub, tCB, tCons, tNil, tCall, tChain, ipI, tIsN, tNotN, tBM, tyV, tTup, tLst, rAppend, rCat, scal_ii, scal_bb, scal_ss, scal_ni, scal_in, rEq, rNe, List.getElem?_cons_zero, List.getElem?_cons_succ, List.set_cons_zero, List.set_cons_succ, eq_self, and_assoc, Option.some.injEq, V.int.injEq, V.bl.injEq, V.ref.injEq, V.str.injEq, List.cons.injEq, exists_eq_left', exists_eq_left, exists_and_left, List.nil_append, List.cons_append, List.append_nil, true_and, and_true, decide_eq_true_eq, Bool.not_eq_true', decide_eq_false_iff_not, if_true, if_false, Bool.not_true, Bool.not_false, Bool.false_eq_true, reduceCtorEq, decide_true, decide_false, ite_true, ite_false, rSetL, rIxL, tRaise, jCons, jNil, tFmt, tDNew, rCount, rIndex, tCont, tBreak, Int.reduceToNat, Int.reducePow, tCallW, tCvs]
            refine ⟨TB3, fun f1 c1 ct1 L1 hf1 sx1 tb1 lam1 cod1 b hc => ?_⟩
            obtain ⟨⟨na', tya⟩, _⟩ := yy.tyX TB3 sx1
            refine num_of hc (Lm.self tb1 lam1 cod1) (Same.refl _) W0 (N := ["_law_odd"]) (js := [12]) (vs := [ov]) rfl (cells_nodup _ _ [] (by simp) (by simp)) (fun x hx => cell_has hx) rfl (fun i j v e1 e2 => match i, e1, e2 with | 0, e1, e2 => by cases e1; cases e2; rfl | _ + 1, e1, _ => by cases e1) (fun _ _ _ => rfl) (sp := fun H Q E => spFools K cl [ov] H Q E) (fun A outer s H Q E hr hsp => ⟨_, (pe_call ((B_fools_all b).mono (by decide)) hr rfl D_fools_all.mgx D_fools_all.fn.kp D_fools_all.bd .nil (passes_lam (fun _ _ _ h => h)) (pa_cons (pv 0) pa_nil)), ⟨_, rfl, hsp⟩⟩) (fun R hR => ?_) (fun L2 s2 => ?_) rfl
            · exact ⟨ov, _, rfl, tya, fun _ => hR, fun n' en h => by rw [bA] at h; cases h⟩
            · refine ⟨rfl, ?_⟩
              rw [if_neg (fun h => h rfl)]
              subst hR
              simp only [tSeq, tIfS, tTest, tRet, tRetN, tNext, tDrop, tAsg, tPar, tPar3, tAug, tVar, tC, tOp, tUn, rI, rI0, rU, tB, tAnd, tOr, tNot, tAndV, tOrV, tNotV, tIf, gName, gNil, gCons, gTup, gSub, tCB, tCons, tNil, tCall, tChain, ipI, tIsN, tNotN, tBM, tyV, tTup, tLst, rAppend, rCat, scal_ii, scal_bb, scal_ss, scal_ni, scal_in, rEq, rNe, List.getElem?_cons_zero, List.getElem?_cons_succ, List.set_cons_zero, List.set_cons_succ, eq_self, and_assoc, Option.some.injEq, V.int.injEq, V.bl.injEq, V.ref.injEq, V.str.injEq, List.cons.injEq, exists_eq_left', exists_eq_left, exists_and_left, List.nil_append, List.cons_append, List.append_nil, true_and, and_true, decide_eq_true_eq, Bool.not_eq_true', decide_eq_false_iff_not, if_true, if_false, Bool.not_true, Bool.not_false, Bool.false_eq_true, reduceCtorEq, decide_true, decide_false, ite_true, ite_false, rSetL, rIxL, tRaise, jCons, jNil, tFmt, tDNew, rCount, rIndex, tCont, tBreak, Int.reduceToNat, Int.reducePow, tCallW, tCvs]
              refine ⟨tb1.same s2, fun f2 c2 ct2 L3 hf2 sx2 tb2 lam2 cod2 b hc => ?_⟩
              obtain ⟨⟨nn', tyb⟩, _⟩ := zz.tyX TB3 ((sx1.trans (SameX.of s2)).trans sx2)
              refine num_of hc (Lm.self tb2 lam2 cod2) (Same.refl _) W0 (N := ["_law_none"]) (js := [13]) (vs := [nv]) rfl (cells_nodup _ _ [] (by simp) (by simp)) (fun x hx => cell_has hx) rfl (fun i j v e1 e2 => match i, e1, e2 with | 0, e1, e2 => by cases e1; cases e2; rfl | _ + 1, e1, _ => by cases e1) (fun _ _ _ => rfl) (sp := fun H Q E => spAll K cl [nv] H Q E) (fun A outer s H Q E hr hsp => ⟨_, (pe_call ((B_all_fools b).mono (by decide)) hr rfl D_all_fools.mgx D_all_fools.fn.kp D_all_fools.bd .nil (passes_lam (fun _ _ _ h => h)) (pa_cons (pv 0) pa_nil)), ⟨_, rfl, hsp⟩⟩) (fun R hR => ?_) (fun L4 s4 => ?_) rfl
              · exact ⟨nv, _, rfl, tyb, fun _ => hR, fun m' em h1 h2 => by rw [em, isBet_of h1 h2] at bB; cases bB⟩
              · refine ⟨rfl, ?_⟩
                rw [if_neg (fun h => h rfl)]
                refine (hPl _ _ _).mpr ⟨fun b o hb e => ?_, tb2.same s4, _, _, _, _, _, _, _, _, _, _, _, _, rfl⟩
                have e1 := sx1 b o hb (T1.but b o (nb b o hb e) (S0 b o hb e))
                exact s4 _ _ (sx2 b o hb (s2 _ _ e1))
    · intro σ H1 hP
      obtain ⟨S, TB, v2, v3, v4, v5, v6, v7, v8, v9, v10, v11, v12, v13, rfl⟩ := (hPl _ _ _).mp hP
      clear hP
      subst hR0
      simp only [tSeq, tIfS, tTest, tRet, tRetN, tNext, tDrop, tAsg, tPar, tPar3, tAug, tVar, tC, tOp, tUn, rI, rI0, rU, tB, tAnd, tOr, tNot, tAndV, tOrV, tNotV, tIf, gName, gNil, gCons, gTup, gSub, tCB, tCons, tNil, tCall, tChain, ipI, tIsN, tNotN, tBM, tyV, tTup, tLst, rAppend, rCat, scal_ii, scal_bb, scal_ss, scal_ni, scal_in, rEq, rNe, List.getElem?_cons_zero, List.getElem?_cons_succ, List.set_cons_zero, List.set_cons_succ, eq_self, and_assoc, Option.some.injEq, V.int.injEq, V.bl.injEq, V.ref.injEq, V.str.injEq, List.cons.injEq, exists_eq_left', exists_eq_left, exists_and_left, List.nil_append, List.cons_append, List.append_nil, true_and, and_true, decide_eq_true_eq, Bool.not_eq_true', decide_eq_false_iff_not, if_true, if_false, Bool.not_true, Bool.not_false, Bool.false_eq_true, reduceCtorEq, decide_true, decide_false, ite_true, ite_false, rSetL, rIxL, tRaise, jCons, jNil, tFmt, tDNew, rCount, rIndex, tCont, tBreak, Int.reduceToNat, Int.reducePow, tCvs]
      refine ⟨⟨by decide, by decide, by decide⟩, .int 100000, _, rfl, .int _, fun h => ?_, fun m em _ _ D G s1 hD dD => ?_⟩
      · cases h
      cases em
      have eA : (U.tri (upTo 100000)).map V.int = KL := by
        rw [show upTo 100000 = 49999 from rfl, U.tri_all, List.map_map]
        rfl
      rw [eA] at dD
      have kN := s1 _ _ (S kn _ nKT hKN)
      refine ⟨U.known.map fun n : Nat => Dt.int (n : Int), U.known.map fun n : Nat => Dt.int (n : Int), .inr ⟨⟨D, _, rfl, SqL.of dD, repK⟩, ⟨kn, _, rfl, SqL.of kN, repK⟩⟩, by decide +kernel, ?_⟩
      rw [eqDL_self]
      exact k _
end
end PP
set_option Elab.async false
set_option linter.all false
set_option maxRecDepth 100000
set_option maxHeartbeats 4000000
namespace L2
open PySem PySem.Spec PyProof.Rows
theorem loose_int {p : Program} {lv : List (Str × PySem.W.WData)} {mg : Str → Option Value} {h : Heap} {n : Str} {i : Int} (x : PySem.W.XL p lv mg h) (hm : (n, PySem.W.WData.int i) ∈ lv) : ∃ t, mg n = some (.int i t) := by
  obtain ⟨v, a, b⟩ := x.2.val _ hm
  cases b
  exact ⟨_, a⟩
end L2
set_option Elab.async false
set_option linter.all false
set_option maxRecDepth 100000
namespace OP
open PySem PySem.W PySem.Calls PyProof.Rows
noncomputable def topRunT (tb : String → Option Builtin) (p : Program) (w : World) (n₀ : Nat) (ann : Option Value) : Nat → SharedT → Thread → Option SharedT
  | 0, _, _ => none
  | n + 1, s, t => match through t with
    | true => some s
    | false => match stepOk n₀ ann t with
      | false => none
      | true => match stepT (denote tb) p w s t with
        | some (s', t') => topRunT tb p w n₀ ann n s' t'
        | none => none
theorem topRun_of {tb : String → Option Builtin} {p : Program} {w : World} {n₀ : Nat} {ann : Option Value} : ∀ {n : Nat} {s s' : SharedT} {t : Thread}, topRunT tb p w n₀ ann n s t = some s' → topRun tb p w n₀ ann n s.abs t = some s'.abs
  | 0, _, _, _, h => by cases h
  | n + 1, s, s', t, h => by
    unfold topRunT at h
    unfold topRun
    cases he : through t with
    | true => rw [he] at h; cases h; rfl
    | false =>
      rw [he] at h
      cases hk : stepOk n₀ ann t with
      | false => rw [hk] at h; cases h
      | true =>
        rw [hk] at h
        cases hs : stepT (denote tb) p w s t with
        | none => rw [hs] at h; cases h
        | some r => obtain ⟨s₂, t₂⟩ := r; rw [hs] at h; rw [stepT_spec hs]; exact topRun_of h
noncomputable def bootT (P : Params) : BT :=
  .node (boot_o_0 P)
    (.node (boot_o_1 P) (.node (boot_o_3 P) (.node (boot_o_7 P) .nil .nil) .nil) (.node (boot_o_5 P) (.node (boot_o_9 P) .nil .nil) .nil))
    (.node (boot_o_2 P) (.node (boot_o_4 P) (.node (boot_o_8 P) .nil .nil) .nil) (.node (boot_o_6 P) (.node (boot_o_10 P) .nil .nil) .nil))
noncomputable def bootS (P : Params) (os : OsState) : SharedT := ⟨bootT P, 11, (boot_heap P).life, Array.mk [], boot_drawn, boot_toks, os⟩
theorem bootS_abs (P : Params) (os : OsState) : (bootS P os).abs = ⟨boot_heap P, Array.mk [], boot_drawn, boot_toks, os⟩ := rfl
noncomputable def annOf (P : Params) : Option Value := (boot_heap P).nsMap mainGlobals "__annotations__"
theorem boot_size (P : Params) : ((boot_heap P).isNs mainGlobals && (Array.mk [] : Array GenState).size == 0) = true := by kernel_rfl
noncomputable def goT {α : Type} (h₀ : Heap) (ann : Option Value) (s₀ : SharedT) (p q : Program) (loose : List Str) (Xt : Shared → Bool) (Yf : Shared → α) (M : Nat) (w : World) :=
  (topRunT treeTable p w 11 ann M s₀ (topStub p)).map fun s =>
    ((staticsOk (importedModules p.main.body) h₀ s.abs.heap && namesBound p s.abs.heap && gensDone s.abs && laidKept h₀ s.abs.heap),
      openSeen q loose (importedModules p.main.body) Xt true s.abs, Yf s.abs)
theorem left_of_run {p q : Program} {loose : List Str} {Xt : Shared → Bool} {α : Type} {Yf : Shared → α} {Ya : World → α} {N M : Nat}
    (e : opening p = plainProg p.main.scope.names) (hN : Nat.ble 600 N = true) (f : ∀ s, fenceModules? p s = some s)
    (run : ∀ (w : World) (os : OsState), goT (boot_heap w.params) (annOf w.params) (bootS w.params os) p q loose Xt Yf M w = some (true, openGood q loose, Ya w)) (le : Nat.ble M N = true) : LeftO p q loose Xt Yf Ya N := fun w => by
  obtain ⟨⟨h, gs, d, k, os⟩, e1, e2⟩ := Option.map_eq_some_iff.mp (boot_open e hN f w)
  obtain ⟨rfl, rfl, rfl, rfl⟩ : h = boot_heap w.params ∧ gs = Array.mk [] ∧ d = boot_drawn ∧ k = boot_toks := by simpa using e2
  obtain ⟨s, hs, hl⟩ := Option.map_eq_some_iff.mp (run w os)
  have r := topRun_mono (N - M) _ _ _ _ (topRun_of hs)
  rw [show M + (N - M) = N by have := Nat.le_of_ble_eq_true le; omega, bootS_abs] at r
  obtain ⟨l1, l2, l3⟩ : _ ∧ _ ∧ _ := by simpa only [Prod.mk.injEq] using hl
  have t : topFrom treeTable p w N ⟨boot_heap w.params, Array.mk [], boot_drawn, boot_toks, os⟩ = some s.abs := by
    unfold topFrom
    dsimp only
    rw [boot_size]
    dsimp only
    rw [show (boot_heap w.params).objs.size = 11 from rfl]
    unfold annOf at r
    rw [r]
    show (match staticsOk (importedModules p.main.body) (boot_heap w.params) s.abs.heap && namesBound p s.abs.heap && gensDone s.abs && laidKept (boot_heap w.params) s.abs.heap with | true => _ | false => _) = _
    rw [l1]
  unfold openEnds
  rw [e1]
  show (topFrom treeTable p w N _).map _ = _
  rw [t]
  exact congrArg some (Prod.ext l2 l3)
end OP
set_option maxHeartbeats 0
lay_quick OP.goT
namespace OP
open PySem PySem.W PySem.Calls PyProof.Rows
noncomputable def qOf (n : Nat) (p : Program) : Program := { p with main := { p.main with body := [p.main.body.getD n (.Pass ⟨0, 0, 0, 0⟩)] } }
theorem left_tw {p p' : Program} {n : Nat} {loose : List Str} {lv : List (Str × WData)} {R : WRecords} {α : Type} {Yf : Shared → α} {Ya : World → α} {N : Nat} (M : Nat) (hp : p = p')
    (e : opening p = plainProg p.main.scope.names) (hN : Nat.ble 600 N = true) (f : ∀ s, fenceModules? p s = some s) (le : Nat.ble M N = true)
    (run : ∀ (w : World) (os : OsState), PySem.W.Fast.tw9285885503168683399 (boot_heap w.params) (annOf w.params) (bootS w.params os) p' (qOf n p') loose (fun s => xlAt (qOf n p') lv s && recOk R s) Yf M w = some (true, openGood (qOf n p') loose, Ya w)) :
    LeftO p (qOf n p) loose (fun s => xlAt (qOf n p) lv s && recOk R s) Yf Ya N := by
  subst hp
  refine left_of_run e hN f (fun w os => ?_) le
  rw [PySem.W.Fast.te9285885503168683399]
  exact run w os
end OP
set_option Elab.async false
set_option linter.all false
set_option maxRecDepth 100000
set_option maxHeartbeats 4000000
namespace L2
open PySem PySem.Spec PyProof.Rows
theorem walk_ofP {l : PySem.W.OpenLaw} {n k : Nat} {q : Program} {loose : List Str} {XP : (Str → Option Value) → Heap → Prop} {YP : World → Heap → Prop} {d : DefRec} {K : Params → PySem.W.Frag} {CX : World → CXT} {sp : Addr → World → PySem.W.Frag → Sp} {x : Str} {Pt : Addr}
    (hn : l.most = some n) (hn2 : n ≤ sizeLine) (hdf : d.params.defaults = []) (hr : Room k callerA)
    (hY : ∀ (w : World) (h : Heap), YP w h → (K w.params).In h ∧ h.get? Pt = some (PySem.W.tabObj #[]))
    (F : ∀ (w : World) (mg : Str → Option Value) (fa : Addr) (h : Heap), (K w.params).In h → h.Ns mainGlobals mg → XP mg h → mg d.name = some (.ref fa) →
      ∃ (fd : FuncData) (c : Addr), PySem.W.codeHdIn (K w.params) c Pt = true ∧ (K w.params).lookup Pt = none ∧ (∀ (s : Shared) (u : Value), BindsTo s fd ⟨[u], []⟩ [(x, u)]) ∧
        ∀ base : Heap, (K w.params).In base → base.Ns mainGlobals mg → base.BuiltinsAt mg Pt → FnOk l.prog w (K w.params) mg base (CX w) k fa fd [x] (sp Pt w (K w.params)))
    (hsp : ∀ (w : World) (K : PySem.W.Frag) (H : Hp) (a : Addr) (ns : List Int), ns.length ≤ n → OnlyT Pt H → SqL K H a (ns.map V.int) → H Pt = some (.tbl #[]) → sp Pt w K [.ref a] H (fun v _ => v = .bl true) fun _ _ _ => False)
    (hCX : ∀ (w : World) (H : Hp) (s : Shared) (e : Value) (s' : Shared), CX w [] H s (fun _ _ _ => False) e s' → False) :
    PySem.W.WalkO q loose XP YP l.row.toRowW d [] (fun f vs => PySem.call f vs) := by
  exact walk_ofT (sp := sp Pt) hn hn2 hdf hr hY F hsp hCX
end L2
set_option Elab.async false
set_option linter.all false
set_option maxRecDepth 100000
set_option maxHeartbeats 8000000
namespace PP
open PySem L2 MM
theorem us1 {us : List Value} (h : us.length = 1) : ∃ a, us = [a] := by
  cases us with
  | nil => cases h
  | cons a r => cases r with
    | nil => exact ⟨a, rfl⟩
    | cons b s => cases h
theorem us2 {us : List Value} (h : us.length = 2) : ∃ a b, us = [a, b] := by
  cases us with
  | nil => cases h
  | cons a r =>
    obtain ⟨b, rfl⟩ := us1 (Nat.succ.inj h)
    exact ⟨a, b, rfl⟩
theorem us3 {us : List Value} (h : us.length = 3) : ∃ a b c, us = [a, b, c] := by
  cases us with
  | nil => cases h
  | cons a r =>
    obtain ⟨b, c, rfl⟩ := us2 (Nat.succ.inj h)
    exact ⟨a, b, c, rfl⟩
theorem us4 {us : List Value} (h : us.length = 4) : ∃ a b c d, us = [a, b, c, d] := by
  cases us with
  | nil => cases h
  | cons a r =>
    obtain ⟨b, c, d, rfl⟩ := us3 (Nat.succ.inj h)
    exact ⟨a, b, c, d, rfl⟩
theorem def_mk {K : PySem.W.Frag} {h : Heap} {mg : Str → Option Value} {x : Str} {st : Stmt} {ps : List Str} {f : Addr} {oc : Value} {od an : Option Addr} {osl : Array (Option Value)} {kV doc pm cdv ct : Value} (X : K.In h) (G : h.Ns mainGlobals mg)
    (a : PySem.W.nsIn K mainGlobals x = some (some (.ref f))) (l : K.lookup f = some ⟨oc, od, .func (PySem.W.fnOf x x (defArgs st) (defBody st) (defScope st) .none kV doc pm an cdv ct), osl⟩) (c : PySem.W.codeIn K cdv x = true) (k : PySem.W.keepIn K (.ref f) = true)
    (hb : ∀ (kV doc pm : Value) (an : Option Addr) (cdv ct : Value) (us : List Value), us.length = ps.length → bindArgs (PySem.W.fnOf x x (defArgs st) (defBody st) (defScope st) .none kV doc pm an cdv ct) ⟨us, []⟩ = pure (ps.zip us)) : ∃ fd, Def K mg x st ps f fd := by
  have F := fun_mk (st := st) l c k
  exact ⟨_, F, F.binds hb, PySem.W.mg_of X G a⟩
section
variable {P : Program} {w : World} {K : PySem.W.Frag} {mg : Str → Option Value} {base : Heap}
theorem all_ok {t1 t2 : Tok} {cl : Cl} {fa c Pt : Addr} {oc kV doc pm ct : Value} {od an : Option Addr} {osl : Array (Option Value)}
    (lk : K.lookup fa = some ⟨oc, od, .func (PySem.W.fnOf "law" "law" (defArgs s_law) (defBody s_law) (defScope s_law) .none kV doc pm an (.ref c) ct), osl⟩) (hcd : PySem.W.codeIn K (.ref c) "law" = true) (hd : PySem.W.CodeHd base c Pt) (bm : base.BuiltinsAt mg Pt)
    (T : Txt K mg t1 t2 cl) (W0 : WordC K cl cl.nn 0) (d_is_whole : ∃ f fd, Df_is_whole K mg f fd) (d_is_between : ∃ f fd, Df_is_between K mg f fd) (d_want_between : ∃ f fd, Df_want_between K mg f fd) (d_want_odd : ∃ f fd, Df_want_odd K mg f fd) (d_want_tried : ∃ f fd, Df_want_tried K mg f fd) (d_least_part : ∃ f fd, Df_least_part K mg f fd) (d_parts_of : ∃ f fd, Df_parts_of K mg f fd) (d_lies_to_all : ∃ f fd, Df_lies_to_all K mg f fd) (d_fools_all : ∃ f fd, Df_fools_all K mg f fd) (d_all_fools : ∃ f fd, Df_all_fools K mg f fd) (d_law_cell_at : ∃ f fd, Df_law_cell_at K mg f fd) (d_law_state : ∃ f fd, Df_law_state K mg f fd) (d_law_choice : ∃ f fd, Df_law_choice K mg f fd) (d_law_same : ∃ f fd, Df_law_same K mg f fd) (d_law_power : ∃ f fd, Df_law_power K mg f fd) (d_law_is_prime : ∃ f fd, Df_law_is_prime K mg f fd) (d_law_common : ∃ f fd, Df_law_common K mg f fd) (d_law_parts : ∃ f fd, Df_law_parts K mg f fd) (d_law_fools : ∃ f fd, Df_law_fools K mg f fd) (d_law_by_parts : ∃ f fd, Df_law_by_parts K mg f fd) (d_law_marks : ∃ f fd, Df_law_marks K mg f fd) (d_law_said : ∃ f fd, Df_law_said K mg f fd) : FnOk P w K mg base CX0 12 fa (PySem.W.fnOf "law" "law" (defArgs s_law) (defBody s_law) (defScope s_law) .none kV doc pm an (.ref c) ct) ["_law_script"] (spLaw K Pt) := by
  obtain ⟨f_is_whole, fd_is_whole, D_is_whole⟩ := d_is_whole
  obtain ⟨f_is_between, fd_is_between, D_is_between⟩ := d_is_between
  obtain ⟨f_want_between, fd_want_between, D_want_between⟩ := d_want_between
  obtain ⟨f_want_odd, fd_want_odd, D_want_odd⟩ := d_want_odd
  obtain ⟨f_want_tried, fd_want_tried, D_want_tried⟩ := d_want_tried
  obtain ⟨f_least_part, fd_least_part, D_least_part⟩ := d_least_part
  obtain ⟨f_parts_of, fd_parts_of, D_parts_of⟩ := d_parts_of
  obtain ⟨f_lies_to_all, fd_lies_to_all, D_lies_to_all⟩ := d_lies_to_all
  obtain ⟨f_fools_all, fd_fools_all, D_fools_all⟩ := d_fools_all
  obtain ⟨f_all_fools, fd_all_fools, D_all_fools⟩ := d_all_fools
  obtain ⟨f_law_cell_at, fd_law_cell_at, D_law_cell_at⟩ := d_law_cell_at
  obtain ⟨f_law_state, fd_law_state, D_law_state⟩ := d_law_state
  obtain ⟨f_law_choice, fd_law_choice, D_law_choice⟩ := d_law_choice
  obtain ⟨f_law_same, fd_law_same, D_law_same⟩ := d_law_same
  obtain ⟨f_law_power, fd_law_power, D_law_power⟩ := d_law_power
  obtain ⟨f_law_is_prime, fd_law_is_prime, D_law_is_prime⟩ := d_law_is_prime
  obtain ⟨f_law_common, fd_law_common, D_law_common⟩ := d_law_common
  obtain ⟨f_law_parts, fd_law_parts, D_law_parts⟩ := d_law_parts
  obtain ⟨f_law_fools, fd_law_fools, D_law_fools⟩ := d_law_fools
  obtain ⟨f_law_by_parts, fd_law_by_parts, D_law_by_parts⟩ := d_law_by_parts
  obtain ⟨f_law_marks, fd_law_marks, D_law_marks⟩ := d_law_marks
  obtain ⟨f_law_said, fd_law_said, D_law_said⟩ := d_law_said
  have O_is_whole : ∃ f fd, Df_is_whole K mg f fd ∧ FnOk P w K mg base CX0 1 f fd _ _ := ⟨_, _, D_is_whole, ok_is_whole D_is_whole T⟩
  have O_is_between : ∃ f fd, Df_is_between K mg f fd ∧ FnOk P w K mg base CX0 2 f fd _ _ := ⟨_, _, D_is_between, ok_is_between D_is_between T D_is_whole⟩
  have O_want_between : ∃ f fd, Df_want_between K mg f fd ∧ FnOk P w K mg base (CXE P w) 3 f fd _ _ := ⟨_, _, D_want_between, ok_want_between D_want_between T O_is_between⟩
  have O_want_odd : ∃ f fd, Df_want_odd K mg f fd ∧ FnOk P w K mg base (CXE P w) 3 f fd _ _ := ⟨_, _, D_want_odd, ok_want_odd D_want_odd T O_is_between⟩
  have O_want_tried : ∃ f fd, Df_want_tried K mg f fd ∧ FnOk P w K mg base (CXE P w) 4 f fd _ _ := ⟨_, _, D_want_tried, ok_want_tried D_want_tried T O_want_between⟩
  have O_least_part : ∃ f fd, Df_least_part K mg f fd ∧ FnOk P w K mg base CX0 1 f fd _ _ := ⟨_, _, D_least_part, ok_least_part D_least_part T⟩
  have O_parts_of : ∃ f fd, Df_parts_of K mg f fd ∧ FnOk P w K mg base (CXE P w) 5 f fd _ _ := ⟨_, _, D_parts_of, ok_parts_of D_parts_of T O_want_tried O_least_part⟩
  have O_lies_to_all : ∃ f fd, Df_lies_to_all K mg f fd ∧ FnOk P w K mg base CX0 6 f fd _ _ := ⟨_, _, D_lies_to_all, ok_lies_to_all D_lies_to_all T O_parts_of⟩
  have OB_lies_to_all : OB_lies_to_all P w K mg cl := ⟨_, _, D_lies_to_all, fun b => ok_lies_to_all D_lies_to_all T ⟨_, _, D_parts_of, ok_parts_of D_parts_of T ⟨_, _, D_want_tried, ok_want_tried D_want_tried T ⟨_, _, D_want_between, ok_want_between D_want_between T ⟨_, _, D_is_between, ok_is_between D_is_between T D_is_whole⟩⟩⟩ ⟨_, _, D_least_part, ok_least_part D_least_part T⟩⟩⟩
  have O_fools_all : ∃ f fd, Df_fools_all K mg f fd ∧ FnOk P w K mg base (CXE P w) 7 f fd _ _ := ⟨_, _, D_fools_all, ok_fools_all D_fools_all T O_want_odd O_lies_to_all⟩
  have OB_fools_all : OB_fools_all P w K mg cl := ⟨_, _, D_fools_all, fun b => ok_fools_all D_fools_all T ⟨_, _, D_want_odd, ok_want_odd D_want_odd T ⟨_, _, D_is_between, ok_is_between D_is_between T D_is_whole⟩⟩ ⟨_, _, D_lies_to_all, ok_lies_to_all D_lies_to_all T ⟨_, _, D_parts_of, ok_parts_of D_parts_of T ⟨_, _, D_want_tried, ok_want_tried D_want_tried T ⟨_, _, D_want_between, ok_want_between D_want_between T ⟨_, _, D_is_between, ok_is_between D_is_between T D_is_whole⟩⟩⟩ ⟨_, _, D_least_part, ok_least_part D_least_part T⟩⟩⟩⟩
  have O_all_fools : ∃ f fd, Df_all_fools K mg f fd ∧ FnOk P w K mg base (CXE P w) 7 f fd _ _ := ⟨_, _, D_all_fools, ok_all_fools D_all_fools T O_want_between OB_lies_to_all⟩
  have OB_all_fools : OB_all_fools P w K mg cl := ⟨_, _, D_all_fools, fun b => ok_all_fools D_all_fools T ⟨_, _, D_want_between, ok_want_between D_want_between T ⟨_, _, D_is_between, ok_is_between D_is_between T D_is_whole⟩⟩ ⟨_, _, D_lies_to_all, fun b => ok_lies_to_all D_lies_to_all T ⟨_, _, D_parts_of, ok_parts_of D_parts_of T ⟨_, _, D_want_tried, ok_want_tried D_want_tried T ⟨_, _, D_want_between, ok_want_between D_want_between T ⟨_, _, D_is_between, ok_is_between D_is_between T D_is_whole⟩⟩⟩ ⟨_, _, D_least_part, ok_least_part D_least_part T⟩⟩⟩⟩
  have O_law_cell_at : ∃ f fd, Df_law_cell_at K mg f fd ∧ FnOk P w K mg base CX0 1 f fd _ _ := ⟨_, _, D_law_cell_at, ok_law_cell_at D_law_cell_at T⟩
  have O_law_state : ∃ f fd, Df_law_state K mg f fd ∧ FnOk P w K mg base CX0 2 f fd _ _ := ⟨_, _, D_law_state, ok_law_state D_law_state T O_law_cell_at⟩
  have O_law_choice : ∃ f fd, Df_law_choice K mg f fd ∧ FnOk P w K mg base CX0 1 f fd _ _ := ⟨_, _, D_law_choice, ok_law_choice D_law_choice T⟩
  have O_law_same : ∃ f fd, Df_law_same K mg f fd ∧ FnOk P w K mg base CX0 1 f fd _ _ := ⟨_, _, D_law_same, ok_law_same D_law_same T⟩
  have O_law_power : ∃ f fd, Df_law_power K mg f fd ∧ FnOk P w K mg base CX0 1 f fd _ _ := ⟨_, _, D_law_power, ok_law_power D_law_power T⟩
  have O_law_is_prime : ∃ f fd, Df_law_is_prime K mg f fd ∧ FnOk P w K mg base CX0 1 f fd _ _ := ⟨_, _, D_law_is_prime, ok_law_is_prime D_law_is_prime T⟩
  have O_law_common : ∃ f fd, Df_law_common K mg f fd ∧ FnOk P w K mg base CX0 1 f fd _ _ := ⟨_, _, D_law_common, ok_law_common D_law_common T⟩
  have O_law_parts : ∃ f fd, Df_law_parts K mg f fd ∧ FnOk P w K mg base CX0 1 f fd _ _ := ⟨_, _, D_law_parts, ok_law_parts D_law_parts T⟩
  have O_law_fools : ∃ f fd, Df_law_fools K mg f fd ∧ FnOk P w K mg base CX0 2 f fd _ _ := ⟨_, _, D_law_fools, ok_law_fools D_law_fools T O_law_is_prime O_law_power O_law_common⟩
  have O_law_by_parts : ∃ f fd, Df_law_by_parts K mg f fd ∧ FnOk P w K mg base CX0 2 f fd _ _ := ⟨_, _, D_law_by_parts, ok_law_by_parts D_law_by_parts T O_law_parts⟩
  have OB_law_by_parts : OB_law_by_parts P w K mg cl := ⟨_, _, D_law_by_parts, fun b => ok_law_by_parts D_law_by_parts T ⟨_, _, D_law_parts, ok_law_parts D_law_parts T⟩⟩
  have MM_law_marks : MM_law_marks P w K mg base cl := ⟨_, _, D_law_marks, ok_law_marks D_law_marks T⟩
  have O_law_said : ∃ f fd, Df_law_said K mg f fd ∧ FnOk P w K mg base CX0 10 f fd _ _ := ⟨_, _, D_law_said, ok_law_said D_law_said T MM_law_marks⟩
  have OB_law_said : OB_law_said P w K mg cl := ⟨_, _, D_law_said, fun b => ok_law_said D_law_said T ⟨_, _, D_law_marks, ok_law_marks D_law_marks T⟩⟩
  exact ok_law lk hcd hd bm T W0 O_law_state O_law_choice O_law_same O_law_fools OB_law_by_parts OB_fools_all OB_all_fools OB_law_said
theorem cl_mk {KK : PySem.W.Frag} {h : Heap} {mg : Str → Option Value} {pe nn np pa pp nb nt nl nm nd tg : Addr} (X : KK.In h) (G : h.Ns mainGlobals mg) (a0 : PySem.W.nsIn KK mainGlobals "PrimeError" = some (some (.ref pe))) (a1 : PySem.W.nsIn KK mainGlobals "NoNumber" = some (some (.ref nn))) (a2 : PySem.W.nsIn KK mainGlobals "NoPrime" = some (some (.ref np))) (a3 : PySem.W.nsIn KK mainGlobals "NoPair" = some (some (.ref pa))) (a4 : PySem.W.nsIn KK mainGlobals "NoPaper" = some (some (.ref pp))) (a5 : PySem.W.nsIn KK mainGlobals "NoBases" = some (some (.ref nb))) (a6 : PySem.W.nsIn KK mainGlobals "NoText" = some (some (.ref nt))) (a7 : PySem.W.nsIn KK mainGlobals "NoLine" = some (some (.ref nl))) (a8 : PySem.W.nsIn KK mainGlobals "NoName" = some (some (.ref nm))) (a9 : PySem.W.nsIn KK mainGlobals "NoDeed" = some (some (.ref nd))) (a10 : PySem.W.nsIn KK mainGlobals "TooGreat" = some (some (.ref tg))) (x0 : ExcC KK nn) (w0 : WordC KK ⟨pe, nn, np, pa, pp, nb, nt, nl, nm, nd, tg⟩ nn 0) : ∃ cl : Cl, (mg "PrimeError" = some (.ref cl.pe) ∧ mg "NoNumber" = some (.ref cl.nn) ∧ mg "NoPrime" = some (.ref cl.np) ∧ mg "NoPair" = some (.ref cl.pa) ∧ mg "NoPaper" = some (.ref cl.pp) ∧ mg "NoBases" = some (.ref cl.nb) ∧ mg "NoText" = some (.ref cl.nt) ∧ mg "NoLine" = some (.ref cl.nl) ∧ mg "NoName" = some (.ref cl.nm) ∧ mg "NoDeed" = some (.ref cl.nd) ∧ mg "TooGreat" = some (.ref cl.tg)) ∧ ExcC KK cl.nn ∧ WordC KK cl cl.nn 0 :=
  ⟨⟨pe, nn, np, pa, pp, nb, nt, nl, nm, nd, tg⟩, ⟨PySem.W.mg_of X G a0, PySem.W.mg_of X G a1, PySem.W.mg_of X G a2, PySem.W.mg_of X G a3, PySem.W.mg_of X G a4, PySem.W.mg_of X G a5, PySem.W.mg_of X G a6, PySem.W.mg_of X G a7, PySem.W.mg_of X G a8, PySem.W.mg_of X G a9, PySem.W.mg_of X G a10⟩, x0, w0⟩
theorem fin_of {Pr : Program} {w : World} {KK : PySem.W.Frag} {mg : Str → Option Value} {fa fl c Pt : Addr} {oc kV doc pm ct : Value} {od an : Option Addr} {osl : Array (Option Value)} (hmg : mg "law" = some (.ref fa)) (hm : mg "law" = some (.ref fl))
    (hl : KK.lookup fl = some ⟨oc, od, .func (PySem.W.fnOf "law" "law" (defArgs s_law) (defBody s_law) (defScope s_law) .none kV doc pm an (.ref c) ct), osl⟩) (hc : PySem.W.codeIn KK (.ref c) "law" = true) (hh : PySem.W.codeHdIn KK c Pt = true) (hn : KK.lookup Pt = none)
    (all : ∀ base : Heap, KK.In base → base.BuiltinsAt mg Pt → KK.lookup fl = some ⟨oc, od, .func (PySem.W.fnOf "law" "law" (defArgs s_law) (defBody s_law) (defScope s_law) .none kV doc pm an (.ref c) ct), osl⟩ → PySem.W.codeIn KK (.ref c) "law" = true → PySem.W.CodeHd base c Pt → FnOk Pr w KK mg base CX0 12 fl (PySem.W.fnOf "law" "law" (defArgs s_law) (defBody s_law) (defScope s_law) .none kV doc pm an (.ref c) ct) ["_law_script"] (spLaw KK Pt)) :
    ∃ (fd : FuncData) (c : Addr), PySem.W.codeHdIn KK c Pt = true ∧ KK.lookup Pt = none ∧ (∀ (s : Shared) (u : Value), BindsTo s fd ⟨[u], []⟩ [("_law_script", u)]) ∧ ∀ base : Heap, KK.In base → base.Ns mainGlobals mg → base.BuiltinsAt mg Pt → FnOk Pr w KK mg base CX0 12 fa fd ["_law_script"] (spLaw KK Pt) := by
  have e0 := hmg.symm.trans hm
  cases e0
  exact ⟨_, c, hh, hn, fun s u => .of_eq rfl, fun base kb nb bm => all base kb bm hl hc (PySem.W.codeHd_of_K kb hh)⟩
end
end PP
set_option maxHeartbeats 0
noncomputable def OP.lo : List PySem.Str := [PySem.Str.ofString "__name__", PySem.Str.ofString "PrimeError", PySem.Str.ofString "NoNumber", PySem.Str.ofString "NoPrime", PySem.Str.ofString "NoPair", PySem.Str.ofString "NoPaper", PySem.Str.ofString "NoBases", PySem.Str.ofString "NoText", PySem.Str.ofString "NoLine", PySem.Str.ofString "NoName", PySem.Str.ofString "NoDeed", PySem.Str.ofString "TooGreat", PySem.Str.ofString "MOST_TRIED", PySem.Str.ofString "is_whole", PySem.Str.ofString "is_between", PySem.Str.ofString "want_between", PySem.Str.ofString "want_odd", PySem.Str.ofString "want_tried", PySem.Str.ofString "parts_of", PySem.Str.ofString "least_part", PySem.Str.ofString "MOST_FOOLS", PySem.Str.ofString "fools_all", PySem.Str.ofString "all_fools", PySem.Str.ofString "lies_to_all", PySem.Str.ofString "_law_cell_at", PySem.Str.ofString "_law_state", PySem.Str.ofString "_law_choice", PySem.Str.ofString "_law_same", PySem.Str.ofString "_law_marks", PySem.Str.ofString "_law_said", PySem.Str.ofString "_law_power", PySem.Str.ofString "_law_common", PySem.Str.ofString "_law_parts", PySem.Str.ofString "_law_is_prime", PySem.Str.ofString "_law_fools", PySem.Str.ofString "_law_by_parts"]
theorem OP.pwe : PySem.Challenge.pw_primepapers_k53_numbers_that_fool_all = PySem.Challenge.pw_primepapers_k53_numbers_that_fool_all := rfl
name_quick pT for PySem.Challenge.pw_primepapers_k53_numbers_that_fool_all by OP.pwe
open PySem PySem.W PyProof.Rows in
local macro_rules | `(tactic| o_head $H) => `(tactic| (
  refine PySem.W.holds_open (q := (OP.qOf 40 PySem.Challenge.pw_primepapers_k53_numbers_that_fool_all)) (loose := OP.lo) (Xt := fun s => xlAt (OP.qOf 40 PySem.Challenge.pw_primepapers_k53_numbers_that_fool_all) ([("MOST_TRIED", PySem.W.WData.int 1000000000), ("MOST_FOOLS", PySem.W.WData.int 100000)] : List (PySem.Str × PySem.W.WData)) s && recOk (PySem.Challenge.rw_primepapers_k53_numbers_that_fool_all.row.records) s) (XP := XL (OP.qOf 40 PySem.Challenge.pw_primepapers_k53_numbers_that_fool_all) ([("MOST_TRIED", PySem.W.WData.int 1000000000), ("MOST_FOOLS", PySem.W.WData.int 100000)] : List (PySem.Str × PySem.W.WData))) (Yf := Hook.obs $H) (Ya := Hook.val $H) (YP := Hook.says $H) (N := 20000)
    (OP.left_tw 20000 PySem.W.Fast.pT_eq (by kernel_rfl) (by decide) (fun s => by kernel_rfl) (by decide) (fun w os => by kernel_rfl))
    (Hook.of $H) (Hook.keeps $H) (fun s e => xl_of s (Bool.and_eq_true_iff.mp e).1) XL.keeps (by rfl) (by rfl) (by rfl) (fun s e => recFacts_of (Bool.and_eq_true_iff.mp e).2) (by rfl) (by first | assumption | decide +kernel) (by decide +kernel) ⟨rfl, rfl, rfl, rfl, rfl, by decide +kernel⟩ ?hw ?hc))
open PySem PySem.W PyProof.Rows
set_option maxRecDepth 100000 in
set_option maxHeartbeats 0 in
theorem PySem.Challenge.cw_primepapers_k53_numbers_that_fool_all_holds : PySem.Challenge.rw_primepapers_k53_numbers_that_fool_all.Holds := by
  w_on; o_law; k_head; (case hw => w_witness2)
  k_fill
  refine L2.walk_ofP (l := PySem.Challenge.rw_primepapers_k53_numbers_that_fool_all) (n := 63) (k := 12) (x := "_law_script") (CX := fun _ => L2.CX0) (sp := fun Pt _ K => PP.spLaw K Pt) rfl (by decide) rfl ⟨rfl, by decide, by decide, rfl⟩ (fun w h Y => ⟨PySem.W.km_in_of Y, PySem.W.km_tabs_of Y _ (List.Mem.head _)⟩) ?F ?S ?C
  case S => exact fun w K H a ns hl _ hS hT => ⟨a, ns, rfl, hS, hl, hT, fun _ => rfl⟩
  case C => exact fun _ _ _ _ _ z => z
  case F =>
    intro w mg fa h KX G hX hmg
    have d_is_whole : ∃ f fd, PP.Df_is_whole (L2.KOf KX) mg f fd := by
      dsimp only [L2.KOf]
      refine' ⟨_, PP.def_mk KX G ?a ?l ?c ?k ?b⟩
      (case a => k_is); (case l => k_is); (case c => k_is); (case k => k_is)
      case b => intro _ _ _ _ _ _ us hl; obtain ⟨a0, rfl⟩ := PP.us1 hl; rfl
    have d_is_between : ∃ f fd, PP.Df_is_between (L2.KOf KX) mg f fd := by
      dsimp only [L2.KOf]
      refine' ⟨_, PP.def_mk KX G ?a ?l ?c ?k ?b⟩
      (case a => k_is); (case l => k_is); (case c => k_is); (case k => k_is)
      case b => intro _ _ _ _ _ _ us hl; obtain ⟨a0, a1, a2, rfl⟩ := PP.us3 hl; rfl
    have d_want_between : ∃ f fd, PP.Df_want_between (L2.KOf KX) mg f fd := by
      dsimp only [L2.KOf]
      refine' ⟨_, PP.def_mk KX G ?a ?l ?c ?k ?b⟩
      (case a => k_is); (case l => k_is); (case c => k_is); (case k => k_is)
      case b => intro _ _ _ _ _ _ us hl; obtain ⟨a0, a1, a2, a3, rfl⟩ := PP.us4 hl; rfl
    have d_want_odd : ∃ f fd, PP.Df_want_odd (L2.KOf KX) mg f fd := by
      dsimp only [L2.KOf]
      refine' ⟨_, PP.def_mk KX G ?a ?l ?c ?k ?b⟩
      (case a => k_is); (case l => k_is); (case c => k_is); (case k => k_is)
      case b => intro _ _ _ _ _ _ us hl; obtain ⟨a0, a1, a2, a3, rfl⟩ := PP.us4 hl; rfl
    have d_want_tried : ∃ f fd, PP.Df_want_tried (L2.KOf KX) mg f fd := by
      dsimp only [L2.KOf]
      refine' ⟨_, PP.def_mk KX G ?a ?l ?c ?k ?b⟩
      (case a => k_is); (case l => k_is); (case c => k_is); (case k => k_is)
      case b => intro _ _ _ _ _ _ us hl; obtain ⟨a0, a1, rfl⟩ := PP.us2 hl; rfl
    have d_least_part : ∃ f fd, PP.Df_least_part (L2.KOf KX) mg f fd := by
      dsimp only [L2.KOf]
      refine' ⟨_, PP.def_mk KX G ?a ?l ?c ?k ?b⟩
      (case a => k_is); (case l => k_is); (case c => k_is); (case k => k_is)
      case b => intro _ _ _ _ _ _ us hl; obtain ⟨a0, a1, rfl⟩ := PP.us2 hl; rfl
    have d_parts_of : ∃ f fd, PP.Df_parts_of (L2.KOf KX) mg f fd := by
      dsimp only [L2.KOf]
      refine' ⟨_, PP.def_mk KX G ?a ?l ?c ?k ?b⟩
      (case a => k_is); (case l => k_is); (case c => k_is); (case k => k_is)
      case b => intro _ _ _ _ _ _ us hl; obtain ⟨a0, rfl⟩ := PP.us1 hl; rfl
    have d_lies_to_all : ∃ f fd, PP.Df_lies_to_all (L2.KOf KX) mg f fd := by
      dsimp only [L2.KOf]
      refine' ⟨_, PP.def_mk KX G ?a ?l ?c ?k ?b⟩
      (case a => k_is); (case l => k_is); (case c => k_is); (case k => k_is)
      case b => intro _ _ _ _ _ _ us hl; obtain ⟨a0, rfl⟩ := PP.us1 hl; rfl
    have d_fools_all : ∃ f fd, PP.Df_fools_all (L2.KOf KX) mg f fd := by
      dsimp only [L2.KOf]
      refine' ⟨_, PP.def_mk KX G ?a ?l ?c ?k ?b⟩
      (case a => k_is); (case l => k_is); (case c => k_is); (case k => k_is)
      case b => intro _ _ _ _ _ _ us hl; obtain ⟨a0, rfl⟩ := PP.us1 hl; rfl
    have d_all_fools : ∃ f fd, PP.Df_all_fools (L2.KOf KX) mg f fd := by
      dsimp only [L2.KOf]
      refine' ⟨_, PP.def_mk KX G ?a ?l ?c ?k ?b⟩
      (case a => k_is); (case l => k_is); (case c => k_is); (case k => k_is)
      case b => intro _ _ _ _ _ _ us hl; obtain ⟨a0, rfl⟩ := PP.us1 hl; rfl
    have d_law_cell_at : ∃ f fd, PP.Df_law_cell_at (L2.KOf KX) mg f fd := by
      dsimp only [L2.KOf]
      refine' ⟨_, PP.def_mk KX G ?a ?l ?c ?k ?b⟩
      (case a => k_is); (case l => k_is); (case c => k_is); (case k => k_is)
      case b => intro _ _ _ _ _ _ us hl; obtain ⟨a0, a1, rfl⟩ := PP.us2 hl; rfl
    have d_law_state : ∃ f fd, PP.Df_law_state (L2.KOf KX) mg f fd := by
      dsimp only [L2.KOf]
      refine' ⟨_, PP.def_mk KX G ?a ?l ?c ?k ?b⟩
      (case a => k_is); (case l => k_is); (case c => k_is); (case k => k_is)
      case b => intro _ _ _ _ _ _ us hl; obtain ⟨a0, a1, rfl⟩ := PP.us2 hl; rfl
    have d_law_choice : ∃ f fd, PP.Df_law_choice (L2.KOf KX) mg f fd := by
      dsimp only [L2.KOf]
      refine' ⟨_, PP.def_mk KX G ?a ?l ?c ?k ?b⟩
      (case a => k_is); (case l => k_is); (case c => k_is); (case k => k_is)
      case b => intro _ _ _ _ _ _ us hl; obtain ⟨a0, a1, rfl⟩ := PP.us2 hl; rfl
    have d_law_same : ∃ f fd, PP.Df_law_same (L2.KOf KX) mg f fd := by
      dsimp only [L2.KOf]
      refine' ⟨_, PP.def_mk KX G ?a ?l ?c ?k ?b⟩
      (case a => k_is); (case l => k_is); (case c => k_is); (case k => k_is)
      case b => intro _ _ _ _ _ _ us hl; obtain ⟨a0, a1, rfl⟩ := PP.us2 hl; rfl
    have d_law_power : ∃ f fd, PP.Df_law_power (L2.KOf KX) mg f fd := by
      dsimp only [L2.KOf]
      refine' ⟨_, PP.def_mk KX G ?a ?l ?c ?k ?b⟩
      (case a => k_is); (case l => k_is); (case c => k_is); (case k => k_is)
      case b => intro _ _ _ _ _ _ us hl; obtain ⟨a0, a1, a2, rfl⟩ := PP.us3 hl; rfl
    have d_law_is_prime : ∃ f fd, PP.Df_law_is_prime (L2.KOf KX) mg f fd := by
      dsimp only [L2.KOf]
      refine' ⟨_, PP.def_mk KX G ?a ?l ?c ?k ?b⟩
      (case a => k_is); (case l => k_is); (case c => k_is); (case k => k_is)
      case b => intro _ _ _ _ _ _ us hl; obtain ⟨a0, rfl⟩ := PP.us1 hl; rfl
    have d_law_common : ∃ f fd, PP.Df_law_common (L2.KOf KX) mg f fd := by
      dsimp only [L2.KOf]
      refine' ⟨_, PP.def_mk KX G ?a ?l ?c ?k ?b⟩
      (case a => k_is); (case l => k_is); (case c => k_is); (case k => k_is)
      case b => intro _ _ _ _ _ _ us hl; obtain ⟨a0, a1, rfl⟩ := PP.us2 hl; rfl
    have d_law_parts : ∃ f fd, PP.Df_law_parts (L2.KOf KX) mg f fd := by
      dsimp only [L2.KOf]
      refine' ⟨_, PP.def_mk KX G ?a ?l ?c ?k ?b⟩
      (case a => k_is); (case l => k_is); (case c => k_is); (case k => k_is)
      case b => intro _ _ _ _ _ _ us hl; obtain ⟨a0, rfl⟩ := PP.us1 hl; rfl
    have d_law_fools : ∃ f fd, PP.Df_law_fools (L2.KOf KX) mg f fd := by
      dsimp only [L2.KOf]
      refine' ⟨_, PP.def_mk KX G ?a ?l ?c ?k ?b⟩
      (case a => k_is); (case l => k_is); (case c => k_is); (case k => k_is)
      case b => intro _ _ _ _ _ _ us hl; obtain ⟨a0, rfl⟩ := PP.us1 hl; rfl
    have d_law_by_parts : ∃ f fd, PP.Df_law_by_parts (L2.KOf KX) mg f fd := by
      dsimp only [L2.KOf]
      refine' ⟨_, PP.def_mk KX G ?a ?l ?c ?k ?b⟩
      (case a => k_is); (case l => k_is); (case c => k_is); (case k => k_is)
      case b => intro _ _ _ _ _ _ us hl; obtain ⟨a0, rfl⟩ := PP.us1 hl; rfl
    have d_law_marks : ∃ f fd, PP.Df_law_marks (L2.KOf KX) mg f fd := by
      dsimp only [L2.KOf]
      refine' ⟨_, PP.def_mk KX G ?a ?l ?c ?k ?b⟩
      (case a => k_is); (case l => k_is); (case c => k_is); (case k => k_is)
      case b => intro _ _ _ _ _ _ us hl; obtain ⟨a0, rfl⟩ := PP.us1 hl; rfl
    have d_law_said : ∃ f fd, PP.Df_law_said (L2.KOf KX) mg f fd := by
      dsimp only [L2.KOf]
      refine' ⟨_, PP.def_mk KX G ?a ?l ?c ?k ?b⟩
      (case a => k_is); (case l => k_is); (case c => k_is); (case k => k_is)
      case b => intro _ _ _ _ _ _ us hl; obtain ⟨a0, rfl⟩ := PP.us1 hl; rfl
    have c_MOST_TRIED : ∃ t, mg "MOST_TRIED" = some (.int 1000000000 t) := by
      exact L2.loose_int hX (by simp)
    have c_MOST_FOOLS : ∃ t, mg "MOST_FOOLS" = some (.int 100000 t) := by
      exact L2.loose_int hX (by simp)
    have n_len : mg "len" = none := by
      refine' PySem.W.mg_none_of KX G ?a
      (case a => k_is)
    have n_isinstance : mg "isinstance" = none := by
      refine' PySem.W.mg_none_of KX G ?a
      (case a => k_is)
    have n_int : mg "int" = none := by
      refine' PySem.W.mg_none_of KX G ?a
      (case a => k_is)
    have n_bool : mg "bool" = none := by
      refine' PySem.W.mg_none_of KX G ?a
      (case a => k_is)
    have n_range : mg "range" = none := by
      refine' PySem.W.mg_none_of KX G ?a
      (case a => k_is)
    have n_max : mg "max" = none := by
      refine' PySem.W.mg_none_of KX G ?a
      (case a => k_is)
    have n_min : mg "min" = none := by
      refine' PySem.W.mg_none_of KX G ?a
      (case a => k_is)
    have n_tuple : mg "tuple" = none := by
      refine' PySem.W.mg_none_of KX G ?a
      (case a => k_is)
    have n_repr : mg "repr" = none := by
      refine' PySem.W.mg_none_of KX G ?a
      (case a => k_is)
    have n_ValueError : mg "ValueError" = none := by
      refine' PySem.W.mg_none_of KX G ?a
      (case a => k_is)
    have d_cl : ∃ cl : PP.Cl, (mg "PrimeError" = some (.ref cl.pe) ∧ mg "NoNumber" = some (.ref cl.nn) ∧ mg "NoPrime" = some (.ref cl.np) ∧ mg "NoPair" = some (.ref cl.pa) ∧ mg "NoPaper" = some (.ref cl.pp) ∧ mg "NoBases" = some (.ref cl.nb) ∧ mg "NoText" = some (.ref cl.nt) ∧ mg "NoLine" = some (.ref cl.nl) ∧ mg "NoName" = some (.ref cl.nm) ∧ mg "NoDeed" = some (.ref cl.nd) ∧ mg "TooGreat" = some (.ref cl.tg)) ∧ L2.ExcC (L2.KOf KX) cl.nn ∧ PP.WordC (L2.KOf KX) cl cl.nn 0 := by
      dsimp only [L2.KOf]
      refine' PP.cl_mk KX G ?a0 ?a1 ?a2 ?a3 ?a4 ?a5 ?a6 ?a7 ?a8 ?a9 ?a10 ?x0 ?w0
      (case a0 => k_is)
      (case a1 => k_is)
      (case a2 => k_is)
      (case a3 => k_is)
      (case a4 => k_is)
      (case a5 => k_is)
      (case a6 => k_is)
      (case a7 => k_is)
      (case a8 => k_is)
      (case a9 => k_is)
      (case a10 => k_is)
      (case x0 => kernel_rfl)
      case w0 =>
        refine ⟨⟨?_, ?_, ?_, ?_, ?_, ?_, ?_, ?_⟩, ?_, ?_, ?_, ?_, ?_, ?_, ?_, ?_, ?_, ?_, ?_, ?_⟩ <;> kernel_rfl
    obtain ⟨t_MOST_TRIED, c_MOST_TRIED⟩ := c_MOST_TRIED
    obtain ⟨t_MOST_FOOLS, c_MOST_FOOLS⟩ := c_MOST_FOOLS
    obtain ⟨cl, ⟨m_PrimeError, m_NoNumber, m_NoPrime, m_NoPair, m_NoPaper, m_NoBases, m_NoText, m_NoLine, m_NoName, m_NoDeed, m_TooGreat⟩, x_NoNumber, W0⟩ := d_cl
    have T : PP.Txt (L2.KOf KX) mg t_MOST_TRIED t_MOST_FOOLS cl := ⟨c_MOST_TRIED, c_MOST_FOOLS, n_len, n_isinstance, n_int, n_bool, n_range, n_max, n_min, n_tuple, n_repr, n_ValueError, m_PrimeError, m_NoNumber, m_NoPrime, m_NoPair, m_NoPaper, m_NoBases, m_NoText, m_NoLine, m_NoName, m_NoDeed, m_TooGreat, x_NoNumber⟩
    try dsimp only [L2.KOf]
    dsimp only [L2.KOf] at T W0 d_is_whole d_is_between d_want_between d_want_odd d_want_tried d_least_part d_parts_of d_lies_to_all d_fools_all d_all_fools d_law_cell_at d_law_state d_law_choice d_law_same d_law_power d_law_is_prime d_law_common d_law_parts d_law_fools d_law_by_parts d_law_marks d_law_said
    refine' PP.fin_of hmg (PySem.W.mg_of KX G ?a) ?l ?c ?d ?e (fun base kb bm lk hcd hd => PP.all_ok lk hcd hd bm T W0 d_is_whole d_is_between d_want_between d_want_odd d_want_tried d_least_part d_parts_of d_lies_to_all d_fools_all d_all_fools d_law_cell_at d_law_state d_law_choice d_law_same d_law_power d_law_is_prime d_law_common d_law_parts d_law_fools d_law_by_parts d_law_marks d_law_said)
    (case a => k_is); (case l => k_is); (case c => k_is)
    case d => kernel_rfl
    case e => kernel_rfl
