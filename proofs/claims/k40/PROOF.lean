import PyProof.Rows.All
import Wide.All
import OpenK.AllK
import Wide.FinOn
import Lean
import PyProof.EqAt
import PyProof.EqKinds
import PyProof.TupleCall
import PySem.Challenge.RW_primepapers_k40_pairs_of_rests
import KE.KLam
import KE.KNestM
import PyProof.NeKinds
import PyProof.ZipIter
import PyProof.TupleIter
import PyProof.ReprRoads
import PyProof.ReprLen
set_option genSizeOfSpec false
set_option genSizeOf false
set_option Elab.async false
set_option linter.all false
set_option maxRecDepth 100000
namespace L2
open PySem PySem.Spec PyProof.Rows
noncomputable abbrev Key := Sum Int Str
noncomputable def keyIs : Key → Value → Bool
  | .inl k, v => Value.isInt k v
  | .inr x, v => Value.isStrOf x v
noncomputable def keyH (w : World) : Key → Int
  | .inl k => hashInt k
  | .inr x => hashStr w x
theorem keyIs_shape : ∀ {k : Key} {v : Value}, keyIs k v = true → (∃ i t, k = Sum.inl i ∧ v = Value.int i t) ∨ (∃ x t, k = Sum.inr x ∧ v = Value.str x t)
  | .inl i, v, h => by
    obtain ⟨t, e⟩ := Value.isInt_shape (k := i) (v := v) h
    exact .inl ⟨i, t, rfl, e⟩
  | .inr x, v, h => by
    obtain ⟨t, e⟩ := Value.isStrOf_shape (x := x) (v := v) h
    exact .inr ⟨x, t, rfl, e⟩
theorem key_ll (a b : Int) : decide ((Sum.inl a : Key) = Sum.inl b) = (a == b) := by
  by_cases e : a = b
  · subst e; simp
  · have h : ¬ (Sum.inl a : Key) = Sum.inl b := fun q => e (Sum.inl.inj q)
    rw [decide_eq_false h]
    exact (beq_eq_false_iff_ne.mpr e).symm
theorem key_rr (a b : Str) : decide ((Sum.inr a : Key) = Sum.inr b) = decide (a = b) := by
  by_cases e : a = b
  · subst e; simp
  · have h : ¬ (Sum.inr a : Key) = Sum.inr b := fun q => e (Sum.inr.inj q)
    rw [decide_eq_false h, decide_eq_false e]
theorem key_lr (a : Int) (b : Str) : decide ((Sum.inl a : Key) = Sum.inr b) = false := decide_eq_false (fun q => nomatch q)
theorem key_rl (a : Str) (b : Int) : decide ((Sum.inr a : Key) = Sum.inl b) = false := decide_eq_false (fun q => nomatch q)
noncomputable def mixKind (prog : Program) (w : World) : PySem.KeyKind prog w Key where
  is := keyIs
  hash := keyH w
  inj := fun v a b ha hb => by
    rcases keyIs_shape ha with ⟨i, t, rfl, rfl⟩ | ⟨x, t, rfl, rfl⟩
    · rcases keyIs_shape hb with ⟨j, u, rfl, e⟩ | ⟨y, u, rfl, e⟩
      · injection e with e1 _; rw [e1]
      · exact nomatch e
    · rcases keyIs_shape hb with ⟨j, u, rfl, e⟩ | ⟨y, u, rfl, e⟩
      · exact nomatch e
      · injection e with e1 _; rw [e1]
  byValue := fun k v h => by
    rcases keyIs_shape h with ⟨i, t, rfl, rfl⟩ | ⟨x, t, rfl, rfl⟩ <;> rfl
  pyHash := fun hv h => by
    rcases keyIs_shape hv with ⟨i, t, rfl, rfl⟩ | ⟨x, t, rfl, rfl⟩
    · exact wpAny_pyHash_int h
    · exact wpAny_pyHash_str h
  eqBool := fun hu hv h => by
    rcases keyIs_shape hu with ⟨i, t, rfl, rfl⟩ | ⟨x, t, rfl, rfl⟩
    · rcases keyIs_shape hv with ⟨j, u, rfl, rfl⟩ | ⟨y, u, rfl, rfl⟩
      · rw [key_ll] at h; exact wpAny_eqBool_int h
      · rw [key_lr] at h; exact SeqAt.EqAt.int_str i t y u _ _ _ _ h
    · rcases keyIs_shape hv with ⟨j, u, rfl, rfl⟩ | ⟨y, u, rfl, rfl⟩
      · rw [key_rl] at h; exact SeqAt.EqAt.str_int x t j u _ _ _ _ h
      · rw [key_rr] at h; exact wpAny_eqBool_str h
  «strs» := fun k x t v h => by
    rcases keyIs_shape h with ⟨i, u, rfl, e⟩ | ⟨y, u, rfl, e⟩
    · exact nomatch e
    · injection e with e1 _
      subst e1
      cases v <;> rfl
end L2
namespace L2
open PySem PySem.Spec PyProof.Rows
inductive V where
  | non | bl (b : Bool) | int (i : Int) | str (x : Str) | byt (b : Array UInt8) | flt (b : UInt64) | ref (a : Addr) | ty (n : String)
  deriving DecidableEq
noncomputable def RelV : V → Value → Prop
  | .non, u => u = Value.none
  | .bl b, u => u = Value.bool b
  | .int i, u => ∃ t, u = Value.int i t
  | .str x, u => ∃ t, u = Value.str x t
  | .byt b, u => ∃ t, u = Value.bytes b t
  | .flt b, u => ∃ t, u = Value.float b t
  | .ref a, u => u = Value.ref a
  | .ty n, u => u = Value.type n
noncomputable abbrev Vals : List V → List Value → Prop := Paired RelV
theorem Vals.length {xs : List V} {us : List Value} (r : Vals xs us) : xs.length = us.length := Paired.length r
theorem Vals.get : ∀ {xs : List V} {us : List Value} {i : Nat} {x : V}, Vals xs us → xs[i]? = some x → ∃ u, us[i]? = some u ∧ RelV x u
  | _, _, _, _, .nil, e => by simp at e
  | _, _, 0, _, .cons r _, e => by simp at e; subst e; exact ⟨_, rfl, r⟩
  | _, _, i + 1, x, .cons _ t, e => by
    obtain ⟨u, h1, h2⟩ := Vals.get (i := i) (x := x) t (by simpa using e)
    exact ⟨u, by simpa using h1, h2⟩
theorem Vals.set {x : V} {u : Value} (r : RelV x u) : ∀ {xs : List V} {us : List Value} (i : Nat), Vals xs us → Vals (xs.set i x) (us.set i u)
  | _, _, _, .nil => .nil
  | _, _, 0, .cons _ t => .cons r t
  | _, _, i + 1, .cons q t => .cons q (Vals.set r i t)
theorem Vals.append : ∀ {xs ys : List V} {us ws : List Value}, Vals xs us → Vals ys ws → Vals (xs ++ ys) (us ++ ws)
  | _, _, _, _, .nil, s => s
  | _, _, _, _, .cons r t, s => .cons r (Vals.append t s)
theorem Vals.take : ∀ {xs : List V} {us : List Value} (n : Nat), Vals xs us → Vals (xs.take n) (us.take n)
  | _, _, 0, _ => .nil
  | _, _, _ + 1, .nil => .nil
  | _, _, n + 1, .cons r t => .cons r (Vals.take n t)
theorem Vals.drop : ∀ {xs : List V} {us : List Value} (n : Nat), Vals xs us → Vals (xs.drop n) (us.drop n)
  | _, _, 0, r => r
  | _, _, _ + 1, .nil => .nil
  | _, _, n + 1, .cons _ t => Vals.drop n t
noncomputable def RelO : Option V → Option Value → Prop
  | some v, some u => RelV v u
  | none, none => True
  | _, _ => False
noncomputable def KV {κ : Type} : List (κ × V) → List (κ × Value) → Prop := Paired fun (p : κ × V) (q : κ × Value) => p.1 = q.1 ∧ RelV p.2 q.2
noncomputable def kV : Key → V
  | .inl i => .int i
  | .inr x => .str x
inductive HO where
  
  | lst (xs : List V)
  
  | tup (xs : List V)
  
  | dK (kvs : List (Key × V)) | dT (kvs : List (List Key × V))
  
  | set (S : Int → Bool) (n : Nat)
  
  | ins (C dx : Addr) (fs : List (Str × V))
  
  | own (x : Addr)
  
  | xd (fs : List (Str × V))
  
  | met (f x : Addr)
  
  | rng (lo hi : Int)
  
  | frz (o : Obj) (u : HO)
  
  | tbl (ps : Array Value)
  
  | ext (φ : Heap → Prop)
noncomputable abbrev Hp := Addr → Option HO
noncomputable def upd (H : Hp) (a : Addr) (o : HO) : Hp := fun b => if b = a then some o else H b
theorem upd_same {H : Hp} {a : Addr} {o : HO} : upd H a o a = some o := by unfold upd; rw [if_pos rfl]
theorem upd_ne {H : Hp} {a b : Addr} {o : HO} (h : b ≠ a) : upd H a o b = H b := by unfold upd; rw [if_neg h]
theorem ne_of_none {H : Hp} {a b : Addr} {o : HO} (h : H a = some o) (h' : H b = none) : a ≠ b := by
  intro e; subst e; rw [h] at h'; cases h'
section
variable (P : Program) (w : World)
noncomputable def ObjOk (H : Hp) (h : Heap) (a : Addr) : HO → Prop
  | .lst xs => xs.length ≤ sizeLine ∧ ∃ (its : List Value) (n : Nat), Vals xs its ∧ h.get? a = some { cls := .type "list", data := .seq its.toArray n }
  | .tup xs => xs.length ≤ sizeLine ∧ ∃ its : List Value, Vals xs its ∧ IsTup h a its.toArray
  | .dK kvs => kvs.length ≤ sizeLine ∧ (a == sysModules) = false ∧ ∃ vs, KV kvs vs ∧ h.DictOf (mixKind P w) a vs
  | .dT kvs => kvs.length ≤ sizeLine ∧ (a == sysModules) = false ∧ ∃ xs : List (List Key × Addr × Value),
      Paired (fun (p : List Key × V) (q : List Key × Addr × Value) => p.1 = q.1 ∧ H q.2.1 = some (.tup (p.1.map kV)) ∧ RelV p.2 q.2.2) kvs xs ∧
      ∃ o es ep, h.get? a = some o ∧ o.ExactDict ∧ o.data = .dict es ep ∧ es.toList = xs.map (entryOfKey (tupleKind (mixKind P w))) ∧ (xs.map (·.1)).Nodup
  | .set S n => h.SetOf (intKind P w) a S n
  | .ins C dx fs => H dx = some (.own a) ∧ fs.length ≤ 1000 ∧ dx ≠ a ∧ h.get? a = some (PySem.W.instObj C dx) ∧
      ∃ mA, h.Ns1 dx mA ∧ (∀ f, RelO (fs.lookup f) (mA f)) ∧ PySem.Within mA (fs.map (·.1))
  | .own _ => ∃ o, h.get? a = some o
  | .xd fs => ∃ mA, h.Ns1 a mA ∧ ∀ f, RelO (fs.lookup f) (mA f)
  | .rng lo hi => ∃ t u v, h.get? a = some { cls := .type "range", data := .fields #[.int lo t, .int hi u, .int 1 v] }
  | .frz o u => h.get? a = some o ∧ ObjOk H h a u
  | .tbl ps => h.get? a = some { cls := .none, data := .fields ps }
  | .met f x => h.get? a = some (PySem.W.methodObj (.ref f) (.ref x))
  | .ext φ => φ h ∧ (∃ o, h.get? a = some o) ∧ ∀ h1 h2 : Heap, φ h1 → (∀ o, h1.get? a = some o → h2.get? a = some o) → φ h2
noncomputable def HOk (H : Hp) (h : Heap) : Prop := ∀ a o, H a = some o → ObjOk P w H h a o
end
section
variable {P : Program} {w : World} {H H' : Hp} {h h' : Heap} {a : Addr} {o : HO}
theorem ObjOk.lt (x : ObjOk P w H h a o) : a < h.objs.size := by
  cases o with
  | lst xs => obtain ⟨_, _, _, _, e⟩ := x; exact Heap.lt_size e
  | tup xs => obtain ⟨_, _, _, p⟩ := x; exact p.lt
  | dK kvs => obtain ⟨_, _, _, _, o, _, _, e, _⟩ := x; exact Heap.lt_size e
  | dT kvs => obtain ⟨_, _, _, _, o, _, _, e, _⟩ := x; exact Heap.lt_size e
  | set S n => obtain ⟨o, _, _, _, e, _⟩ := x; exact Heap.lt_size e
  | ins C dx fs => obtain ⟨_, _, _, e, _⟩ := x; exact Heap.lt_size e
  | own y => obtain ⟨_, e⟩ := x; exact Heap.lt_size e
  | xd fs => obtain ⟨_, ⟨_, _, _, e, _⟩, _⟩ := x; exact Heap.lt_size e
  | rng lo hi => obtain ⟨_, _, _, e⟩ := x; exact Heap.lt_size e
  | frz ob u => obtain ⟨e, _⟩ := x; exact Heap.lt_size e
  | tbl ps => exact Heap.lt_size (show h.get? a = some _ from x)
  | met f y => exact Heap.lt_size (show h.get? a = some _ from x)
  | ext φ => obtain ⟨_, ⟨_, e⟩, _⟩ := x; exact Heap.lt_size e
theorem Paired.mapP {α β : Type} {F G : α → β → Prop} : ∀ {l₁ : List α} {l₂ : List β}, Paired F l₁ l₂ → (∀ a b, F a b → G a b) → Paired G l₁ l₂
  | _, _, .nil, _ => .nil
  | _, _, .cons r t, f => .cons (f _ _ r) (Paired.mapP t f)
theorem ObjOk.stay (x : ObjOk P w H h a o) (k : ∀ b u, (b = a ∨ H b = some (.own a)) → h.get? b = some u → h'.get? b = some u)
    (ho : ∀ b, H b = some (.own a) → H' b = some (.own a)) (ht : ∀ b xs, H b = some (.tup xs) → H' b = some (.tup xs)) : ObjOk P w H' h' a o := by
  induction o with
  | lst xs => obtain ⟨z, its, n, r, e⟩ := x; exact ⟨z, its, n, r, k _ _ (.inl rfl) e⟩
  | tup xs => obtain ⟨z, its, r, ob, e, c⟩ := x; exact ⟨z, its, r, ob, k _ _ (.inl rfl) e, c⟩
  | dK kvs => obtain ⟨z, y, vs, r, ob, es, ep, e, c⟩ := x; exact ⟨z, y, vs, r, ob, es, ep, k _ _ (.inl rfl) e, c⟩
  | dT kvs =>
    obtain ⟨z, y, xs, r, ob, es, ep, e, c⟩ := x
    exact ⟨z, y, xs, Paired.mapP r fun p q z => ⟨z.1, ht _ _ z.2.1, z.2.2⟩, ob, es, ep, k _ _ (.inl rfl) e, c⟩
  | set S n => obtain ⟨ob, es, ep, t, e, c⟩ := x; exact ⟨ob, es, ep, t, k _ _ (.inl rfl) e, c⟩
  | ins C dx fs =>
    obtain ⟨d, z, ne, e, mA, ⟨od, es, ep, e2, c⟩, r⟩ := x
    exact ⟨ho _ d, z, ne, k _ _ (.inl rfl) e, mA, ⟨od, es, ep, k _ _ (.inr d) e2, c⟩, r⟩
  | own y => obtain ⟨ob, e⟩ := x; exact ⟨ob, k _ _ (.inl rfl) e⟩
  | xd fs => obtain ⟨mA, ⟨od, es, ep, e, c⟩, r⟩ := x; exact ⟨mA, ⟨od, es, ep, k _ _ (.inl rfl) e, c⟩, r⟩
  | rng lo hi => obtain ⟨t, u, v, e⟩ := x; exact ⟨t, u, v, k _ _ (.inl rfl) e⟩
  | frz ob u ih => obtain ⟨e, q⟩ := x; exact ⟨k _ _ (.inl rfl) e, ih q⟩
  | tbl ps =>
    have e : h.get? a = some { cls := .none, data := .fields ps } := x
    show h'.get? a = some { cls := .none, data := .fields ps }
    exact k a _ (.inl rfl) e
  | met f y =>
    have e : h.get? a = some (PySem.W.methodObj (.ref f) (.ref y)) := x
    show h'.get? a = some (PySem.W.methodObj (.ref f) (.ref y))
    exact k a _ (.inl rfl) e
  | ext φ => obtain ⟨p, ⟨o, e⟩, st⟩ := x; exact ⟨st _ _ p fun o q => k _ _ (.inl rfl) q, ⟨o, k _ _ (.inl rfl) e⟩, st⟩
theorem HOk.lt (x : HOk P w H h) (e : H a = some o) : a < h.objs.size := (x a o e).lt
theorem HOk.fresh (x : HOk P w H h) (e : h.objs.size ≤ a) : H a = none := by
  cases q : H a with
  | none => rfl
  | some u => exact absurd (Nat.lt_of_lt_of_le (x.lt q) e) (Nat.lt_irrefl _)
theorem HOk.kept (x : HOk P w H h) (k : ∀ b u, h.get? b = some u → h'.get? b = some u) : HOk P w H h' := fun a o e =>
  (x a o e).stay (fun b u _ q => k b u q) (fun _ q => q) fun _ _ q => q
theorem HOk.laid (x : HOk P w H h) (k : ∀ b u, h.get? b = some u → h'.get? b = some u) (hp : h.objs.size ≤ a) (new : ObjOk P w (upd H a o) h' a o) : HOk P w (upd H a o) h' := fun b u e => by
  have hn := x.fresh hp
  by_cases hb : b = a
  · subst hb; rw [upd_same] at e; cases e; exact new
  · rw [upd_ne hb] at e
    exact (x b u e).stay (fun c v _ q => k c v q) (fun c q => by rw [upd_ne (ne_of_none q hn)]; exact q) fun c xs q => by rw [upd_ne (ne_of_none q hn)]; exact q
end
noncomputable def Rd (H : Hp) (a : Addr) (u : HO) : Prop := H a = some u ∨ ∃ o, H a = some (.frz o u)
theorem Rd.of {H : Hp} {a : Addr} {u : HO} (h : H a = some u) : Rd H a u := .inl h
theorem Rd.ok {P : Program} {w : World} {H : Hp} {h : Heap} {a : Addr} {u : HO} (r : Rd H a u) (x : HOk P w H h) : ObjOk P w H h a u := by
  rcases r with r | ⟨o, r⟩
  · exact x a u r
  · obtain ⟨_, q⟩ := x a _ r
    exact q
noncomputable def Mut : Option HO → Prop
  | some (.lst _) => True
  | some (.dK _) => True
  | some (.dT _) => True
  | some (.set _ _) => True
  | some (.ins _ _ _) => True
  | some (.ext _) => True
  | _ => False
section
variable {P : Program} {w : World} {H : Hp} {h h' : Heap} {x e : Addr} {o' : HO}
theorem HOk.write (ok : HOk P w H h) (mu : Mut (H x)) (he : e = x ∨ H e = some (.own x)) (k : ∀ b u, b ≠ e → h.get? b = some u → h'.get? b = some u) (heo : ∃ u, h'.get? e = some u)
    (new : ObjOk P w (upd H x o') h' x o') : HOk P w (upd H x o') h' := fun b u q => by
  have nown : ∀ c y, H c = some (.own y) → c ≠ x := fun c y r z => by subst z; rw [r] at mu; exact mu
  have ntup : ∀ c xs, H c = some (.tup xs) → c ≠ x := fun c xs r z => by subst z; rw [r] at mu; exact mu
  by_cases hb : b = x
  · subst hb; rw [upd_same] at q; cases q; exact new
  · rw [upd_ne hb] at q
    by_cases hbe : b = e
    · have q' : H b = some (.own x) := by
        rcases he with z | z
        · exact absurd (hbe.trans z) hb
        · rw [hbe]; exact z
      rw [q] at q'; cases q'
      obtain ⟨v, hv⟩ := heo
      exact ⟨v, by rw [hbe]; exact hv⟩
    · refine (ok b u q).stay (fun c v hc r => k c v ?_ r) (fun c r => by rw [upd_ne (nown c b r)]; exact r) fun c xs r => by rw [upd_ne (ntup c xs r)]; exact r
      rcases hc with rfl | hc
      · exact hbe
      · rintro rfl
        rcases he with z | z
        · exact nown c b hc z
        · rw [hc] at z; cases z; exact hb rfl
end
structure Un (fs ex : List Addr) (H H' : Hp) (h h' : Heap) : Prop where
  keep : ∀ b o, h.get? b = some o → H b = none → b ∉ fs → b ∉ ex → h'.get? b = some o
  slot : ∀ b o, h.get? b = some o → H b = none → b ∈ fs → b ∉ ex → ∃ sl, h'.get? b = some { o with slots := sl }
  free : ∀ b o, h.get? b = some o → H b = none → b ∉ ex → H' b = none
  there : ∀ b o, h.get? b = some o → b ∉ ex → ∃ o', h'.get? b = some o'
  tups : ∀ b xs, H b = some (.tup xs) → H' b = some (.tup xs)
  frzs : ∀ b o u, H b = some (.frz o u) → H' b = some (.frz o u)
  tbls : ∀ b ps, H b = some (.tbl ps) → ∃ more, H' b = some (.tbl (ps ++ more))
section
variable {fs fs' ex ex' : List Addr} {H H1 H2 : Hp} {h h1 h2 h' : Heap} {a x e : Addr} {o : HO}
theorem Un.any (u : Un fs ex H H1 h h1) {b : Addr} {ob : Obj} (q : h.get? b = some ob) (n : H b = none) (hx : b ∉ ex) : ∃ sl, h1.get? b = some { ob with slots := sl } := by
  by_cases hb : b ∈ fs
  · exact u.slot b ob q n hb hx
  · exact ⟨ob.slots, u.keep b ob q n hb hx⟩
theorem Un.trans (a : Un fs ex H H1 h h1) (b : Un fs ex H1 H2 h1 h2) : Un fs ex H H2 h h2 where
  keep := fun c ob q n hc hx => b.keep c ob (a.keep c ob q n hc hx) (a.free c ob q n hx) hc hx
  slot := fun c ob q n hc hx => by
    obtain ⟨sl, e1⟩ := a.slot c ob q n hc hx
    obtain ⟨sl', e2⟩ := b.slot c _ e1 (a.free c ob q n hx) hc hx
    exact ⟨sl', e2⟩
  free := fun c ob q n hx => by
    obtain ⟨o', e1⟩ := a.there c ob q hx
    exact b.free c o' e1 (a.free c ob q n hx) hx
  there := fun c ob q hx => by
    obtain ⟨o', e1⟩ := a.there c ob q hx
    exact b.there c o' e1 hx
  tups := fun c xs q => b.tups c xs (a.tups c xs q)
  frzs := fun c ob xs q => b.frzs c ob xs (a.frzs c ob xs q)
  tbls := fun c ps q => by
    obtain ⟨m1, e1⟩ := a.tbls c ps q
    obtain ⟨m2, e2⟩ := b.tbls c _ e1
    exact ⟨m1 ++ m2, by rw [e2, Array.append_assoc]⟩
theorem Un.kept (k : ∀ b u, h.get? b = some u → h'.get? b = some u) : Un fs ex H H h h' :=
  ⟨fun b ob q _ _ _ => k b ob q, fun b ob q _ _ _ => ⟨ob.slots, k b ob q⟩, fun _ _ _ n _ => n, fun b ob q _ => ⟨ob, k b ob q⟩, fun _ _ q => q, fun _ _ _ q => q, fun _ ps q => ⟨#[], by rw [q]; simp⟩⟩
theorem Un.refl : Un fs ex H H h h := Un.kept fun _ _ q => q
theorem Un.laid (k : ∀ b u, h.get? b = some u → h'.get? b = some u) (hp : h.objs.size ≤ a) (hn : H a = none) : Un fs ex H (upd H a o) h h' where
  keep := fun b u q _ _ _ => k b u q
  slot := fun b u q _ _ _ => ⟨u.slots, k b u q⟩
  free := fun b u q n _ => by rw [upd_ne (Nat.ne_of_lt (Nat.lt_of_lt_of_le (Heap.lt_size q) hp))]; exact n
  there := fun b u q _ => ⟨u, k b u q⟩
  tups := fun b xs q => by rw [upd_ne (ne_of_none q hn)]; exact q
  frzs := fun b u xs q => by rw [upd_ne (ne_of_none q hn)]; exact q
  tbls := fun b ps q => ⟨#[], by rw [upd_ne (ne_of_none q hn), q]; simp⟩
theorem Un.write (mu : Mut (H x)) (he : e = x ∨ H e = some (.own x)) (k : ∀ b u, b ≠ e → h.get? b = some u → h'.get? b = some u) (heo : ∃ u, h'.get? e = some u) : Un fs ex H (upd H x o) h h' := by
  have hx : ∀ b, H b = none → b ≠ x := fun b n z => by subst z; rw [n] at mu; exact mu
  have hb : ∀ b, H b = none → b ≠ e := fun b n z => by
    subst z
    rcases he with r | r
    · exact hx b n r
    · rw [n] at r; cases r
  have hm : ∀ b u, H b = some u → ¬ Mut (some u) → b ≠ x := fun b u q nm z => by subst z; rw [q] at mu; exact nm mu
  refine ⟨fun b u q n _ _ => k b u (hb b n) q, fun b u q n _ _ => ⟨u.slots, k b u (hb b n) q⟩, fun b u q n _ => by rw [upd_ne (hx b n)]; exact n, fun b u q _ => ?_,
    fun b xs q => by rw [upd_ne (hm b _ q fun z => z)]; exact q, fun b u xs q => by rw [upd_ne (hm b _ q fun z => z)]; exact q, fun b ps q => ⟨#[], by rw [upd_ne (hm b _ q fun z => z), q]; simp⟩⟩
  by_cases hbe : b = e
  · subst hbe; exact heo
  · exact ⟨u, k b u hbe q⟩
theorem Un.mono (u : Un fs ex H H1 h h1) (hs : ∀ b ∈ fs, b ∈ fs') (hx : ∀ b ∈ ex, b ∈ ex') : Un fs' ex' H H1 h h1 :=
  ⟨fun b ob q n hb he => u.keep b ob q n (fun z => hb (hs b z)) fun z => he (hx b z), fun _ _ q n _ he => u.any q n fun z => he (hx _ z), fun b ob q n he => u.free b ob q n fun z => he (hx b z), fun b ob q he => u.there b ob q fun z => he (hx b z), u.tups, u.frzs, u.tbls⟩
end
noncomputable def trk (h : Heap) (H : Hp) : List Addr := (List.range h.objs.size).filter fun a => (H a).isSome
noncomputable def hidT (h : Heap) (H : Hp) : Heap := PySem.W.hideAll h (trk h H)
theorem hidT_size (h : Heap) (H : Hp) : (hidT h H).objs.size = h.objs.size := PySem.W.hideAll_size _ _
theorem hidT_get {h : Heap} {H : Hp} {b : Addr} {o : Obj} (e : h.get? b = some o) (n : H b = none) : (hidT h H).get? b = some o :=
  PySem.W.hideAll_get _ e fun hm => by
    have q : (H b).isSome = true := (List.mem_filter.mp hm).2
    rw [n] at q; simp at q
theorem of_hidT {h : Heap} {H : Hp} {b : Addr} {o : Obj} (e : (hidT h H).get? b = some o) : h.get? b = some o ∧ H b = none := by
  have e' : h.get? b = some o := PySem.W.of_hideAll (trk h H) e
  refine ⟨e', ?_⟩
  cases q : H b with
  | none => rfl
  | some x =>
    have hm : b ∈ trk h H := List.mem_filter.mpr ⟨List.mem_range.mpr (Heap.lt_size e'), by simp [q]⟩
    have z : (hidT h H).get? b = none := PySem.W.hideAll_none (trk h H) hm
    rw [z] at e; cases e
noncomputable def allNews (g h : Heap) (L : Addr) : List (Addr × Obj) := (List.range h.objs.size).filterMap fun a => if a = L ∨ (g.get? a).isSome = true then none else (h.get? a).map fun o => (a, o)
noncomputable def rest (g h : Heap) (L d : Addr) : List (Addr × Obj) := (allNews g h L).filter fun p => decide (p.1 ≠ d)
end L2
namespace L2
open PySem PySem.Spec PyProof.Rows
structure Mod (K : PySem.W.Frag) (mg : Str → Option Value) (base : Heap) : Prop where
  kin : K.In base
  glob : base.Ns mainGlobals mg
  blt : ∃ mb, base.Ns builtinsNs mb ∧ ∀ x : Str, x ≠ "__name__" → mb x = bootBuiltins x
  nolimit : base.NoLimit
structure Cx where
  prog : Program
  w : World
  K : PySem.W.Frag
  mg : Str → Option Value
  base : Heap
  A : Around
  N : List Str
  s₀ : Shared
  H₀ : Hp
  env : Env
  outer : List Env
  stack : List Env
  ex : List Addr
  fn : Str → Bool
  calm : Bool
  pn : List (Addr × Obj)
  xe : Value → Shared → Prop
noncomputable def frs (l : List Env) : List Addr := l.filterMap (·.frame)
noncomputable abbrev Cx.fs (X : Cx) : List Addr := frs X.outer
noncomputable def Vis (sc : Scope) (x : Str) : Prop := sc.names.lookup x = some .local ∨ sc.names.lookup x = some .cell ∨ sc.names.lookup x = some .free
noncomputable def Loc (sc : Scope) (x : Str) : Prop := sc.names.lookup x = some .local ∨ sc.names.lookup x = some .cell
noncomputable def Look (env : Env) (h : Heap) (m : Str → Option Value) (x : Str) (u : Value) : Prop :=
  (env.kindOf x = some .local ∧ m x = some u) ∨ ((env.kindOf x = some .cell ∨ env.kindOf x = some .free) ∧ ∃ c, env.cells.lookup x = some c ∧ h.IsCell c (some u))
structure Cx.Ok (X : Cx) : Prop where
  mod : Mod X.K X.mg X.base
  kind : X.env.scope.kind = .function
  glob : X.env.globals = mainGlobals
  blt : X.env.builtins = builtinsNs
  above : X.s₀.heap.objs.size ≤ X.env.locals
  inj : ∀ x y c, X.env.cells.lookup x = some c → X.env.cells.lookup y = some c → x = y
  has : ∀ x, (X.env.kindOf x = some .cell ∨ X.env.kindOf x = some .free) → ∃ c, X.env.cells.lookup x = some c
  cab : ∀ x c, X.fn x = true → X.env.cells.lookup x = some c → X.s₀.heap.objs.size ≤ c
  hd : X.calm = true → X.A.handled = none
  frames : X.A.frames = some X.stack
  stk : X.stack = X.outer ∨ (X.stack = X.env :: X.outer ∧ X.env.frame = some X.env.locals)
  exf : ∀ b ∈ X.ex, b ≠ X.env.locals ∧ ∀ x c, X.env.cells.lookup x = some c → c ≠ b
  bs : ∀ b o, X.base.get? b = some o → X.s₀.heap.get? b = some o ∧ X.H₀ b = none
  bsz : X.base.objs.size ≤ X.s₀.heap.objs.size
  noex : ∀ b o, X.base.get? b = some o → b ∉ X.ex
  exfs : ∀ b ∈ X.ex, b ∉ X.fs
  funs : X.s₀.heap.FunFrames X.base X.outer
  frf : ∀ b ∈ X.fs, X.H₀ b = none
structure Inv (X : Cx) (pins : List (Addr × Obj)) (σ : List (Option V)) (H : Hp) (s : Shared) : Prop where
  ok : X.Ok
  os : s.os = X.s₀.os
  bare : AllBare s.gens
  base : Un X.fs X.ex X.H₀ H X.s₀.heap s.heap
  loc : ∃ m, s.heap.Ns X.env.locals m ∧ ∀ (i : Nat) (x : Str) (v : V), X.N[i]? = some x → σ[i]? = some (some v) → Vis X.env.scope x → ∃ u, RelV v u ∧ Look X.env s.heap m x u
  cell : ∀ x c, X.env.cells.lookup x = some c → ∃ v, s.heap.IsCell c v
  free : H X.env.locals = none
  freeC : ∀ x c, X.env.cells.lookup x = some c → H c = none
  pin : ∀ p ∈ X.pn ++ pins, s.heap.get? p.1 = some p.2 ∧ H p.1 = none ∧ p.1 ≠ X.env.locals ∧ p.1 ∉ X.fs ∧ ∀ v, p.2.data ≠ .cell v
  hok : HOk X.prog X.w H s.heap
  len : σ.length = X.N.length
section
variable {X : Cx} {pins : List (Addr × Obj)} {σ : List (Option V)} {H H' : Hp} {s : Shared} {h' : Heap}
theorem Cx.Ok.nofr (ok : X.Ok) {b : Addr} {o : Obj} (e : X.base.get? b = some o) : b ∉ X.fs := fun hb => by
  have := (ok.funs.mem hb).1
  rw [e] at this; cases this
theorem Inv.bs (I : Inv X pins σ H s) : ∀ b o, X.base.get? b = some o → s.heap.get? b = some o ∧ H b = none := fun b o e =>
  ⟨I.base.keep b o (I.ok.bs b o e).1 (I.ok.bs b o e).2 (I.ok.nofr e) (I.ok.noex b o e), I.base.free b o (I.ok.bs b o e).1 (I.ok.bs b o e).2 (I.ok.noex b o e)⟩
theorem Inv.bk (I : Inv X pins σ H s) : ∀ b o, X.base.get? b = some o → s.heap.get? b = some o := fun b o e => (I.bs b o e).1
theorem Inv.mod (I : Inv X pins σ H s) : Mod X.K X.mg X.base := I.ok.mod
theorem Inv.kIn (I : Inv X pins σ H s) : X.K.In s.heap := I.ok.mod.kin.keeps I.bk
theorem Inv.nolimit (I : Inv X pins σ H s) : s.heap.NoLimit := I.ok.mod.nolimit.keeps I.bk
theorem Inv.fr (I : Inv X pins σ H s) : ∃ m, Fr X.base X.env.locals s.heap m :=
  let ⟨m, hn, _⟩ := I.loc
  ⟨m, hn, I.bk, Nat.le_trans I.ok.bsz I.ok.above⟩
theorem Inv.lt (I : Inv X pins σ H s) : X.env.locals < s.heap.objs.size := let ⟨_, hn, _⟩ := I.loc; hn.lt
theorem Inv.sz (I : Inv X pins σ H s) : X.s₀.heap.objs.size ≤ s.heap.objs.size := Nat.le_trans I.ok.above (Nat.le_of_lt I.lt)
theorem Inv.nofs (I : Inv X pins σ H s) {a : Addr} (h : s.heap.objs.size ≤ a) : a ∉ X.fs := fun hb => by
  obtain ⟨_, o, ho, _⟩ := I.ok.funs.mem hb
  exact absurd (Nat.lt_of_lt_of_le (Heap.lt_size ho) (Nat.le_trans I.sz h)) (Nat.lt_irrefl _)
theorem Inv.cne (I : Inv X pins σ H s) : ∀ x c, X.env.cells.lookup x = some c → c ≠ X.env.locals := fun x c e z => by
  obtain ⟨v, o, ho, hd⟩ := I.cell x c e
  obtain ⟨m, ⟨o', es, ep, ho', hd', _⟩, _⟩ := I.loc
  rw [z, ho'] at ho; cases ho; rw [hd'] at hd; cases hd
theorem Inv.funs (I : Inv X pins σ H s) : s.heap.FunFrames X.base X.outer := by
  have all : ∀ (l : List Env), (∀ b ∈ frs l, b ∈ X.fs) → X.s₀.heap.FunFrames X.base l → s.heap.FunFrames X.base l := by
    intro l
    induction l with
    | nil => intro _ _; trivial
    | cons env r ih =>
      intro hs hl
      obtain ⟨hk, ⟨L, o, hf, hn, ho, hd⟩, hr⟩ := hl
      have hL : L ∈ X.fs := hs L (by unfold frs; rw [List.filterMap_cons, hf]; exact List.mem_cons_self)
      obtain ⟨sl, e⟩ := I.base.slot L o ho (I.ok.frf L hL) hL fun z => I.ok.exfs L z hL
      exact ⟨hk, ⟨L, _, hf, hn, e, hd⟩, ih (fun b hb => hs b (by unfold frs; rw [List.filterMap_cons, hf]; exact List.mem_cons_of_mem _ hb)) hr⟩
  exact all X.outer (fun _ hb => hb) I.ok.funs
theorem Inv.stack (I : Inv X pins σ H s) : s.heap.FunFrames X.base X.stack := by
  rcases I.ok.stk with e | ⟨e, hf⟩
  · rw [e]; exact I.funs
  · rw [e]
    obtain ⟨m, hn, _⟩ := I.loc
    refine .cons (by rw [I.ok.kind]; decide) hf hn ?_ I.funs
    exact Heap.get?_none_of_le (Nat.le_trans I.ok.bsz I.ok.above)
theorem Inv.stkSub (I : Inv X pins σ H s) : ∀ b ∈ frs X.stack, b ∈ X.env.locals :: X.fs := fun b hb => by
  rcases I.ok.stk with e | ⟨e, hf⟩
  · rw [e] at hb; exact List.mem_cons_of_mem _ hb
  · rw [e] at hb
    unfold frs at hb
    rw [List.filterMap_cons, hf] at hb
    exact hb
theorem Inv.stkFree (I : Inv X pins σ H s) : ∀ b ∈ frs X.stack, H b = none := fun b hb => by
  rcases List.mem_cons.mp (I.stkSub b hb) with e | hb
  · rw [e]; exact I.free
  · obtain ⟨_, o, ho, _⟩ := I.ok.funs.mem hb
    exact I.base.free b o ho (I.ok.frf b hb) fun z => I.ok.exfs b z hb
theorem Inv.step {g' : Array GenState} {t' : Nat} {d' : Drawn} {ch : List Addr} (I : Inv X pins σ H s)
    (hch : ∀ b ∈ ch, (b ∈ X.ex ∨ X.s₀.heap.objs.size ≤ b) ∧ b ≠ X.env.locals ∧ (∀ x c, X.env.cells.lookup x = some c → c ≠ b) ∧ ∀ p ∈ X.pn ++ pins, p.1 ≠ b)
    (keep : ∀ b o, b ≠ X.env.locals → b ∉ X.fs → b ∉ ch → s.heap.get? b = some o → H b = none → h'.get? b = some o)
    (slot : ∀ b o, b ≠ X.env.locals → b ∈ X.fs → b ∉ ch → s.heap.get? b = some o → H b = none → ∃ sl, h'.get? b = some { o with slots := sl }) (free : ∀ b o, b ∉ ch → s.heap.get? b = some o → H b = none → H' b = none)
    (there : ∀ b o, b ∉ ch → s.heap.get? b = some o → ∃ o', h'.get? b = some o')
    (tups : ∀ b xs, H b = some (.tup xs) → H' b = some (.tup xs)) (frzs : ∀ b o u, H b = some (.frz o u) → H' b = some (.frz o u)) (tbls : ∀ b ps, H b = some (.tbl ps) → ∃ more, H' b = some (.tbl (ps ++ more)))
    (ns : ∀ m, s.heap.Ns X.env.locals m → h'.Ns X.env.locals m) (hok : HOk X.prog X.w H' h') (hg : AllBare g') :
    Inv X pins σ H' { s with heap := h', gens := g', drawn := d', toks := t' } := by
  have neL : ∀ b o, X.s₀.heap.get? b = some o → b ≠ X.env.locals := fun b o e => Nat.ne_of_lt (Nat.lt_of_lt_of_le (Heap.lt_size e) I.ok.above)
  have neC : ∀ b o, X.s₀.heap.get? b = some o → b ∉ X.ex → b ∉ ch := fun b o e hx hb => by
    rcases (hch b hb).1 with z | z
    · exact hx z
    · exact absurd (Nat.lt_of_lt_of_le (Heap.lt_size e) z) (Nat.lt_irrefl _)
  have cellK : ∀ x c, X.env.cells.lookup x = some c → ∀ v, s.heap.IsCell c v → h'.IsCell c v := fun x c e v ⟨o, ho, hd⟩ => by
    have nch : c ∉ ch := fun z => (hch c z).2.2.1 x c e rfl
    by_cases hc : c ∈ X.fs
    · obtain ⟨sl, q⟩ := slot c o (I.cne x c e) hc nch ho (I.freeC x c e)
      exact ⟨_, q, hd⟩
    · exact ⟨o, keep c o (I.cne x c e) hc nch ho (I.freeC x c e), hd⟩
  refine ⟨I.ok, I.os, hg, ⟨fun b o e n hb hx => ?_, fun b o e n hb hx => ?_, fun b o e n hx => ?_, fun b o e hx => ?_, fun b xs e => tups b xs (I.base.tups b xs e), fun b o xs e => frzs b o xs (I.base.frzs b o xs e), fun b ps e => ?_⟩, ?_, fun x c e => ?_, ?_, fun x c e => ?_, fun p hp => ?_, hok, I.len⟩
  · exact keep b o (neL b o e) hb (neC b o e hx) (I.base.keep b o e n hb hx) (I.base.free b o e n hx)
  · obtain ⟨sl, e1⟩ := I.base.slot b o e n hb hx
    obtain ⟨sl', e2⟩ := slot b _ (neL b o e) hb (neC b o e hx) e1 (I.base.free b o e n hx)
    exact ⟨sl', e2⟩
  · obtain ⟨o', e1⟩ := I.base.there b o e hx
    exact free b o' (neC b o e hx) e1 (I.base.free b o e n hx)
  · obtain ⟨o', e1⟩ := I.base.there b o e hx
    exact there b o' (neC b o e hx) e1
  · obtain ⟨m1, e1⟩ := I.base.tbls b ps e
    obtain ⟨m2, e2⟩ := tbls b _ e1
    exact ⟨m1 ++ m2, by rw [e2, Array.append_assoc]⟩
  · obtain ⟨m, hn, hl⟩ := I.loc
    refine ⟨m, ns m hn, fun i x v e1 e2 e3 => ?_⟩
    obtain ⟨u, r, l⟩ := hl i x v e1 e2 e3
    refine ⟨u, r, ?_⟩
    rcases l with l | ⟨k, c, e, z⟩
    · exact .inl l
    · exact .inr ⟨k, c, e, cellK x c e _ z⟩
  · obtain ⟨v, z⟩ := I.cell x c e
    exact ⟨v, cellK x c e v z⟩
  · obtain ⟨m, ⟨o, _, _, ho, _⟩, _⟩ := I.loc
    exact free _ o (fun z => (hch _ z).2.1 rfl) ho I.free
  · obtain ⟨v, o, ho, hd⟩ := I.cell x c e
    exact free c o (fun z => (hch c z).2.2.1 x c e rfl) ho (I.freeC x c e)
  · obtain ⟨e, n, ne, nf, d⟩ := I.pin p hp
    have nch : p.1 ∉ ch := fun z => (hch p.1 z).2.2.2 p hp rfl
    exact ⟨keep p.1 p.2 ne nf nch e n, free p.1 p.2 nch e n, ne, nf, d⟩
theorem Inv.un {t' : Nat} (I : Inv X pins σ H s) (u : Un X.fs [] H H' s.heap h') (hok : HOk X.prog X.w H' h') : Inv X pins σ H' { s with heap := h', toks := t' } := by
  obtain ⟨m, ⟨o, es, ep, ho, r⟩, _⟩ := id I.loc
  obtain ⟨sl, hL⟩ := u.any ho I.free (by simp)
  exact I.step (g' := s.gens) (d' := s.drawn) (ch := []) (fun _ z => nomatch z) (fun b o _ hb _ e n => u.keep b o e n hb (by simp)) (fun b o _ hb _ e n => u.slot b o e n hb (by simp)) (fun b o _ e n => u.free b o e n (by simp)) (fun b o _ e => u.there b o e (by simp)) u.tups u.frzs u.tbls (fun m' hm => by
    obtain ⟨o', es', ep', ho', r'⟩ := hm
    rw [ho] at ho'; cases ho'
    exact ⟨_, es', ep', hL, r'⟩) hok I.bare
theorem Inv.call {g' : Array GenState} {t' : Nat} {d' : Drawn} {ch : List Addr} (I : Inv X pins σ H s) (u : Un (frs X.stack) ch H H' s.heap h') (hok : HOk X.prog X.w H' h') (hg : AllBare g')
    (hch : ∀ b ∈ ch, (b ∈ X.ex ∨ X.s₀.heap.objs.size ≤ b) ∧ b ≠ X.env.locals ∧ (∀ x c, X.env.cells.lookup x = some c → c ≠ b) ∧ ∀ p ∈ X.pn ++ pins, p.1 ≠ b) :
    Inv X pins σ H' { s with heap := h', gens := g', drawn := d', toks := t' } := by
  obtain ⟨m, ⟨o, es, ep, ho, r⟩, _⟩ := id I.loc
  obtain ⟨sl, hL⟩ := u.any ho I.free fun z => (hch _ z).2.1 rfl
  exact I.step (ch := ch) hch (fun b o hL hb hc e n => u.keep b o e n (fun z => (List.mem_cons.mp (I.stkSub b z)).elim hL hb) hc) (fun b o _ _ hc e n => u.any e n hc) (fun b o hc e n => u.free b o e n hc) (fun b o hc e => u.there b o e hc) u.tups u.frzs u.tbls (fun m' hm => by
    obtain ⟨o', es', ep', ho', r'⟩ := hm
    rw [ho] at ho'; cases ho'
    exact ⟨_, es', ep', hL, r'⟩) hok hg
theorem Inv.turned {t' : Nat} {it : Addr} (I : Inv X pins σ H s) (k : ∀ b o, b ≠ it → s.heap.get? b = some o → h'.get? b = some o) (hn : H it = none) (hL : it ≠ X.env.locals)
    (h1 : it ∈ X.ex ∨ X.s₀.heap.objs.size ≤ it) (h2 : ∀ x c, X.env.cells.lookup x = some c → c ≠ it) (h3 : ∀ p ∈ X.pn ++ pins, p.1 ≠ it) : Inv X pins σ H { s with heap := h', toks := t' } := by
  have nit : ∀ b u, H b = some u → b ≠ it := fun b u e z => by rw [z, hn] at e; cases e
  refine I.step (g' := s.gens) (d' := s.drawn) (ch := [it]) (fun b hb => ?_) (fun b o _ _ hc e _ => k b o (fun z => hc (by simp [z])) e) (fun b o _ _ hc e _ => ⟨o.slots, k b o (fun z => hc (by simp [z])) e⟩) (fun _ _ _ _ n => n)
    (fun b o hc e => ⟨o, k b o (fun z => hc (by simp [z])) e⟩) (fun _ _ e => e) (fun _ _ _ e => e) (fun b ps e => ⟨#[], by rw [e]; simp⟩) (fun m hm => ?_) (fun b u e => ?_) I.bare
  · have e : b = it := by simpa using hb
    subst e
    exact ⟨h1, hL, h2, h3⟩
  · obtain ⟨o, es, ep, ho, r⟩ := hm
    exact ⟨o, es, ep, k _ o (Ne.symm hL) ho, r⟩
  · refine (I.hok b u e).stay (fun c v hc q => k c v ?_ q) (fun _ q => q) fun _ _ q => q
    rcases hc with z | z
    · rw [z]; exact nit b u e
    · exact nit c _ z
theorem Inv.tok (I : Inv X pins σ H s) (t : Nat) : Inv X pins σ H { s with toks := t } := I.un (h' := s.heap) (t' := t) Un.refl I.hok
theorem Inv.kept {t' : Nat} (I : Inv X pins σ H s) (k : ∀ b u, s.heap.get? b = some u → h'.get? b = some u) : Inv X pins σ H { s with heap := h', toks := t' } := I.un (Un.kept k) (I.hok.kept k)
theorem Inv.laid {a : Addr} {o : HO} {t' : Nat} (I : Inv X pins σ H s) (k : ∀ b u, s.heap.get? b = some u → h'.get? b = some u) (hp : s.heap.objs.size ≤ a) (new : ObjOk X.prog X.w (upd H a o) h' a o) :
    Inv X pins σ (upd H a o) { s with heap := h', toks := t' } := I.un (Un.laid k hp (I.hok.fresh hp)) (I.hok.laid k hp new)
theorem Inv.write {x e : Addr} {o : HO} {t' : Nat} (I : Inv X pins σ H s) (mu : Mut (H x)) (he : e = x ∨ H e = some (.own x)) (k : ∀ b u, b ≠ e → s.heap.get? b = some u → h'.get? b = some u) (heo : ∃ u, h'.get? e = some u)
    (new : ObjOk X.prog X.w (upd H x o) h' x o) : Inv X pins σ (upd H x o) { s with heap := h', toks := t' } := I.un (Un.write mu he k heo) (I.hok.write mu he k heo new)
theorem Inv.pins_of {pins' : List (Addr × Obj)} (I : Inv X pins σ H s) (h : ∀ p ∈ pins', s.heap.get? p.1 = some p.2 ∧ H p.1 = none ∧ p.1 ≠ X.env.locals ∧ p.1 ∉ X.fs ∧ ∀ v, p.2.data ≠ .cell v) : Inv X pins' σ H s :=
  ⟨I.ok, I.os, I.bare, I.base, I.loc, I.cell, I.free, I.freeC, fun p hp => (List.mem_append.mp hp).elim (fun z => I.pin p (List.mem_append_left _ z)) (h p), I.hok, I.len⟩
theorem nodup_ix {N : List Str} (hN : N.Nodup) {i j : Nat} {x : Str} (a : N[i]? = some x) (b : N[j]? = some x) : i = j := by
  obtain ⟨h1, e1⟩ := List.getElem?_eq_some_iff.mp a
  obtain ⟨h2, e2⟩ := List.getElem?_eq_some_iff.mp b
  exact (List.getElem_inj hN).mp (e1.trans e2.symm)
theorem store_ok2 {M : Model} {A : Around} {E : Value → Shared → Prop} {i : Nat} {x : Str} {v : V} {u : Value} {Q : Unit → Shared → Prop} (I : Inv X pins σ H s) (hN : X.N.Nodup) (hi : X.N[i]? = some x) (hx : Loc X.env.scope x) (r : RelV v u)
    (h : ∀ s', Inv X pins (σ.set i (some v)) H s' → (∃ a, Heap.SameBut a s.heap s'.heap ∧ (a = X.env.locals ∨ X.env.cells.lookup x = some a)) → Q () s') (hf : X.fn x = true ∨ X.env.scope.names.lookup x = some .local := by first | exact .inl rfl | exact .inr rfl | assumption) : wpAny M A (storeName X.env x u) Q E s := by
  obtain ⟨m, hn, hl⟩ := id I.loc
  have hcls : (X.env.scope.kind == .class || (X.env.scope.kind == .module && X.env.locals != X.env.globals)) = false := by rw [I.ok.kind]; rfl
  have hiσ : i < σ.length := by rw [I.len]; exact (List.getElem?_eq_some_iff.mp hi).1
  have cne := I.cne
  have tracked : ∀ {a : Addr} {h' : Heap}, (∃ o, s.heap.get? a = some o ∧ H a = none) → Heap.SameBut a s.heap h' → HOk X.prog X.w H h' := fun {a h'} ha hs b ob e => by
    obtain ⟨_, _, hfree⟩ := ha
    refine (I.hok b ob e).stay (fun c w' hc q => (hs.2 c ?_).trans q) (fun _ q => q) fun _ _ q => q
    rintro rfl
    rcases hc with rfl | hc
    · rw [hfree] at e; cases e
    · rw [hfree] at hc; cases hc
  rcases hx with hk | hk
  · refine wpAny_storeName_local hk hn (fun h' hn' hs => ?_) hcls
    obtain ⟨oL, _, _, hoL, _⟩ := id hn
    refine h _ ⟨I.ok, I.os, I.bare, ⟨fun b o e n hb hx => ?_, fun b o e n hb hx => ?_, I.base.free, fun b o e hx => ?_, I.base.tups, I.base.frzs, I.base.tbls⟩, ⟨_, hn', fun j y v' e1 e2 e3 => ?_⟩, fun y c e => ?_, I.free, I.freeC, fun p hp => ?_, tracked ⟨oL, hoL, I.free⟩ hs, by simpa using I.len⟩ ⟨_, hs, .inl rfl⟩
    · exact (hs.2 b (Nat.ne_of_lt (Nat.lt_of_lt_of_le (Heap.lt_size e) I.ok.above))).trans (I.base.keep b o e n hb hx)
    · obtain ⟨sl, e1⟩ := I.base.slot b o e n hb hx
      exact ⟨sl, (hs.2 b (Nat.ne_of_lt (Nat.lt_of_lt_of_le (Heap.lt_size e) I.ok.above))).trans e1⟩
    · obtain ⟨o', e1⟩ := I.base.there b o e hx
      exact ⟨o', (hs.2 b (Nat.ne_of_lt (Nat.lt_of_lt_of_le (Heap.lt_size e) I.ok.above))).trans e1⟩
    · by_cases hj : j = i
      · subst hj
        rw [hi] at e1; cases e1
        rw [List.getElem?_set_self hiσ] at e2
        cases e2
        exact ⟨u, r, .inl ⟨hk, by simp⟩⟩
      · rw [List.getElem?_set_ne (Ne.symm hj)] at e2
        obtain ⟨u', r', q⟩ := hl j y v' e1 e2 e3
        refine ⟨u', r', ?_⟩
        rcases q with ⟨k, e⟩ | ⟨k, c, e, z⟩
        · refine .inl ⟨k, ?_⟩
          have : y ≠ x := fun e => hj (nodup_ix hN e1 (e ▸ hi))
          simp [this, e]
        · exact .inr ⟨k, c, e, z.sameBut hs (cne y c e)⟩
    · obtain ⟨w', z⟩ := I.cell y c e
      exact ⟨w', z.sameBut hs (cne y c e)⟩
    · obtain ⟨e, n, ne, nf, d⟩ := I.pin p hp
      exact ⟨(hs.2 p.1 ne).trans e, n, ne, nf, d⟩
  · have hfn : X.fn x = true := by
      rcases hf with z | z
      · exact z
      · rw [z] at hk; cases hk
    obtain ⟨c, hc⟩ := I.ok.has x (.inl hk)
    obtain ⟨w', z⟩ := I.cell x c hc
    refine wpAny_storeName_cell I.ok.kind hk hc z (fun h' hc' hs => ?_)
    obtain ⟨oc, hoc, hocd⟩ := id z
    refine h { s with heap := h' } ⟨I.ok, I.os, I.bare, ⟨fun b o e n hb hx => ?_, fun b o e n hb hx => ?_, I.base.free, fun b o e hx => ?_, I.base.tups, I.base.frzs, I.base.tbls⟩, ⟨m, hn.sameBut hs (Ne.symm (cne x c hc)), fun j y v' e1 e2 e3 => ?_⟩, fun y c' e => ?_, I.free, I.freeC, fun p hp => ?_, tracked ⟨oc, hoc, I.freeC x c hc⟩ hs, by simpa using I.len⟩ ⟨c, hs, .inr hc⟩
    · exact (hs.2 b (Nat.ne_of_lt (Nat.lt_of_lt_of_le (Heap.lt_size e) (I.ok.cab x c hfn hc)))).trans (I.base.keep b o e n hb hx)
    · obtain ⟨sl, e1⟩ := I.base.slot b o e n hb hx
      exact ⟨sl, (hs.2 b (Nat.ne_of_lt (Nat.lt_of_lt_of_le (Heap.lt_size e) (I.ok.cab x c hfn hc)))).trans e1⟩
    · obtain ⟨o', e1⟩ := I.base.there b o e hx
      exact ⟨o', (hs.2 b (Nat.ne_of_lt (Nat.lt_of_lt_of_le (Heap.lt_size e) (I.ok.cab x c hfn hc)))).trans e1⟩
    · by_cases hj : j = i
      · subst hj
        rw [hi] at e1; cases e1
        rw [List.getElem?_set_self hiσ] at e2
        cases e2
        exact ⟨u, r, .inr ⟨.inl hk, c, hc, hc'⟩⟩
      · rw [List.getElem?_set_ne (Ne.symm hj)] at e2
        obtain ⟨u', r', q⟩ := hl j y v' e1 e2 e3
        refine ⟨u', r', ?_⟩
        rcases q with q | ⟨k, c', e, z'⟩
        · exact .inl q
        · refine .inr ⟨k, c', e, z'.sameBut hs ?_⟩
          rintro rfl
          exact hj (nodup_ix hN e1 (I.ok.inj _ _ _ e hc ▸ hi))
    · by_cases hcc : c' = c
      · subst hcc; exact ⟨_, hc'⟩
      · obtain ⟨w2, z2⟩ := I.cell y c' e
        exact ⟨w2, z2.sameBut hs hcc⟩
    · obtain ⟨e, n, ne, nf, d⟩ := I.pin p hp
      refine ⟨(hs.2 p.1 ?_).trans e, n, ne, nf, d⟩
      intro q
      rw [q, hoc] at e
      have q' : oc = p.2 := Option.some.inj e
      exact d w' (by rw [← q']; exact hocd)
theorem store_ok {M : Model} {A : Around} {E : Value → Shared → Prop} {i : Nat} {x : Str} {v : V} {u : Value} {Q : Unit → Shared → Prop} (I : Inv X pins σ H s) (hN : X.N.Nodup) (hi : X.N[i]? = some x) (hx : Loc X.env.scope x) (r : RelV v u)
    (h : ∀ s', Inv X pins (σ.set i (some v)) H s' → Q () s') (hf : X.fn x = true ∨ X.env.scope.names.lookup x = some .local := by first | exact .inl rfl | exact .inr rfl | assumption) : wpAny M A (storeName X.env x u) Q E s :=
  store_ok2 I hN hi hx r (fun s' I' _ => h s' I') hf
theorem Inv.call' {s' : Shared} {ch : List Addr} (I : Inv X pins σ H s) (ho : s'.os = s.os) (u : Un (frs X.stack) ch H H' s.heap s'.heap) (hok : HOk X.prog X.w H' s'.heap) (hg : AllBare s'.gens)
    (hch : ∀ b ∈ ch, (b ∈ X.ex ∨ X.s₀.heap.objs.size ≤ b) ∧ b ≠ X.env.locals ∧ (∀ x c, X.env.cells.lookup x = some c → c ≠ b) ∧ ∀ p ∈ X.pn ++ pins, p.1 ≠ b) : Inv X pins σ H' s' := by
  obtain ⟨h', g', d', t', o'⟩ := s'
  have e : o' = s.os := ho
  subst e
  exact I.call (g' := g') (t' := t') (d' := d') u hok hg hch
end
noncomputable abbrev XK := Value → Option Addr → Hp → Prop
noncomputable abbrev St := List (Option V)
noncomputable abbrev VK := V → Hp → Prop
noncomputable abbrev TE := St → Hp → VK → Prop
noncomputable abbrev TT := St → Hp → (Bool → Hp → Prop) → Prop
noncomputable abbrev TA := St → Hp → (List V → Hp → Prop) → Prop
structure Ends where
  nx : St → Hp → Prop
  rt : VK
  bk : St → Hp → Prop := fun _ _ => False
  ct : St → Hp → Prop := fun _ _ => False
noncomputable abbrev TS := Ends → St → Hp → Prop
noncomputable def EP (X : Cx) (pins : List (Addr × Obj)) (σ : St) (Q : VK) (u : Value) (s' : Shared) : Prop := ∃ v H', Inv X pins σ H' s' ∧ RelV v u ∧ Q v H'
noncomputable def TP (X : Cx) (pins : List (Addr × Obj)) (σ : St) (Q : Bool → Hp → Prop) (b : Bool) (s' : Shared) : Prop := ∃ H', Inv X pins σ H' s' ∧ Q b H'
noncomputable def AP (X : Cx) (pins : List (Addr × Obj)) (σ : St) (Q : List V → Hp → Prop) (us : List Value) (s' : Shared) : Prop := ∃ vs H', Inv X pins σ H' s' ∧ Vals vs us ∧ Q vs H'
noncomputable def SP (X : Cx) (pins : List (Addr × Obj)) (D : Ends) (f : Flow) (s' : Shared) : Prop :=
  match f with
  | .next => ∃ σ' H', Inv X pins σ' H' s' ∧ D.nx σ' H'
  | .brk => ∃ σ' H', Inv X pins σ' H' s' ∧ D.bk σ' H'
  | .cont => ∃ σ' H', Inv X pins σ' H' s' ∧ D.ct σ' H'
  | .ret u => ∃ v σ' H', Inv X pins σ' H' s' ∧ RelV v u ∧ D.rt v H'
noncomputable def PE (X : Cx) (e : Expr) (t : TE) : Prop :=
  ∀ (pins : List (Addr × Obj)) (s : Shared) (σ : St) (H : Hp) (Q : VK), Inv X pins σ H s → t σ H Q → wpAny (model X.prog X.w) X.A (eval e X.env) (EP X pins σ Q) X.xe s
noncomputable def PT (X : Cx) (e : Expr) (t : TT) : Prop :=
  ∀ (pins : List (Addr × Obj)) (s : Shared) (σ : St) (H : Hp) (Q : Bool → Hp → Prop), Inv X pins σ H s → t σ H Q → wpAny (model X.prog X.w) X.A (isTrue e X.env (eval e X.env)) (TP X pins σ Q) X.xe s
noncomputable def PW (X : Cx) (e : Expr) (t : TT) : Prop :=
  ∀ (whole : Sem Value) (pins : List (Addr × Obj)) (s : Shared) (σ : St) (H : Hp) (Q : Bool → Hp → Prop), Inv X pins σ H s → t σ H Q → wpAny (model X.prog X.w) X.A (isTrue e X.env whole) (TP X pins σ Q) X.xe s
theorem PW.pt {X : Cx} {e : Expr} {t : TT} (h : PW X e t) : PT X e t := h _
noncomputable def PA (X : Cx) (es : List Expr) (t : TA) : Prop :=
  ∀ (pos : Pos) (pins : List (Addr × Obj)) (s : Shared) (σ : St) (H : Hp) (Q : List V → Hp → Prop), Inv X pins σ H s → t σ H Q → wpAny (model X.prog X.w) X.A (spliced (backTo pos (starEach es X.env))) (AP X pins σ Q) X.xe s
noncomputable def PS (X : Cx) (st : Stmt) (t : TS) : Prop :=
  ∀ (pins : List (Addr × Obj)) (s : Shared) (σ : St) (H : Hp) (D : Ends), Inv X pins σ H s → t D σ H → wpAny (model X.prog X.w) X.A (exec st X.env) (SP X pins D) X.xe s
noncomputable def PSs (X : Cx) (st : List Stmt) (t : TS) : Prop :=
  ∀ (pins : List (Addr × Obj)) (s : Shared) (σ : St) (H : Hp) (D : Ends), Inv X pins σ H s → t D σ H → wpAny (model X.prog X.w) X.A (execs st X.env) (SP X pins D) X.xe s
theorem thn {α : Type} {t : Sem α} {Q Q' : α → Shared → Prop} {M : Model} {A : Around} {E : Value → Shared → Prop} {s : Shared} (h : wpAny M A t Q E s) (hQ : ∀ a s, Q a s → Q' a s) : wpAny M A t Q' E s := wpAny_mono h hQ fun _ _ x => x
end L2
namespace L2
open PySem PySem.Spec PyProof.Rows
section
variable {X : Cx}
noncomputable def tVar (i : Nat) : TE := fun σ H Q => ∃ v, σ[i]? = some (some v) ∧ Q v H
noncomputable def tC (v : V) : TE := fun _ H Q => Q v H
theorem pe_var {i : Nat} {x : Str} {pos : Pos} (hN : X.N[i]? = some x) (hv : Vis X.env.scope x) (hd : (x == ("__debug__" : Str)) = false := by decide) (hcd : (x == ("__classdict__" : Str)) = false := by decide) : PE X (.Name x pos) (tVar i) := by
  intro pins s σ H Q I h
  obtain ⟨v, e, h⟩ := h
  obtain ⟨m, hn, hl⟩ := I.loc
  obtain ⟨u, r, l⟩ := hl i x v hN e hv
  have fin : EP X pins σ Q u s := ⟨v, H, I, r, h⟩
  rcases l with ⟨hk, hm⟩ | ⟨hk, c, hc, hcell⟩
  · exact wpAny_Name (wpAny_loadName_local I.ok.kind hk hn hm fin) hd
  · rcases hk with hk | hk
    · exact wpAny_Name (wpAny_loadName_cell I.ok.kind hk hc hcell fin) hd
    · exact wpAny_Name (wpAny_loadName_free I.ok.kind hk hc hcell fin hcd) hd
theorem pe_int {i j pos} : PE X (.Constant (.int i) j pos) (tC (.int i)) := fun _ _ _ H _ I h => wpAny_Constant_int ⟨.int i, H, I.tok _, ⟨_, rfl⟩, h⟩
theorem pe_bl {b j pos} : PE X (.Constant (.bool b) j pos) (tC (.bl b)) := fun _ _ _ H _ I h => Constant_bool ⟨.bl b, H, I, rfl, h⟩
theorem pe_non {j pos} : PE X (.Constant .none j pos) (tC .non) := fun _ _ _ H _ I h => Constant_none ⟨.non, H, I, rfl, h⟩
theorem pe_str {x j pos} : PE X (.Constant (.str x) j pos) (tC (.str x)) := fun _ _ _ H _ I h => Calls.Constant_str ⟨.str x, H, I.tok _, ⟨_, rfl⟩, h⟩
noncomputable def Gl (X : Cx) (x : Str) : Prop := X.env.kindOf x = some .globalImplicit
theorem ld_glob {E : Value → Shared → Prop} {pins : List (Addr × Obj)} {s : Shared} {σ : St} {H : Hp} {x : Str} {u : Value} {pos : Pos} {Q : Value → Shared → Prop} (I : Inv X pins σ H s) (hg : Gl X x) (hm : X.mg x = some u) (h : Q u s)
    (hd : (x == ("__debug__" : Str)) = false := by decide) : wpAny (model X.prog X.w) X.A (eval (.Name x pos) X.env) Q E s :=
  Calls.Name_function_global I.ok.kind hg (Calls.loadGlobal_global (by rw [I.ok.glob]; exact I.mod.glob.keeps I.bk) hm h) hd
theorem ld_blt {E : Value → Shared → Prop} {pins : List (Addr × Obj)} {s : Shared} {σ : St} {H : Hp} {x : Str} {u : Value} {pos : Pos} {Q : Value → Shared → Prop} (I : Inv X pins σ H s) (hg : Gl X x) (hm : X.mg x = none) (hv : bootBuiltins x = some u) (h : Q u s)
    (hn : x ≠ "__name__" := by decide) (hd : (x == ("__debug__" : Str)) = false := by decide) : wpAny (model X.prog X.w) X.A (eval (.Name x pos) X.env) Q E s := by
  obtain ⟨mb, h1, h2⟩ := I.mod.blt
  exact Calls.Name_function_global I.ok.kind hg (Calls.loadGlobal_builtin (by rw [I.ok.glob]; exact I.mod.glob.keeps I.bk) hm (by rw [I.ok.blt]; exact h1.keeps I.bk) ((h2 x hn).trans hv) h) hd
theorem pe_glob {x : Str} {v : V} {u : Value} {pos : Pos} (hg : Gl X x) (hm : X.mg x = some u) (r : RelV v u) (hd : (x == ("__debug__" : Str)) = false := by decide) : PE X (.Name x pos) (tC v) :=
  fun _ _ _ H _ I h => ld_glob I hg hm ⟨v, H, I, r, h⟩ hd
theorem pe_bltn {x : Str} {v : V} {u : Value} {pos : Pos} (hg : Gl X x) (hm : X.mg x = none) (hv : bootBuiltins x = some u) (r : RelV v u) (hn : x ≠ "__name__" := by decide) (hd : (x == ("__debug__" : Str)) = false := by decide) : PE X (.Name x pos) (tC v) :=
  fun _ _ _ H _ I h => ld_blt I hg hm hv ⟨v, H, I, r, h⟩ hn hd
noncomputable def t2I (ta tb : TE) (k : Int → Int → Hp → Prop) : St → Hp → Prop := fun σ H => ta σ H fun x H1 => tb σ H1 fun y H2 => ∃ i j, x = .int i ∧ y = .int j ∧ k i j H2
noncomputable def tAdd (ta tb : TE) : TE := fun σ H Q => t2I ta tb (fun i j H2 => Q (.int (i + j)) H2) σ H
noncomputable def tSub (ta tb : TE) : TE := fun σ H Q => t2I ta tb (fun i j H2 => Q (.int (i - j)) H2) σ H
noncomputable def tMul (ta tb : TE) : TE := fun σ H Q => t2I ta tb (fun i j H2 => (-(2 ^ 64) < i ∧ i < 2 ^ 64) ∧ Q (.int (i * j)) H2) σ H
variable {a b : Expr} {ta tb : TE} {pos : Pos}
noncomputable def PC (X : Cx) (op : CmpOp) (a b : Expr) (t : TE) : Prop :=
  ∀ (pins : List (Addr × Obj)) (s : Shared) (σ : St) (H : Hp) (Q : VK), Inv X pins σ H s → t σ H Q →
    wpAny (model X.prog X.w) X.A (eval a X.env) (fun v s₁ => wpAny (model X.prog X.w) X.A (eval b X.env) (fun u s₂ => wpAny (model X.prog X.w) X.A (compareOp op v u) (EP X pins σ Q) X.xe s₂) X.xe s₁) X.xe s
theorem nobehind (b : Expr) {op : CmpOp} (h : op ≠ .In) (h2 : op ≠ .NotIn) : behindInMarks op b = false := by
  have e1 : (op == CmpOp.In) = false := by cases op <;> first | rfl | exact absurd rfl h
  have e2 : (op == CmpOp.NotIn) = false := by cases op <;> first | rfl | exact absurd rfl h2
  cases b <;> simp [behindInMarks, e1, e2]
noncomputable def tCmp (p : Int → Int → Bool) (ta tb : TE) : TE := fun σ H Q => t2I ta tb (fun i j H2 => Q (.bl (p i j)) H2) σ H
noncomputable abbrev tLt : TE → TE → TE := tCmp fun i j => decide (i < j)
noncomputable abbrev tLe : TE → TE → TE := tCmp fun i j => decide (i ≤ j)
noncomputable abbrev tGt : TE → TE → TE := tCmp fun i j => decide (j < i)
noncomputable abbrev tGe : TE → TE → TE := tCmp fun i j => decide (j ≤ i)
noncomputable abbrev tEqI : TE → TE → TE := tCmp fun i j => decide (i = j)
noncomputable abbrev tNeI : TE → TE → TE := tCmp fun i j => !decide (i = j)
noncomputable def tIsN (ta : TE) : TE := fun σ H Q => ta σ H fun x H1 => Q (.bl (decide (x = .non))) H1
noncomputable def tNotN (ta : TE) : TE := fun σ H Q => ta σ H fun x H1 => Q (.bl (!decide (x = .non))) H1
theorem RelV.none_iff {x : V} {v : Value} (r : RelV x v) : (v == Value.none) = decide (x = .non) := by
  cases x with
  | non => cases r; rfl
  | bl _ => cases r; rfl
  | int _ => obtain ⟨t, rfl⟩ := r; rfl
  | str _ => obtain ⟨t, rfl⟩ := r; rfl
  | byt _ => obtain ⟨t, rfl⟩ := r; rfl
  | flt _ => obtain ⟨t, rfl⟩ := r; rfl
  | ref _ => cases r; rfl
  | ty _ => cases r; rfl
theorem pc_isN {j pos'} (ha : PE X a ta) : PC X .Is a (.Constant .none j pos') (tIsN ta) := by
  intro pins s σ H Q I h
  refine thn (ha pins s σ H _ I h) fun v s1 ⟨x, H1, I1, r1, q1⟩ => ?_
  exact Constant_none (is_none_gen ⟨.bl _, H1, I1, by rw [r1.none_iff]; rfl, q1⟩)
noncomputable def tB (t : TE) : TT := fun σ H Q => t σ H fun x H1 => ∃ c, x = .bl c ∧ Q c H1
theorem pt_cmp {op : CmpOp} {t : TE} (h : PC X op a b t) (h1 : behindInMarks op b = false := by first | exact nobehind _ (by decide) (by decide) | rfl) : PT X (.Compare a [op] [b] pos) (tB t) := by
  intro pins s σ H Q I hw
  refine wpAny_isTrue_Compare1 (thn (h pins s σ H _ I hw) fun v s1 h1 => thn h1 fun u s2 h2 => thn h2 fun c s3 ⟨x, H1, I1, r1, q1⟩ => ?_) h1
  obtain ⟨d, rfl, q⟩ := q1
  cases r1
  exact wpAny_truthy_bool ⟨H1, I1, q⟩
theorem pt_val {e : Expr} {t : TE} (h : PE X e t) (he : ∀ whole, isTrue e X.env whole = (do let v ← whole; standAt e.pos; holding [v] (truthy v)) := by intro _; rfl) : PT X e (tB t) := by
  intro pins s σ H Q I hw
  refine isTrue_plain (thn (h pins s σ H _ I hw) fun v s1 ⟨x, H1, I1, r1, q1⟩ => ?_) (he _)
  obtain ⟨d, rfl, q⟩ := q1
  cases r1
  exact wpAny_truthy_bool ⟨H1, I1, q⟩
variable {tA tB' : TT} {rest : List Expr}
noncomputable def tAnd (t u : TT) : TT := fun σ H Q => t σ H fun c H1 => if c = true then u σ H1 Q else Q false H1
noncomputable def tOr (t u : TT) : TT := fun σ H Q => t σ H fun c H1 => if c = true then Q true H1 else u σ H1 Q
noncomputable def tNot (t : TT) : TT := fun σ H Q => t σ H fun c H1 => Q (!c) H1
theorem pw_or1 (ha : PT X a tA) : PW X (.BoolOp .Or [a] pos) tA := by
  intro wh pins s σ H Q I h
  refine isTrue_or (thn (ha pins s σ H Q I h) fun c s1 e => ?_)
  cases c with
  | false => exact isTrue_or_nil e
  | true => exact e
theorem pw_or (ha : PT X a tA) (hb : PW X (.BoolOp .Or (b :: rest) pos) tB') : PW X (.BoolOp .Or (a :: b :: rest) pos) (tOr tA tB') := by
  intro wh pins s σ H Q I h
  refine isTrue_or (thn (ha pins s σ H _ I h) fun c s1 ⟨H1, I1, q1⟩ => ?_)
  cases c with
  | true => exact ⟨H1, I1, q1⟩
  | false => exact hb wh pins s1 σ H1 Q I1 q1
theorem pt_not (ha : PT X a tA) : PT X (.UnaryOp .Not a pos) (tNot tA) := by
  intro pins s σ H Q I h
  exact isTrue_not (ha pins s σ H (fun c H1 => Q (!c) H1) I h)
noncomputable def tAndV (ta tb : TE) : TE := fun σ H Q => ta σ H fun x H1 => ∃ c, x = .bl c ∧ if c = true then tb σ H1 Q else Q (.bl false) H1
noncomputable def tOrV (ta tb : TE) : TE := fun σ H Q => ta σ H fun x H1 => ∃ c, x = .bl c ∧ if c = true then Q (.bl true) H1 else tb σ H1 Q
noncomputable def tNotV (ta : TE) : TE := fun σ H Q => ta σ H fun x H1 => ∃ c, x = .bl c ∧ Q (.bl (!c)) H1
theorem pe_one {op} {t : TE} (h : PE X a t) : PE X (.BoolOp op [a] pos) t := fun pins s σ H Q I hw => BoolOp_one (h pins s σ H Q I hw)
theorem pe_and (ha : PE X a ta) (hb : PE X (.BoolOp .And (b :: rest) pos) tb) : PE X (.BoolOp .And (a :: b :: rest) pos) (tAndV ta tb) := by
  intro pins s σ H Q I h
  refine BoolOp_and (thn (ha pins s σ H _ I h) fun v s1 ⟨x, H1, I1, r1, q1⟩ => ?_)
  obtain ⟨c, rfl, q1⟩ := q1
  cases r1
  refine wpAny_truthy_bool ?_
  cases c with
  | true => exact hb pins s1 σ H1 Q I1 q1
  | false => exact ⟨.bl false, H1, I1, rfl, q1⟩
theorem pe_not (ha : PE X a ta) : PE X (.UnaryOp .Not a pos) (tNotV ta) := by
  intro pins s σ H Q I h
  refine UnaryOp_ (thn (ha pins s σ H _ I h) fun v s1 ⟨x, H1, I1, r1, q1⟩ => ?_)
  obtain ⟨c, rfl, q1⟩ := q1
  cases r1
  exact not_of (wpAny_truthy_bool ⟨.bl (!c), H1, I1, rfl, q1⟩)
noncomputable def tIf (t : TT) (ta tb : TE) : TE := fun σ H Q => t σ H fun c H1 => if c = true then ta σ H1 Q else tb σ H1 Q
theorem pe_ifExp {c : Expr} (hc : PT X c tA) (ha : PE X a ta) (hb : PE X b tb) : PE X (.IfExp c a b pos) (tIf tA ta tb) := by
  intro pins s σ H Q I h
  refine wpAny_IfExp (thn (hc pins s σ H _ I h) fun d s1 ⟨H1, I1, q1⟩ => ?_)
  cases d with
  | true => exact ha pins s1 σ H1 Q I1 q1
  | false => exact hb pins s1 σ H1 Q I1 q1
end
end L2
namespace L2
open PySem PySem.Spec PyProof.Rows
noncomputable def SqL (K : PySem.W.Frag) (H : Hp) (a : Addr) (xs : List V) : Prop :=
  Rd H a (.lst xs) ∨
    ∃ (o : Obj) (its : Array Value) (n : Nat), K.lookup a = some o ∧ o.cls = .type "list" ∧ o.dict = none ∧ o.data = .seq its n ∧ its.size ≤ sizeLine ∧ Vals xs its.toList
noncomputable def SqT (K : PySem.W.Frag) (H : Hp) (a : Addr) (xs : List V) : Prop :=
  Rd H a (.tup xs) ∨
    ∃ (o : Obj) (its : Array Value) (n : Nat), K.lookup a = some o ∧ o.cls = .type "tuple" ∧ o.data = .seq its n ∧ its.size ≤ sizeLine ∧ Vals xs its.toList
noncomputable def absV : Value → Option V
  | .none => some .non
  | .bool b => some (.bl b)
  | .int i _ => some (.int i)
  | .str x _ => some (.str x)
  | .bytes b _ => some (.byt b)
  | .float b _ => some (.flt b)
  | .ref a => some (.ref a)
  | .type n => some (.ty n)
  | _ => none
theorem RelV.abs {x : V} {u : Value} (r : RelV x u) : absV u = some x := by
  cases x with
  | non => cases r; rfl
  | bl _ => cases r; rfl
  | int _ => obtain ⟨t, rfl⟩ := r; rfl
  | str _ => obtain ⟨t, rfl⟩ := r; rfl
  | byt _ => obtain ⟨t, rfl⟩ := r; rfl
  | flt _ => obtain ⟨t, rfl⟩ := r; rfl
  | ref _ => cases r; rfl
  | ty _ => cases r; rfl
theorem RelV.inj {x y : V} {u : Value} (r : RelV x u) (q : RelV y u) : x = y := Option.some.inj (r.abs.symm.trans q.abs)
theorem Vals.inj : ∀ {xs ys : List V} {us : List Value}, Vals xs us → Vals ys us → xs = ys
  | _, _, _, .nil, .nil => rfl
  | _, _, _, .cons r t, .cons r' t' => by rw [r.inj r', Vals.inj t t']
section
variable {X : Cx} {pins : List (Addr × Obj)} {σ : St} {H : Hp} {s : Shared} {a : Addr} {xs ys : List V}
theorem SqL.of {K : PySem.W.Frag} (h : H a = some (.lst xs)) : SqL K H a xs := .inl (.inl h)
theorem SqT.of {K : PySem.W.Frag} (h : H a = some (.tup xs)) : SqT K H a xs := .inl (.inl h)
theorem Inv.list (I : Inv X pins σ H s) (h : SqL X.K H a xs) : ∃ its : List Value, Vals xs its ∧ PlainL s.heap a its.toArray ∧ xs.length ≤ sizeLine := by
  rcases h with h | ⟨o, its, n, hk, hc, hd, hs, hz, r⟩
  · obtain ⟨z, its, n, r, e⟩ := h.ok I.hok
    exact ⟨its, r, ⟨_, n, e, rfl, rfl, rfl⟩, z⟩
  · refine ⟨its.toList, r, ⟨o, n, I.kIn a o hk, hc, hd, by simpa using hs⟩, ?_⟩
    have e := r.length
    simp only [Array.length_toList] at e
    omega
theorem Inv.tuple (I : Inv X pins σ H s) (h : SqT X.K H a xs) : ∃ its : List Value, Vals xs its ∧ IsTup s.heap a its.toArray ∧ xs.length ≤ sizeLine := by
  rcases h with h | ⟨o, its, n, hk, hc, hs, hz, r⟩
  · obtain ⟨z, its, r, p⟩ := h.ok I.hok
    exact ⟨its, r, p, z⟩
  · refine ⟨its.toList, r, ⟨o, I.kIn a o hk, hc, n, by simpa using hs⟩, ?_⟩
    have e := r.length
    simp only [Array.length_toList] at e
    omega
theorem Inv.list_inj (I : Inv X pins σ H s) (h : SqL X.K H a xs) (h' : SqL X.K H a ys) : xs = ys := by
  obtain ⟨its, r, ⟨o, n, e, _, _, d⟩, _⟩ := I.list h
  obtain ⟨its', r', ⟨o', n', e', _, _, d'⟩, _⟩ := I.list h'
  rw [e] at e'; cases e'
  rw [d] at d'
  injection d' with d1 _
  have : its = its' := by simpa using congrArg Array.toList d1
  subst this
  exact r.inj r'
theorem Inv.tuple_inj (I : Inv X pins σ H s) (h : SqT X.K H a xs) (h' : SqT X.K H a ys) : xs = ys := by
  obtain ⟨its, r, ⟨o, e, _, n, d⟩, _⟩ := I.tuple h
  obtain ⟨its', r', ⟨o', e', _, n', d'⟩, _⟩ := I.tuple h'
  rw [e] at e'; cases e'
  rw [d] at d'
  injection d' with d1 _
  have : its = its' := by simpa using congrArg Array.toList d1
  subst this
  exact r.inj r'
end
noncomputable abbrev Cx.wish (X : Cx) (E : Value → Shared → Prop) : Cx := { X with xe := E }
noncomputable abbrev Cx.nox (X : Cx) : Cx := X.wish fun _ _ => False
theorem Cx.Ok.wish {X : Cx} (ok : X.Ok) (E : Value → Shared → Prop) : (X.wish E).Ok :=
  ⟨ok.mod, ok.kind, ok.glob, ok.blt, ok.above, ok.inj, ok.has, ok.cab, ok.hd, ok.frames, ok.stk, ok.exf, ok.bs, ok.bsz, ok.noex, ok.exfs, ok.funs, ok.frf⟩
theorem Cx.Ok.unwish {X : Cx} {E : Value → Shared → Prop} (ok : (X.wish E).Ok) : X.Ok :=
  ⟨ok.mod, ok.kind, ok.glob, ok.blt, ok.above, ok.inj, ok.has, ok.cab, ok.hd, ok.frames, ok.stk, ok.exf, ok.bs, ok.bsz, ok.noex, ok.exfs, ok.funs, ok.frf⟩
section
variable {X : Cx} {pins : List (Addr × Obj)} {σ : St} {H : Hp} {s : Shared} {E : Value → Shared → Prop}
theorem Inv.wish (I : Inv X pins σ H s) (E : Value → Shared → Prop) : Inv (X.wish E) pins σ H s := ⟨I.ok.wish E, I.os, I.bare, I.base, I.loc, I.cell, I.free, I.freeC, I.pin, I.hok, I.len⟩
theorem Inv.unwish (I : Inv (X.wish E) pins σ H s) : Inv X pins σ H s := ⟨I.ok.unwish, I.os, I.bare, I.base, I.loc, I.cell, I.free, I.freeC, I.pin, I.hok, I.len⟩
theorem SP.unwish {D : Ends} {f : Flow} {s' : Shared} (h : SP (X.wish E) pins D f s') : SP X pins D f s' := by
  cases f with
  | next => obtain ⟨σ', H', I, q⟩ := h; exact ⟨σ', H', I.unwish, q⟩
  | brk => obtain ⟨σ', H', I, q⟩ := h; exact ⟨σ', H', I.unwish, q⟩
  | cont => obtain ⟨σ', H', I, q⟩ := h; exact ⟨σ', H', I.unwish, q⟩
  | ret u => obtain ⟨v, σ', H', I, r, q⟩ := h; exact ⟨v, σ', H', I.unwish, r, q⟩
theorem PE.nox {e : Expr} {t : TE} (h : PE X.nox e t) : PE X e t := fun pins s σ H Q I hw =>
  wpAny_mono (h pins s σ H Q (I.wish _) hw) (fun _ _ ⟨v, H', I', r, q⟩ => ⟨v, H', I'.unwish, r, q⟩) fun _ _ z => False.elim z
theorem PT.nox {e : Expr} {t : TT} (h : PT X.nox e t) : PT X e t := fun pins s σ H Q I hw =>
  wpAny_mono (h pins s σ H Q (I.wish _) hw) (fun _ _ ⟨H', I', q⟩ => ⟨H', I'.unwish, q⟩) fun _ _ z => False.elim z
theorem PSs.nox {st : List Stmt} {t : TS} (h : PSs X.nox st t) : PSs X st t := fun pins s σ H D I hw =>
  wpAny_mono (h pins s σ H D (I.wish _) hw) (fun _ _ q => q.unwish) fun _ _ z => False.elim z
end
section
variable {X : Cx} {st : Stmt} {rest : List Stmt} {t u : TS} {e : Expr} {te : TE} {pos : Pos}
noncomputable def tNext : TS := fun D σ H => D.nx σ H
noncomputable def tSeq (t u : TS) : TS := fun D σ H => t { D with nx := u D } σ H
theorem pss_nil : PSs X [] tNext := fun _ _ σ H _ I h => wpAny_execs_nil ⟨σ, H, I, h⟩
theorem pss_cons (h1 : PS X st t) (h2 : PSs X rest u) : PSs X (st :: rest) (tSeq t u) := by
  intro pins s σ H D I h
  refine wpAny_execs_cons (thn (h1 pins s σ H { D with nx := u D } I h) fun f s1 q => ?_)
  cases f with
  | next =>
    obtain ⟨σ', H', I', q⟩ := q
    exact h2 pins s1 σ' H' D I' q
  | ret v => exact q
  | brk => exact q
  | cont => exact q
theorem pss_one (h1 : PS X st t) : PSs X [st] t := by
  intro pins s σ H D I h
  refine wpAny_execs_cons (thn (h1 pins s σ H D I h) fun f s1 q => ?_)
  cases f with
  | next => exact wpAny_execs_nil q
  | ret v => exact q
  | brk => exact q
  | cont => exact q
noncomputable def tBreak : TS := fun D σ H => D.bk σ H
noncomputable def tCont : TS := fun D σ H => D.ct σ H
theorem Inv.quiet {pins : List (Addr × Obj)} {σ : St} {H : Hp} {s : Shared} (I : Inv X pins σ H s) : interactive X.env = false := by simp [interactive, I.ok.kind]
noncomputable def tDrop (te : TE) : TS := fun D σ H => te σ H fun _ H1 => D.nx σ H1
theorem ps_expr (he : PE X e te) (hs : swapsWith e none pos.line X.env = pure false := by rfl) : PS X (.Expr e pos) (tDrop te) := by
  intro pins s σ H D I h
  exact wpAny_Expr_any (thn (he pins s σ H _ I h) fun v s1 ⟨x, H1, I1, r1, q1⟩ => ⟨σ, H1, I1, q1⟩) I.quiet hs
noncomputable def tRet (te : TE) : TS := fun D σ H => te σ H D.rt
theorem ps_ret (he : PE X e te) : PS X (.Return (some e) pos) (tRet te) := by
  intro pins s σ H D I h
  exact wpAny_Return_some (thn (he pins s σ H _ I h) fun v s1 ⟨x, H1, I1, r1, q1⟩ => ⟨x, σ, H1, I1, r1, q1⟩)
noncomputable def tRetN : TS := fun D _ H => D.rt .non H
noncomputable def tIfS (c : TT) (t u : TS) : TS := fun D σ H => c σ H fun b H1 => if b = true then t D σ H1 else u D σ H1
theorem ps_if {c : Expr} {a b : List Stmt} {tc : TT} (hc : PT X c tc) (ha : PSs X a t) (hb : PSs X b u) : PS X (.If c a b pos) (tIfS tc t u) := by
  intro pins s σ H D I h
  refine wpAny_If (thn (hc pins s σ H _ I h) fun d s1 ⟨H1, I1, q1⟩ => ?_)
  cases d with
  | true => exact ha pins s1 σ H1 D I1 q1
  | false => exact hb pins s1 σ H1 D I1 q1
noncomputable def tNever : TS := fun _ _ _ => False
end
noncomputable abbrev TG := V → St → Hp → (St → Hp → Prop) → Prop
noncomputable abbrev TGs := List V → St → Hp → (St → Hp → Prop) → Prop
noncomputable def PG (X : Cx) (target : Expr) (t : TG) : Prop :=
  ∀ (pins : List (Addr × Obj)) (s : Shared) (σ : St) (H : Hp) (v : V) (u : Value) (Q : St → Hp → Prop), Inv X pins σ H s → RelV v u → t v σ H Q →
    wpAny (model X.prog X.w) X.A (assign target X.env u) (fun _ s' => ∃ σ' H', Inv X pins σ' H' s' ∧ Q σ' H') X.xe s
noncomputable def PGs (X : Cx) (ts : List Expr) (t : TGs) : Prop :=
  ∀ (pins : List (Addr × Obj)) (s : Shared) (σ : St) (H : Hp) (vs : List V) (us : List Value) (Q : St → Hp → Prop), Inv X pins σ H s → Vals vs us → t vs σ H Q →
    wpAny (model X.prog X.w) X.A (assignInOrder ((assignEach ts X.env).map (·.2)) us) (fun _ s' => ∃ σ' H', Inv X pins σ' H' s' ∧ Q σ' H') X.xe s
noncomputable abbrev TSet := V → V → V → Hp → (Hp → Prop) → Prop
noncomputable def PSet (X : Cx) (t : TSet) : Prop :=
  ∀ (pins : List (Addr × Obj)) (s : Shared) (σ : St) (H : Hp) (o i v : V) (ov iv u : Value) (Q : Hp → Prop), Inv X pins σ H s → RelV o ov → RelV i iv → RelV v u → t o i v H Q →
    wpAny (model X.prog X.w) X.A (setItem ov iv u) (fun _ s' => ∃ H', Inv X pins σ H' s' ∧ Q H') X.xe s
noncomputable abbrev TIp := V → V → Hp → VK → Prop
noncomputable def PIp (X : Cx) (op : Operator) (t : TIp) : Prop :=
  ∀ (pins : List (Addr × Obj)) (s : Shared) (σ : St) (H : Hp) (x y : V) (v u : Value) (Q : VK), Inv X pins σ H s → RelV x v → RelV y u → t x y H Q →
    wpAny (model X.prog X.w) X.A (inplaceOp op v u) (EP X pins σ Q) X.xe s
section
variable {X : Cx} {pos : Pos}
noncomputable def gName (i : Nat) : TG := fun v σ H Q => Q (σ.set i (some v)) H
theorem pg_name {i : Nat} {x : Str} (hN : X.N.Nodup) (hi : X.N[i]? = some x) (hx : Loc X.env.scope x) (hf : X.fn x = true ∨ X.env.scope.names.lookup x = some .local := by first | exact .inl rfl | exact .inr rfl | assumption) : PG X (.Name x pos) (gName i) := by
  intro pins s σ H v u Q I r h
  exact wpAny_assign_Name (store_ok I hN hi hx r (fun s' I' => ⟨_, H, I', h⟩) hf)
noncomputable def gNil : TGs := fun vs σ H Q => vs = [] ∧ Q σ H
noncomputable def gCons (t : TG) (u : TGs) : TGs := fun vs σ H Q => ∃ v r, vs = v :: r ∧ t v σ H fun σ' H' => u r σ' H' Q
theorem pgs_nil : PGs X [] gNil := by
  intro pins s σ H vs us Q I r h
  obtain ⟨e, h⟩ := h
  subst e
  cases r
  exact assignInOrder_nil ⟨σ, H, I, h⟩
theorem pgs_cons {e : Expr} {es : List Expr} {t : TG} {u : TGs} (h1 : PG X e t) (h2 : PGs X es u)
    (hs : (assignEach (e :: es) X.env).map (·.2) = assign e X.env :: (assignEach es X.env).map (·.2) := by rfl) : PGs X (e :: es) (gCons t u) := by
  intro pins s σ H vs us Q I r h
  obtain ⟨v, vr, e1, h⟩ := h
  subst e1
  cases r with
  | cons r rr =>
    rw [hs]
    refine assignInOrder_cons (thn (h1 pins s σ H _ _ _ I r h) fun _ s1 ⟨σ1, H1, I1, q1⟩ => ?_)
    exact h2 pins s1 σ1 H1 _ _ Q I1 rr q1
noncomputable def gTup (K : PySem.W.Frag) (n : Nat) (t : TGs) : TG := fun v σ H Q => ∃ a xs, v = .ref a ∧ SqT K H a xs ∧ xs.length = n ∧ t xs σ H Q
theorem pg_tup {es : List Expr} {k : Nat} {t : TGs} {n : Nat} (hc : X.calm = true) (h : PGs X es t)
    (hn : (assignEach es X.env).length = n := by rfl) (hst : (assignEach es X.env).findIdx? (·.1) = none := by rfl) : PG X (.Tuple es k pos) (gTup X.K n t) := by
  intro pins s σ H v u Q I r hw
  obtain ⟨a, xs, e1, hq, hl, hw⟩ := hw
  subst e1
  cases r
  obtain ⟨its, rv, ht, hz⟩ := I.tuple hq
  refine assign_Tuple_tuple (I.ok.hd hc) ht (by simp [hn, ← hl, rv.length]) hst fun h' hx => ?_
  have I1 : Inv X pins σ H { s with heap := h' } := I.kept (t' := s.toks) fun b o e => hx b o (Nat.ne_of_lt (Heap.lt_size e)) e
  exact h pins _ σ H xs _ Q I1 (by simpa using rv) hw
noncomputable def gSub (to ti : TE) (t : TSet) : TG := fun v σ H Q => to σ H fun o H1 => ti σ H1 fun i H2 => t o i v H2 fun H3 => Q σ H3
theorem pg_sub {o i : Expr} {to ti : TE} {t : TSet} (ho : PE X o to) (hi : PE X i ti) (hs : PSet X t)
    (ha : ∀ v, assign (.Subscript o i pos) X.env v = (do
      let ov ← holding [v] (eval o X.env)
      let iv ← holding [v, ov] (eval i X.env)
      standAt pos
      holding [v, ov, iv] (setItem ov iv v)
      release [v, ov, iv] []) := by intro _; rfl) : PG X (.Subscript o i pos) (gSub to ti t) := by
  intro pins s σ H v u Q I r h
  rw [ha]
  refine wpAny_bind (wpAny_holding (thn (ho pins s σ H _ I h) fun ov s1 ⟨x, H1, I1, r1, q1⟩ => ?_))
  refine wpAny_bind (wpAny_holding (thn (hi pins s1 σ H1 _ I1 q1) fun iv s2 ⟨y, H2, I2, r2, q2⟩ => ?_))
  refine wpAny_bind (wpAny_standAt (wpAny_bind (wpAny_holding (thn (hs pins s2 σ H2 x y v ov iv u _ I2 r1 r2 r q2) fun _ s3 ⟨H3, I3, q3⟩ => ?_))))
  exact wpAny_release ⟨σ, H3, I3, q3⟩
noncomputable def tAsg (te : TE) (g : TG) : TS := fun D σ H => te σ H fun x H1 => g x σ H1 D.nx
theorem ps_asg {tg e : Expr} {te : TE} {g : TG} (he : PE X e te) (hg : PG X tg g) (hs : swapsWithSole [tg] e pos.line X.env = pure false := by rfl) (hw : swappedStores [tg] e X.env = pure none := by rfl)
    (h1 : (assignEach [tg] X.env).map (·.2) = [assign tg X.env] := by rfl) : PS X (.Assign [tg] e pos) (tAsg te g) := by
  intro pins s σ H D I h
  refine wpAny_Assign_stores (thn (he pins s σ H _ I h) fun v s1 ⟨x, H1, I1, r1, q1⟩ => ?_) hs hw
  rw [h1]
  exact thn (hg pins s1 σ H1 x v _ I1 r1 q1) fun _ s2 q => q
theorem ps_set {i : Nat} {x : Str} {e : Expr} {te : TE} {pos' : Pos} (hN : X.N.Nodup) (hi : X.N[i]? = some x) (hx : Loc X.env.scope x) (he : PE X e te) (hs : swapsWith e (some (.Name x pos')) pos.line X.env = pure false := by rfl) (hf : X.fn x = true ∨ X.env.scope.names.lookup x = some .local := by first | exact .inl rfl | exact .inr rfl | assumption) :
    PS X (.Assign [.Name x pos'] e pos) (tAsg te (gName i)) := by
  intro pins s σ H D I h
  refine wpAny_Assign_Name (thn (he pins s σ H _ I h) fun v s1 ⟨y, H1, I1, r1, q1⟩ => ?_) hs
  exact store_ok I1 hN hi hx r1 (fun s2 I2 => ⟨_, H1, I2, q1⟩) hf
noncomputable def tPar (i j : Nat) (ta : TA) : TS := fun D σ H => ta σ H fun vs H1 => ∃ v w, vs = [v, w] ∧ D.nx ((σ.set i (some v)).set j (some w)) H1
noncomputable def tAug (i : Nat) (te : TE) (ti : TIp) : TS := fun D σ H => ∃ x, σ[i]? = some (some x) ∧ te σ H fun y H1 => ti x y H1 fun z H2 => D.nx (σ.set i (some z)) H2
noncomputable def tAugS (to ti te : TE) (tget : V → V → Hp → VK → Prop) (tip : TIp) (tset : TSet) : TS := fun D σ H => to σ H fun o H1 => ti σ H1 fun i H2 => tget o i H2 fun x H3 => te σ H3 fun y H4 => tip x y H4 fun z H5 => tset o i z H5 fun H6 => D.nx σ H6
noncomputable def PGet (X : Cx) (t : V → V → Hp → VK → Prop) : Prop :=
  ∀ (pins : List (Addr × Obj)) (s : Shared) (σ : St) (H : Hp) (o i : V) (ov iv : Value) (Q : VK), Inv X pins σ H s → RelV o ov → RelV i iv → t o i H Q →
    wpAny (model X.prog X.w) X.A (getItem ov iv) (EP X pins σ Q) X.xe s
noncomputable def ipI (f : Int → Int → Int) : TIp := fun x y H Q => ∃ i j, x = .int i ∧ y = .int j ∧ Q (.int (f i j)) H
end
section
variable {X : Cx} {pos : Pos}
noncomputable def tWhile (c : TT) (tb : TS) : TS := fun D σ H => ∃ W : Nat → St → Hp → Prop, (∃ m, W m σ H) ∧ ∀ m σ H, W m σ H →
  c σ H fun b H1 => if b = true then ∃ N : St → Hp → Prop, (∀ σ' H', N σ' H' → ∃ m', m' < m ∧ W m' σ' H') ∧ tb { D with nx := N, ct := N, bk := D.nx } σ H1 else D.nx σ H1
theorem ps_while {c : Expr} {body : List Stmt} {tc : TT} {tb : TS} (hp : PassesOwn (model X.prog X.w) X.A X.env X.xe) (hc : PT X c tc) (hb : PSs X body tb) : PS X (.While c body [] pos) (tWhile tc tb) := by
  intro pins s σ H D I h
  obtain ⟨W, ⟨m0, w0⟩, turn⟩ := h
  refine wpAny_While (codeAny_whileLoop (fun n s' => ∃ σ' H', Inv X pins σ' H' s' ∧ W n σ' H') ?_ m0 ⟨σ, H, I, w0⟩)
  rintro n s1 ⟨σ1, H1, I1, w1⟩
  refine wpAny_passesOwn hp (thn (hc pins s1 σ1 H1 _ I1 (turn n σ1 H1 w1)) fun b s2 ⟨H2, I2, q2⟩ => ?_)
  cases b with
  | true =>
    obtain ⟨N, hN, q2⟩ := q2
    rw [if_pos rfl]
    refine wpAny_passesOwn hp (thn (hb pins s2 σ1 H2 _ I2 q2) fun f s3 q3 => ?_)
    cases f with
    | next =>
      obtain ⟨σ3, H3, I3, n3⟩ := q3
      obtain ⟨m', hm, w3⟩ := hN σ3 H3 n3
      exact ⟨m', hm, σ3, H3, I3, w3⟩
    | cont =>
      obtain ⟨σ3, H3, I3, n3⟩ := q3
      obtain ⟨m', hm, w3⟩ := hN σ3 H3 n3
      exact ⟨m', hm, σ3, H3, I3, w3⟩
    | brk => exact q3
    | ret v => exact q3
  | false =>
    rw [if_neg Bool.false_ne_true]
    exact wpAny_execs_nil ⟨σ1, H2, I2, q2⟩
end
structure It where
  go : Nat → Hp → Prop
  yld : Nat → Hp → V → Hp → Prop
  stop : Nat → Hp → Prop
noncomputable def FpOk (X : Cx) (pins : List (Addr × Obj)) (H : Hp) (b : Addr) : Prop :=
  H b = none ∧ b ≠ X.env.locals ∧ b ∉ X.fs ∧ (b ∈ X.ex ∨ X.s₀.heap.objs.size ≤ b) ∧ (∀ x c, X.env.cells.lookup x = some c → c ≠ b) ∧ ∀ p ∈ X.pn ++ pins, p.1 ≠ b
theorem Inv.fpOk {X : Cx} {pins : List (Addr × Obj)} {σ : St} {H H' : Hp} {s : Shared} {b : Addr} (I : Inv X pins σ H s) (hb : s.heap.objs.size ≤ b) (hn : H' b = none) : FpOk X pins H' b := by
  refine ⟨hn, Nat.ne_of_gt (Nat.lt_of_lt_of_le I.lt hb), I.nofs hb, .inr (Nat.le_trans I.sz hb), fun x c e z => ?_, fun p hp z => ?_⟩
  · obtain ⟨v, q⟩ := I.cell x c e
    exact absurd (Nat.lt_of_lt_of_le q.lt (by rw [z]; exact hb)) (Nat.lt_irrefl _)
  · exact absurd (Nat.lt_of_lt_of_le (Heap.lt_size (I.pin p hp).1) (by rw [z]; exact hb)) (Nat.lt_irrefl _)
structure Turn (P : Program) (w : World) (K : PySem.W.Frag) (tg : Expr) (J : It) (fp : List Addr) (it : Addr) (tn : Nat → Heap → Prop) : Prop where
  mem : it ∈ fp
  obj : ∀ i h, tn i h → ∀ b ∈ fp, ∃ o, h.get? b = some o ∧ ∀ v, o.data ≠ .cell v
  keep : ∀ i h h', tn i h → (∀ b ∈ fp, ∀ o, h.get? b = some o → h'.get? b = some o) → tn i h'
  item : ∀ (X : Cx), X.prog = P → X.w = w → X.K = K → X.calm = true → ∀ (i : Nat) (pins : List (Addr × Obj)) (s : Shared) (σ : St) (H : Hp) (E : Value → Shared → Prop), Inv X pins σ H s → (∀ b ∈ fp, FpOk X pins H b) → tn i s.heap → J.go i H →
    wpAny (model P w) X.A (pyNext (.ref it)) (fun r s1 => ∃ u, r = some u ∧
      wpAny (model P w) X.A (letOwnedTupleGo tg (.ref it) u) (fun _ s2 => ∃ x H', Inv X pins σ H' s2 ∧ RelV x u ∧ J.yld i H x H' ∧ tn (i + 1) s2.heap ∧ ∀ b ∈ fp, H' b = none) E s1) E s
  done : ∀ (X : Cx), X.prog = P → X.w = w → X.K = K → X.calm = true → ∀ (i : Nat) (pins : List (Addr × Obj)) (s : Shared) (σ : St) (H : Hp) (E : Value → Shared → Prop), Inv X pins σ H s → (∀ b ∈ fp, FpOk X pins H b) → tn i s.heap → J.stop i H →
    wpAny (model P w) X.A (pyNext (.ref it)) (fun r s1 => r = none ∧ Inv X pins σ H s1) E s
  self : ∀ (A : Around) (i : Nat) (s : Shared) (Q : Value → Shared → Prop) (E : Value → Shared → Prop), tn i s.heap → Q (.ref it) s → wpAny (model P w) A (pyIter (.ref it)) Q E s
noncomputable abbrev TI := St → Hp → (It → Hp → Prop) → Prop
noncomputable def PIE (X : Cx) (pins : List (Addr × Obj)) (σ : St) (tg : Expr) (R : It → Hp → Prop) (itv : Value) (s2 : Shared) : Prop :=
  ∃ (it : Addr) (fp : List Addr) (tn : Nat → Heap → Prop) (J : It) (H' : Hp), itv = .ref it ∧ Inv X pins σ H' s2 ∧ Turn X.prog X.w X.K tg J fp it tn ∧ tn 0 s2.heap ∧ (∀ b ∈ fp, FpOk X pins H' b) ∧ R J H'
noncomputable def PI (X : Cx) (tg iter : Expr) (wi : TI) : Prop :=
  ∀ (pins : List (Addr × Obj)) (s : Shared) (σ : St) (H : Hp) (R : It → Hp → Prop), Inv X pins σ H s → wi σ H R →
    wpAny (model X.prog X.w) X.A (eval iter X.env) (fun v s1 => wpAny (model X.prog X.w) X.A (pyIter v) (PIE X pins σ tg R) X.xe s1) X.xe s
theorem go_of {M : Model} {A : Around} {E : Value → Shared → Prop} {s : Shared} {tg : Expr} {it : Addr} {u : Value} {o : Obj} {n : String} {vs : Array Value} {Q : Unit → Shared → Prop} (ho : s.heap.get? it = some o) (hc : o.cls = .type n) (hd : o.data = .fields vs)
    (hn : ["enumerate", "zip", "dict_itemiterator", "dict_reverseitemiterator", "odict_iterator", "itertools.zip_longest", "itertools.pairwise"].contains n = false) (hQ : Q () s) : wpAny M A (letOwnedTupleGo tg (.ref it) u) Q E s := by
  unfold letOwnedTupleGo
  cases tg <;> first
    | exact wpAny_pure hQ
    | (cases u <;> first
        | exact wpAny_pure hQ
        | (refine wpAny_bind (wpAny_load ho ?_)
           rw [hc, hd]
           show wpAny M A (if (["enumerate", "zip", "dict_itemiterator", "dict_reverseitemiterator", "odict_iterator", "itertools.zip_longest", "itertools.pairwise"].contains n && vs[0]? == some (rawInt _)) = true then _ else _) Q E s
           rw [if_neg (by intro h; rw [hn, Bool.false_and] at h; cases h)]
           exact wpAny_pure hQ))
noncomputable def Itl (K : PySem.W.Frag) (a : Addr) : It :=
  ⟨fun i H => ∃ xs x, SqL K H a xs ∧ xs[i]? = some x, fun i H x H' => H' = H ∧ ∀ xs, SqL K H a xs → xs[i]? = some x, fun i H => ∃ xs, SqL K H a xs ∧ xs.length ≤ i⟩
noncomputable def Itt (K : PySem.W.Frag) (a : Addr) : It :=
  ⟨fun i H => ∃ xs x, SqT K H a xs ∧ xs[i]? = some x, fun i H x H' => H' = H ∧ ∀ xs, SqT K H a xs → xs[i]? = some x, fun i H => ∃ xs, SqT K H a xs ∧ xs.length ≤ i⟩
noncomputable def Itr (lo : Int) (n : Nat) : It := ⟨fun i _ => i < n, fun i H x H' => H' = H ∧ x = .int (lo + i), fun i _ => n ≤ i⟩
theorem turn_list {P : Program} {w : World} {K : PySem.W.Frag} {tg : Expr} (a it : Addr) : Turn P w K tg (Itl K a) [it] it (fun i h => h.IsListIter it a i) where
  mem := by simp
  obj := fun i h st b hb => by
    have e : b = it := by simpa using hb
    subst e
    obtain ⟨o, e, c, d⟩ := st
    exact ⟨o, e, fun v z => by rw [d] at z; cases z⟩
  keep := fun i h h' st k => st.at fun o e => k it (by simp) o e
  item := by
    intro X hP hw hK hc i pins s σ H E I hf st hg
    subst hP hw hK
    obtain ⟨xs, x, hq, hx⟩ := hg
    obtain ⟨its, rv, p, hz⟩ := I.list hq
    obtain ⟨u, hu, ru⟩ := rv.get hx
    obtain ⟨f0, f1, f2, f3, f4, f5⟩ := hf it (by simp)
    refine wpAny_pyNext_list_item st p.isList (x := u) (by simpa using hu) fun h' st' sb => ?_
    have I1 : Inv X pins σ H { s with heap := h' } := I.turned (t' := s.toks) (fun b o hb e => (sb.2 b hb).trans e) f0 f1 f3 f4 f5
    obtain ⟨o, e, c, d⟩ := id st'
    exact ⟨u, rfl, go_of (s := { s with heap := h' }) e c d (by decide) ⟨x, H, I1, ru, ⟨rfl, fun ys hy => by rw [I.list_inj hy hq]; exact hx⟩, st', fun b hb => (hf b hb).1⟩⟩
  done := by
    intro X hP hw hK hc i pins s σ H E I hf st hg
    subst hP hw hK
    obtain ⟨xs, hq, hx⟩ := hg
    obtain ⟨its, rv, p, hz⟩ := I.list hq
    obtain ⟨f0, f1, f2, f3, f4, f5⟩ := hf it (by simp)
    have hl := rv.length
    exact wpAny_pyNext_list_end (I.ok.hd hc) st p.isList (by simp; omega) fun h' eb => ⟨rfl, I.turned (t' := s.toks) (fun b o hb e => eb b o hb e) f0 f1 f3 f4 f5⟩
  self := fun _ _ _ _ _ st h => wpAny_pyIter_listiter st h
theorem turn_range {P : Program} {w : World} {K : PySem.W.Frag} {tg : Expr} (it : Addr) (lo : Int) (n : Nat) : Turn P w K tg (Itr lo n) [it] it (fun i h => IsRangeIter h it (lo + (i : Nat) * 1) ((n : Int) - (i : Nat)) 1) where
  mem := by simp
  obj := fun i h st b hb => by
    have e : b = it := by simpa using hb
    subst e
    exact ⟨_, st, fun v z => by
      have z' : Data.fields _ = Data.cell v := z
      cases z'⟩
  keep := fun i h h' st k => k it (by simp) _ st
  item := by
    intro X hP hw hK hc i pins s σ H E I hf st hg
    subst hP hw hK
    obtain ⟨f0, f1, f2, f3, f4, f5⟩ := hf it (by simp)
    have W := Walks.range (prog := X.prog) (w := X.w) (I.ok.hd hc) it lo 1 n
    refine W.item i s _ _ hg st fun v h' tk hv st' kk => ?_
    obtain ⟨t, rfl⟩ := hv
    have I1 : Inv X pins σ H { s with heap := h', toks := tk } := I.turned (fun b o hb e => kk b o (by simpa using hb) e) f0 f1 f3 f4 f5
    refine ⟨_, rfl, go_of (s := { s with heap := h', toks := tk }) (n := "range_iterator") st' rfl rfl (by decide) ⟨.int (lo + i), H, I1, ⟨t, ?_⟩, ⟨rfl, rfl⟩, st', fun b hb => (hf b hb).1⟩⟩
    rw [Int.mul_one]
  done := by
    intro X hP hw hK hc i pins s σ H E I hf st hg
    subst hP hw hK
    obtain ⟨f0, f1, f2, f3, f4, f5⟩ := hf it (by simp)
    exact wpAny_pyNext_range_end (I.ok.hd hc) st (by have : n ≤ i := hg; omega) fun h' eb => ⟨rfl, I.turned (t' := s.toks) (fun b o hb e => eb b o hb e) f0 f1 f3 f4 f5⟩
  self := fun _ _ _ _ _ st h => wpAny_pyIter_rangeiter st h
end L2
namespace L2
open PySem PySem.Spec PyProof.Rows
section
variable {X : Cx} {tg : Expr}
noncomputable def iList (K : PySem.W.Frag) (tl : TE) : TI := fun σ H R => tl σ H fun x H1 => ∃ a, x = .ref a ∧ (∃ xs, SqL K H1 a xs) ∧ R (Itl K a) H1
noncomputable def iTup (K : PySem.W.Frag) (tl : TE) : TI := fun σ H R => tl σ H fun x H1 => ∃ a, x = .ref a ∧ (∃ xs, SqT K H1 a xs) ∧ R (Itt K a) H1
theorem pi_list {l : Expr} {tl : TE} (hl : PE X l tl) : PI X tg l (iList X.K tl) := by
  intro pins s σ H R I h
  refine thn (hl pins s σ H _ I h) fun v s1 ⟨x, H1, I1, r1, q1⟩ => ?_
  obtain ⟨a, e, ⟨xs, hq⟩, q⟩ := q1
  subst e
  cases r1
  obtain ⟨its, rv, p, hz⟩ := I1.list hq
  refine wpAny_pyIter_list p.isList ?_
  refine ⟨s1.heap.objs.size, [s1.heap.objs.size], _, _, H1, rfl, I1.kept (t' := s1.toks) fun b o e => Heap.get?_push_of_some _ e, turn_list a _, ⟨_, Heap.get?_push_size _ rfl, rfl, rfl⟩, fun b hb => ?_, q⟩
  have e : b = s1.heap.objs.size := by simpa using hb
  subst e
  exact I1.fpOk (Nat.le_refl _) (I1.hok.fresh (Nat.le_refl _))
theorem range_it {pins : List (Addr × Obj)} {σ : St} {H : Hp} {s : Shared} {R : It → Hp → Prop} {E : Value → Shared → Prop} {lo hi : Int} {t u v : Tok} {tk : Nat} (I : Inv X pins σ H s) (h1 : -(2 ^ 62) ≤ lo) (h2 : lo < 2 ^ 62) (h3 : -(2 ^ 62) ≤ hi) (h4 : hi < 2 ^ 62)
    (q : R (Itr lo (hi - lo).toNat) H) : wpAny (model X.prog X.w) X.A (pyIter (.ref s.heap.objs.size)) (PIE X pins σ tg R) E { s with heap := s.heap.push { cls := .type "range", data := .fields #[.int lo t, .int hi u, .int 1 v] }, toks := tk } := by
  refine wpAny_pyIter_range (IsRange.new ..) (small_one h1 h2 h3 h4) ?_
  have I1 : Inv X pins σ H { s with heap := s.heap.push { cls := .type "range", data := .fields #[.int lo t, .int hi u, .int 1 v] }, toks := tk } := I.kept fun b o e => Heap.get?_push_of_some _ e
  refine ⟨(s.heap.push { cls := .type "range", data := .fields #[.int lo t, .int hi u, .int 1 v] }).objs.size, [(s.heap.push { cls := .type "range", data := .fields #[.int lo t, .int hi u, .int 1 v] }).objs.size], _, _, H, rfl,
    I1.kept (t' := tk) fun b o e => Heap.get?_push_of_some _ e, turn_range _ lo (hi - lo).toNat, ?_, fun b hb => ?_, q⟩
  · have e1 : lo + ((0 : Nat) : Int) * 1 = lo := by simp
    have e2 : (((hi - lo).toNat : Nat) : Int) - ((0 : Nat) : Int) = Builtin.Range.rangeSize lo hi 1 := by rw [rangeSize_one]; split <;> omega
    show IsRangeIter _ _ (lo + ((0 : Nat) : Int) * 1) ((((hi - lo).toNat : Nat) : Int) - ((0 : Nat) : Int)) 1
    rw [e1, e2]
    exact Heap.get?_push_size _ rfl
  · have e : b = (s.heap.push { cls := .type "range", data := .fields #[.int lo t, .int hi u, .int 1 v] }).objs.size := by simpa using hb
    subst e
    exact I1.fpOk (Nat.le_refl _) (I1.hok.fresh (Nat.le_refl _))
noncomputable def iRng1 (ta : TA) : TI := fun σ H R => ta σ H fun vs H1 => ∃ j : Int, vs = [.int j] ∧ -(2 ^ 62) ≤ j ∧ j < 2 ^ 62 ∧ R (Itr 0 j.toNat) H1
noncomputable def iRng2 (ta : TA) : TI := fun σ H R => ta σ H fun vs H1 => ∃ i j : Int, vs = [.int i, .int j] ∧ (-(2 ^ 62) ≤ i ∧ i < 2 ^ 62 ∧ -(2 ^ 62) ≤ j ∧ j < 2 ^ 62) ∧ R (Itr i (j - i).toNat) H1
theorem pi_range1 {a : Expr} {ta : TA} {p pos : Pos} (hg : Gl X "range") (hm : X.mg "range" = none) (ha : PA X [a] ta) (hs : starEach [a] X.env = [(false, eval a X.env)] := by rfl) : PI X tg (.Call (.Name "range" p) [a] [] pos) (iRng1 ta) := by
  intro pins s σ H R I h
  refine Call_ (ld_blt I hg hm boot_range (PyProof.Rows.callWith_type1 (thn (ha pos pins s σ H _ I h) fun us s1 ⟨vs, H1, I1, r1, q1⟩ => ?_) hs rfl))
  obtain ⟨j, e, q1, q2, q⟩ := q1
  subst e
  cases r1 with
  | cons r rr =>
    cases rr
    obtain ⟨t, rfl⟩ := r
    exact call_range_1 (range_it I1 (by omega) (by omega) q1 q2 (by simpa using q))
noncomputable def tFor (wi : TI) (g : TG) (tb : TS) : TS := fun D σ H => wi σ H fun J H1 => ∃ W : Nat → Nat → St → Hp → Prop, (∃ m, W 0 m σ H1) ∧ ∀ i m σ H, W i m σ H →
  (J.stop i H ∧ D.nx σ H) ∨ (J.go i H ∧ ∃ N : St → Hp → Prop, (∀ σ' H', N σ' H' → ∃ m', m' < m ∧ W (i + 1) m' σ' H') ∧ ∀ x H', J.yld i H x H' → g x σ H' fun σ2 H2 => tb { D with nx := N, ct := N, bk := D.nx } σ2 H2)
noncomputable def pinsAt (fp : List Addr) (h : Heap) : List (Addr × Obj) := fp.filterMap fun b => (h.get? b).map fun o => (b, o)
theorem mem_pinsAt {fp : List Addr} {h : Heap} {b : Addr} {o : Obj} (hb : b ∈ fp) (e : h.get? b = some o) : (b, o) ∈ pinsAt fp h := List.mem_filterMap.mpr ⟨b, hb, by rw [e]; rfl⟩
theorem of_pinsAt {fp : List Addr} {h : Heap} {p : Addr × Obj} (hp : p ∈ pinsAt fp h) : p.1 ∈ fp ∧ h.get? p.1 = some p.2 := by
  obtain ⟨b, hb, e⟩ := List.mem_filterMap.mp hp
  cases q : h.get? b with
  | none => rw [q] at e; cases e
  | some o =>
    rw [q] at e
    have e' : (b, o) = p := Option.some.inj e
    subst e'
    exact ⟨hb, q⟩
theorem Inv.pinned {pins : List (Addr × Obj)} {σ : St} {H : Hp} {s : Shared} {fp : List Addr} (I : Inv X pins σ H s) (hf : ∀ b ∈ fp, FpOk X pins H b) (ho : ∀ b ∈ fp, ∃ o, s.heap.get? b = some o ∧ ∀ v, o.data ≠ .cell v) : Inv X (pins ++ pinsAt fp s.heap) σ H s :=
  I.pins_of fun p hp => (List.mem_append.mp hp).elim (fun z => I.pin p (List.mem_append_right _ z)) fun z => by
    obtain ⟨hb, e⟩ := of_pinsAt z
    obtain ⟨f0, f1, f2, _⟩ := hf p.1 hb
    obtain ⟨o, e', d⟩ := ho p.1 hb
    rw [e] at e'; cases e'
    exact ⟨e, f0, f1, f2, d⟩
theorem Inv.unpinned {pins pl : List (Addr × Obj)} {σ : St} {H : Hp} {s : Shared} (I : Inv X (pins ++ pl) σ H s) : Inv X pins σ H s := I.pins_of fun p hp => I.pin p (List.mem_append_right _ (List.mem_append_left _ hp))
theorem ps_for {iter : Expr} {body : List Stmt} {wi : TI} {g : TG} {tb : TS} {pos : Pos} (hp : PassesOwn (model X.prog X.w) X.A X.env X.xe) (hc : X.calm = true) (hi : PI X tg iter wi) (hg : PG X tg g) (hb : PSs X body tb)
    (hs : ∀ x, foldedSetIterable iter X.env x = pure x := by intro _; rfl) : PS X (.For tg iter body [] pos) (tFor wi g tb) := by
  intro pins s σ H D I h
  refine wpAny_For (thn (hi pins s σ H _ I h) fun v s1 h1 => thn h1 fun itv s2 h2 => ?_) hs
  obtain ⟨it, fp, tn, J, H2, e, I2, T, st2, f2, W, ⟨m0, w0⟩, turn⟩ := h2
  subst e
  have stat : ∀ {H' : Hp}, (∀ b ∈ fp, H' b = none) → ∀ b ∈ fp, FpOk X pins H' b := fun hn b hb => ⟨hn b hb, (f2 b hb).2⟩
  refine codeAny_forLoop_any (fun n s' => ∃ i σ' H', Inv X pins σ' H' s' ∧ tn i s'.heap ∧ (∀ b ∈ fp, H' b = none) ∧ W i n σ' H') ?_ m0 ⟨0, σ, H2, I2, st2, fun b hb => (f2 b hb).1, w0⟩
  rintro n s3 ⟨i, σ3, H3, I3, st3, fr3, w3⟩
  rcases turn i n σ3 H3 w3 with ⟨stop, qn⟩ | ⟨go, N, hN, step⟩
  · refine wpAny_passesOwn hp (thn (T.done X rfl rfl rfl hc i pins s3 σ3 H3 X.xe I3 (stat fr3) st3 stop) fun r s4 ⟨hr, I4⟩ => ?_)
    subst hr
    exact wpAny_execs_nil ⟨σ3, H3, I4, qn⟩
  · refine wpAny_passesOwn hp (thn (T.item X rfl rfl rfl hc i pins s3 σ3 H3 X.xe I3 (stat fr3) st3 go) fun r s4 ⟨u, hr, h4⟩ => ?_)
    subst hr
    refine wpAny_passesOwn hp (thn h4 fun _ s5 ⟨x, H5, I5, r5, y5, st5, fr5⟩ => ?_)
    have I5' := I5.pinned (stat fr5) (T.obj _ _ st5)
    refine wpAny_passesOwn hp (thn (hg _ s5 σ3 H5 x u _ I5' r5 (step x H5 y5)) fun _ s6 ⟨σ6, H6, I6, q6⟩ => ?_)
    refine wpAny_passesOwn hp (thn (hb _ s6 σ6 H6 _ I6 q6) fun f s7 q7 => ?_)
    have again : ∀ {σ7 : St} {H7 : Hp}, Inv X (pins ++ pinsAt fp s5.heap) σ7 H7 s7 → N σ7 H7 → ∃ m, m < n ∧ ∃ i σ' H', Inv X pins σ' H' s7 ∧ tn i s7.heap ∧ (∀ b ∈ fp, H' b = none) ∧ W i m σ' H' := fun {σ7 H7} I7 n7 => by
      obtain ⟨m', hm, w7⟩ := hN σ7 H7 n7
      refine ⟨m', hm, i + 1, σ7, H7, I7.unpinned, T.keep _ _ _ st5 fun b hb o e => (I7.pin (b, o) (List.mem_append_right _ (List.mem_append_right _ (mem_pinsAt hb e)))).1, fun b hb => ?_, w7⟩
      obtain ⟨o, e, d⟩ := T.obj _ _ st5 b hb
      exact (I7.pin (b, o) (List.mem_append_right _ (List.mem_append_right _ (mem_pinsAt hb e)))).2.1
    cases f with
    | next => obtain ⟨σ7, H7, I7, n7⟩ := q7; exact again I7 n7
    | cont => obtain ⟨σ7, H7, I7, n7⟩ := q7; exact again I7 n7
    | brk => obtain ⟨σ7, H7, I7, q7⟩ := q7; exact ⟨σ7, H7, I7.unpinned, q7⟩
    | ret v => obtain ⟨x7, σ7, H7, I7, r7, q7⟩ := q7; exact ⟨x7, σ7, H7, I7.unpinned, r7, q7⟩
end
theorem for_list {K : PySem.W.Frag} {a : Addr} {xs : List V} {g : TG} {tb : TS} {D : Ends} {σ : St} {H : Hp} (Pv : Nat → St → Hp → Prop) (h0 : Pv 0 σ H) (hl : ∀ i σ H, i ≤ xs.length → Pv i σ H → SqL K H a xs)
    (hs : ∀ i x σ H, xs[i]? = some x → Pv i σ H → g x σ H fun σ2 H2 => tb { D with nx := Pv (i + 1), ct := Pv (i + 1), bk := D.nx } σ2 H2) (hd : ∀ σ H, Pv xs.length σ H → D.nx σ H) :
    ∃ W : Nat → Nat → St → Hp → Prop, (∃ m, W 0 m σ H) ∧ ∀ i m σ H, W i m σ H →
      ((Itl K a).stop i H ∧ D.nx σ H) ∨ ((Itl K a).go i H ∧ ∃ N : St → Hp → Prop, (∀ σ' H', N σ' H' → ∃ m', m' < m ∧ W (i + 1) m' σ' H') ∧ ∀ x H', (Itl K a).yld i H x H' → g x σ H' fun σ2 H2 => tb { D with nx := N, ct := N, bk := D.nx } σ2 H2) := by
  refine ⟨fun i m σ H => m = xs.length - i ∧ i ≤ xs.length ∧ Pv i σ H, ⟨xs.length, by simp, Nat.zero_le _, h0⟩, ?_⟩
  rintro i m σ H ⟨rfl, hi, p⟩
  have q := hl i σ H hi p
  by_cases hlt : i < xs.length
  · refine .inr ⟨⟨xs, xs[i], q, by simp [hlt]⟩, Pv (i + 1), fun σ' H' p' => ⟨xs.length - (i + 1), by omega, rfl, hlt, p'⟩, fun x H' y => ?_⟩
    obtain ⟨e, y⟩ := y
    subst e
    exact hs i x σ _ (y xs q) p
  · have e : i = xs.length := by omega
    subst e
    exact .inl ⟨⟨xs, q, Nat.le_refl _⟩, hd σ H p⟩
theorem for_range {lo : Int} {n : Nat} {g : TG} {tb : TS} {D : Ends} {σ : St} {H : Hp} (Pv : Nat → St → Hp → Prop) (h0 : Pv 0 σ H)
    (hs : ∀ i σ H, i < n → Pv i σ H → g (.int (lo + i)) σ H fun σ2 H2 => tb { D with nx := Pv (i + 1), ct := Pv (i + 1), bk := D.nx } σ2 H2) (hd : ∀ σ H, Pv n σ H → D.nx σ H) :
    ∃ W : Nat → Nat → St → Hp → Prop, (∃ m, W 0 m σ H) ∧ ∀ i m σ H, W i m σ H →
      ((Itr lo n).stop i H ∧ D.nx σ H) ∨ ((Itr lo n).go i H ∧ ∃ N : St → Hp → Prop, (∀ σ' H', N σ' H' → ∃ m', m' < m ∧ W (i + 1) m' σ' H') ∧ ∀ x H', (Itr lo n).yld i H x H' → g x σ H' fun σ2 H2 => tb { D with nx := N, ct := N, bk := D.nx } σ2 H2) := by
  refine ⟨fun i m σ H => m = n - i ∧ i ≤ n ∧ Pv i σ H, ⟨n, by simp, Nat.zero_le _, h0⟩, ?_⟩
  rintro i m σ H ⟨rfl, hi, p⟩
  by_cases hlt : i < n
  · refine .inr ⟨hlt, Pv (i + 1), fun σ' H' p' => ⟨n - (i + 1), by omega, rfl, hlt, p'⟩, fun x H' y => ?_⟩
    obtain ⟨e, y⟩ := y
    subst e y
    exact hs i σ _ hlt p
  · have e : i = n := by omega
    subst e
    exact .inl ⟨Nat.le_refl _, hd σ H p⟩
end L2
namespace L2
open PySem PySem.Spec PyProof.Rows
noncomputable abbrev R2 := V → V → Hp → VK → Prop
noncomputable def OpR (X : Cx) (f : Value → Value → Sem Value) (r : R2) : Prop :=
  ∀ (pins : List (Addr × Obj)) (s : Shared) (σ : St) (H : Hp) (x y : V) (v u : Value) (Q : VK), Inv X pins σ H s → RelV x v → RelV y u → r x y H Q →
    wpAny (model X.prog X.w) X.A (f v u) (EP X pins σ Q) X.xe s
noncomputable def UnR (X : Cx) (f : Value → Sem Value) (r : V → Hp → VK → Prop) : Prop :=
  ∀ (pins : List (Addr × Obj)) (s : Shared) (σ : St) (H : Hp) (x : V) (v : Value) (Q : VK), Inv X pins σ H s → RelV x v → r x H Q →
    wpAny (model X.prog X.w) X.A (f v) (EP X pins σ Q) X.xe s
noncomputable def CallR (X : Cx) (f : Value) (r : List V → Hp → VK → Prop) : Prop :=
  ∀ (pins : List (Addr × Obj)) (s : Shared) (σ : St) (H : Hp) (xs : List V) (us : List Value) (Q : VK), Inv X pins σ H s → Vals xs us → r xs H Q →
    wpAny (model X.prog X.w) X.A (call f us) (EP X pins σ Q) X.xe s
noncomputable def TruR (X : Cx) (r : V → Hp → (Bool → Hp → Prop) → Prop) : Prop :=
  ∀ (pins : List (Addr × Obj)) (s : Shared) (σ : St) (H : Hp) (x : V) (v : Value) (Q : Bool → Hp → Prop), Inv X pins σ H s → RelV x v → r x H Q →
    wpAny (model X.prog X.w) X.A (truthy v) (TP X pins σ Q) X.xe s
noncomputable def tOp (r : R2) (ta tb : TE) : TE := fun σ H Q => ta σ H fun x H1 => tb σ H1 fun y H2 => r x y H2 Q
noncomputable def tUn (r : V → Hp → VK → Prop) (ta : TE) : TE := fun σ H Q => ta σ H fun x H1 => r x H1 Q
noncomputable def rI (C : Int → Int → Prop) (g : Int → Int → V) : R2 := fun x y H Q => ∃ i j, x = .int i ∧ y = .int j ∧ C i j ∧ Q (g i j) H
noncomputable def rI0 (g : Int → Int → V) : R2 := fun x y H Q => ∃ i j, x = .int i ∧ y = .int j ∧ Q (g i j) H
noncomputable def rU (g : Int → V) : V → Hp → VK → Prop := fun x H Q => ∃ i, x = .int i ∧ Q (g i) H
section
variable {X : Cx} {a b c : Expr} {ta tb tc : TE} {pos : Pos}
theorem binT (ha : PE X a ta) (hb : PE X b tb) {pins : List (Addr × Obj)} {s : Shared} {σ : St} {H : Hp} {R : V → V → Hp → Prop} (I : Inv X pins σ H s)
    (h : ta σ H fun x H1 => tb σ H1 fun y H2 => R x y H2) {Q : Value → Shared → Prop} {f : Value → Value → Sem Value}
    (hf : ∀ v u s2 x y H2, Inv X pins σ H2 s2 → RelV x v → RelV y u → R x y H2 → wpAny (model X.prog X.w) X.A (f v u) Q X.xe s2) :
    wpAny (model X.prog X.w) X.A (eval a X.env) (fun v s₁ => wpAny (model X.prog X.w) X.A (eval b X.env) (fun u s₂ => wpAny (model X.prog X.w) X.A (f v u) Q X.xe s₂) X.xe s₁) X.xe s := by
  refine thn (ha pins s σ H _ I h) fun v s1 ⟨x, H1, I1, r1, q1⟩ => ?_
  refine thn (hb pins s1 σ H1 _ I1 q1) fun u s2 ⟨y, H2, I2, r2, q2⟩ => ?_
  exact hf v u s2 x y H2 I2 r1 r2 q2
theorem pe_op {op : Operator} {r : R2} (ho : OpR X (binaryOp op) r) (ha : PE X a ta) (hb : PE X b tb) : PE X (.BinOp a op b pos) (tOp r ta tb) := by
  intro pins s σ H Q I h
  exact wpAny_BinOp (binT ha hb I h fun v u s2 x y H2 I2 rx ry q => ho pins s2 σ H2 x y v u Q I2 rx ry q)
theorem pe_un {op : UnaryOp} {r : V → Hp → VK → Prop} (ho : UnR X (unaryOp op) r) (ha : PE X a ta) : PE X (.UnaryOp op a pos) (tUn r ta) := by
  intro pins s σ H Q I h
  exact UnaryOp_ (thn (ha pins s σ H _ I h) fun v s1 ⟨x, H1, I1, r1, q1⟩ => ho pins s1 σ H1 x v Q I1 r1 q1)
theorem opI {f : Value → Value → Sem Value} {C : Int → Int → Prop} {g : Int → Int → Int}
    (rule : ∀ (i j : Int) (t u : Tok) (s : Shared) (Q : Value → Shared → Prop) (E : Value → Shared → Prop), C i j → Q (.int (g i j) s.toks) { s with toks := s.toks + 1 } → wpAny (model X.prog X.w) X.A (f (.int i t) (.int j u)) Q E s) :
    OpR X f (rI C fun i j => .int (g i j)) := by
  intro pins s σ H x y v u Q I rx ry h
  obtain ⟨i, j, rfl, rfl, hc, q⟩ := h
  obtain ⟨t, rfl⟩ := rx
  obtain ⟨t', rfl⟩ := ry
  exact rule i j t t' s _ _ hc ⟨.int (g i j), H, I.tok _, ⟨_, rfl⟩, q⟩
theorem opI0 {f : Value → Value → Sem Value} {g : Int → Int → Int}
    (rule : ∀ (i j : Int) (t u : Tok) (s : Shared) (Q : Value → Shared → Prop) (E : Value → Shared → Prop), Q (.int (g i j) s.toks) { s with toks := s.toks + 1 } → wpAny (model X.prog X.w) X.A (f (.int i t) (.int j u)) Q E s) :
    OpR X f (rI0 fun i j => .int (g i j)) := by
  intro pins s σ H x y v u Q I rx ry h
  obtain ⟨i, j, rfl, rfl, q⟩ := h
  obtain ⟨t, rfl⟩ := rx
  obtain ⟨t', rfl⟩ := ry
  exact rule i j t t' s _ _ ⟨.int (g i j), H, I.tok _, ⟨_, rfl⟩, q⟩
theorem opB0 {f : Value → Value → Sem Value} {g : Int → Int → Bool}
    (rule : ∀ (i j : Int) (t u : Tok) (s : Shared) (Q : Value → Shared → Prop) (E : Value → Shared → Prop), Q (.bool (g i j)) s → wpAny (model X.prog X.w) X.A (f (.int i t) (.int j u)) Q E s) :
    OpR X f (rI0 fun i j => .bl (g i j)) := by
  intro pins s σ H x y v u Q I rx ry h
  obtain ⟨i, j, rfl, rfl, q⟩ := h
  obtain ⟨t, rfl⟩ := rx
  obtain ⟨t', rfl⟩ := ry
  exact rule i j t t' s _ _ ⟨.bl (g i j), H, I, rfl, q⟩
noncomputable def CDiv (i j : Int) : Prop := 0 < j ∧ j < 1073741824
noncomputable def CDivN (i j : Int) : Prop := j ≠ 0 ∧ j.natAbs < 1073741824
noncomputable def CPow (i j : Int) : Prop := 0 ≤ j ∧ j ≤ 1000000 ∧ i.natAbs < 2 ^ 64
noncomputable def CMul (i j : Int) : Prop := (-(2 ^ 64) < i ∧ i < 2 ^ 64) ∨ (-(2 ^ 64) < j ∧ j < 2 ^ 64)
theorem CMul.ok {i j : Int} (h : CMul i j) : IntMulOk i j := by
  rcases h with ⟨h1, h2⟩ | ⟨h1, h2⟩
  · exact .of_left (intBits_le_64 h1 h2)
  · exact .of_right (intBits_le_64 h1 h2)
theorem op_add : OpR X (binaryOp .Add) (rI0 fun i j => .int (i + j)) := opI0 fun _ _ _ _ _ _ _ q => add_int q
theorem op_sub : OpR X (binaryOp .Sub) (rI0 fun i j => .int (i - j)) := opI0 fun _ _ _ _ _ _ _ q => sub_int q
theorem op_mod : OpR X (binaryOp .Mod) (rI (fun _ j => 0 < j) fun i j => .int (i % j)) := opI fun i j _ _ _ _ _ hc q => by
  have h1 : (0 : Int) < j := hc
  exact mod_int' (by omega) (by rw [Int.fmod_eq_emod_of_nonneg i (by omega)]; exact q)
theorem op_pow : OpR X (binaryOp .Pow) (rI CPow fun i j => .int (i ^ j.toNat)) := opI fun _ _ _ _ _ _ _ hc q => pow_int_small hc.1 hc.2.1 hc.2.2 q
theorem unI {f : Value → Sem Value} {g : Int → Int}
    (rule : ∀ (i : Int) (t : Tok) (s : Shared) (Q : Value → Shared → Prop) (E : Value → Shared → Prop), Q (.int (g i) s.toks) { s with toks := s.toks + 1 } → wpAny (model X.prog X.w) X.A (f (.int i t)) Q E s) :
    UnR X f (rU fun i => .int (g i)) := by
  intro pins s σ H x v Q I rx h
  obtain ⟨i, rfl, q⟩ := h
  obtain ⟨t, rfl⟩ := rx
  exact rule i t s _ _ ⟨.int (g i), H, I.tok _, ⟨_, rfl⟩, q⟩
theorem un_neg : UnR X (unaryOp .USub) (rU fun i => .int (-i)) := unI fun _ _ _ _ _ q => neg_int q
end
noncomputable def scal : V → V → Bool
  | .non, .non => true | .non, .int _ => true | .int _, .non => true | .non, .bl _ => true | .bl _, .non => true | .non, .str _ => true | .str _, .non => true
  | .int _, .int _ => true | .bl _, .bl _ => true | .str _, .str _ => true | .byt _, .byt _ => true
  | .int _, .str _ => true | .str _, .int _ => true | .bl _, .str _ => true | .str _, .bl _ => true
  | _, _ => false
noncomputable def rEq : R2 := fun x y H Q => scal x y = true ∧ Q (.bl (decide (x = y))) H
noncomputable def rNe : R2 := fun x y H Q => scal x y = true ∧ Q (.bl (!decide (x = y))) H
theorem dec_int {i j : Int} : decide (V.int i = V.int j) = (i == j) := by
  rw [Bool.eq_iff_iff]
  simp
theorem dec_bl {i j : Bool} : decide (V.bl i = V.bl j) = (i == j) := by
  rw [Bool.eq_iff_iff]
  simp
theorem dec_str {i j : Str} : decide (V.str i = V.str j) = (i == j) := by
  rw [Bool.eq_iff_iff]
  simp
theorem dec_byt {i j : Array UInt8} : decide (V.byt i = V.byt j) = (i.toList == j.toList) := by
  rw [Bool.eq_iff_iff]
  cases i
  cases j
  simp
section
variable {X : Cx} {a b c : Expr} {ta tb tc : TE} {pos : Pos}
theorem fin_bl {pins : List (Addr × Obj)} {σ : St} {H : Hp} {s : Shared} {Q : VK} {k k' : Bool} (I : Inv X pins σ H s) (q : Q (.bl k) H) (e : k = k') : EP X pins σ Q (.bool k') s := by
  subst e
  exact ⟨.bl k, H, I, rfl, q⟩
theorem op_eq : OpR X (compareOp .Eq) rEq := by
  intro pins s σ H x y v u Q I rx ry h
  obtain ⟨hs, q⟩ := h
  cases x with
  | non =>
    cases rx
    cases y with
    | non => cases ry; exact PySem.EqNone.eq_none_none (fin_bl I q (by simp))
    | bl j => cases ry; exact PySem.EqNone.eq_none_bool (fin_bl I q (by simp))
    | int j => obtain ⟨t', rfl⟩ := ry; exact PySem.EqNone.eq_none_int (fin_bl I q (by simp))
    | str j => obtain ⟨t', rfl⟩ := ry; exact PySem.EqNone.eq_none_str (fin_bl I q (by simp))
    | _ => exact absurd (show false = true from hs) Bool.false_ne_true
  | bl i =>
    cases rx
    cases y with
    | non => cases ry; exact PySem.EqNone.eq_bool_none (fin_bl I q (by simp))
    | bl j => cases ry; exact eq_bool (fin_bl I q dec_bl)
    | str j => obtain ⟨t', rfl⟩ := ry; exact PySem.EqMixed.eq_bool_str (fin_bl I q (by simp))
    | _ => exact absurd (show false = true from hs) Bool.false_ne_true
  | int i =>
    obtain ⟨t, rfl⟩ := rx
    cases y with
    | non => cases ry; exact PySem.EqNone.eq_int_none (fin_bl I q (by simp))
    | int j => obtain ⟨t', rfl⟩ := ry; exact eq_int (fin_bl I q dec_int)
    | str j => obtain ⟨t', rfl⟩ := ry; exact PySem.EqMixed.eq_int_str (fin_bl I q (by simp))
    | _ => exact absurd (show false = true from hs) Bool.false_ne_true
  | str i =>
    obtain ⟨t, rfl⟩ := rx
    cases y with
    | non => cases ry; exact PySem.EqNone.eq_str_none (fin_bl I q (by simp))
    | bl j => cases ry; exact PySem.EqMixed.eq_str_bool (fin_bl I q (by simp))
    | int j => obtain ⟨t', rfl⟩ := ry; exact PySem.EqMixed.eq_str_int (fin_bl I q (by simp))
    | str j => obtain ⟨t', rfl⟩ := ry; exact eq_str (fin_bl I q dec_str)
    | _ => exact absurd (show false = true from hs) Bool.false_ne_true
  | byt i =>
    obtain ⟨t, rfl⟩ := rx
    cases y with
    | byt j => obtain ⟨t', rfl⟩ := ry; exact PySem.W.eq_bytes (fin_bl I q dec_byt)
    | _ => exact absurd (show false = true from hs) Bool.false_ne_true
  | _ => cases y <;> exact absurd (show false = true from hs) Bool.false_ne_true
theorem op_ne : OpR X (compareOp .NotEq) rNe := by
  intro pins s σ H x y v u Q I rx ry h
  obtain ⟨hs, q⟩ := h
  cases x with
  | non =>
    cases rx
    cases y with
    | non => cases ry; exact PySem.EqNone.ne_none_none (fin_bl I q (by simp))
    | bl j => cases ry; exact PySem.EqNone.ne_none_bool (fin_bl I q (by simp))
    | int j => obtain ⟨t', rfl⟩ := ry; exact PySem.EqNone.ne_none_int (fin_bl I q (by simp))
    | str j => obtain ⟨t', rfl⟩ := ry; exact PySem.EqNone.ne_none_str (fin_bl I q (by simp))
    | _ => exact absurd (show false = true from hs) Bool.false_ne_true
  | bl i =>
    cases rx
    cases y with
    | non => cases ry; exact PySem.EqNone.ne_bool_none (fin_bl I q (by simp))
    | bl j => cases ry; exact ne_bool (fin_bl I q (congrArg not dec_bl))
    | str j => obtain ⟨t', rfl⟩ := ry; exact PySem.EqMixed.ne_bool_str (fin_bl I q (by simp))
    | _ => exact absurd (show false = true from hs) Bool.false_ne_true
  | int i =>
    obtain ⟨t, rfl⟩ := rx
    cases y with
    | non => cases ry; exact PySem.EqNone.ne_int_none (fin_bl I q (by simp))
    | int j => obtain ⟨t', rfl⟩ := ry; exact ne_int (fin_bl I q (congrArg not dec_int))
    | str j => obtain ⟨t', rfl⟩ := ry; exact PySem.EqMixed.ne_int_str (fin_bl I q (by simp))
    | _ => exact absurd (show false = true from hs) Bool.false_ne_true
  | str i =>
    obtain ⟨t, rfl⟩ := rx
    cases y with
    | non => cases ry; exact PySem.EqNone.ne_str_none (fin_bl I q (by simp))
    | bl j => cases ry; exact PySem.EqMixed.ne_str_bool (fin_bl I q (by simp))
    | int j => obtain ⟨t', rfl⟩ := ry; exact PySem.EqMixed.ne_str_int (fin_bl I q (by simp))
    | str j => obtain ⟨t', rfl⟩ := ry; exact ne_str (fin_bl I q (congrArg not dec_str))
    | _ => exact absurd (show false = true from hs) Bool.false_ne_true
  | byt i =>
    obtain ⟨t, rfl⟩ := rx
    cases y with
    | byt j => obtain ⟨t', rfl⟩ := ry; exact PySem.W.ne_bytes (fin_bl I q (congrArg not dec_byt))
    | _ => exact absurd (show false = true from hs) Bool.false_ne_true
  | _ => cases y <;> exact absurd (show false = true from hs) Bool.false_ne_true
theorem op_lt : OpR X (compareOp .Lt) (rI0 fun i j => .bl (decide (i < j))) := opB0 fun _ _ _ _ _ _ _ q => lt_int q
theorem op_le : OpR X (compareOp .LtE) (rI0 fun i j => .bl (decide (i ≤ j))) := opB0 fun _ _ _ _ _ _ _ q => le_int q
theorem op_gt : OpR X (compareOp .Gt) (rI0 fun i j => .bl (decide (j < i))) := opB0 fun _ _ _ _ _ _ _ q => gt_int q
theorem op_ge : OpR X (compareOp .GtE) (rI0 fun i j => .bl (decide (j ≤ i))) := opB0 fun _ _ _ _ _ _ _ q => ge_int q
noncomputable def isObj : HO → Bool
  | .lst _ => true
  | .ins _ _ _ => true
  | _ => false
theorem OpR.or {f : Value → Value → Sem Value} {r r' : R2} (h : OpR X f r) (h' : OpR X f r') : OpR X f (fun x y H Q => r x y H Q ∨ r' x y H Q) := by
  intro pins s σ H x y v u Q I rx ry q
  rcases q with q | q
  · exact h pins s σ H x y v u Q I rx ry q
  · exact h' pins s σ H x y v u Q I rx ry q
theorem nomark (b : Expr) {op : CmpOp} (h : op ≠ .In := by decide) (h2 : op ≠ .NotIn := by decide) : behindInMarks op b = false := by
  have e1 : (op == CmpOp.In) = false := by cases op <;> first | rfl | exact absurd rfl h
  have e2 : (op == CmpOp.NotIn) = false := by cases op <;> first | rfl | exact absurd rfl h2
  cases b <;> simp [behindInMarks, e1, e2]
theorem pe_cmpR {op : CmpOp} {r : R2} (ho : OpR X (compareOp op) r) (ha : PE X a ta) (hb : PE X b tb) (hm : behindInMarks op b = false) : PE X (.Compare a [op] [b] pos) (tOp r ta tb) := by
  intro pins s σ H Q I h
  exact wpAny_Compare1 (binT ha hb I h fun v u s2 x y H2 I2 rx ry q => ho pins s2 σ H2 x y v u Q I2 rx ry q) hm
noncomputable def tTest (t : TE) : TT := fun σ H Q => t σ H fun x H' => ∃ k, x = .bl k ∧ Q k H'
theorem pt_cmpR {op : CmpOp} {r : R2} (ho : OpR X (compareOp op) r) (ha : PE X a ta) (hb : PE X b tb) (hm : behindInMarks op b = false) : PT X (.Compare a [op] [b] pos) (tTest (tOp r ta tb)) := by
  intro pins s σ H Q I h
  refine wpAny_isTrue_Compare1 (thn (ha pins s σ H _ I h) fun v s1 ⟨x, H1, I1, r1, q1⟩ => thn (hb pins s1 σ H1 _ I1 q1) fun u s2 ⟨y, H2, I2, r2, q2⟩ =>
    thn (ho pins s2 σ H2 x y v u _ I2 r1 r2 q2) fun c s3 ⟨z, H3, I3, r3, k, e, q3⟩ => ?_) hm
  subst e
  cases r3
  exact wpAny_truthy_bool ⟨H3, I3, q3⟩
noncomputable def tChain (r r' : R2) (ta tb tc : TE) : TE := fun σ H Q => ta σ H fun x H1 => tb σ H1 fun y H2 => r x y H2 fun z H3 => ∃ k, z = .bl k ∧
  (if k = true then tc σ H3 fun w' H4 => r' y w' H4 Q else Q (.bl false) H3)
theorem pe_chain {op op' : CmpOp} {r r' : R2} (ho : OpR X (compareOp op) r) (ho' : OpR X (compareOp op') r') (ha : PE X a ta) (hb : PE X b tb) (hc : PE X c tc)
    (hm : lastMarks [op, op'] [b, c] = false := by with_unfolding_all rfl) : PE X (.Compare a [op, op'] [b, c] pos) (tChain r r' ta tb tc) := by
  intro pins s σ H Q I h
  refine Compare_chain (thn (ha pins s σ H _ I h) fun v s1 ⟨x, H1, I1, r1, q1⟩ => chain_link (thn (hb pins s1 σ H1 _ I1 q1) fun u s2 ⟨y, H2, I2, r2, q2⟩ =>
    thn (ho pins s2 σ H2 x y v u _ I2 r1 r2 q2) fun d s3 ⟨z, H3, I3, r3, k, e, q3⟩ => ?_)) hm
  subst e
  cases r3
  refine wpAny_truthy_bool ?_
  cases k with
  | false => exact ite_ff ⟨.bl false, H3, I3, rfl, q3⟩
  | true => exact ite_tt (chain_last (thn (hc pins s3 σ H3 _ I3 q3) fun w' s4 ⟨z', H4, I4, r4, q4⟩ => ho' pins s4 σ H4 y z' u w' Q I4 r2 r4 q4))
noncomputable def TruV (K : PySem.W.Frag) (x : V) (H : Hp) (k : Bool) : Prop :=
  match x with
  | .non => k = false
  | .bl b => k = b
  | .int i => k = (i != 0)
  | .str y => y.length ≤ sizeLine ∧ k = ((y.length : Int) != 0)
  | .byt y => y.size ≤ sizeLine ∧ k = ((y.size : Int) != 0)
  | .ref p => (∃ xs, SqL K H p xs ∧ k = !xs.isEmpty) ∨ (∃ xs, SqT K H p xs ∧ k = !xs.isEmpty) ∨ ∃ kvs, H p = some (.dK kvs) ∧ k = !kvs.isEmpty
  | _ => False
theorem line63 : (sizeLine : Nat) < 2 ^ 63 := by rw [sizeLine_eq]; decide
noncomputable def PlainIxT (b : Expr) : Prop := ∀ o i, subscripted b false o i = operate [o, i] (getItem o i)
theorem vals1 {x : V} {us : List Value} (r : Vals [x] us) : ∃ u, us = [u] ∧ RelV x u := by
  cases r with
  | cons r1 r2 => cases r2; exact ⟨_, rfl, r1⟩
theorem vals2 {x y : V} {us : List Value} (r : Vals [x, y] us) : ∃ u w', us = [u, w'] ∧ RelV x u ∧ RelV y w' := by
  cases r with
  | cons r1 r2 =>
    cases r2 with
    | cons r3 r4 => cases r4; exact ⟨_, _, rfl, r1, r3⟩
theorem call_max2 (hc : X.calm = true) : CallR X (.builtin "max") (fun xs H Q => ∃ i j, xs = [.int i, .int j] ∧ Q (.int (if j > i then j else i)) H) := by
  intro pins s σ H xs us Q I r h
  obtain ⟨i, j, rfl, q⟩ := h
  obtain ⟨u, w', rfl, ⟨t, rfl⟩, ⟨t', rfl⟩⟩ := vals2 r
  refine max_two_ints (I.ok.hd hc) fun h' tk k => ⟨_, H, I.kept k, ?_, q⟩
  by_cases hj : j > i
  · rw [if_pos hj, if_pos hj]; exact ⟨_, rfl⟩
  · rw [if_neg hj, if_neg hj]; exact ⟨_, rfl⟩
theorem call_min2 (hc : X.calm = true) : CallR X (.builtin "min") (fun xs H Q => ∃ i j, xs = [.int i, .int j] ∧ Q (.int (if j < i then j else i)) H) := by
  intro pins s σ H xs us Q I r h
  obtain ⟨i, j, rfl, q⟩ := h
  obtain ⟨u, w', rfl, ⟨t, rfl⟩, ⟨t', rfl⟩⟩ := vals2 r
  refine min_two_ints (I.ok.hd hc) fun h' tk k => ⟨_, H, I.kept k, ?_, q⟩
  by_cases hj : j < i
  · rw [if_pos hj, if_pos hj]; exact ⟨_, rfl⟩
  · rw [if_neg hj, if_neg hj]; exact ⟨_, rfl⟩
theorem call_str_int : CallR X (.type "str") (fun xs H Q => ∃ i, xs = [.int i] ∧ i.natAbs.log2 < 1920 ∧ Q (.str (toString i)) H) := by
  intro pins s σ H xs us Q I r h
  obtain ⟨i, rfl, hz, q⟩ := h
  obtain ⟨u, rfl, t, rfl⟩ := vals1 r
  exact PySem.P.str_of_int hz ⟨.str _, H, I.tok _, ⟨_, rfl⟩, q⟩
noncomputable def LenV (K : PySem.W.Frag) (x : V) (H : Hp) (n : Nat) : Prop :=
  match x with
  | .str y => y.length ≤ sizeLine ∧ n = y.length
  | .byt y => y.size ≤ sizeLine ∧ n = y.size
  | .ref p => (∃ xs, SqL K H p xs ∧ n = xs.length) ∨ ∃ xs, SqT K H p xs ∧ n = xs.length
  | _ => False
end
end L2
namespace L2
open PySem PySem.Spec PyProof.Rows
structure ObjM (h : Heap) (x dx C : Addr) (mA : Str → Option Value) : Prop where
  obj : h.get? x = some (PySem.W.instObj C dx)
  ns : h.Ns1 dx mA
  ne : dx ≠ x
theorem lookIn_ns {h : Heap} {dx : Addr} {mA : Str → Option Value} (n : h.Ns1 dx mA) : ∃ od, h.get? dx = some od ∧ ∀ name, PySem.W.lookIn name od = some (mA name) := by
  obtain ⟨o, es, ep, ho, hd, hk, _, hm⟩ := n
  refine ⟨o, ho, fun name => ?_⟩
  have e := hm name
  unfold nsFind findBy at e
  rw [← Array.find?_toList] at e
  unfold PySem.W.lookIn
  rw [hd]
  dsimp only
  split
  · rename_i y q
    rw [q] at e
    exact congrArg some e
  · rename_i q
    rw [q] at e
    have a : es.toList.any (·.refKey) = false := by
      rw [List.any_eq_false]
      intro y hy
      obtain ⟨z, t, hkey⟩ := hk y (Array.mem_toList_iff.mp hy)
      simp [DictEntry.refKey, hkey]
    have a' : ¬ es.toList.any (·.refKey) = true := by rw [a]; exact Bool.false_ne_true
    rw [if_neg a']
    exact congrArg some e
theorem ObjM.look {h : Heap} {x dx C : Addr} {mA : Str → Option Value} (I : ObjM h x dx C mA) : ∃ od, PySem.W.InstAt h x (PySem.W.instObj C dx) C (some od) ∧ ∀ name, PySem.W.lookIn name od = some (mA name) :=
  let ⟨od, ho, hl⟩ := lookIn_ns I.ns
  ⟨od, ⟨I.obj, rfl, rfl, ho⟩, hl⟩
section
variable {prog : Program} {w : World} {A : Around} {E : Value → Shared → Prop} {s : Shared} {K : PySem.W.Frag} {x dx C f : Addr} {mA : Str → Option Value} {name : Str} {v : Value}
end
noncomputable def putF (f : Str) (v : V) : List (Str × V) → List (Str × V)
  | [] => [(f, v)]
  | (g, x) :: r => if g = f then (g, v) :: r else (g, x) :: putF f v r
section
variable {P : Program} {w : World} {H H' : Hp} {h h' : Heap} {a C dx : Addr} {fs fs' : List (Str × V)}
theorem ins_get (hok : HOk P w H h) (e : H a = some (.ins C dx fs)) : ∃ mA, ObjM h a dx C mA ∧ (∀ f, RelO (fs.lookup f) (mA f)) ∧ PySem.Within mA (fs.map (·.1)) ∧ fs.length ≤ 1000 ∧ H dx = some (.own a) := by
  obtain ⟨d, z, ne, ob, mA, n, r, q⟩ := (show ObjOk P w H h a (.ins C dx fs) from hok a _ e)
  exact ⟨mA, ⟨ob, n, ne⟩, r, q, z, d⟩
end
structure Cls (K : PySem.W.Frag) (C : Addr) : Prop where
  pg : PySem.W.plainGet K C Str.empty = true
  hd : PySem.W.hasDictIn K C = true
  po : PySem.W.plainOver K C = true
  sa : PySem.W.findIn K (.ref C) "__setattr__" = some (some (.builtin "object.__setattr__"))
theorem Cls.get {K : PySem.W.Frag} {C : Addr} (c : Cls K C) (f : Str) : PySem.W.plainGet K C f = true := c.pg
noncomputable def NoAttr (K : PySem.W.Frag) (C : Addr) (f : Str) : Prop := PySem.W.findIn K (.ref C) f = some none
structure Con (K : PySem.W.Frag) (C : Addr) (f : Str) (v : V) (u : Value) : Prop where
  at_ : PySem.W.findIn K (.ref C) f = some (some u)
  rel : RelV v u
  get : PySem.W.specialIn K u "__get__" = some none
  cp : PySem.W.copiedNames.contains f = false
structure Meth (K : PySem.W.Frag) (C : Addr) (m : Str) (f : Addr) : Prop where
  at_ : PySem.W.findIn K (.ref C) m = some (some (.ref f))
  fn : PySem.W.isFn K (.ref f) = true
  kp : PySem.W.keepIn K (.ref f) = true
section
variable {X : Cx} {pins : List (Addr × Obj)} {σ : St} {H : Hp} {s : Shared} {a C dx : Addr} {fs : List (Str × V)} {f : Str} {v : V} {A : Around} {E : Value → Shared → Prop}
theorem Inv.made (I : Inv X pins σ H s) : Inv X pins σ (upd (upd H s.heap.objs.size (.own (s.heap.objs.size + 1))) (s.heap.objs.size + 1) (.ins C s.heap.objs.size []))
    { s with heap := (s.heap.push PySem.W.emptyDict).push (PySem.W.instObj C s.heap.objs.size) } := by
  have e1 : (s.heap.push PySem.W.emptyDict).get? s.heap.objs.size = some PySem.W.emptyDict := Heap.get?_push_size s.heap rfl
  have e2 : ((s.heap.push PySem.W.emptyDict).push (PySem.W.instObj C s.heap.objs.size)).get? (s.heap.objs.size + 1) = some (PySem.W.instObj C s.heap.objs.size) := by
    have := Heap.get?_push_size (s.heap.push PySem.W.emptyDict) (o := PySem.W.instObj C s.heap.objs.size) rfl
    rwa [Heap.size_push] at this
  have e3 : (s.heap.push PySem.W.emptyDict).Ns s.heap.objs.size (fun _ => none) := ⟨PySem.W.emptyDict, #[], _, e1, rfl, (fun e he => absurd he (by simp)), fun _ => rfl⟩
  have I1 := I.laid (a := s.heap.objs.size) (o := .own (s.heap.objs.size + 1)) (h' := s.heap.push PySem.W.emptyDict) (t' := s.toks) (fun b u q => Heap.get?_push_of_some _ q) (Nat.le_refl _) ⟨_, e1⟩
  refine I1.laid (a := s.heap.objs.size + 1) (o := .ins C s.heap.objs.size []) (t' := s.toks) (fun b u q => Heap.get?_push_of_some _ q) (Nat.le_of_eq (Heap.size_push _ _)) ?_
  have ne : s.heap.objs.size ≠ s.heap.objs.size + 1 := Nat.ne_of_lt (Nat.lt_succ_self _)
  refine ⟨by rw [upd_ne ne, upd_same], Nat.zero_le _, ne, e2, fun _ => none, (Heap.Ns1.of_empty e3).at fun o q => Heap.get?_push_of_some _ q, fun _ => True.intro, fun y hy => absurd rfl hy⟩
end
noncomputable def tFld (K : PySem.W.Frag) (ta : TE) (f : Str) : TE := fun σ H Q => ta σ H fun x H1 => ∃ a C dx fs v, x = .ref a ∧ H1 a = some (.ins C dx fs) ∧ Cls K C ∧ NoAttr K C f ∧ fs.lookup f = some v ∧ Q v H1
noncomputable def tCon (K : PySem.W.Frag) (ta : TE) (f : Str) : TE := fun σ H Q => ta σ H fun x H1 => ∃ a C dx fs v u, x = .ref a ∧ H1 a = some (.ins C dx fs) ∧ Cls K C ∧ Con K C f v u ∧ fs.lookup f = none ∧ Q v H1
noncomputable def sFld (K : PySem.W.Frag) (ta tv : TE) (f : Str) : TS := fun D σ H => tv σ H fun y H1 => ta σ H1 fun x H2 => ∃ a C dx fs, x = .ref a ∧ H2 a = some (.ins C dx fs) ∧ Cls K C ∧ NoAttr K C f ∧ fs.length < 1000 ∧
  D.nx σ (upd H2 a (.ins C dx (putF f y fs)))
noncomputable def InOp (X : Cx) (op : Operator) (rd : V → V → Hp → VK → Prop) : Prop :=
  ∀ (pins : List (Addr × Obj)) (s : Shared) (σ : St) (H : Hp) (x y : V) (u v : Value) (Q : VK), Inv X pins σ H s → RelV x u → RelV y v → rd x y H Q → wpAny (model X.prog X.w) X.A (inplaceOp op u v) (EP X pins σ Q) X.xe s
noncomputable def sFldAug (K : PySem.W.Frag) (ta tv : TE) (rd : V → V → Hp → VK → Prop) (f : Str) : TS := fun D σ H => ta σ H fun x H1 => ∃ a C dx fs v, x = .ref a ∧ H1 a = some (.ins C dx fs) ∧ Cls K C ∧ NoAttr K C f ∧ fs.lookup f = some v ∧
  tv σ H1 fun y H2 => rd v y H2 fun z H3 => ∃ dx' fs', H3 a = some (.ins C dx' fs') ∧ fs'.length < 1000 ∧ D.nx σ (upd H3 a (.ins C dx' (putF f z fs')))
section
variable {X : Cx} {o e value : Expr} {f : Str} {pos pos' tpos : Pos} {ta tv : TE}
noncomputable def rAdd : V → V → Hp → VK → Prop := fun x y H Q => ∃ i j, x = .int i ∧ y = .int j ∧ Q (.int (i + j)) H
noncomputable def rSub : V → V → Hp → VK → Prop := fun x y H Q => ∃ i j, x = .int i ∧ y = .int j ∧ Q (.int (i - j)) H
end
section
variable {X : Cx} {pins : List (Addr × Obj)} {σ : St} {H : Hp} {s : Shared} {A : Around} {E : Value → Shared → Prop} {Q : Value → Shared → Prop} {c : Value} {b : Bool}
inductive TyOf (K : PySem.W.Frag) (H : Hp) : V → Value → Prop where
  | non : TyOf K H .non (.type "NoneType")
  | bl (x : Bool) : TyOf K H (.bl x) (.type "bool")
  | int (i : Int) : TyOf K H (.int i) (.type "int")
  | str (x : Str) : TyOf K H (.str x) (.type "str")
  | flt (x : UInt64) : TyOf K H (.flt x) (.type "float")
  | lst {a : Addr} {xs : List V} (e : H a = some (.lst xs)) : TyOf K H (.ref a) (.type "list")
  | frz {a : Addr} {o : Obj} {xs : List V} (e : H a = some (.frz o (.lst xs))) : TyOf K H (.ref a) (.type "list")
  | tup {a : Addr} {xs : List V} (e : H a = some (.tup xs)) : TyOf K H (.ref a) (.type "tuple")
  | dK {a : Addr} {kvs : List (Key × V)} (e : H a = some (.dK kvs)) : TyOf K H (.ref a) (.type "dict")
  | dT {a : Addr} {kvs : List (List Key × V)} (e : H a = some (.dT kvs)) : TyOf K H (.ref a) (.type "dict")
  | ins {a C dx : Addr} {fs : List (Str × V)} (e : H a = some (.ins C dx fs)) (cl : Cls K C) (ha : PySem.W.findIn K (.ref C) "__class__" = some (some (.builtin "object.__class__")))
      (hn : PySem.W.specialIn K (.builtin "object.__class__") "__get__" = some (some (.builtin "getset_descriptor.__get__"))) (htk : PySem.W.takesIn K (.builtin "object.__class__") = some true)
      (hm : PySem.W.mroIn K C (.type "object") = some true) : TyOf K H (.ref a) (.ref C)
end
end L2
namespace L2
open PySem PySem.Spec PyProof.Rows
structure Room (k : Nat) (A : Around) : Prop where
  hd : A.handled = none
  dp : A.depth + 3 * k + 5 < recursionLimit
  un : A.units + 16 * k + 200 < cLine
  gd : A.guards = some []
theorem Room.mono {j k : Nat} {A : Around} (r : Room k A) (h : j ≤ k) : Room j A := ⟨r.hd, by have := r.dp; omega, by have := r.un; omega, r.gd⟩
theorem Room.deeper {k : Nat} {A : Around} (r : Room (k + 1) A) (env : Env) : Room k (A.deeper env) :=
  ⟨r.hd, by have := r.dp; show A.depth + 1 + 3 * k + 5 < _; omega, by have := r.un; show A.units + 3 + 16 * k + 200 < _; omega, r.gd⟩
theorem Room.in1 {k : Nat} {A : Around} (r : Room (k + 1) A) : Room k A.in1 :=
  ⟨r.hd, by have := r.dp; show A.depth + 3 * k + 5 < _; omega, by have := r.un; show A.units + 1 + 16 * k + 200 < _; omega, r.gd⟩
theorem Room.depth {k : Nat} {A : Around} (r : Room k A) : A.depth < recursionLimit := by have := r.dp; omega
theorem Room.units {k : Nat} {A : Around} (r : Room k A) : A.units + 64 < cLine := by have := r.un; omega
noncomputable def tNil : TA := fun _ H Q => Q [] H
noncomputable def tCons (ta : TE) (tr : TA) : TA := fun σ H Q => ta σ H fun x H1 => tr σ H1 fun xs H2 => Q (x :: xs) H2
section
variable {X : Cx} {e : Expr} {es : List Expr} {te : TE} {t : TA} {pos : Pos}
theorem pa_nil : PA X [] tNil := fun _ _ _ _ H Q I h => Calls.spliced_nil ⟨[], H, I, .nil, h⟩
theorem pa_cons (ha : PE X e te) (hr : PA X es t) (hs : starEach (e :: es) X.env = (false, eval e X.env) :: starEach es X.env := by rfl) : PA X (e :: es) (tCons te t) := by
  intro pos pins s σ H Q I h
  rw [hs]
  show wpAny _ _ (spliced ((false, eval e X.env) :: backTo pos (starEach es X.env))) _ _ s
  refine Calls.spliced_cons (thn (ha pins s σ H _ I h) fun u s1 ⟨x, H1, I1, r1, q1⟩ => ?_)
  exact thn (hr pos pins s1 σ H1 _ I1 q1) fun us s2 ⟨xs, H2, I2, r2, q2⟩ => ⟨x :: xs, H2, I2, .cons r1 r2, q2⟩
noncomputable def tTup (t : TA) : TE := fun σ H Q => t σ H fun xs H1 => xs.length ≤ sizeLine ∧ ∀ p, H1 p = none → Q (.ref p) (upd H1 p (.tup xs))
noncomputable def tLst (t : TA) : TE := fun σ H Q => t σ H fun xs H1 => xs.length ≤ sizeLine ∧ ∀ p, H1 p = none → Q (.ref p) (upd H1 p (.lst xs))
theorem pe_tup {x1} (h : PA X es t) : PE X (.Tuple es x1 pos) (tTup t) := by
  intro pins s σ H Q I hq
  refine wpAny_Tuple_spliced (thn (h pos pins s σ H _ I hq) fun us s1 ⟨xs, H1, I1, r, z, q⟩ => ⟨by rw [← r.length]; exact z, ?_⟩)
  have hf : H1 s1.heap.objs.size = none := I1.hok.fresh (Nat.le_refl _)
  refine ⟨.ref s1.heap.objs.size, upd H1 s1.heap.objs.size (.tup xs), I1.laid (t' := s1.toks) (fun b u e => Heap.get?_push_of_some _ e) (Nat.le_refl _) ?_, rfl, q _ hf⟩
  exact ⟨z, us, r, ⟨_, Heap.get?_push_size _ rfl, rfl, _, rfl⟩⟩
theorem pe_lst (h : PA X es t) : PE X (.List es pos) (tLst t) := by
  intro pins s σ H Q I hq
  refine wpAny_List_spliced (thn (h pos pins s σ H _ I hq) fun us s1 ⟨xs, H1, I1, r, z, q⟩ => ⟨by rw [← r.length]; exact z, ?_⟩)
  have hf : H1 s1.heap.objs.size = none := I1.hok.fresh (Nat.le_refl _)
  refine ⟨.ref s1.heap.objs.size, upd H1 s1.heap.objs.size (.lst xs), I1.laid (t' := s1.toks) (fun b u e => Heap.get?_push_of_some _ e) (Nat.le_refl _) ?_, rfl, q _ hf⟩
  exact ⟨z, us, 0, r, Heap.get?_push_size _ rfl⟩
end
noncomputable abbrev Sp := List V → Hp → VK → XK → Prop
noncomputable abbrev CXT := List Env → Hp → Shared → XK → Value → Shared → Prop
structure Env0 (P : Program) (w : World) (K : PySem.W.Frag) (mg : Str → Option Value) (base : Heap) (A : Around) (outer : List Env) (s : Shared) (H : Hp) : Prop where
  frames : A.frames = some outer
  mod : Mod K mg base
  bs : ∀ b o, base.get? b = some o → s.heap.get? b = some o ∧ H b = none
  bsz : base.objs.size ≤ s.heap.objs.size
  funs : s.heap.FunFrames base outer
  frf : ∀ b ∈ frs outer, H b = none
  hok : HOk P w H s.heap
  bare : AllBare s.gens
noncomputable def CE (outer : List Env) (P : Program) (w : World) (H : Hp) (s : Shared) (Q : VK) (u : Value) (s' : Shared) : Prop :=
  ∃ v H', s'.os = s.os ∧ AllBare s'.gens ∧ Un (frs outer) [] H H' s.heap s'.heap ∧ HOk P w H' s'.heap ∧ RelV v u ∧ Q v H'
noncomputable def CR (CX : CXT) (outer : List Env) (P : Program) (w : World) (H : Hp) (s : Shared) (Q : VK) (E : XK) (r : Result) (s' : Shared) : Prop :=
  match r with
  | .ok (.ret u) => CE outer P w H s Q u s'
  | .ok _ => False
  | .error e => CX outer H s E e s'
structure FnOk (P : Program) (w : World) (K : PySem.W.Frag) (mg : Str → Option Value) (base : Heap) (CX : CXT) (k : Nat) (f : Addr) (fd : FuncData) (ps : List Str) (sp : Sp) : Prop where
  len : ∀ vs H Q E, sp vs H Q E → vs.length = ps.length
  run : ∀ (A : Around) (outer : List Env) (s : Shared) (H : Hp) (args : Args) (us : List Value) (vs : List V) (Q : VK) (E : XK), Room k A → Env0 P w K mg base A outer s H → BindsTo s fd args (ps.zip us) → Vals vs us → sp vs H Q E →
    codeAny (model P w) A (.call (.ref f) args) (CR CX outer P w H s Q E) s
theorem FnOk.mono {P : Program} {w : World} {K : PySem.W.Frag} {mg : Str → Option Value} {base : Heap} {CX : CXT} {j k : Nat} {f : Addr} {fd : FuncData} {ps : List Str} {sp : Sp} (F : FnOk P w K mg base CX j f fd ps sp) (h : j ≤ k) :
    FnOk P w K mg base CX k f fd ps sp := ⟨F.len, fun A outer s H args us vs Q E hr => F.run A outer s H args us vs Q E (hr.mono h)⟩
theorem Env0.in1 {P : Program} {w : World} {K : PySem.W.Frag} {mg : Str → Option Value} {base : Heap} {A : Around} {outer : List Env} {s : Shared} {H : Hp} (e : Env0 P w K mg base A outer s H) :
    Env0 P w K mg base A.in1 outer s H := ⟨e.frames, e.mod, e.bs, e.bsz, e.funs, e.frf, e.hok, e.bare⟩
section
variable {X : Cx} {pins : List (Addr × Obj)} {σ : St} {H : Hp} {s s' : Shared}
theorem Inv.env0 (I : Inv X pins σ H s) : Env0 X.prog X.w X.K X.mg X.base X.A X.stack s H :=
  ⟨I.ok.frames, I.ok.mod, I.bs, Nat.le_trans I.ok.bsz I.sz, I.stack, I.stkFree, I.hok, I.bare⟩
theorem Inv.after {Q : VK} {u : Value} (I : Inv X pins σ H s) (h : CE X.stack X.prog X.w H s Q u s') : EP X pins σ Q u s' := by
  obtain ⟨v, H', os, bare, un, hok, r, q⟩ := h
  obtain ⟨hh, g, d, t, os'⟩ := s'
  obtain rfl : os' = s.os := os
  exact ⟨v, H', I.call (h' := hh) (g' := g) (d' := d) (t' := t) (ch := []) un hok bare (fun b z => absurd z (by simp)), r, q⟩
end
noncomputable def tCall (sp : Sp) (dvs : List V) (E : XK) (t : TA) : TE := fun σ H Q => t σ H fun vs H1 => sp (vs ++ dvs) H1 Q E
noncomputable def tMeth (C : Addr) (m : Str) (sp : Sp) (dvs : List V) (E : XK) (ta : TE) (t : TA) : TE := fun σ H Q => ta σ H fun x H1 => ∃ a dx fs, x = .ref a ∧ H1 a = some (.ins C dx fs) ∧ fs.lookup m = none ∧
  t σ H1 fun vs H2 => sp (x :: (vs ++ dvs)) H2 Q E
noncomputable def tMake (C : Addr) (sp : Sp) (dvs : List V) (E : XK) (t : TA) : TE := fun σ H Q => t σ H fun vs H1 => ∀ x dx, H1 x = none → H1 dx = none → dx ≠ x →
  sp (.ref x :: (vs ++ dvs)) (upd (upd H1 dx (.own x)) x (.ins C dx [])) (fun v H2 => v = .non ∧ Q (.ref x) H2) E
noncomputable def Binds (K : PySem.W.Frag) (fd : FuncData) (ps : List Str) (ds : List Value) : Prop :=
  ∀ (s : Shared) (us : List Value), K.In s.heap → (us ++ ds).length = ps.length → BindsTo s fd ⟨us, []⟩ (ps.zip (us ++ ds))
theorem Binds.all {K : PySem.W.Frag} {fd : FuncData} {ps : List Str} (h : ∀ us : List Value, us.length = ps.length → bindArgs fd ⟨us, []⟩ = pure (ps.zip us)) : Binds K fd ps [] := fun s us _ hl => by
  rw [List.append_nil] at hl ⊢
  exact .of_eq (h us hl)
noncomputable def Passes (CX : CXT) (X : Cx) (E : XK) : Prop := ∀ (pins : List (Addr × Obj)) (σ : St) (H : Hp) (s : Shared) (e : Value) (s' : Shared), Inv X pins σ H s → CX X.stack H s E e s' → X.xe e s'
section
variable {X : Cx} {CX : CXT} {k : Nat} {f C : Addr} {fd : FuncData} {ps : List Str} {sp : Sp} {dvs : List V} {ds : List Value} {E : XK} {x m : Str} {p pos apos : Pos} {e o : Expr} {es : List Expr} {ta : TE} {t : TA}
theorem run_fn {pins : List (Addr × Obj)} {σ : St} {H : Hp} {s : Shared} {Q : VK} {us : List Value} {vs : List V} (F : FnOk X.prog X.w X.K X.mg X.base CX k f fd ps sp) (hr : Room k X.A) (hb : Binds X.K fd ps ds) (hd : Vals dvs ds) (hx : Passes CX X E)
    (I : Inv X pins σ H s) (r : Vals vs us) (h : sp (vs ++ dvs) H Q E) : wpAny (model X.prog X.w) X.A (call (.ref f) us) (EP X pins σ Q) X.xe s := by
  have r2 : Vals (vs ++ dvs) (us ++ ds) := r.append hd
  have hl : (us ++ ds).length = ps.length := by rw [← r2.length]; exact F.len _ _ _ _ h
  refine wpAny_call (codeAny_mono (F.run X.A X.stack s H ⟨us, []⟩ (us ++ ds) (vs ++ dvs) Q E hr I.env0 (hb s us I.kIn hl) r2 h) fun r s' hq => ?_)
  cases r with
  | error e => exact hx pins σ H s e s' I hq
  | ok fl =>
    cases fl with
    | ret u => exact I.after hq
    | next => exact False.elim hq
    | brk => exact False.elim hq
    | cont => exact False.elim hq
theorem pe_call (F : FnOk X.prog X.w X.K X.mg X.base CX k f fd ps sp) (hr : Room k X.A) (hg : Gl X x) (hm : X.mg x = some (.ref f)) (hk : PySem.W.keepIn X.K (.ref f) = true) (hb : Binds X.K fd ps ds) (hd : Vals dvs ds) (hx : Passes CX X E)
    (ha : PA X (e :: es) t) (hdb : (x == ("__debug__" : Str)) = false := by decide) (he : starEach (e :: es) X.env = (false, eval e X.env) :: starEach es X.env := by rfl) (hpl : (backTo pos (starEach es X.env)).any (·.1) = false := by rfl) :
    PE X (.Call (.Name x p) (e :: es) [] pos) (tCall sp dvs E t) := by
  intro pins s σ H Q I h
  refine wpAny_Call_Name_kw (ld_glob I hg hm ?_ hdb)
  refine PySem.W.callWith_K (h₀ := X.base) I.ok.mod.kin hk (thn (ha pos pins s σ H _ I h) fun us s1 ⟨vs, H1, I1, r, q⟩ => ⟨I1.kIn, ?_⟩) he hpl
  exact run_fn F hr hb hd hx I1 r q
structure Mk (K : PySem.W.Frag) (C f : Addr) : Prop where
  makes : PySem.W.makesIn K C = true
  init : PySem.W.findIn K (.ref C) "__init__" = some (some (.ref f))
  fn : PySem.W.isFn K (.ref f) = true
  kp : PySem.W.keepIn K (.ref C) = true
end
noncomputable def PK (X : Cx) (kws : List Keyword) (t : TA) : Prop :=
  ∀ (pos : Pos) (pins : List (Addr × Obj)) (s : Shared) (σ : St) (H : Hp) (Q : List V → Hp → Prop), Inv X pins σ H s → t σ H Q → wpAny (model X.prog X.w) X.A (evalAll ((backToKw pos (keywordEach kws X.env)).map (·.2))) (AP X pins σ Q) X.xe s
section
variable {X : Cx} {CX : CXT} {k : Nat} {f C : Addr} {fd : FuncData} {ps ks : List Str} {sp : Sp} {E : XK} {x m : Str} {p pos apos kpos : Pos} {e o : Expr} {es : List Expr} {kws : List Keyword} {te ta : TE} {t tk : TA} {nm : Option Str}
structure KBinds (K : PySem.W.Frag) (fd : FuncData) (ps ks : List Str) (g : List Value → List Value → List Value) (gV : List V → List V → List V) : Prop where
  to : ∀ (s : Shared) (us ws : List Value), K.In s.heap → (g us ws).length = ps.length → BindsTo s fd ⟨us, ks.zip ws⟩ (ps.zip (g us ws))
  rel : ∀ {vs : List V} {us : List Value} {zs : List V} {ws : List Value}, Vals vs us → Vals zs ws → Vals (gV vs zs) (g us ws)
noncomputable def tCallK (sp : Sp) (gV : List V → List V → List V) (E : XK) (t tk : TA) : TE := fun σ H Q => t σ H fun vs H1 => tk σ H1 fun zs H2 => sp (gV vs zs) H2 Q E
variable {g : List Value → List Value → List Value} {gV : List V → List V → List V}
end
structure FnScope (N P : List Str) (sc : Scope) : Prop where
  kind : sc.kind = .function
  co : sc.isCoroutine = false
  gen : sc.isGenerator = false
  nd : N.Nodup
  pre : N.take P.length = P
  par : ∀ x ∈ P, sc.names.lookup x = some .local ∨ sc.names.lookup x = some .cell
  nofree : ∀ y ∈ sc.names, y.2 ≠ .free
theorem bindL_out {kindOf : Str → Option NameKind} {x : Str} : ∀ {binds : List (Str × Value)} {m : Str → Option Value}, (∀ v, (x, v) ∉ binds) → bindL kindOf binds m x = m x
  | [], _, _ => rfl
  | (n, v) :: r, m, h => by
    unfold bindL
    rw [bindL_out fun w hw => h w (List.mem_cons_of_mem _ hw)]
    split
    · have : x ≠ n := by rintro rfl; exact h v List.mem_cons_self
      simp [this]
    · rfl
theorem bindC_out {kindOf : Str → Option NameKind} {x : Str} : ∀ {binds : List (Str × Value)} {m : Str → Option Value}, (∀ v, (x, v) ∉ binds) → bindC kindOf binds m x = m x
  | [], _, _ => rfl
  | (n, v) :: r, m, h => by
    unfold bindC
    rw [bindC_out fun w hw => h w (List.mem_cons_of_mem _ hw)]
    split
    · rfl
    · have : x ≠ n := by rintro rfl; exact h v List.mem_cons_self
      simp [this]
theorem bindL_get {kindOf : Str → Option NameKind} {x : Str} {v : Value} : ∀ {P : List Str} {vs : List Value} {i : Nat} {m : Str → Option Value}, P.Nodup → P[i]? = some x → vs[i]? = some v → kindOf x = some .local →
    bindL kindOf (P.zip vs) m x = some v
  | [], _, _, _, _, h, _, _ => by simp at h
  | _ :: _, [], _, _, _, _, h, _ => by simp at h
  | p :: P, w :: vs, 0, m, nd, h1, h2, hk => by
    simp at h1 h2; subst h1; subst h2
    show bindL kindOf ((p, w) :: P.zip vs) m p = _
    unfold bindL
    rw [bindL_out fun v hv => (List.nodup_cons.mp nd).1 (List.of_mem_zip hv).1, if_pos hk]
    simp
  | p :: P, w :: vs, i + 1, m, nd, h1, h2, hk => by
    show bindL kindOf ((p, w) :: P.zip vs) m x = _
    unfold bindL
    exact bindL_get (i := i) (List.nodup_cons.mp nd).2 (by simpa using h1) (by simpa using h2) hk
theorem bindC_get {kindOf : Str → Option NameKind} {x : Str} {v : Value} : ∀ {P : List Str} {vs : List Value} {i : Nat} {m : Str → Option Value}, P.Nodup → P[i]? = some x → vs[i]? = some v → kindOf x ≠ some .local →
    bindC kindOf (P.zip vs) m x = some v
  | [], _, _, _, _, h, _, _ => by simp at h
  | _ :: _, [], _, _, _, _, h, _ => by simp at h
  | p :: P, w :: vs, 0, m, nd, h1, h2, hk => by
    simp at h1 h2; subst h1; subst h2
    show bindC kindOf ((p, w) :: P.zip vs) m p = _
    unfold bindC
    rw [bindC_out fun v hv => (List.nodup_cons.mp nd).1 (List.of_mem_zip hv).1, if_neg hk]
    simp
  | p :: P, w :: vs, i + 1, m, nd, h1, h2, hk => by
    show bindC kindOf ((p, w) :: P.zip vs) m x = _
    unfold bindC
    exact bindC_get (i := i) (List.nodup_cons.mp nd).2 (by simpa using h1) (by simpa using h2) hk
noncomputable def start (N : List Str) (vs : List V) : St := vs.map some ++ List.replicate (N.length - vs.length) none
noncomputable def cxOf (CX : CXT) (P : Program) (w : World) (K : PySem.W.Frag) (mg : Str → Option Value) (base : Heap) (N : List Str) (qual : Str) (scope : Scope) (f : Addr) (cd : Value) (A : Around) (outer : List Env) (s : Shared) (H : Hp) (E : XK) : Cx where
  prog := P
  w := w
  K := K
  mg := mg
  base := base
  A := A.deeper (envOfC qual scope s.heap.objs.size f cd)
  N := N
  s₀ := s
  H₀ := H
  env := envOfC qual scope s.heap.objs.size f cd
  outer := outer
  stack := envOfC qual scope s.heap.objs.size f cd :: outer
  ex := []
  calm := true
  fn := fun _ => true
  pn := []
  xe := fun e s' => wpAny (model P w) (A.deeper (envOfC qual scope s.heap.objs.size f cd)) (leaving (envOfC qual scope s.heap.objs.size f cd) e) (fun _ s'' => CX outer H s E e s'') (fun e' s'' => CX outer H s E e' s'') s'
theorem cell_has {sc : Scope} {n : Nat} {x : Str} (h : sc.names.lookup x = some .cell) : ∃ c, (cellsFrom n sc.names []).lookup x = some c := by
  have q := PySem.W.cellsFrom_some sc.names n [] (.inl h)
  exact Option.isSome_iff_exists.mp q
theorem inv_start {CX : CXT} {P : Program} {w : World} {K : PySem.W.Frag} {mg : Str → Option Value} {base : Heap} {N ps : List Str} {qual : Str} {scope : Scope} {f : Addr} {cd : Value} {A : Around} {outer : List Env} {s s1 : Shared} {H : Hp} {E : XK} {us : List Value} {vs : List V}
    (S : FnScope N ps scope) (hd : A.handled = none) (e0 : Env0 P w K mg base A outer s H) (hl : vs.length = ps.length) (r : Vals vs us)
    (x : InCallC s s.heap.objs.size (bindL (envOfC qual scope s.heap.objs.size f cd).kindOf (ps.zip us) fun _ => none) (cellsFrom (s.heap.objs.size + 1) scope.names []) (bindC (envOfC qual scope s.heap.objs.size f cd).kindOf (ps.zip us) fun _ => none) s1) :
    Inv (cxOf CX P w K mg base N qual scope f cd A outer s H E) [] (start N vs) H s1 := by
  have hpl : ps.length ≤ N.length := by have := congrArg List.length S.pre; rw [List.length_take] at this; omega
  obtain ⟨h1, tk, rfl, hk⟩ := x.done
  have noA : ∀ b : Addr, b ∉ (cxOf CX P w K mg base N qual scope f cd A outer s H E).ex := fun b z => absurd (show b ∈ ([] : List Addr) from z) (by simp)
  refine ⟨⟨e0.mod, S.kind, rfl, rfl, Nat.le_refl _, fun y z c h1 h2 => ?_, fun y hy => ?_, fun y c _ h => ?_, fun _ => hd, Around.frames_deeper e0.frames, .inr ⟨rfl, rfl⟩, fun b z => absurd z (noA b), e0.bs, e0.bsz, fun b _ _ => noA b, fun b z => absurd z (noA b), e0.funs, e0.frf⟩,
    rfl, e0.bare, Un.kept hk, ⟨_, x.toInCall.ns, fun i y v h1 h2 h3 => ?_⟩, fun y c h => ⟨_, x.cell y c h⟩, e0.hok.fresh (Nat.le_refl _), fun y c h => ?_, fun p hp => absurd (show p ∈ ([] : List (Addr × Obj)) from hp) (by simp), e0.hok.kept hk, ?_⟩
  · exact name_of_addr x.apart (PySem.mem_of_lookup h1) (PySem.mem_of_lookup h2)
  · have hy : scope.names.lookup y = some .cell ∨ scope.names.lookup y = some .free := hy
    rcases hy with hy | hy
    · exact cell_has hy
    · exact absurd rfl (S.nofree _ (PySem.mem_of_lookup hy))
  · exact Nat.le_of_lt (x.above y c (PySem.mem_of_lookup h))
  · have hi : i < vs.length := by
      unfold start at h2
      by_cases hi : i < vs.length
      · exact hi
      · rw [List.getElem?_append_right (by simpa using hi)] at h2
        rw [List.getElem?_replicate] at h2
        split at h2 <;> cases h2
    have ha : vs[i]? = some v := by
      unfold start at h2
      rw [List.getElem?_append_left (by simpa using hi), List.getElem?_map] at h2
      cases e : vs[i]? with
      | none => rw [e] at h2; cases h2
      | some a => rw [e] at h2; cases h2; rfl
    obtain ⟨u, hu, rv⟩ := r.get ha
    have hp : ps[i]? = some y := by
      rw [← S.pre, List.getElem?_take_of_lt (by omega)]; exact h1
    have ndP : ps.Nodup := by rw [← S.pre]; exact S.nd.sublist (List.take_sublist _ _)
    refine ⟨u, rv, ?_⟩
    rcases S.par y (List.mem_of_getElem? hp) with k | k
    · exact .inl ⟨k, bindL_get ndP hp hu k⟩
    · obtain ⟨c, e⟩ := cell_has (n := s.heap.objs.size + 1) k
      refine .inr ⟨.inl k, c, e, ?_⟩
      have q := x.cell y c e
      rw [bindC_get ndP hp hu (by show scope.names.lookup y ≠ _; rw [k]; decide)] at q
      exact q
  · exact e0.hok.fresh (Nat.le_of_lt (x.above y c (PySem.mem_of_lookup h)))
  · unfold start
    show _ = N.length
    rw [List.length_append, List.length_map, List.length_replicate]
    omega
theorem fn_of {CX : CXT} {P : Program} {w : World} {K : PySem.W.Frag} {mg : Str → Option Value} {base : Heap} {k : Nat} {f : Addr} {name qual : Str} {params : Arguments} {body : List Stmt} {scope : Scope} {dV kV doc pm cdv ct oc : Value} {an od : Option Addr}
    {osl : Array (Option Value)} {N ps : List Str} {sp : Sp} (lk : K.lookup f = some ⟨oc, od, .func (PySem.W.fnOf name qual params body scope dV kV doc pm an cdv ct), osl⟩) (hcd : PySem.W.codeIn K cdv qual = true) (S : FnScope N ps scope)
    (len : ∀ vs H Q E, sp vs H Q E → vs.length = ps.length)
    (hbody : ∀ (A : Around) (outer : List Env) (s : Shared) (H : Hp) (vs : List V) (Q : VK) (E : XK), Room k (A.deeper (envOfC qual scope s.heap.objs.size f cdv)) → sp vs H Q E →
      ∃ t, PSs (cxOf CX P w K mg base N qual scope f cdv A outer s H E) body t ∧ t { nx := fun _ H' => Q .non H', rt := Q } (start N vs) H) :
    FnOk P w K mg base CX (k + 1) f (PySem.W.fnOf name qual params body scope dV kV doc pm an cdv ct) ps sp := by
  refine ⟨len, fun A outer s H args us vs Q E hr e0 hb r hsp => ?_⟩
  have hl := len _ _ _ _ hsp
  have KX : K.In s.heap := e0.mod.kin.keeps fun b o e => (e0.bs b o e).1
  have lim : s.heap.NoLimit := e0.mod.nolimit.keeps fun b o e => (e0.bs b o e).1
  have hkind : ∀ y ∈ ps.zip us, scope.names.lookup y.1 = some .local ∨ (scope.names.lookup y.1 = some .cell ∧ ((cellsFrom (s.heap.objs.size + 1) scope.names []).lookup y.1).isSome = true) := fun ⟨n, v⟩ hy => by
    rcases S.par n (List.of_mem_zip hy).1 with q | q
    · exact .inl q
    · exact .inr ⟨q, PySem.W.cellsFrom_some _ _ _ (.inl q)⟩
  refine codeAny_call_function hr.depth (KX _ _ lk) rfl S.co S.gen rfl (PySem.W.codeRec_of KX hcd) (hb _ _ _ _ ?_)
  refine wpAny_newFunctionEnv_cells S.kind hkind fun env he s1 x => ?_
  subst he
  refine ⟨lim.keeps x.toInCall.keep, codeAny_func ?_⟩
  obtain ⟨t, ht, hq⟩ := hbody A outer s H vs Q E (hr.deeper _) hsp
  have I : Inv (cxOf CX P w K mg base N qual scope f cdv A outer s H E) [] (start N vs) H s1 := inv_start S hr.hd e0 hl r x
  refine wpAny_mono (ht [] s1 (start N vs) H _ I hq) (fun fl s' hs => ?_) fun e s' hs => hs
  have fin : ∀ {σ' : St} {H' : Hp} {v : V} {u : Value}, Inv (cxOf CX P w K mg base N qual scope f cdv A outer s H E) [] σ' H' s' → RelV v u → Q v H' → CE outer P w H s Q u s' :=
    fun {σ' H' v u} J rv q => ⟨v, H', J.os, J.bare, J.base, J.hok, rv, q⟩
  cases fl with
  | ret u =>
    obtain ⟨v, σ', H', J, rv, q⟩ := hs
    exact fin J rv q
  | next =>
    obtain ⟨σ', H', J, q⟩ := hs
    exact fin (v := V.non) (u := Value.none) J rfl q
  | brk =>
    obtain ⟨_, _, _, q⟩ := hs
    exact False.elim q
  | cont =>
    obtain ⟨_, _, _, q⟩ := hs
    exact False.elim q
end L2
namespace L2
open PySem PySem.Spec PyProof.Rows
section
variable {X : Cx} {x : Str} {p pos : Pos} {e : Expr} {es : List Expr} {t : TA} {id T : String} {r : List V → Hp → VK → Prop}
noncomputable def tCB (r : List V → Hp → VK → Prop) (t : TA) : TE := fun σ H Q => t σ H fun vs H1 => r vs H1 Q
theorem pe_callB (hc : CallR X (.builtin id) r) (hg : Gl X x) (hm : X.mg x = none) (hv : bootBuiltins x = some (.builtin id)) (ha : PA X (e :: es) t) (hn : x ≠ "__name__" := by decide) (hdb : (x == ("__debug__" : Str)) = false := by decide)
    (he : starEach (e :: es) X.env = (false, eval e X.env) :: starEach es X.env := by rfl) (hpl : (backTo pos (starEach es X.env)).any (·.1) = false := by rfl) : PE X (.Call (.Name x p) (e :: es) [] pos) (tCB r t) := by
  intro pins s σ H Q I h
  refine wpAny_Call_Name_kw (ld_blt I hg hm hv ?_ hn hdb)
  exact PyProof.Rows.callWith_builtin1 (thn (ha pos pins s σ H _ I h) fun us s1 ⟨vs, H1, I1, r1, q1⟩ => hc pins s1 σ H1 vs us Q I1 r1 q1) he hpl
theorem pe_callTy (hc : CallR X (.type T) r) (hg : Gl X x) (hm : X.mg x = none) (hv : bootBuiltins x = some (.type T)) (ha : PA X (e :: es) t) (hn : x ≠ "__name__" := by decide) (hdb : (x == ("__debug__" : Str)) = false := by decide)
    (he : starEach (e :: es) X.env = (false, eval e X.env) :: starEach es X.env := by rfl) (hpl : (backTo pos (starEach es X.env)).any (·.1) = false := by rfl) : PE X (.Call (.Name x p) (e :: es) [] pos) (tCB r t) := by
  intro pins s σ H Q I h
  refine wpAny_Call_Name_kw (ld_blt I hg hm hv ?_ hn hdb)
  exact PyProof.Rows.callWith_type1 (thn (ha pos pins s σ H _ I h) fun us s1 ⟨vs, H1, I1, r1, q1⟩ => hc pins s1 σ H1 vs us Q I1 r1 q1) he hpl
end
end L2
namespace HT
open PySem PyProof.Rows
noncomputable def lexLt : List Int → List Int → Bool
  | [], [] => false
  | [], _ :: _ => true
  | _ :: _, [] => false
  | x :: xs, y :: ys => if x = y then lexLt xs ys else decide (x < y)
section
open PySem.SeqAt
open PySem.AutoSeq1 (wpAny_loadPart')
open PySem.MeetsSeq PySem.MeetsSeq2 PySem.MeetsSeq3
end
section
variable {prog : Program} {w : World} {A : Around} {E : Value → Shared → Prop} {s : Shared}
theorem cat_tup {t b : Addr} {vs ws : List Value} {Q : Value → Shared → Prop} (ht : IsTup s.heap t vs.toArray) (hb : IsTup s.heap b ws.toArray) (hv : vs ≠ [])
    (h1 : ws = [] → Q (.ref t) s) (h2 : ws ≠ [] → Q (.ref s.heap.objs.size) { s with heap := s.heap.push { cls := .type "tuple", data := .seq (vs ++ ws).toArray } })
    (hsz : vs.length + ws.length ≤ sizeLine) : wpAny (model prog w) A (binaryOp .Add (.ref t) (.ref b)) Q E s := by
  obtain ⟨⟨cls, dd, data, sl⟩, ho, hc, n, hd⟩ := id ht
  obtain ⟨⟨cls2, dd2, data2, sl2⟩, ho2, hc2, n2, hd2⟩ := id hb
  simp only at hc hd hc2 hd2
  subst hc hd hc2 hd2
  have e : vs.toArray ++ ws.toArray = (vs ++ ws).toArray := by simp
  by_cases hw : ws = []
  · exact concat_meets ⟨_, ho, rfl⟩ ⟨_, ho2, rfl⟩ noFill_tuple_add seq_tuple_add PySem.F.slot_tuple_add PySem.F.entry_tuple_add (PySem.F.args_tuple_add_2 _ _)
      (tuple_addW1 t b vs.toArray ws.toArray n n2 dd dd2 sl sl2 (by simpa using hv) (by simp [hw])) ⟨ho, ho2, h1 hw⟩
  · refine concat_meets ⟨_, ho, rfl⟩ ⟨_, ho2, rfl⟩ noFill_tuple_add seq_tuple_add PySem.F.slot_tuple_add PySem.F.entry_tuple_add (PySem.F.args_tuple_add_2 _ _)
      (tuple_addW2 t b vs.toArray ws.toArray n n2 dd dd2 sl sl2 (by simpa using hv) (by simpa using hw) (by rw [List.size_toArray, List.size_toArray]; exact hsz)) ⟨ho, ho2, ?_⟩
    rw [e]
    exact h2 hw
noncomputable def sIx (n d : Nat) : Option Int → Nat
  | none => d
  | some v => if v < 0 then (v + (n : Int)).toNat else min v.toNat n
theorem sIx_le (n d : Nat) (hd : d ≤ n) (o : Option Int) : sIx n d o ≤ n := by
  cases o with
  | none => exact hd
  | some v =>
    show (if v < 0 then (v + (n : Int)).toNat else min v.toNat n) ≤ n
    by_cases hv : v < 0
    · rw [if_pos hv]; omega
    · rw [if_neg hv]; exact Nat.min_le_right _ _
theorem clip_eq (v : Int) (n d : Nat) : (if v < 0 then max (v + (n : Int)) 0 else min v (n : Int)) = ((sIx n d (some v) : Nat) : Int) := by
  show (if v < 0 then max (v + (n : Int)) 0 else min v (n : Int)) = (((if v < 0 then (v + (n : Int)).toNat else min v.toNat n) : Nat) : Int)
  by_cases hv : v < 0
  · simp only [if_pos hv]; omega
  · simp only [if_neg hv]; omega
theorem adjust_gen (lo hi : Option Int) (n : Nat) : Builtin.Slice.sliceAdjust lo hi 1 (n : Int) = (((sIx n 0 lo : Nat) : Int), ((sIx n n hi : Nat) : Int)) := by
  have h1 : ¬ ((1 : Int) < 0) := by omega
  unfold Builtin.Slice.sliceAdjust
  simp only [h1, if_false]
  refine Prod.ext ?_ ?_
  · cases lo with
    | none => rfl
    | some v => exact clip_eq v n 0
  · cases hi with
    | none => rfl
    | some v => exact clip_eq v n n
theorem places_gen (i j : Nat) : Builtin.Slice.slicePlaces (i : Int) (j : Int) 1 = j - i := by
  unfold Builtin.Slice.slicePlaces
  have h1 : (1 : Int) > 0 := by omega
  simp only [h1, if_true, Int.ediv_one]
  split <;> omega
theorem slicePart_ {v : Value} {o : Option Int} {Q : Option Int → Shared → Prop} (p : IsPart v o) (h : Q o s) : wpAny (model prog w) A (Builtin.Slice.slicePartIndex v) Q E s := by
  cases p with
  | none => exact slicePart_none h
  | int i t => exact slicePart_int h
theorem sliceApplied_gen {sl : Addr} {vl vu : Value} {lo hi : Option Int} {n : Nat} {Q : Int × Int × Nat → Shared → Prop} (hs : s.heap.IsSliceOf sl vl vu .none) (pl : IsPart vl lo) (pu : IsPart vu hi)
    (h : Q (((sIx n 0 lo : Nat) : Int), 1, sIx n n hi - sIx n 0 lo) s) : wpAny (model prog w) A (Builtin.Slice.sliceApplied (.ref sl) (pure (n : Int))) Q E s := by
  obtain ⟨os, hos, hcs, hds⟩ := id hs
  unfold Builtin.Slice.sliceApplied Builtin.Slice.sliceFields
  refine wpAny_bind (wpAny_bind (wpAny_field hos hds (x := vl) rfl (wpAny_bind (wpAny_field hos hds (x := vu) rfl (wpAny_bind (wpAny_field hos hds (x := .none) rfl (wpAny_pure ?_)))))))
  refine wpAny_bind (slicePart_none ?_)
  show wpAny _ _ (if ((1 : Int) == 0) = true then _ else _) _ _ s
  rw [if_neg (by decide)]
  refine wpAny_bind (slicePart_ pl (wpAny_bind (slicePart_ pu (wpAny_bind (wpAny_pure ?_)))))
  show wpAny _ _ (match Builtin.Slice.sliceAdjust lo hi 1 (n : Int) with | (lo, hi) => pure (lo, (1 : Int), Builtin.Slice.slicePlaces lo hi 1)) _ _ s
  rw [adjust_gen lo hi n]
  show wpAny _ _ (pure (((sIx n 0 lo : Nat) : Int), (1 : Int), Builtin.Slice.slicePlaces ((sIx n 0 lo : Nat) : Int) ((sIx n n hi : Nat) : Int) 1)) _ _ s
  rw [places_gen]
  exact wpAny_pure h
theorem pick_gen (xs : Array Value) (i k : Nat) : ((List.range k).filterMap fun (m : Nat) => xs[((i : Int) + (m : Int) * 1).toNat]?).toArray = ((xs.toList.drop i).take k).toArray := by
  have e : (fun (m : Nat) => xs[((i : Int) + (m : Int) * 1).toNat]?) = fun m => xs[i + m]? := by
    funext m
    have : ((i : Int) + (m : Int) * 1).toNat = i + m := by omega
    rw [this]
  rw [e]
  have := pick_run xs i k
  rw [List.filterMap_map] at this
  have e2 : ((fun x => xs[x]?) ∘ fun x => i + x) = fun m => xs[i + m]? := rfl
  rw [e2] at this
  rw [this]
theorem getItem_tuple_cut {t sl : Addr} {items : Array Value} {vl vu : Value} {lo hi : Option Int} {Q : Value → Shared → Prop} (ht : IsTup s.heap t items) (hs : s.heap.IsSliceOf sl vl vu .none) (pl : IsPart vl lo) (pu : IsPart vu hi)
    (hw : ¬ (sIx items.size 0 lo = 0 ∧ sIx items.size items.size hi = items.size))
    (h : Q (.ref s.heap.objs.size) { s with heap := s.heap.push { cls := .type "tuple", data := .seq ((items.toList.drop (sIx items.size 0 lo)).take (sIx items.size items.size hi - sIx items.size 0 lo)).toArray } })
    (hsz : items.size ≤ sizeLine) : wpAny (model prog w) A (getItem (.ref t) (.ref sl)) Q E s := by
  have htake : sizeOk (.seq ((items.toList.drop (sIx items.size 0 lo)).take (sIx items.size items.size hi - sIx items.size 0 lo)).toArray) := by
    show ((items.toList.drop (sIx items.size 0 lo)).take (sIx items.size items.size hi - sIx items.size 0 lo)).toArray.size ≤ sizeLine
    rw [List.size_toArray, List.length_take, List.length_drop, Array.length_toList]
    omega
  have hj : sIx items.size items.size hi ≤ items.size := sIx_le _ _ (Nat.le_refl _) hi
  obtain ⟨os, hos, hcs, hds⟩ := id hs
  have hTs : s.TypeIs (.ref sl) "slice" := ⟨os, hos, hcs⟩
  unfold getItem
  try with_reducible refine wpAny_holding ?_
  first | refine wpAny_bind (wpAny_pure ?_) | skip
  refine wpAny_bind (wpAny_sequenceKey ht.typeIs (by decide) ?_)
  refine wpAny_bind (wpAny_callSpecial?_slot (name := Str.ofString "__getitem__") ht.typeIs PyProof.Rows.slot_tuple_getitem
    (wpAny_call_entry PyProof.Rows.slot_tuple_getitem ht.typeIs entry_tuple_getitem ?_ (args_tuple_getitem _ _)))
  show wpAny _ _ (Builtin.Tuple.tupleItemsOf (.ref t) >>= _) _ _ s
  refine wpAny_bind (tupleItemsOf_ ht ?_)
  refine wpAny_bind (wpAny_typeOf hTs ?_)
  rw [if_pos (by decide)]
  refine wpAny_bind (sliceApplied_gen hs pl pu ?_)
  have hno : ¬ ((((sIx items.size 0 lo : Nat) : Int) == 0 && (1 : Int) == 1 && (sIx items.size items.size hi - sIx items.size 0 lo) == items.size) = true) := by
    intro q
    rw [Bool.and_eq_true, Bool.and_eq_true] at q
    have q1 : ((sIx items.size 0 lo : Nat) : Int) = 0 := eq_of_beq q.1.1
    have q2 : sIx items.size items.size hi - sIx items.size 0 lo = items.size := eq_of_beq q.2
    exact hw ⟨by omega, by omega⟩
  show wpAny _ _ (if (((sIx items.size 0 lo : Nat) : Int) == 0 && (1 : Int) == 1 && (sIx items.size items.size hi - sIx items.size 0 lo) == items.size) = true then _ else _) _ _ s
  rw [if_neg hno, pick_gen]
  first
    | exact wpAny_bind (m := Builtin.Tuple.tupleExact _) (wpAny_newObj_type (wpAny_pure ⟨_, rfl, wpAny_pure h⟩) htake)
    | exact wpAny_bind (m := Builtin.Tuple.tupleExact _) (wpAny_newObj_type (wpAny_bind (wpAny_pure (wpAny_pure ⟨_, rfl, wpAny_pure h⟩))) htake)
    | exact wpAny_bind (wpAny_bind (m := Builtin.Tuple.tupleExact _) (wpAny_newObj_type (wpAny_pure (wpAny_pure ⟨_, rfl, wpAny_pure h⟩)) htake))
    | exact wpAny_bind (wpAny_bind (m := Builtin.Tuple.tupleExact _) (wpAny_newObj_type (wpAny_pure ⟨_, rfl, wpAny_pure h⟩) htake))
end
end HT
namespace L2
open PySem PySem.Spec PyProof.Rows
noncomputable abbrev TO := St → Hp → (Option Int → Hp → Prop) → Prop
noncomputable def PO (X : Cx) (e : Option Expr) (t : TO) : Prop :=
  ∀ (pins : List (Addr × Obj)) (s : Shared) (σ : St) (H : Hp) (Q : Option Int → Hp → Prop), Inv X pins σ H s → t σ H Q →
    wpAny (model X.prog X.w) X.A (evalPart e X.env) (fun u s' => ∃ o H', Inv X pins σ H' s' ∧ IsPart u o ∧ Q o H') X.xe s
noncomputable def tNoPart : TO := fun _ H Q => Q none H
noncomputable def tPart (t : TE) : TO := fun σ H Q => t σ H fun x H1 => ∃ i, x = .int i ∧ Q (some i) H1
section
variable {X : Cx} {e : Expr} {te : TE} {lo hi : Option Expr} {tl th : TO} {pos p2 : Pos}
theorem po_none : PO X none tNoPart := by
  intro pins s σ H Q I h
  rw [evalPart_none]
  exact wpAny_pure ⟨none, H, I, .none, h⟩
theorem po_some (h : PE X e te) : PO X (some e) (tPart te) := by
  intro pins s σ H Q I hw
  rw [evalPart_some]
  refine thn (h pins s σ H _ I hw) fun u s1 ⟨x, H1, I1, r1, q1⟩ => ?_
  obtain ⟨i, rfl, q⟩ := q1
  obtain ⟨t, rfl⟩ := r1
  exact ⟨some i, H1, I1, .int i t, q⟩
noncomputable def SlR (X : Cx) (r : V → Option Int → Option Int → Hp → VK → Prop) : Prop :=
  ∀ (pins : List (Addr × Obj)) (s : Shared) (σ : St) (H : Hp) (x : V) (v vl vu : Value) (lo hi : Option Int) (sl : Addr) (Q : VK), Inv X pins σ H s → RelV x v → s.heap.IsSliceOf sl vl vu .none → IsPart vl lo → IsPart vu hi → r x lo hi H Q →
    ∃ T id, typeLookup (.type T) "__getitem__" = pure (some (.builtin id)) ∧ s.TypeIs v T ∧ wpAny (model X.prog X.w) X.A (getItem v (.ref sl)) (EP X pins σ Q) X.xe s
theorem SlR.or {r r' : V → Option Int → Option Int → Hp → VK → Prop} (h : SlR X r) (h' : SlR X r') : SlR X (fun x lo hi H Q => r x lo hi H Q ∨ r' x lo hi H Q) := by
  intro pins s σ H x v vl vu lo hi sl Q I rx hs pl pu q
  rcases q with q | q
  · exact h pins s σ H x v vl vu lo hi sl Q I rx hs pl pu q
  · exact h' pins s σ H x v vl vu lo hi sl Q I rx hs pl pu q
noncomputable def tSl (r : V → Option Int → Option Int → Hp → VK → Prop) (te : TE) (tl th : TO) : TE := fun σ H Q => te σ H fun x H1 => tl σ H1 fun l H2 => th σ H2 fun u H3 => r x l u H3 Q
theorem pe_slice {r : V → Option Int → Option Int → Hp → VK → Prop} (hr : SlR X r) (he : PE X e te) (hl : PO X lo tl) (hu : PO X hi th) : PE X (.Subscript e (.Slice lo hi none p2) pos) (tSl r te tl th) := by
  intro pins s σ H Q I h
  refine Subscript_ (thn (he pins s σ H _ I h) fun v s1 ⟨x, H1, I1, r1, q1⟩ => ?_)
  refine wpAny_Slice (thn (hl pins s1 σ H1 _ I1 q1) fun vl s2 ⟨l, H2, I2, pl, q2⟩ => thn (hu pins s2 σ H2 _ I2 q2) fun vu s3 ⟨u, H3, I3, pu, q3⟩ => ?_)
  rw [evalPart_none]
  refine wpAny_pure ?_
  have I4 : Inv X pins σ H3 { s3 with heap := s3.heap.push { cls := .type "slice", data := .fields #[vl, vu, .none] } } := I3.kept (t' := s3.toks) fun b ob q => Heap.get?_push_of_some _ q
  obtain ⟨T, id, hT, ht, hg⟩ := hr pins { s3 with heap := s3.heap.push { cls := .type "slice", data := .fields #[vl, vu, .none] } } σ H3 x v vl vu l u s3.heap.objs.size Q I4 r1 (Heap.IsSliceOf.new ..) pl pu q3
  show wpAny (model X.prog X.w) X.A (subscriptTail e (.Slice lo hi none p2) v (.ref s3.heap.objs.size)) (EP X pins σ Q) X.xe { s3 with heap := s3.heap.push { cls := .type "slice", data := .fields #[vl, vu, .none] } }
  exact tail_any (ops := [.ref s3.heap.objs.size, v]) ht hT hg (by with_unfolding_all rfl)
noncomputable def cutV (xs : List V) (lo hi : Option Int) : List V := (xs.drop (HT.sIx xs.length 0 lo)).take (HT.sIx xs.length xs.length hi - HT.sIx xs.length 0 lo)
theorem cutV_length (xs : List V) (lo hi : Option Int) : (cutV xs lo hi).length ≤ xs.length := by
  unfold cutV
  rw [List.length_take, List.length_drop]
  omega
noncomputable def rSlT (K : PySem.W.Frag) : V → Option Int → Option Int → Hp → VK → Prop := fun x lo hi H Q => ∃ a xs, x = .ref a ∧ SqT K H a xs ∧
  ¬ (HT.sIx xs.length 0 lo = 0 ∧ HT.sIx xs.length xs.length hi = xs.length) ∧ ∀ p, H p = none → Q (.ref p) (upd H p (.tup (cutV xs lo hi)))
theorem sl_tup : SlR X (rSlT X.K) := by
  intro pins s σ H x v vl vu lo hi sl Q I rx hs pl pu h
  obtain ⟨a, xs, rfl, hx, hw, q⟩ := h
  cases rx
  obtain ⟨its, r, ht, hz⟩ := I.tuple hx
  have hlen : its.toArray.size = xs.length := by rw [List.size_toArray]; exact r.length.symm
  refine ⟨"tuple", _, PyProof.Rows.slot_tuple_getitem.lookup, ht.typeIs, ?_⟩
  refine HT.getItem_tuple_cut ht hs pl pu (by rw [hlen]; exact hw) ?_ (by rw [hlen]; exact hz)
  rw [hlen]
  refine ⟨.ref s.heap.objs.size, _, I.laid (t' := s.toks) (o := .tup (cutV xs lo hi)) (fun b ob q => Heap.get?_push_of_some _ q) (Nat.le_refl _) ?_, rfl, q _ (I.hok.fresh (Nat.le_refl _))⟩
  exact ⟨Nat.le_trans (cutV_length xs lo hi) hz, _, (r.drop (HT.sIx xs.length 0 lo)).take (HT.sIx xs.length xs.length hi - HT.sIx xs.length 0 lo), IsTup.new _ _⟩
noncomputable def rLtT (K : PySem.W.Frag) : R2 := fun x y H Q => ∃ a b ns ms, x = .ref a ∧ y = .ref b ∧ SqT K H a (ns.map V.int) ∧ SqT K H b (ms.map V.int) ∧ Q (.bl (HT.lexLt ns ms)) H
noncomputable def rCatT (K : PySem.W.Frag) : R2 := fun x y H Q => ∃ a b xs ys, x = .ref a ∧ y = .ref b ∧ SqT K H a xs ∧ SqT K H b ys ∧ xs ≠ [] ∧ xs.length + ys.length ≤ sizeLine ∧
  (ys = [] → Q (.ref a) H) ∧ (ys ≠ [] → ∀ p, H p = none → Q (.ref p) (upd H p (.tup (xs ++ ys))))
theorem Vals.nil_iff {xs : List V} {us : List Value} (r : Vals xs us) : us = [] ↔ xs = [] := by
  cases r with
  | nil => simp
  | cons _ _ => simp
theorem op_catT : OpR X (binaryOp .Add) (rCatT X.K) := by
  intro pins s σ H x y v u Q I rx ry h
  obtain ⟨a, b, xs, ys, rfl, rfl, ha, hb, hx, hz, q1, q2⟩ := h
  cases rx
  cases ry
  obtain ⟨its, r1, p1, _⟩ := I.tuple ha
  obtain ⟨its2, r2, p2, _⟩ := I.tuple hb
  refine HT.cat_tup p1 p2 (fun z => hx (r1.nil_iff.mp z)) (fun z => ⟨.ref a, H, I, rfl, q1 (r2.nil_iff.mp z)⟩) (fun z => ?_) (by rw [← r1.length, ← r2.length]; exact hz)
  refine ⟨.ref s.heap.objs.size, _, I.laid (t' := s.toks) (o := .tup (xs ++ ys)) (fun b ob q => Heap.get?_push_of_some _ q) (Nat.le_refl _) ?_, rfl, q2 (fun w => z (r2.nil_iff.mpr w)) _ (I.hok.fresh (Nat.le_refl _))⟩
  exact ⟨by rw [List.length_append]; exact hz, _, r1.append r2, IsTup.new _ _⟩
end
end L2
namespace L2
open PySem PySem.Spec PyProof.Rows
noncomputable def ixN (n : Nat) (i : Int) : Option Nat := if 0 ≤ i then (if i < n then some i.toNat else none) else if -(n : Int) ≤ i then some (i + n).toNat else none
noncomputable def atI {α : Type} (xs : List α) (i : Int) : Option α := (ixN xs.length i).bind fun j => xs[j]?
theorem ixN_seq {n : Nat} {i : Int} {j : Nat} (h : ixN n i = some j) : seqIndex? i n = some j ∧ j < n ∧ -(n : Int) ≤ i ∧ i < n := by
  unfold ixN at h
  by_cases h0 : 0 ≤ i
  · rw [if_pos h0] at h
    by_cases h1 : i < n
    · rw [if_pos h1] at h
      have e : i.toNat = j := Option.some.inj h
      exact ⟨by rw [seqIndex_of h0 h1, e], by omega, by omega, h1⟩
    · rw [if_neg h1] at h; cases h
  · rw [if_neg h0] at h
    by_cases h1 : -(n : Int) ≤ i
    · rw [if_pos h1] at h
      have e : (i + n).toNat = j := Option.some.inj h
      exact ⟨by rw [seqIndex_neg (by omega) h1, e], by omega, h1, by omega⟩
    · rw [if_neg h1] at h; cases h
theorem atI_get {α : Type} {xs : List α} {i : Int} {v : α} (h : atI xs i = some v) : ∃ j, seqIndex? i xs.length = some j ∧ xs[j]? = some v ∧ j < xs.length ∧ -(xs.length : Int) ≤ i ∧ i < xs.length := by
  unfold atI at h
  cases e : ixN xs.length i with
  | none => rw [e] at h; cases h
  | some j =>
    rw [e] at h
    obtain ⟨h1, h2, h3, h4⟩ := ixN_seq e
    exact ⟨j, h1, h, h2, h3, h4⟩
theorem atI_nat {α : Type} {xs : List α} {j : Nat} {v : α} (h : xs[j]? = some v) : atI xs (j : Int) = some v := by
  have hj : j < xs.length := (List.getElem?_eq_some_iff.mp h).1
  have e : ixN xs.length (j : Int) = some j := by
    unfold ixN
    rw [if_pos (by omega), if_pos (by omega)]; simp
  unfold atI; rw [e]; exact h
noncomputable def PlainIx (b : Expr) : Prop := ∀ o i, subscripted b false o i = operate [o, i] (getItem o i)
noncomputable def IxR (X : Cx) (r : R2) : Prop :=
  ∀ (value slice : Expr) (pins : List (Addr × Obj)) (s : Shared) (σ : St) (H : Hp) (x y : V) (v u : Value) (Q : VK), Inv X pins σ H s → RelV x v → RelV y u → r x y H Q →
    subscripted slice false v u = operate [v, u] (getItem v u) → wpAny (model X.prog X.w) X.A (subscriptTail value slice v u) (EP X pins σ Q) X.xe s
noncomputable def MtR (X : Cx) (id : String) (r : V → List V → Hp → VK → Prop) : Prop :=
  ∀ (pins : List (Addr × Obj)) (s : Shared) (σ : St) (H : Hp) (x : V) (xs : List V) (v : Value) (us : List Value) (Q : VK), Inv X pins σ H s → RelV x v → Vals xs us → r x xs H Q →
    wpAny (model X.prog X.w) X.A (call (.builtin id) (v :: us)) (EP X pins σ Q) X.xe s
section
variable {X : Cx} {a b : Expr} {ta tb : TE} {pos : Pos}
theorem IxR.or {r r' : R2} (h : IxR X r) (h' : IxR X r') : IxR X (fun x y H Q => r x y H Q ∨ r' x y H Q) := by
  intro value slice pins s σ H x y v u Q I rx ry q hs
  rcases q with q | q
  · exact h value slice pins s σ H x y v u Q I rx ry q hs
  · exact h' value slice pins s σ H x y v u Q I rx ry q hs
theorem MtR.or {id : String} {r r' : V → List V → Hp → VK → Prop} (h : MtR X id r) (h' : MtR X id r') : MtR X id (fun x xs H Q => r x xs H Q ∨ r' x xs H Q) := by
  intro pins s σ H x xs v us Q I rx rs q
  rcases q with q | q
  · exact h pins s σ H x xs v us Q I rx rs q
  · exact h' pins s σ H x xs v us Q I rx rs q
theorem pe_ix {r : R2} (hr : IxR X r) (ha : PE X a ta) (hb : PE X b tb) (hs : PlainIx b) : PE X (.Subscript a b pos) (tOp r ta tb) := by
  intro pins s σ H Q I h
  exact Subscript_ (binT ha hb I h fun v u s2 x y H2 I2 rx ry q => hr a b pins s2 σ H2 x y v u Q I2 rx ry q (hs _ _))
noncomputable def rIxL (K : PySem.W.Frag) : R2 := fun x y H Q => ∃ p xs i v, x = .ref p ∧ y = .int i ∧ SqL K H p xs ∧ atI xs i = some v ∧ Q v H
noncomputable def rIxT (K : PySem.W.Frag) : R2 := fun x y H Q => ∃ p xs i v, x = .ref p ∧ y = .int i ∧ SqT K H p xs ∧ atI xs i = some v ∧ Q v H
noncomputable def rIxS : R2 := fun x y H Q => ∃ z i c, x = .str z ∧ y = .int i ∧ z.length ≤ sizeLine ∧ atI z.cps.toList i = some c ∧ Q (.str ⟨#[c]⟩) H
theorem ix_list : IxR X (rIxL X.K) := by
  intro value slice pins s σ H x y v u Q I rx ry h hs
  obtain ⟨p, xs, i, z, rfl, rfl, hq, he, q⟩ := h
  cases rx
  obtain ⟨t, rfl⟩ := ry
  obtain ⟨its, r, pl, hz⟩ := I.list hq
  obtain ⟨j, h1, h2, h3, h4, h5⟩ := atI_get he
  obtain ⟨w, ew, rw'⟩ := r.get h2
  have hl := r.length
  have hn := line63
  have fin : EP X pins σ Q w s := ⟨z, H, I, rw', q⟩
  by_cases h0 : 0 ≤ i
  · have hj : i.toNat = j := by
      rw [seqIndex_of h0 h5] at h1
      exact Option.some.inj h1
    exact item_listR pl.isList h0 (by omega) (by rw [hj]; simpa using ew) fin hs
  · have hj : (i + (its.toArray.size : Int)).toNat = j := by
      rw [seqIndex_neg (by omega) h4] at h1
      rw [List.size_toArray, ← hl]
      exact Option.some.inj h1
    exact subscriptTail_builtinR (x := w) pl.isList.typeIs slot_list_getitem.lookup
      (wpAny_getItem_list_neg (Q := fun r s' => r = w ∧ EP X pins σ Q r s') pl.isList (by omega) (by rw [List.size_toArray] <;> omega) (by omega) (by rw [hj]; simpa using ew) ⟨rfl, fin⟩) hs
theorem ix_tup : IxR X (rIxT X.K) := by
  intro value slice pins s σ H x y v u Q I rx ry h hs
  obtain ⟨p, xs, i, z, rfl, rfl, hq, he, q⟩ := h
  cases rx
  obtain ⟨t, rfl⟩ := ry
  obtain ⟨its, r, pl, hz⟩ := I.tuple hq
  obtain ⟨j, h1, h2, h3, h4, h5⟩ := atI_get he
  obtain ⟨w, ew, rw'⟩ := r.get h2
  have hl := r.length
  have hn := line63
  have fin : EP X pins σ Q w s := ⟨z, H, I, rw', q⟩
  exact subscriptTail_builtinR (x := w) pl.typeIs slot_tuple_getitem.lookup
    (getItem_tuple (j := j) (Q := fun r s' => r = w ∧ EP X pins σ Q r s') pl (by omega) (by omega) (by rw [List.size_toArray, ← hl]; exact h1) (by simpa using ew) ⟨rfl, fin⟩) hs
noncomputable def rIx (K : PySem.W.Frag) : R2 := fun x y H Q => rIxL K x y H Q ∨ rIxT K x y H Q ∨ rIxS x y H Q
theorem mapSeq_set (its : List Value) (n j : Nat) (u : Value) : Obj.mapSeq (·.setIfInBounds j u) { cls := .type "list", data := .seq its.toArray n } = { cls := .type "list", data := .seq (its.set j u).toArray n } := by
  simp [Obj.mapSeq]
theorem Inv.lst {pins : List (Addr × Obj)} {σ : St} {H : Hp} {s : Shared} {p : Addr} {xs : List V} (I : Inv X pins σ H s) (h : H p = some (.lst xs)) :
    ∃ (its : List Value) (n : Nat), Vals xs its ∧ s.heap.get? p = some { cls := .type "list", data := .seq its.toArray n } ∧ xs.length ≤ sizeLine := by
  obtain ⟨z, its, n, r, e⟩ := I.hok p _ h
  exact ⟨its, n, r, e, z⟩
theorem Inv.lstUpd {pins : List (Addr × Obj)} {σ : St} {H : Hp} {s : Shared} {p : Addr} {xs ys : List V} {its its' : List Value} {n n' : Nat} {f : Obj → Obj} (I : Inv X pins σ H s) (h : H p = some (.lst xs))
    (ho : s.heap.get? p = some { cls := .type "list", data := .seq its.toArray n }) (hf : f { cls := .type "list", data := .seq its.toArray n } = { cls := .type "list", data := .seq its'.toArray n' }) (r : Vals ys its') (hz : ys.length ≤ sizeLine) (t : Nat) :
    Inv X pins σ (upd H p (.lst ys)) { s with heap := s.heap.update p f, toks := t } := by
  have e : (s.heap.update p f).get? p = some { cls := .type "list", data := .seq its'.toArray n' } := by
    rw [Heap.get?_update_self f ho (by rw [hf] <;> rfl), hf]
  refine I.write (x := p) (e := p) (by rw [h]; trivial) (.inl rfl) (fun b u hb q => (Heap.get?_update_other _ _ (Ne.symm hb)).trans q) ⟨_, e⟩ ?_
  exact ⟨hz, its', n', r, e⟩
noncomputable def rSetL : V → V → V → Hp → (Hp → Prop) → Prop := fun o i v H Q => ∃ p xs k j, o = .ref p ∧ i = .int k ∧ H p = some (.lst xs) ∧ ixN xs.length k = some j ∧ Q (upd H p (.lst (xs.set j v)))
theorem set_list : PSet X rSetL := by
  intro pins s σ H o i v ov iv u Q I ro ri rv h
  obtain ⟨p, xs, k, j, rfl, rfl, hp, hj, q⟩ := h
  cases ro
  obtain ⟨t, rfl⟩ := ri
  obtain ⟨its, n, r, ho, hz⟩ := I.lst hp
  obtain ⟨h1, h2, h3, h4⟩ := ixN_seq hj
  have hl := r.length
  have hn := line63
  have I' : Inv X pins σ (upd H p (.lst (xs.set j v))) { s with heap := s.heap.update p (Obj.mapSeq (·.setIfInBounds j u)) } :=
    I.lstUpd hp ho (mapSeq_set its n j u) (r.set rv j) (by rw [List.length_set]; exact hz) s.toks
  by_cases h0 : 0 ≤ k
  · have hk : k.toNat = j := by
      rw [seqIndex_of h0 h4] at h1
      exact Option.some.inj h1
    exact PySem.W.ki_setAt ho h0 (by omega) (by rw [List.size_toArray, ← hl]; exact h4) (by rw [hk]; exact ⟨_, I', q⟩)
  · have hk : (k + (its.toArray.size : Int)).toNat = j := by
      rw [seqIndex_neg (by omega) h3] at h1
      rw [List.size_toArray, ← hl]
      exact Option.some.inj h1
    exact PySem.W.ki_setBack ho (by omega) (by rw [List.size_toArray, ← hl]; exact h3) (by omega) (by rw [hk]; exact ⟨_, I', q⟩)
noncomputable def rSlL (K : PySem.W.Frag) : V → Option Int → Option Int → Hp → VK → Prop := fun x lo hi H Q => ∃ a xs, x = .ref a ∧ SqL K H a xs ∧ ∀ p, H p = none → Q (.ref p) (upd H p (.lst (cutV xs lo hi)))
noncomputable def flatV : V → Bool
  | .non => true
  | .bl _ => true
  | .int _ => true
  | .str _ => true
  | _ => false
noncomputable def eqV : V → V → Bool
  | .non, .non => true
  | .bl a, .bl b => a == b
  | .bl a, .int b => (if a then 1 else 0) == b
  | .int a, .bl b => a == (if b then 1 else 0)
  | .int a, .int b => a == b
  | .str a, .str b => a == b
  | _, _ => false
noncomputable def eqU (x : V) (u : Value) : Bool := match u with
  | .none => eqV .non x
  | .bool b => eqV (.bl b) x
  | .int i _ => eqV (.int i) x
  | .str z _ => eqV (.str z) x
  | _ => false
noncomputable def inV (x : V) (xs : List V) : Bool := xs.any fun y => eqV y x
noncomputable def rIn (K : PySem.W.Frag) (neg : Bool) : R2 := fun x y H Q => ∃ p xs, y = .ref p ∧ (SqL K H p xs ∨ SqT K H p xs) ∧ flatV x = true ∧ xs.all flatV = true ∧ Q (.bl (if neg then !inV x xs else inV x xs)) H
theorem call_len_seq : CallR X (.builtin "len") (fun xs H Q => ∃ p ys, xs = [.ref p] ∧ (SqL X.K H p ys ∨ SqT X.K H p ys) ∧ Q (.int ys.length) H) := by
  intro pins s σ H xs us Q I r h
  obtain ⟨p, ys, rfl, hq, q⟩ := h
  obtain ⟨u, rfl, rx⟩ := vals1 r
  cases rx
  have hn := line63
  rcases hq with hq | hq
  · obtain ⟨its, r', pl, hz⟩ := I.list hq
    have hlen := r'.length
    exact Calls.call_len_list pl.isList (by simp only [List.size_toArray] <;> omega) ⟨.int ys.length, H, I.tok _, ⟨s.toks + 1, by rw [List.size_toArray, hlen]⟩, q⟩
  · obtain ⟨its, r', pl, hz⟩ := I.tuple hq
    have hlen := r'.length
    exact len_tuple pl (by simp only [List.size_toArray] <;> omega) ⟨.int ys.length, H, I.tok _, ⟨s.toks + 1, by rw [List.size_toArray, hlen]⟩, q⟩
theorem CallR.or {f : Value} {r r' : List V → Hp → VK → Prop} (h : CallR X f r) (h' : CallR X f r') : CallR X f (fun xs H Q => r xs H Q ∨ r' xs H Q) := by
  intro pins s σ H xs us Q I rs q
  rcases q with q | q
  · exact h pins s σ H xs us Q I rs q
  · exact h' pins s σ H xs us Q I rs q
theorem call_list_of : CallR X (.type "list") (fun xs H Q => ∃ p ys, xs = [.ref p] ∧ (SqL X.K H p ys ∨ SqT X.K H p ys) ∧ ∀ l, H l = none → Q (.ref l) (upd H l (.lst ys))) := by
  intro pins s σ H xs us Q I r h
  obtain ⟨p, ys, rfl, hq, q⟩ := h
  obtain ⟨u, rfl, rx⟩ := vals1 r
  cases rx
  have fin : ∀ (its : List Value), Vals ys its → ys.length ≤ sizeLine → ∀ (h' : Heap) (c' : Nat), (∀ b o', s.heap.get? b = some o' → h'.get? b = some o') →
      h'.get? s.heap.objs.size = some { cls := .type "list", dict := none, data := .seq its.toArray c', slots := #[] } → EP X pins σ Q (.ref s.heap.objs.size) { s with heap := h' } := fun its r' hz h' c' kp e =>
    ⟨.ref s.heap.objs.size, _, I.laid (t' := s.toks) kp (Nat.le_refl _) (show ObjOk X.prog X.w _ h' _ (.lst ys) from ⟨hz, its, c', r', e⟩), rfl, q _ (I.hok.fresh (Nat.le_refl _))⟩
  rcases hq with hq | hq
  · obtain ⟨its, r', pl, hz⟩ := I.list hq
    have hlen := r'.length
    obtain ⟨o, ho, hc, n, hd⟩ := pl.isList
    exact call_list_seq p (.inl rfl) ho hc hd (fun h' c' kp e => fin its r' hz h' c' kp e) (by simp only [List.size_toArray] <;> omega)
  · obtain ⟨its, r', pl, hz⟩ := I.tuple hq
    have hlen := r'.length
    obtain ⟨o, ho, hc, n, hd⟩ := pl
    exact call_list_seq p (.inr rfl) ho hc hd (fun h' c' kp e => fin its r' hz h' c' kp e) (by simp only [List.size_toArray] <;> omega)
noncomputable def tyV (K : PySem.W.Frag) (T : String) (x : V) (H : Hp) : Prop := match x with
  | .str _ => T = "str"
  | .int _ => T = "int"
  | .ref p => (T = "list" ∧ ∃ xs, SqL K H p xs) ∨ (T = "tuple" ∧ ∃ o, K.lookup p = some o ∧ o.cls = .type "tuple" ∧ o.dict = none) ∨
      (T = "dict" ∧ ((∃ kvs, H p = some (.dK kvs)) ∨ ∃ kvs, H p = some (.dT kvs))) ∨ (T = "set" ∧ ∃ S n, H p = some (.set S n))
  | _ => False
theorem tyV_is {pins : List (Addr × Obj)} {σ : St} {H : Hp} {s : Shared} {T : String} {x : V} {v : Value} (I : Inv X pins σ H s) (r : RelV x v) (ty : tyV X.K T x H) :
    s.TypeIs v T ∧ ∀ a, v = .ref a → ∃ ob, s.heap.get? a = some ob ∧ ob.dict = none := by
  cases x with
  | str z =>
    obtain ⟨t, rfl⟩ := r
    cases (show T = "str" from ty)
    exact ⟨typeIs_str s z t, fun _ e => nomatch e⟩
  | int i =>
    obtain ⟨t, rfl⟩ := r
    cases (show T = "int" from ty)
    exact ⟨typeIs_int s i t, fun _ e => nomatch e⟩
  | ref p =>
    cases r
    rcases ty with ⟨rfl, xs, hq⟩ | ⟨rfl, o, hk, hc, hd⟩ | ⟨rfl, hk⟩ | ⟨rfl, S, n, hk⟩
    · obtain ⟨its, _, pl, _⟩ := I.list hq
      refine ⟨pl.isList.typeIs, fun a e => ?_⟩
      cases e
      obtain ⟨o, n, e, c, hd, _⟩ := pl
      exact ⟨o, e, hd⟩
    · refine ⟨⟨o, I.kIn p o hk, hc⟩, fun a e => ?_⟩
      cases e
      exact ⟨o, I.kIn _ o hk, hd⟩
    · have z : ∃ o, s.heap.get? p = some o ∧ o.ExactDict := by
        rcases hk with ⟨kvs, hk⟩ | ⟨kvs, hk⟩
        · obtain ⟨_, _, _, _, o, _, _, e, ex, _⟩ := I.hok p _ hk
          exact ⟨o, e, ex⟩
        · obtain ⟨_, _, _, _, o, _, _, e, ex, _⟩ := I.hok p _ hk
          exact ⟨o, e, ex⟩
      obtain ⟨o, e, ex⟩ := z
      refine ⟨⟨o, e, ex.1⟩, fun a e2 => ?_⟩
      cases e2
      exact ⟨o, e, ex.2.1⟩
    · obtain ⟨o, _, _, _, e, ex, _⟩ := I.hok p _ hk
      refine ⟨⟨o, e, ex.1⟩, fun a e2 => ?_⟩
      cases e2
      exact ⟨o, e, ex.2.1⟩
  | _ => exact False.elim ty
noncomputable def tBM0 (K : PySem.W.Frag) (T : String) (r : V → List V → Hp → VK → Prop) (to : TE) : TE := fun σ H Q => to σ H fun x H1 => tyV K T x H1 ∧ r x [] H1 Q
noncomputable def tBM (K : PySem.W.Frag) (T : String) (r : V → List V → Hp → VK → Prop) (to : TE) (t : TA) : TE := fun σ H Q => to σ H fun x H1 => tyV K T x H1 ∧ t σ H1 fun xs H2 => r x xs H2 Q
variable {o e : Expr} {es : List Expr} {to : TE} {t : TA} {name : Str} {apos cpos : Pos} {T id : String} {r : V → List V → Hp → VK → Prop}
theorem pe_bm (pa : PlainAttrs T) (slot : Slot T name id) (hty : typeOf (.builtin id) = pure (.type "method_descriptor")) (hm : MtR X id r) (ho : PE X o to) (ha : PA X (e :: es) t)
    (hbase : attributeBase o name X.env (eval o X.env) = eval o X.env := by rfl)
    (hfew : ((backTo cpos (starEach (e :: es) X.env)).all (fun x => !x.1) && (backToKw cpos (keywordEach [] X.env)).all (fun x => x.1.isSome)
      && decide ((e :: es).length + ([] : List Keyword).length + (if ([] : List Keyword).isEmpty then 0 else 1) < 30)) = true := by rfl)
    (hline : (apos.endLine == cpos.line) = true := by rfl) (hs : starEach (e :: es) X.env = (false, eval e X.env) :: starEach es X.env := by rfl) (hplain : (backTo cpos (starEach es X.env)).any (·.1) = false := by rfl) :
    PE X (.Call (.Attribute o name apos) (e :: es) [] cpos) (tBM X.K T r to t) := by
  intro pins s σ H Q I h
  refine wpAny_Call_method_late hbase hfew hline rfl (thn (ho pins s σ H _ I h) fun v s1 ⟨x, H1, I1, r1, ty, q1⟩ => ?_)
  obtain ⟨h1, h2⟩ := tyV_is I1 r1 ty
  refine ⟨T, id, pa, slot, hty, h1, h2, ?_⟩
  have hA := ha cpos pins s1 σ H1 _ I1 q1
  rw [hs] at hA ⊢
  refine Calls.callWith_builtin (by show (false || (backTo cpos (starEach es X.env)).any (·.1)) = false; rw [hplain] <;> rfl) (Calls.evalArgs_plain ?_)
  exact thn hA fun us s2 ⟨vs, H2, I2, r2, q2⟩ => hm pins s2 σ H2 x vs v us Q I2 r1 r2 q2
end
end L2
namespace L2
open PySem PySem.Spec PyProof.Rows
noncomputable def MtM (X : Cx) (id : String) (r : V → List V → Hp → VK → Prop) : Prop :=
  ∀ (pins : List (Addr × Obj)) (s : Shared) (σ : St) (H : Hp) (x : V) (xs : List V) (v : Value) (us : List Value) (Q : VK), Inv X pins σ H s → RelV x v → Vals xs us → r x xs H Q →
    wpAny (model X.prog X.w) X.A (call (.builtin id) (v :: us)) (EP X pins σ Q) X.xe s
theorem Vals.one {x : V} {us : List Value} (h : Vals [x] us) : ∃ u, us = [u] ∧ RelV x u := by
  cases h with
  | cons r t => cases t; exact ⟨_, rfl, r⟩
theorem Vals.two {x y : V} {us : List Value} (h : Vals [x, y] us) : ∃ u v, us = [u, v] ∧ RelV x u ∧ RelV y v := by
  cases h with
  | cons r t =>
    obtain ⟨v, rfl, q⟩ := Vals.one t
    exact ⟨_, _, rfl, r, q⟩
theorem Vals.zero : ∀ {us : List Value}, Vals [] us → us = []
  | _, .nil => rfl
theorem Vals.dropLast {xs : List V} {us : List Value} (h : Vals xs us) : Vals xs.dropLast us.dropLast := by
  induction h with
  | nil => exact .nil
  | cons r t ih =>
    cases t with
    | nil => exact .nil
    | cons q t' => exact .cons r ih
theorem Vals.eraseIdx : ∀ {xs : List V} {us : List Value} (i : Nat), Vals xs us → Vals (xs.eraseIdx i) (us.eraseIdx i)
  | _, _, _, .nil => .nil
  | _, _, 0, .cons _ t => t
  | _, _, i + 1, .cons r t => .cons r (Vals.eraseIdx i t)
theorem Vals.reverse {xs : List V} {us : List Value} (h : Vals xs us) : Vals xs.reverse us.reverse := by
  induction h with
  | nil => exact .nil
  | cons r t ih => rw [List.reverse_cons, List.reverse_cons]; exact Vals.append ih (.cons r .nil)
theorem Vals.rep {xs : List V} {us : List Value} (h : Vals xs us) : ∀ k : Nat, Vals (List.replicate k xs).flatten (List.replicate k us).flatten
  | 0 => .nil
  | k + 1 => by
    rw [List.replicate_succ, List.replicate_succ, List.flatten_cons, List.flatten_cons]
    exact Vals.append h (Vals.rep h k)
theorem foldl_rep (its : List Value) : ∀ (k : Nat) (acc : List Value),
    List.foldl (fun x1 x2 => x1 ++ x2) acc.toArray (List.replicate k its.toArray) = (acc ++ (List.replicate k its).flatten).toArray
  | 0, acc => by simp
  | k + 1, acc => by
    have e : acc.toArray ++ its.toArray = (acc ++ its).toArray := by simp
    have e2 : (acc ++ its) ++ (List.replicate k its).flatten = acc ++ (List.replicate (k + 1) its).flatten := by
      rw [List.replicate_succ, List.flatten_cons, List.append_assoc]
    rw [← e2, ← foldl_rep its k (acc ++ its), ← e, List.replicate_succ, List.foldl_cons]
section
variable {X : Cx} {pins : List (Addr × Obj)} {σ : St} {H : Hp} {s : Shared} {l b : Addr} {xs ys zs : List V}
theorem Inv.lset {its its' : List Value} {n : Nat} {f : Array Value → Array Value} {t' : Nat} (I : Inv X pins σ H s) (hH : H l = some (.lst xs))
    (e : s.heap.get? l = some { cls := .type "list", data := .seq its.toArray n }) (hf : f its.toArray = its'.toArray) (hv : Vals ys its') (hz : ys.length ≤ sizeLine) :
    Inv X pins σ (upd H l (.lst ys)) { s with heap := s.heap.update l (Obj.mapSeq f), toks := t' } := by
  have q := PySem.IsL.update e f
  rw [hf] at q
  refine I.write (x := l) (e := l) (by rw [hH]; exact trivial) (.inl rfl) (fun b' u hb hu => (Heap.get?_update_other s.heap (Obj.mapSeq f) (Ne.symm hb)).trans hu) ⟨_, q⟩ ?_
  exact ⟨hz, its', _, hv, q⟩
theorem Inv.lnew {its : List Value} {t' : Nat} (I : Inv X pins σ H s) (hv : Vals ys its) (hz : ys.length ≤ sizeLine) :
    Inv X pins σ (upd H s.heap.objs.size (.lst ys)) { s with heap := s.heap.push { cls := .type "list", data := .seq its.toArray }, toks := t' } :=
  I.laid (fun _ _ q => Heap.get?_push_of_some _ q) (Nat.le_refl _) ⟨hz, its, 0, hv, Heap.get?_push_size _ rfl⟩
theorem Inv.fresh (I : Inv X pins σ H s) : H s.heap.objs.size = none := I.hok.fresh (Nat.le_refl _)
theorem Inv.lstM (I : Inv X pins σ H s) (hH : H l = some (.lst xs)) : xs.length ≤ sizeLine ∧ ∃ (its : List Value) (n : Nat), Vals xs its ∧ xs.length = its.length ∧ s.heap.get? l = some { cls := .type "list", data := .seq its.toArray n } := by
  obtain ⟨z, its, n, r, e⟩ := I.hok l _ hH
  exact ⟨z, its, n, r, r.length, e⟩
theorem notLongL {n : Nat} (h : n ≤ sizeLine) : Builtin.List.listTooLong n = false := by
  unfold Builtin.List.listTooLong
  exact decide_eq_false (by omega)
end
section
variable {X : Cx}
noncomputable def rAppend : V → List V → Hp → VK → Prop := fun x vs H Q => ∃ l xs y, x = .ref l ∧ vs = [y] ∧ H l = some (.lst xs) ∧ xs.length < sizeLine ∧ Q .non (upd H l (.lst (xs ++ [y])))
theorem mt_append : MtM X "list.append" rAppend := by
  intro pins s σ H x vs v us Q I rx rv h
  obtain ⟨l, xs, y, rfl, rfl, hH, hz, q⟩ := h
  cases rx
  obtain ⟨u, rfl, ru⟩ := rv.one
  obtain ⟨z, its, n, r, hl, e⟩ := I.lstM hH
  refine call_meets F.slot_list_append ⟨_, e, rfl⟩ F.entry_list_append (F.args_list_append_2 _ _) (PySem.list_append l its.toArray n u (by rw [List.size_toArray]; omega)) ⟨e, ?_⟩
  refine ⟨.non, _, I.lset (its' := its ++ [u]) hH e (by simp) (r.append (.cons ru .nil)) ?_, rfl, q⟩
  rw [List.length_append, List.length_singleton]
  omega
noncomputable def rExtend : V → List V → Hp → VK → Prop := fun x vs H Q => ∃ l b xs zs, x = .ref l ∧ vs = [.ref b] ∧ H l = some (.lst xs) ∧ H b = some (.lst zs) ∧ xs.length + zs.length ≤ sizeLine ∧ Q .non (upd H l (.lst (xs ++ zs)))
noncomputable def rPop : V → List V → Hp → VK → Prop := fun x vs H Q => ∃ l xs y, x = .ref l ∧ vs = [] ∧ H l = some (.lst xs) ∧ xs[xs.length - 1]? = some y ∧ Q y (upd H l (.lst xs.dropLast))
noncomputable def rPopAt : V → List V → Hp → VK → Prop := fun x vs H Q => ∃ l xs i k y, x = .ref l ∧ vs = [.int i] ∧ H l = some (.lst xs) ∧ -(2 ^ 63) ≤ i ∧ i < 2 ^ 63 ∧ seqIndex? i xs.length = some k ∧ xs[k]? = some y ∧ Q y (upd H l (.lst (xs.eraseIdx k)))
noncomputable def rReverse : V → List V → Hp → VK → Prop := fun x vs H Q => ∃ l xs, x = .ref l ∧ vs = [] ∧ H l = some (.lst xs) ∧ Q .non (upd H l (.lst xs.reverse))
noncomputable def rClear : V → List V → Hp → VK → Prop := fun x vs H Q => ∃ l xs, x = .ref l ∧ vs = [] ∧ H l = some (.lst xs) ∧ Q .non (upd H l (.lst []))
noncomputable def rCat : R2 := fun x y H Q => ∃ l b xs zs, x = .ref l ∧ y = .ref b ∧ H l = some (.lst xs) ∧ H b = some (.lst zs) ∧ xs.length + zs.length ≤ sizeLine ∧ ∀ p, H p = none → Q (.ref p) (upd H p (.lst (xs ++ zs)))
theorem op_cat : OpR X (binaryOp .Add) rCat := by
  intro pins s σ H x y v u Q I rx ry h
  obtain ⟨l, b, xs, zs, rfl, rfl, hH, hB, hz, q⟩ := h
  cases rx
  cases ry
  obtain ⟨z, its, n, r, hl, e⟩ := I.lstM hH
  obtain ⟨z2, its2, n2, r2, hl2, e2⟩ := I.lstM hB
  refine PySem.P.add_list e e2 ?_ (by rw [List.size_toArray, List.size_toArray]; omega)
  have ea : its.toArray ++ its2.toArray = (its ++ its2).toArray := by simp
  rw [ea]
  exact ⟨.ref _, _, I.lnew (t' := s.toks) (r.append r2) (by rw [List.length_append]; omega), rfl, q _ I.fresh⟩
noncomputable def rRep : R2 := fun x y H Q => ∃ l k xs, x = .ref l ∧ y = .int k ∧ H l = some (.lst xs) ∧ -(2 ^ 63) ≤ k ∧ k < 2 ^ 63 ∧ xs.length * k.toNat ≤ sizeLine ∧
  ∀ p, H p = none → Q (.ref p) (upd H p (.lst (List.replicate k.toNat xs).flatten))
theorem len_rep {α : Type} (xs : List α) (k : Nat) : (List.replicate k xs).flatten.length = k * xs.length := by
  induction k with
  | zero => simp
  | succ k ih => rw [List.replicate_succ, List.flatten_cons, List.length_append, ih, Nat.succ_mul, Nat.add_comm]
theorem op_rep : OpR X (binaryOp .Mult) rRep := by
  intro pins s σ H x y v u Q I rx ry h
  obtain ⟨l, k, xs, rfl, rfl, hH, h1, h2, hz, q⟩ := h
  cases rx
  obtain ⟨t, rfl⟩ := ry
  obtain ⟨z, its, n, r, hl, e⟩ := I.lstM hH
  have hlen : its.toArray.size * k.toNat ≤ sizeLine := by rw [List.size_toArray, ← hl]; exact hz
  have hcap : ¬ its.toArray.size * k.toNat > (2 ^ 63 - 1) / 8 := by
    have : (sizeLine : Nat) ≤ (2 ^ 63 - 1) / 8 := by decide
    omega
  have hfit : ¬ (!Builtin.List.listFitsIndex k) = true := by
    rw [fitsIndex_both h1 h2]
    exact Bool.false_ne_true
  have hlong : ¬ Builtin.List.listTooLong (its.toArray.size * k.toNat) = true := by
    rw [notLongL hlen]
    exact Bool.false_ne_true
  have hnew : List.foldl (fun x1 x2 => x1 ++ x2) #[] (List.replicate (if its.toArray.isEmpty = true then 0 else k.toNat) its.toArray) = (List.replicate k.toNat its).flatten.toArray := by
    have f0 : ∀ m : Nat, List.foldl (fun x1 x2 => x1 ++ x2) #[] (List.replicate m its.toArray) = (List.replicate m its).flatten.toArray := fun m => by
      have := foldl_rep its m []
      rw [List.nil_append] at this
      exact this
    rw [f0]
    cases its with
    | nil => simp
    | cons a r' => rw [if_neg (by simp)]
  refine wpAny_binaryOp_repeat_ref (T := "list") (U := "int") (by decide) ⟨_, e, rfl⟩ (fun s' => typeIs_int s' k t) noFill_list_mul F.fills_int_mul F.slot_int_rmul repeat_list F.slot_int_index.lookup
    (call_meets F.slot_int_rmul (typeIs_int s k t) F.entry_int_rmul (F.args_int_rmul_2 _ _) (int___rmul___int_list k t l its.toArray n)
      ⟨e, rfl, ⟨_, e, rfl⟩, call_meets F.slot_list_mul ⟨_, e, rfl⟩ F.entry_list_mul (F.args_list_mul_2 _ _) (AutoListH.list___mul___list_int_3 l its.toArray n k t hfit hcap hlong) ⟨e, ?_⟩⟩)
  rw [hnew]
  exact ⟨.ref _, _, I.lnew (t' := s.toks) (r.rep k.toNat) (by rw [len_rep, Nat.mul_comm]; exact hz), rfl, q _ I.fresh⟩
end
section
variable {prog : Program} {w : World} {A : Around} {E : Value → Shared → Prop} {s : Shared}
set_option maxRecDepth 100000 in
end
section
variable {X : Cx}
end
end L2
namespace Att
open PySem PySem.W PySem.Calls PyProof.Rows
theorem ints_of_wellAll {P : Params} {h : Heap} : ∀ (ns : List Int) (vs : List Value), WellAll P h vs (ns.map WData.int) → IntsAre vs ns := by
  intro ns
  induction ns with
  | nil =>
    intro vs w
    rw [List.map_nil] at w
    cases w
    exact .nil
  | cons n ns ih =>
    intro vs w
    rw [List.map_cons] at w
    cases w with
    | cons a b =>
      cases a
      exact .cons _ _ (ih _ b)
theorem script_of {l : OpenLaw} {n : Nat} (hn : l.most = some n) {P : Params} {h : Heap} {args : List WData} {vals : List Value}
    (hpre : l.row.toRowW.claim.pre args = true) (hwl : WellAll P h vals args) :
    ∃ a vs ns, vals = [Value.ref a] ∧ args = [WData.list (ns.map WData.int)] ∧ h.get? a = some { cls := .type "list", data := .seq vs.toArray } ∧ IntsAre vs ns ∧ ns.length ≤ n := by
  have hsh : WShape.hasAll [] args [.list .int] = true := (pre_splitW hpre).1
  have hc : l.pre.holds [] { args := args } = true := (pre_splitW hpre).2
  obtain ⟨d, r, rfl, h1, h2⟩ := hasAllW_cons hsh
  obtain rfl := hasAllW_nil h2
  obtain ⟨xs, rfl, h3⟩ := hasW_list h1
  obtain ⟨ns, rfl⟩ := items_int h3
  have hlen : ns.length ≤ n := by
    unfold OpenLaw.pre at hc
    have h4 : (WTm.not (.lt (.lit (.int (n : Int))) (.len (.arg 0)))).holds [] { args := [.list (ns.map .int)] } = true := by
      have h4 := (holds_andW hc).1
      rw [hn] at h4
      exact h4
    have h5 := condW_of h4 (w_not (w_lt w_lit (w_len_list (w_arg rfl))))
    rw [List.length_map] at h5
    refine Nat.le_of_not_lt fun q => ?_
    have q' : (n : Int) < ((ns.length : Nat) : Int) := by omega
    first
      | (rw [decide_eq_true q'] at h5; exact absurd h5 (by decide))
      | (simp at h5; omega)
  cases hwl with
  | cons w1 w2 =>
    cases w2
    cases w1 with
    | list ho hall => exact ⟨_, _, ns, rfl, rfl, ho, ints_of_wellAll ns _ hall, hlen⟩
theorem post_true (l : OpenLaw) (args : List WData) : l.row.toRowW.claim.post args (.bool true) args = true :=
  postW_of (r := l.row.toRowW) (X := (true == true))
    (show WShape.has [] (.bool true) .bool = true by first | rfl | decide | simp [WShape.has, WShape.arms, WShape.armsAll])
    (show (WTm.eq .res (.lit (.bool true))).value [] { args := args, res := some (.bool true), after := args } = some (.bool (true == true)) from w_eq_bool (w_res rfl) w_lit) rfl
theorem attach_call {l : OpenLaw} {n : Nat} {q : Program} {loose : List Str} {XP : (Str → Option Value) → Heap → Prop} {YP : World → Heap → Prop} {d : DefRec}
    (hn : l.most = some n) (hdf : d.params.defaults = [])
    (call : ∀ (w : World) (s₀ s₁ : Shared) (mg mb : Str → Option Value) (fa : Addr) (o : Obj) (pm cd doc : Value) (a : Addr) (vs : List Value) (ns : List Int),
      Ground q loose [] XP w s₀ mg mb s₁.heap → YP w s₁.heap →
      s₁.heap.get? fa = some o → o.data = .func (docDef d.name d.params d.body d.scope pm cd doc) → s₁.heap.CodeRec cd d.name → mg d.name = some (.ref fa) →
      s₁.heap.get? a = some { cls := .type "list", data := .seq vs.toArray } → IntsAre vs ns → ns.length ≤ n → s₁.gens = #[] →
      codeAny (model l.prog w) callerA (.call (.ref fa) ⟨[.ref a], []⟩) (fun r s' => r = .ok (.ret (.bool true)) ∧ OldK s₁.heap s'.heap ∧ s'.os = s₁.os ∧ AllBare s'.gens) s₁) :
    WalkO q loose XP YP l.row.toRowW d [] (fun f vs => PySem.call f vs) := by
  intro w s₀ s₁ mg mb G Y fa o pm cd doc dV kV ho hd hcd hD hmg hg args vals as hpre hlay hrd hwl hlo
  obtain rfl : dV = .none := Dflts.none hD hdf
  obtain rfl : kV = .none := Dflts.noKw hD
  obtain ⟨a, vs, ns, rfl, rfl, hobj, hints, hlen⟩ := script_of hn hpre hwl
  refine enter_call (codeAny_mono (call w s₀ s₁ mg mb fa o pm cd doc a vs ns G Y ho (fd_plain hd) hcd hmg hobj hints hlen hg) fun r s' hq => ?_)
  obtain ⟨rfl, h2, h3, h4⟩ := hq
  exact ⟨.inl ⟨.bool true, .bool true, [], rfl, fun _ => rfl, .bool true, post_true l _, fun _ => ⟨List.Pairwise.nil, fun _ hm => (nomatch hm)⟩⟩, h2, h3, h4⟩
section
variable {prog : Program} {w : World} {A : Around} {E : Value → Shared → Prop} {s : Shared} {K : Frag}
noncomputable def noObjs (h : Heap) : Heap := { h with objs := #[] }
noncomputable def ledger (h : Heap) (L d : Addr) : List (Addr × Obj) := (List.range h.objs.size).filterMap fun a => if a = L ∨ a = d then none else (h.get? a).map fun o => (a, o)
end
end Att
namespace L2
open PySem PySem.Spec PyProof.Rows
theorem vals_ints : ∀ {vs : List Value} {ns : List Int}, IntsAre vs ns → Vals (ns.map V.int) vs
  | _, _, .nil => .nil
  | _, _, .cons n t h => .cons ⟨t, rfl⟩ (vals_ints h)
noncomputable def Only (H : Hp) : Prop := ∀ b, H b = none ∨ ∃ o xs, H b = some (.frz o (.lst xs))
theorem law_call {P : Program} {w : World} {K : PySem.W.Frag} {mg mb : Str → Option Value} {CX : CXT} {k : Nat} {fa a : Addr} {fd : FuncData} {x : Str} {sp : Sp} {s₁ : Shared} {vs : List Value} {ns : List Int}
    (KX : K.In s₁.heap) (hns : s₁.heap.Ns mainGlobals mg) (hb : s₁.heap.Ns builtinsNs mb) (hbb : ∀ x : Str, x ≠ "__name__" → mb x = bootBuiltins x) (hlim : s₁.heap.NoLimit) (hg : s₁.gens = #[])
    (ha : s₁.heap.get? a = some { cls := .type "list", data := .seq vs.toArray }) (hi : IntsAre vs ns) (hl : ns.length ≤ sizeLine) (hr : Room k callerA)
    (F : ∀ base : Heap, K.In base → base.Ns mainGlobals mg → FnOk P w K mg base CX k fa fd [x] sp) (hbind : ∀ (s : Shared) (u : Value), BindsTo s fd ⟨[u], []⟩ [(x, u)])
    (hsp : ∀ H : Hp, Only H → SqL K H a (ns.map V.int) → sp [.ref a] H (fun v _ => v = .bl true) fun _ _ _ => False)
    (hCX : ∀ H e s', CX [] H s₁ (fun _ _ _ => False) e s' → False) :
    codeAny (model P w) callerA (.call (.ref fa) ⟨[.ref a], []⟩) (fun r s' => r = .ok (.ret (.bool true)) ∧ OldK s₁.heap s'.heap ∧ s'.os = s₁.os ∧ AllBare s'.gens) s₁ := by
  have rv := vals_ints hi
  have lenV := hi.length
  have core : ∀ H : Hp, Only H → SqL K H a (ns.map V.int) → HOk P w H s₁.heap → (∀ b, H b ≠ none → b = a) → (H a ≠ none → K.lookup a = none) →
      codeAny (model P w) callerA (.call (.ref fa) ⟨[.ref a], []⟩) (fun r s' => r = .ok (.ret (.bool true)) ∧ OldK s₁.heap s'.heap ∧ s'.os = s₁.os ∧ AllBare s'.gens) s₁ := by
    intro H hO hS hok hA hK
    have base_of : ∀ {b : Addr} {o : Obj}, s₁.heap.get? b = some o → H b = none → (hidT s₁.heap H).get? b = some o := fun e n => hidT_get e n
    have noA : ∀ {b : Addr} {o : Obj} {es : Array DictEntry} {ep : Nat}, s₁.heap.get? b = some o → o.data = .dict es ep → H b = none := fun {b o es ep} e d => by
      cases q : H b with
      | none => rfl
      | some u =>
        have e' : b = a := hA b (by rw [q]; simp)
        subst e'
        rw [ha] at e; cases e
        have d' : Data.seq vs.toArray _ = Data.dict es ep := d
        cases d'
    have nsK : ∀ {b : Addr} {m : Str → Option Value}, s₁.heap.Ns b m → (hidT s₁.heap H).Ns b m := fun {b m} ⟨o, es, ep, e, d, r⟩ => ⟨o, es, ep, base_of e (noA e d), d, r⟩
    have hKb : K.In (hidT s₁.heap H) := fun b o e => base_of (KX b o e) (by
      cases q : H b with
      | none => rfl
      | some u =>
        have e' : b = a := hA b (by rw [q]; simp)
        subst e'
        rw [hK (by rw [q]; simp)] at e; cases e)
    have hM : Mod K mg (hidT s₁.heap H) := ⟨hKb, nsK hns, ⟨mb, nsK hb, hbb⟩, let ⟨mc, h1, h2⟩ := hlim; ⟨mc, nsK h1, h2⟩⟩
    have e0 : Env0 P w K mg (hidT s₁.heap H) callerA [] s₁ H := ⟨rfl, hM, fun b o e => of_hidT e, Nat.le_of_eq (hidT_size _ _), trivial, fun b hb => absurd (show b ∈ ([] : List Addr) from hb) (by simp), hok, .of_eq hg⟩
    refine codeAny_mono ((F _ hKb (nsK hns)).run callerA [] s₁ H ⟨[.ref a], []⟩ [.ref a] [.ref a] _ _ hr e0 (hbind s₁ (.ref a)) (.cons rfl .nil) (hsp H hO hS)) fun r s' h => ?_
    cases r with
    | error e => exact (hCX H e s' h).elim
    | ok fl =>
      cases fl with
      | next => exact False.elim h
      | brk => exact False.elim h
      | cont => exact False.elim h
      | ret u =>
        obtain ⟨v, H', os, bare, un, hok', r', q⟩ := h
        have q' : v = .bl true := q
        subst q'
        obtain rfl : u = Value.bool true := r'
        refine ⟨rfl, OldK.of_keep fun b o e => ?_, os, bare⟩
        cases q : H b with
        | none => exact un.keep b o e q (by intro z; exact absurd (show b ∈ ([] : List Addr) from z) (by simp)) (by simp)
        | some u =>
          rcases hO b with z | ⟨ob, xs, z⟩
          · rw [q] at z; cases z
          · have z2 := un.frzs b ob _ z
            obtain ⟨e1, _⟩ := hok b _ z
            obtain ⟨e2, _⟩ := hok' b _ z2
            rw [e] at e1; cases e1
            exact e2
  cases hk : K.lookup a with
  | some o =>
    have e := KX a o hk
    rw [ha] at e
    cases e
    refine core (fun _ => none) (fun _ => .inl rfl) (.inr ⟨_, vs.toArray, _, hk, rfl, rfl, rfl, by rw [List.size_toArray, lenV]; exact hl, by simpa using rv⟩) (fun b u z => by have z' : (none : Option HO) = some u := z; cases z') (fun b z => absurd rfl z) fun z => absurd rfl z
  | none =>
    refine core (fun b => if b = a then some (.frz { cls := .type "list", data := .seq vs.toArray } (.lst (ns.map V.int))) else none) (fun b => ?_) (.inl (.inr ⟨{ cls := .type "list", data := .seq vs.toArray }, if_pos rfl⟩)) (fun b u z => ?_) (fun b z => ?_) fun _ => hk
    · by_cases hb : b = a
      · exact .inr ⟨_, _, if_pos hb⟩
      · exact .inl (if_neg hb)
    · by_cases hb : b = a
      · have z' := (if_pos hb).symm.trans z
        cases z'
        subst hb
        exact ⟨ha, by rw [List.length_map]; exact hl, vs, _, rv, ha⟩
      · have z' := (if_neg hb).symm.trans z
        cases z'
    · by_cases hb : b = a
      · exact hb
      · exact absurd (if_neg hb) z
end L2
namespace L2
open PySem PySem.Spec PyProof.Rows
noncomputable abbrev KOf {K : PySem.W.Frag} {h : Heap} (_ : K.In h) : PySem.W.Frag := K
theorem walk_of {l : PySem.W.OpenLaw} {n k : Nat} {q : Program} {loose : List Str} {XP : (Str → Option Value) → Heap → Prop} {YP : World → Heap → Prop} {d : DefRec} {K : Params → PySem.W.Frag} {CX : World → CXT} {sp : World → Sp} {x : Str}
    (hn : l.most = some n) (hn2 : n ≤ sizeLine) (hdf : d.params.defaults = []) (hr : Room k callerA)
    (hY : ∀ (w : World) (h : Heap), YP w h → (K w.params).In h)
    (F : ∀ (w : World) (mg : Str → Option Value) (fa : Addr) (h : Heap), (K w.params).In h → h.Ns mainGlobals mg → mg d.name = some (.ref fa) →
      ∃ fd : FuncData, (∀ (s : Shared) (u : Value), BindsTo s fd ⟨[u], []⟩ [(x, u)]) ∧
        ∀ base : Heap, (K w.params).In base → base.Ns mainGlobals mg → FnOk l.prog w (K w.params) mg base (CX w) k fa fd [x] (sp w))
    (hsp : ∀ (w : World) (H : Hp) (a : Addr) (ns : List Int), ns.length ≤ n → Only H → SqL (K w.params) H a (ns.map V.int) → sp w [.ref a] H (fun v _ => v = .bl true) fun _ _ _ => False)
    (hCX : ∀ (w : World) (H : Hp) (s : Shared) (e : Value) (s' : Shared), CX w [] H s (fun _ _ _ => False) e s' → False) :
    PySem.W.WalkO q loose XP YP l.row.toRowW d [] (fun f vs => PySem.call f vs) := by
  refine Att.attach_call hn hdf fun w s₀ s₁ mg mb fa o pm cd doc a vs ns G Y ho hd hcd hmg hobj hints hlen hg => ?_
  have KX := hY w _ Y
  obtain ⟨fd, hb, hF⟩ := F w mg fa _ KX G.T.g hmg
  exact law_call KX G.T.g G.T.b G.T.builtins G.T.nolimit hg hobj hints (Nat.le_trans hlen hn2) hr hF hb (fun H hO hS => hsp w H a ns hlen hO hS) fun H e s' => hCX w H s₁ e s'
end L2
namespace L2
open PySem PySem.Spec PyProof.Rows
noncomputable def inClass (s : Stmt) (j : Nat) : Stmt := match s with
  | .ClassDef _ _ _ body _ _ _ _ _ _ _ => body.getD j (.Pass ⟨0, 0, 0, 0⟩)
  | _ => .Pass ⟨0, 0, 0, 0⟩
noncomputable def defArgs (s : Stmt) : Arguments := match s with
  | .FunctionDef _ a _ _ _ _ _ _ _ _ => a
  | _ => { posonlyargs := [], args := [], vararg := none, kwonlyargs := [], kw_defaults := [], kwarg := none, defaults := [] }
noncomputable def defBody (s : Stmt) : List Stmt := match s with
  | .FunctionDef _ _ b _ _ _ _ _ _ _ => b
  | _ => []
noncomputable def defScope (s : Stmt) : Scope := match s with
  | .FunctionDef _ _ _ _ _ _ sc _ _ _ => sc
  | _ => { kind := .function, names := [], isGenerator := false, isCoroutine := false }
noncomputable abbrev CX0 : CXT := fun _ _ _ _ _ _ => False
noncomputable abbrev E0 : XK := fun _ _ _ => False
theorem pass0 {X : Cx} : Passes CX0 X E0 := fun _ _ _ _ _ _ _ h => h.elim
structure Fun (K : PySem.W.Frag) (x qual : Str) (st : Stmt) (f : Addr) (fd : FuncData) : Prop where
  ex : ∃ (oc : Value) (od : Option Addr) (kV doc pm : Value) (an : Option Addr) (cdv ct : Value) (osl : Array (Option Value)),
    fd = PySem.W.fnOf x qual (defArgs st) (defBody st) (defScope st) .none kV doc pm an cdv ct ∧ K.lookup f = some ⟨oc, od, .func fd, osl⟩ ∧ PySem.W.codeIn K cdv qual = true
  kp : PySem.W.keepIn K (.ref f) = true
section
variable {P : Program} {w : World} {K : PySem.W.Frag} {mg : Str → Option Value} {base : Heap}
theorem Fun.ok {x qual : Str} {st : Stmt} {f : Addr} {fd : FuncData} {N ps : List Str} {k : Nat} {sp : Sp} (F : Fun K x qual st f fd) (S : FnScope N ps (defScope st)) (len : ∀ vs H Q E, sp vs H Q E → vs.length = ps.length)
    (hbody : ∀ (cdv : Value) (A : Around) (outer : List Env) (s : Shared) (H : Hp) (vs : List V) (Q : VK) (E : XK), Room k (A.deeper (envOfC qual (defScope st) s.heap.objs.size f cdv)) → sp vs H Q E →
      ∃ t, PSs (cxOf CX0 P w K mg base N qual (defScope st) f cdv A outer s H E).nox (defBody st) t ∧ t { nx := fun _ H' => Q .non H', rt := Q } (start N vs) H) : FnOk P w K mg base CX0 (k + 1) f fd ps sp := by
  obtain ⟨oc, od, kV, doc, pm, an, cdv, ct, osl, rfl, lk, hcd⟩ := F.ex
  refine fn_of lk hcd S len fun A outer s H vs Q E hr hsp => ?_
  obtain ⟨t, h, q⟩ := hbody cdv A outer s H vs Q E hr hsp
  exact ⟨t, h.nox, q⟩
theorem Fun.binds {x qual : Str} {st : Stmt} {f : Addr} {fd : FuncData} {ps : List Str} (F : Fun K x qual st f fd)
    (h : ∀ (kV doc pm : Value) (an : Option Addr) (cdv ct : Value) (us : List Value), us.length = ps.length → bindArgs (PySem.W.fnOf x qual (defArgs st) (defBody st) (defScope st) .none kV doc pm an cdv ct) ⟨us, []⟩ = pure (ps.zip us)) : Binds K fd ps [] := by
  obtain ⟨oc, od, kV, doc, pm, an, cdv, ct, osl, rfl, lk, hcd⟩ := F.ex
  exact .all (h kV doc pm an cdv ct)
theorem fun_mk {x qual : Str} {st : Stmt} {f : Addr} {oc : Value} {od an : Option Addr} {osl : Array (Option Value)} {kV doc pm cdv ct : Value} (l : K.lookup f = some ⟨oc, od, .func (PySem.W.fnOf x qual (defArgs st) (defBody st) (defScope st) .none kV doc pm an cdv ct), osl⟩)
    (c : PySem.W.codeIn K cdv qual = true) (k : PySem.W.keepIn K (.ref f) = true) : Fun K x qual st f (PySem.W.fnOf x qual (defArgs st) (defBody st) (defScope st) .none kV doc pm an cdv ct) := ⟨⟨oc, od, kV, doc, pm, an, cdv, ct, osl, rfl, l, c⟩, k⟩
end
theorem small1000 {n : Nat} (h : n ≤ 1000) : n < sizeLine := Nat.lt_of_le_of_lt h (by decide)
section
variable {X : Cx}
theorem pv (i : Nat) {x : Str} {pos : Pos} (hN : X.N[i]? = some x := by rfl) (hv : Vis X.env.scope x := by first | exact Or.inl rfl | exact Or.inr (Or.inl rfl) | exact Or.inr (Or.inr rfl)) (hd : (x == ("__debug__" : Str)) = false := by decide)
    (hcd : (x == ("__classdict__" : Str)) = false := by decide) : PE X (.Name x pos) (tVar i) := pe_var hN hv hd hcd
end
theorem iteF {A B : Prop} (h : B) : if false = true then A else B := by
  rw [if_neg Bool.false_ne_true]
  exact h
theorem iteT {A B : Prop} (h : A) : if true = true then A else B := by
  rw [if_pos rfl]
  exact h
theorem ite2 {c A B : Prop} [Decidable c] (h1 : c → A) (h2 : ¬ c → B) : if c then A else B := by
  by_cases h : c
  · rw [if_pos h]
    exact h1 h
  · rw [if_neg h]
    exact h2 h
noncomputable def Same (H H' : Hp) : Prop := ∀ b o, H b = some o → H' b = some o
theorem Same.refl (H : Hp) : Same H H := fun _ _ h => h
theorem Same.trans {H H1 H2 : Hp} (a : Same H H1) (b : Same H1 H2) : Same H H2 := fun c o h => b c o (a c o h)
theorem Same.free {H H' : Hp} (e : Same H H') {l : Addr} (h : H' l = Option.none) : H l = Option.none := by
  cases q : H l with
  | none => rfl
  | some o =>
    rw [e l o q] at h
    cases h
theorem Same.seq {K : PySem.W.Frag} {H H' : Hp} {a : Addr} {xs : List V} (e : Same H H') (h : SqL K H a xs) : SqL K H' a xs := by
  rcases h with (h | ⟨o, h⟩) | h
  · exact .inl (.inl (e _ _ h))
  · exact .inl (.inr ⟨o, e _ _ h⟩)
  · exact .inr h
end L2
set_option Elab.async false
set_option linter.all false
set_option maxRecDepth 100000
set_option maxHeartbeats 4000000
namespace L2
open PySem PySem.Spec PyProof.Rows
theorem scal_ii (i j : Int) : scal (.int i) (.int j) = true := rfl
theorem scal_bb (i j : Bool) : scal (.bl i) (.bl j) = true := rfl
theorem scal_ss (i j : Str) : scal (.str i) (.str j) = true := rfl
theorem scal_ni (i : Int) : scal .non (.int i) = true := rfl
theorem scal_in (i : Int) : scal (.int i) .non = true := rfl
theorem log2_small {i : Int} (h : i.natAbs < 10 ^ 100) : i.natAbs.log2 < 400 := by
  by_cases h0 : i.natAbs = 0
  · rw [h0]; decide
  · exact (Nat.log2_lt h0).mpr (Nat.lt_of_lt_of_le h (by decide +kernel))
theorem bits_small {i : Int} (h : i.natAbs < 10 ^ 100) : Builtin.Int.intBits i ≤ 2 ^ 20 := by
  unfold Builtin.Int.intBits
  split
  · exact Nat.zero_le _
  · have := log2_small h
    have e : (2 : Nat) ^ 20 = 1048576 := by decide
    omega
noncomputable def CMulB (i j : Int) : Prop := CMul i j ∨ (i.natAbs < 10 ^ 100 ∧ j.natAbs < 10 ^ 100)
theorem CMulB.ok {i j : Int} (h : CMulB i j) : IntMulOk i j := by
  rcases h with h | h
  · exact h.ok
  · exact .of_bits (bits_small h.1) (bits_small h.2)
noncomputable def CDivB (i j : Int) : Prop := 0 < j ∧ j.natAbs < 10 ^ 100
section
variable {X : Cx}
theorem op_mulB : OpR X (binaryOp .Mult) (rI CMulB fun i j => .int (i * j)) := opI fun _ _ _ _ _ _ _ hc q => mul_int q hc.ok
theorem op_fdivB : OpR X (binaryOp .FloorDiv) (rI CDivB fun i j => .int (i / j)) := opI fun i j _ _ _ _ _ hc q => by
  have e : i.fdiv j = i / j := Int.fdiv_eq_ediv_of_nonneg i (Int.le_of_lt hc.1)
  refine floordiv_int (by have := hc.1; omega) ?_ (.inl (PyProof.noPylong_of_log2 (Nat.lt_trans (log2_small hc.2) (by decide))))
  rw [e]
  exact q
noncomputable def KitV (X : Cx) (pins : List (Addr × Obj)) (σ : St) (H : Hp) (s : Shared) (u t : Value) : Prop := ∃ Hh : Heap → Prop, PySem.W.KitX X.K u t Hh ∧ Hh s.heap ∧ u ≠ .builtin "__main__.__loader__#opaque"
theorem TyOf.kit {pins : List (Addr × Obj)} {σ : St} {H : Hp} {s : Shared} {x : V} {u t : Value} (ty : TyOf X.K H x t) (I : Inv X pins σ H s) (rx : RelV x u) : KitV X pins σ H s u t := by
  cases ty with
  | non => cases (show u = Value.none from rx); exact ⟨_, PySem.W.kitx_none, True.intro, fun z => nomatch z⟩
  | bl y => cases (show u = Value.bool y from rx); exact ⟨_, PySem.W.kitx_bool, True.intro, fun z => nomatch z⟩
  | int i => obtain ⟨t, q⟩ := (show ∃ t, u = Value.int i t from rx); cases q; exact ⟨_, PySem.W.kitx_int, True.intro, fun z => nomatch z⟩
  | str y => obtain ⟨t, q⟩ := (show ∃ t, u = Value.str y t from rx); cases q; exact ⟨_, PySem.W.kitx_str, True.intro, fun z => nomatch z⟩
  | flt y => obtain ⟨t, q⟩ := (show ∃ t, u = Value.float y t from rx); cases q; exact ⟨_, PySem.W.kitx_float, True.intro, fun z => nomatch z⟩
  | @lst a xs ea =>
    cases (show u = Value.ref a from rx)
    obtain ⟨_, _, n, _, h1⟩ := (show ObjOk X.prog X.w H s.heap a (.lst xs) from I.hok a _ ea)
    exact ⟨_, PySem.W.kitx_list, ⟨_, h1, rfl⟩, fun z => nomatch z⟩
  | @frz a ob xs ea =>
    cases (show u = Value.ref a from rx)
    obtain ⟨_, _, _, n, _, h1⟩ := (show ObjOk X.prog X.w H s.heap a (.frz ob (.lst xs)) from I.hok a _ ea)
    exact ⟨_, PySem.W.kitx_list, ⟨_, h1, rfl⟩, fun z => nomatch z⟩
  | @tup a xs ea =>
    cases (show u = Value.ref a from rx)
    obtain ⟨_, _, _, p⟩ := (show ObjOk X.prog X.w H s.heap a (.tup xs) from I.hok a _ ea)
    obtain ⟨o, h1, h2, _⟩ := p
    exact ⟨_, PySem.W.kitx_tuple, ⟨o, h1, h2⟩, fun z => nomatch z⟩
  | @dK a kvs ea =>
    cases (show u = Value.ref a from rx)
    obtain ⟨_, _, vs, _, p⟩ := (show ObjOk X.prog X.w H s.heap a (.dK kvs) from I.hok a _ ea)
    obtain ⟨o, es, ep, h1, h2, _⟩ := p
    exact ⟨_, PySem.W.kitx_dict, ⟨o, h1, h2.1⟩, fun z => nomatch z⟩
  | @dT a kvs ea =>
    cases (show u = Value.ref a from rx)
    obtain ⟨_, _, xs, _, o, es, ep, h1, h2, _⟩ := (show ObjOk X.prog X.w H s.heap a (.dT kvs) from I.hok a _ ea)
    exact ⟨_, PySem.W.kitx_dict, ⟨o, h1, h2.1⟩, fun z => nomatch z⟩
  | @ins a C dx fs ea cl ha hn htk hm =>
    cases (show u = Value.ref a from rx)
    obtain ⟨mA, O, _⟩ := ins_get I.hok ea
    obtain ⟨od, J, _⟩ := O.look
    exact ⟨_, PySem.W.kitx_own (cl.get _) cl.hd ha hn htk hm, J, fun z => nomatch z⟩
noncomputable def clsV : V → Option Value
  | .ty n => some (.type n)
  | .ref a => some (.ref a)
  | _ => none
theorem clsV_rel {c : V} {u u' : Value} (h : clsV c = some u) (r : RelV c u') : u' = u := by
  cases c with
  | ty n => cases h; exact r
  | ref a => cases h; exact r
  | _ => cases h
noncomputable def rIsi (K : PySem.W.Frag) : List V → Hp → VK → Prop := fun xs H Q => ∃ x t c u b, xs = [x, c] ∧ TyOf K H x t ∧ clsV c = some u ∧ PySem.W.kitOne K t u = some b ∧ Q (.bl b) H
theorem call_isinst : CallR X (.builtin "isinstance") (rIsi X.K) := by
  intro pins s σ H xs us Q I r h
  obtain ⟨x, t, c, u', b, rfl, ty, ec, e, q⟩ := h
  obtain ⟨u, w', rfl, rx, rc⟩ := vals2 r
  obtain rfl := clsV_rel ec rc
  obtain ⟨Hh, Z, p, hx⟩ := ty.kit I rx
  exact PySem.W.kia_one Z I.kIn p e hx fun tk => ⟨.bl b, H, I.tok tk, rfl, q⟩
noncomputable def rIsi2 (K : PySem.W.Frag) : List V → Hp → VK → Prop := fun xs H Q => ∃ x t p c1 c2 u1 u2 b, xs = [x, .ref p] ∧ H p = some (.tup [c1, c2]) ∧ TyOf K H x t ∧ clsV c1 = some u1 ∧ clsV c2 = some u2 ∧ PySem.W.kitAny K t [u1, u2] = some b ∧ Q (.bl b) H
theorem kit_NoneType_int (K : PySem.W.Frag) : PySem.W.kitOne K (.type "NoneType") (.type "int") = some false := by kernel_rfl
theorem kit_NoneType_bool (K : PySem.W.Frag) : PySem.W.kitOne K (.type "NoneType") (.type "bool") = some false := by kernel_rfl
theorem kit_NoneType_tuple (K : PySem.W.Frag) : PySem.W.kitOne K (.type "NoneType") (.type "tuple") = some false := by kernel_rfl
theorem kit_NoneType_list (K : PySem.W.Frag) : PySem.W.kitOne K (.type "NoneType") (.type "list") = some false := by kernel_rfl
theorem kit_NoneType_str (K : PySem.W.Frag) : PySem.W.kitOne K (.type "NoneType") (.type "str") = some false := by kernel_rfl
theorem kit_NoneType_dict (K : PySem.W.Frag) : PySem.W.kitOne K (.type "NoneType") (.type "dict") = some false := by kernel_rfl
theorem kit_bool_int (K : PySem.W.Frag) : PySem.W.kitOne K (.type "bool") (.type "int") = some true := by kernel_rfl
theorem kit_bool_bool (K : PySem.W.Frag) : PySem.W.kitOne K (.type "bool") (.type "bool") = some true := by kernel_rfl
theorem kit_bool_tuple (K : PySem.W.Frag) : PySem.W.kitOne K (.type "bool") (.type "tuple") = some false := by kernel_rfl
theorem kit_bool_list (K : PySem.W.Frag) : PySem.W.kitOne K (.type "bool") (.type "list") = some false := by kernel_rfl
theorem kit_bool_str (K : PySem.W.Frag) : PySem.W.kitOne K (.type "bool") (.type "str") = some false := by kernel_rfl
theorem kit_bool_dict (K : PySem.W.Frag) : PySem.W.kitOne K (.type "bool") (.type "dict") = some false := by kernel_rfl
theorem kit_int_int (K : PySem.W.Frag) : PySem.W.kitOne K (.type "int") (.type "int") = some true := by kernel_rfl
theorem kit_int_bool (K : PySem.W.Frag) : PySem.W.kitOne K (.type "int") (.type "bool") = some false := by kernel_rfl
theorem kit_int_tuple (K : PySem.W.Frag) : PySem.W.kitOne K (.type "int") (.type "tuple") = some false := by kernel_rfl
theorem kit_int_list (K : PySem.W.Frag) : PySem.W.kitOne K (.type "int") (.type "list") = some false := by kernel_rfl
theorem kit_int_str (K : PySem.W.Frag) : PySem.W.kitOne K (.type "int") (.type "str") = some false := by kernel_rfl
theorem kit_int_dict (K : PySem.W.Frag) : PySem.W.kitOne K (.type "int") (.type "dict") = some false := by kernel_rfl
theorem kit_str_int (K : PySem.W.Frag) : PySem.W.kitOne K (.type "str") (.type "int") = some false := by kernel_rfl
theorem kit_str_bool (K : PySem.W.Frag) : PySem.W.kitOne K (.type "str") (.type "bool") = some false := by kernel_rfl
theorem kit_str_tuple (K : PySem.W.Frag) : PySem.W.kitOne K (.type "str") (.type "tuple") = some false := by kernel_rfl
theorem kit_str_list (K : PySem.W.Frag) : PySem.W.kitOne K (.type "str") (.type "list") = some false := by kernel_rfl
theorem kit_str_str (K : PySem.W.Frag) : PySem.W.kitOne K (.type "str") (.type "str") = some true := by kernel_rfl
theorem kit_str_dict (K : PySem.W.Frag) : PySem.W.kitOne K (.type "str") (.type "dict") = some false := by kernel_rfl
theorem kit_float_int (K : PySem.W.Frag) : PySem.W.kitOne K (.type "float") (.type "int") = some false := by kernel_rfl
theorem kit_float_bool (K : PySem.W.Frag) : PySem.W.kitOne K (.type "float") (.type "bool") = some false := by kernel_rfl
theorem kit_float_tuple (K : PySem.W.Frag) : PySem.W.kitOne K (.type "float") (.type "tuple") = some false := by kernel_rfl
theorem kit_float_list (K : PySem.W.Frag) : PySem.W.kitOne K (.type "float") (.type "list") = some false := by kernel_rfl
theorem kit_float_str (K : PySem.W.Frag) : PySem.W.kitOne K (.type "float") (.type "str") = some false := by kernel_rfl
theorem kit_float_dict (K : PySem.W.Frag) : PySem.W.kitOne K (.type "float") (.type "dict") = some false := by kernel_rfl
theorem kit_list_int (K : PySem.W.Frag) : PySem.W.kitOne K (.type "list") (.type "int") = some false := by kernel_rfl
theorem kit_list_bool (K : PySem.W.Frag) : PySem.W.kitOne K (.type "list") (.type "bool") = some false := by kernel_rfl
theorem kit_list_tuple (K : PySem.W.Frag) : PySem.W.kitOne K (.type "list") (.type "tuple") = some false := by kernel_rfl
theorem kit_list_list (K : PySem.W.Frag) : PySem.W.kitOne K (.type "list") (.type "list") = some true := by kernel_rfl
theorem kit_list_str (K : PySem.W.Frag) : PySem.W.kitOne K (.type "list") (.type "str") = some false := by kernel_rfl
theorem kit_list_dict (K : PySem.W.Frag) : PySem.W.kitOne K (.type "list") (.type "dict") = some false := by kernel_rfl
theorem kit_tuple_int (K : PySem.W.Frag) : PySem.W.kitOne K (.type "tuple") (.type "int") = some false := by kernel_rfl
theorem kit_tuple_bool (K : PySem.W.Frag) : PySem.W.kitOne K (.type "tuple") (.type "bool") = some false := by kernel_rfl
theorem kit_tuple_tuple (K : PySem.W.Frag) : PySem.W.kitOne K (.type "tuple") (.type "tuple") = some true := by kernel_rfl
theorem kit_tuple_list (K : PySem.W.Frag) : PySem.W.kitOne K (.type "tuple") (.type "list") = some false := by kernel_rfl
theorem kit_tuple_str (K : PySem.W.Frag) : PySem.W.kitOne K (.type "tuple") (.type "str") = some false := by kernel_rfl
theorem kit_tuple_dict (K : PySem.W.Frag) : PySem.W.kitOne K (.type "tuple") (.type "dict") = some false := by kernel_rfl
theorem kit_dict_int (K : PySem.W.Frag) : PySem.W.kitOne K (.type "dict") (.type "int") = some false := by kernel_rfl
theorem kit_dict_bool (K : PySem.W.Frag) : PySem.W.kitOne K (.type "dict") (.type "bool") = some false := by kernel_rfl
theorem kit_dict_tuple (K : PySem.W.Frag) : PySem.W.kitOne K (.type "dict") (.type "tuple") = some false := by kernel_rfl
theorem kit_dict_list (K : PySem.W.Frag) : PySem.W.kitOne K (.type "dict") (.type "list") = some false := by kernel_rfl
theorem kit_dict_str (K : PySem.W.Frag) : PySem.W.kitOne K (.type "dict") (.type "str") = some false := by kernel_rfl
theorem kit_dict_dict (K : PySem.W.Frag) : PySem.W.kitOne K (.type "dict") (.type "dict") = some true := by kernel_rfl
noncomputable def isaB (n c : String) : Bool := n == c || (n == "bool" && c == "int")
theorem TyOf.name {K : PySem.W.Frag} {H : Hp} {x : V} {n : String} (ty : TyOf K H x (.type n)) : n = "NoneType" ∨ n = "bool" ∨ n = "int" ∨ n = "str" ∨ n = "float" ∨ n = "list" ∨ n = "tuple" ∨ n = "dict" := by
  cases ty <;> simp
theorem kit_ty {K : PySem.W.Frag} {n c : String} (hn : n = "NoneType" ∨ n = "bool" ∨ n = "int" ∨ n = "str" ∨ n = "float" ∨ n = "list" ∨ n = "tuple" ∨ n = "dict") (hc : c = "int" ∨ c = "bool" ∨ c = "tuple" ∨ c = "list" ∨ c = "str" ∨ c = "dict") :
    PySem.W.kitOne K (.type n) (.type c) = some (isaB n c) := by
  rcases hn with rfl | rfl | rfl | rfl | rfl | rfl | rfl | rfl <;> rcases hc with rfl | rfl | rfl | rfl | rfl | rfl
  · exact kit_NoneType_int K
  · exact kit_NoneType_bool K
  · exact kit_NoneType_tuple K
  · exact kit_NoneType_list K
  · exact kit_NoneType_str K
  · exact kit_NoneType_dict K
  · exact kit_bool_int K
  · exact kit_bool_bool K
  · exact kit_bool_tuple K
  · exact kit_bool_list K
  · exact kit_bool_str K
  · exact kit_bool_dict K
  · exact kit_int_int K
  · exact kit_int_bool K
  · exact kit_int_tuple K
  · exact kit_int_list K
  · exact kit_int_str K
  · exact kit_int_dict K
  · exact kit_str_int K
  · exact kit_str_bool K
  · exact kit_str_tuple K
  · exact kit_str_list K
  · exact kit_str_str K
  · exact kit_str_dict K
  · exact kit_float_int K
  · exact kit_float_bool K
  · exact kit_float_tuple K
  · exact kit_float_list K
  · exact kit_float_str K
  · exact kit_float_dict K
  · exact kit_list_int K
  · exact kit_list_bool K
  · exact kit_list_tuple K
  · exact kit_list_list K
  · exact kit_list_str K
  · exact kit_list_dict K
  · exact kit_tuple_int K
  · exact kit_tuple_bool K
  · exact kit_tuple_tuple K
  · exact kit_tuple_list K
  · exact kit_tuple_str K
  · exact kit_tuple_dict K
  · exact kit_dict_int K
  · exact kit_dict_bool K
  · exact kit_dict_tuple K
  · exact kit_dict_list K
  · exact kit_dict_str K
  · exact kit_dict_dict K
theorem isi {K : PySem.W.Frag} {H : Hp} {x : V} {n c : String} {Q : VK} (ty : TyOf K H x (.type n)) (q : Q (.bl (isaB n c)) H) (hc : c = "int" ∨ c = "bool" ∨ c = "tuple" ∨ c = "list" ∨ c = "str" ∨ c = "dict" := by decide) : rIsi K [x, .ty c] H Q :=
  ⟨x, _, _, _, _, rfl, ty, rfl, kit_ty ty.name hc, q⟩
theorem isi2 {K : PySem.W.Frag} {H : Hp} {x : V} {n c d : String} {p : Addr} {Q : VK} (ty : TyOf K H x (.type n)) (hp : H p = some (.tup [.ty c, .ty d])) (q : Q (.bl (isaB n c || isaB n d)) H) (hc : c = "int" ∨ c = "bool" ∨ c = "tuple" ∨ c = "list" ∨ c = "str" ∨ c = "dict" := by decide)
    (hd : d = "int" ∨ d = "bool" ∨ d = "tuple" ∨ d = "list" ∨ d = "str" ∨ d = "dict" := by decide) : rIsi2 K [x, .ref p] H Q := by
  refine ⟨x, _, p, _, _, _, _, _, rfl, hp, ty, rfl, rfl, ?_, q⟩
  show (match PySem.W.kitOne K (.type n) (.type c) with | some true => some true | some false => (match PySem.W.kitOne K (.type n) (.type d) with | some true => some true | some false => some false | none => none) | none => none) = _
  rw [kit_ty ty.name hc, kit_ty ty.name hd]
  cases isaB n c <;> cases isaB n d <;> rfl
theorem call_isinst2 : CallR X (.builtin "isinstance") (rIsi2 X.K) := by
  intro pins s σ H xs us Q I r h
  obtain ⟨x, t, a, c1, c2, u1, u2, b, rfl, ha, ty, e1, e2, e, q⟩ := h
  obtain ⟨u, w', rfl, rx, rc⟩ := vals2 r
  cases (show w' = Value.ref a from rc)
  obtain ⟨Hh, Z, p, hx⟩ := ty.kit I rx
  obtain ⟨_, its, r', o, h1, h2, n, h3⟩ := (show ObjOk X.prog X.w H s.heap a (.tup [c1, c2]) from I.hok a _ ha)
  obtain ⟨v1, v2, rfl, r1, r2⟩ := vals2 r'
  obtain rfl := clsV_rel e1 r1
  obtain rfl := clsV_rel e2 r2
  obtain ⟨oc, od, odt, osl⟩ := o
  cases h2; cases h3
  exact PySem.W.kia_tup Z I.kIn p h1 e hx fun tk => ⟨.bl b, H, I.tok tk, rfl, q⟩
end
noncomputable def tPar3 (i j l : Nat) (ta : TA) : TS := fun D σ H => ta σ H fun vs H1 => ∃ v w u, vs = [v, w, u] ∧ D.nx (((σ.set i (some v)).set j (some w)).set l (some u)) H1
theorem vals3 {x y z : V} {us : List Value} (r : Vals [x, y, z] us) : ∃ u v w, us = [u, v, w] ∧ RelV x u ∧ RelV y v ∧ RelV z w := by
  cases r with
  | cons p q =>
    cases q with
    | cons p' q' =>
      cases q' with
      | cons p2 q2 =>
        cases q2
        exact ⟨_, _, _, rfl, p, p', p2⟩
section
variable {X : Cx} {pos : Pos}
theorem ps_par3 {i j l : Nat} {x y z : Str} {a b c : Expr} {ta : TA} {px py pz pt : Pos} {kt k2 pt2} (hc : X.calm = true) (hN : X.N.Nodup) (hi : X.N[i]? = some x) (hj : X.N[j]? = some y) (hl : X.N[l]? = some z) (hij : i ≠ j) (hil : i ≠ l) (hjl : j ≠ l)
    (hx : X.env.scope.names.lookup x = some .local) (hy : X.env.scope.names.lookup y = some .local) (hz : X.env.scope.names.lookup z = some .local) (ha : PA X [a, b, c] ta)
    (hw : swappedStores [.Tuple [.Name x px, .Name y py, .Name z pz] kt pt] (.Tuple [a, b, c] k2 pt2) X.env = pure (some [x, y, z]))
    (hs : swapsWithSole [.Tuple [.Name x px, .Name y py, .Name z pz] kt pt] (.Tuple [a, b, c] k2 pt2) pos.line X.env = pure false := by rfl) :
    PS X (.Assign [.Tuple [.Name x px, .Name y py, .Name z pz] kt pt] (.Tuple [a, b, c] k2 pt2) pos) (tPar3 i j l ta) := by
  intro pins s σ H D I h
  rw [exec_Assign_arm]
  refine wpAny_bind (wpAny_standAt ?_)
  rw [hs]
  refine wpAny_bind (wpAny_pure ?_)
  rw [if_neg (by decide)]
  refine wpAny_bind (Tuple_ (thn (ha _ pins s σ H _ I h) fun us s1 ⟨vs, H1, I1, r1, q1⟩ => ?_))
  obtain ⟨v, w, m, e1, q1⟩ := q1
  subst e1
  obtain ⟨u1, u2, u3, rfl, rv, rw', rm⟩ := vals3 r1
  refine wpAny_newObj_type ?_ (by show 3 ≤ sizeLine; decide)
  have I2 : Inv X pins σ H1 { s1 with heap := s1.heap.push { cls := .type "tuple", data := .seq [u1, u2, u3].toArray } } := I1.kept (t' := s1.toks) fun b o e => Heap.get?_push_of_some _ e
  rw [hw]
  refine wpAny_bind (wpAny_pure ?_)
  show wpAny (model X.prog X.w) X.A (do rule "assign.swapped-stores"; let items ← unpackItems (.ref s1.heap.objs.size) 3 none; assignInOrder [fun v => bindName X.env z v, fun v => bindName X.env y v, fun v => bindName X.env x v] items.reverse; pure Flow.next) _ _ _
  refine wpAny_bind (wpAny_rule (wpAny_bind (unpackItems_tuple (items := #[u1, u2, u3]) (I.ok.hd hc) (IsTup.new s1.heap _) fun h' hx' => ?_)))
  have I3 := I2.kept (h' := h') (t' := s1.toks) fun b o e => hx' b o (Nat.ne_of_lt (Heap.lt_size e)) e
  show wpAny _ _ (assignInOrder [fun v => bindName X.env z v, fun v => bindName X.env y v, fun v => bindName X.env x v] [u3, u2, u1] >>= fun _ => pure Flow.next) _ _ _
  refine wpAny_bind (assignInOrder_cons (wpAny_bindName (store_ok I3 hN hl (.inl hz) rm (fun s2 I4 => ?_) (.inr hz))))
  refine assignInOrder_cons (wpAny_bindName (store_ok I4 hN hj (.inl hy) rw' (fun s2 I4 => ?_) (.inr hy)))
  refine assignInOrder_cons (wpAny_bindName (store_ok I4 hN hi (.inl hx) rv (fun s3 I5 => assignInOrder_nil (wpAny_pure ?_)) (.inr hx)))
  rw [List.set_comm _ _ hjl.symm, List.set_comm _ _ hil.symm, List.set_comm _ _ hij.symm] at I5
  exact ⟨_, H1, I5, q1⟩
end
section
variable {X : Cx}
end
structure Def (K : PySem.W.Frag) (mg : Str → Option Value) (x : Str) (st : Stmt) (ps : List Str) (f : Addr) (fd : FuncData) : Prop where
  fn : Fun K x x st f fd
  bd : Binds K fd ps []
  mgx : mg x = some (.ref f)
end L2
set_option Elab.async false
set_option linter.all false
set_option maxRecDepth 100000
set_option maxHeartbeats 4000000
namespace L2
open PySem PySem.Spec PyProof.Rows
inductive Dt where
  | non | bl (b : Bool) | int (i : Int) | str (x : Str) | tup (ds : List Dt) | lst (ds : List Dt)
mutual
noncomputable def Rep (K : PySem.W.Frag) (H : Hp) : Dt → V → Prop
  | .non, v => v = .non
  | .bl b, v => v = .bl b
  | .int i, v => v = .int i
  | .str x, v => v = .str x
  | .tup ds, v => ∃ a xs, v = .ref a ∧ SqT K H a xs ∧ RepL K H ds xs
  | .lst ds, v => ∃ a xs, v = .ref a ∧ SqL K H a xs ∧ RepL K H ds xs
noncomputable def RepL (K : PySem.W.Frag) (H : Hp) : List Dt → List V → Prop
  | [], xs => xs = []
  | d :: ds, xs => ∃ x r, xs = x :: r ∧ Rep K H d x ∧ RepL K H ds r
end
mutual
noncomputable def eqD : Dt → Dt → Bool
  | .non, .non => true
  | .bl a, .bl b => a == b
  | .bl a, .int b => (if a then 1 else 0) == b
  | .int a, .bl b => a == (if b then 1 else 0)
  | .int a, .int b => a == b
  | .str a, .str b => a == b
  | .tup ds, .tup es => eqDL ds es
  | .lst ds, .lst es => eqDL ds es
  | _, _ => false
noncomputable def eqDL : List Dt → List Dt → Bool
  | [], [] => true
  | d :: ds, e :: es => eqD d e && eqDL ds es
  | _, _ => false
end
mutual
noncomputable def dep : Dt → Nat
  | .tup ds => depL ds + 1
  | .lst ds => depL ds + 1
  | _ => 0
noncomputable def depL : List Dt → Nat
  | [] => 0
  | d :: ds => max (dep d) (depL ds)
end
theorem RepL.length {K : PySem.W.Frag} {H : Hp} : ∀ {ds : List Dt} {xs : List V}, RepL K H ds xs → ds.length = xs.length
  | [], xs, h => by cases (show xs = [] from h); rfl
  | d :: ds, xs, h => by
    obtain ⟨x, r, rfl, _, h2⟩ := (show ∃ x r, xs = x :: r ∧ Rep K H d x ∧ RepL K H ds r from h)
    rw [List.length_cons, List.length_cons, h2.length]
mutual
theorem eqD_self : ∀ d : Dt, eqD d d = true
  | .non => rfl
  | .bl a => by show (a == a) = true; simp
  | .int a => by show (a == a) = true; simp
  | .str a => by show (a == a) = true; simp
  | .tup ds => eqDL_self ds
  | .lst ds => eqDL_self ds
theorem eqDL_self : ∀ ds : List Dt, eqDL ds ds = true
  | [] => rfl
  | d :: ds => by show (eqD d d && eqDL ds ds) = true; rw [eqD_self d, eqDL_self ds]; rfl
end
theorem eqDL_range : ∀ ds es : List Dt, eqDL ds es = ((List.range (min ds.length es.length)).all (fun j => eqD (ds.getD j .non) (es.getD j .non)) && ds.length == es.length)
  | [], [] => rfl
  | [], e :: es => rfl
  | d :: ds, [] => rfl
  | d :: ds, e :: es => by
    show (eqD d e && eqDL ds es) = _
    rw [eqDL_range ds es, List.length_cons, List.length_cons, Nat.succ_min_succ, List.range_succ_eq_map, List.all_cons, List.all_map, Bool.and_assoc]
    congr 1
    congr 1
    by_cases h : ds.length = es.length
    · simp [h]
    · simp [h]
section
variable {X : Cx} {pins : List (Addr × Obj)} {σ : St} {H : Hp} {s : Shared}
mutual
theorem Rep.inj (I : Inv X pins σ H s) : ∀ (d e : Dt) {v : V}, Rep X.K H d v → Rep X.K H e v → d = e
  | .non, e, v, h, g => by
    cases (show v = .non from h)
    cases e with
    | non => rfl
    | tup ds => obtain ⟨_, _, z, _⟩ := (show ∃ a xs, V.non = .ref a ∧ _ from g); cases z
    | lst ds => obtain ⟨_, _, z, _⟩ := (show ∃ a xs, V.non = .ref a ∧ _ from g); cases z
    | _ => cases g
  | .bl b, e, v, h, g => by
    cases (show v = .bl b from h)
    cases e with
    | bl c => cases g; rfl
    | tup ds => obtain ⟨_, _, z, _⟩ := (show ∃ a xs, V.bl b = .ref a ∧ _ from g); cases z
    | lst ds => obtain ⟨_, _, z, _⟩ := (show ∃ a xs, V.bl b = .ref a ∧ _ from g); cases z
    | _ => cases g
  | .int b, e, v, h, g => by
    cases (show v = .int b from h)
    cases e with
    | int c => cases g; rfl
    | tup ds => obtain ⟨_, _, z, _⟩ := (show ∃ a xs, V.int b = .ref a ∧ _ from g); cases z
    | lst ds => obtain ⟨_, _, z, _⟩ := (show ∃ a xs, V.int b = .ref a ∧ _ from g); cases z
    | _ => cases g
  | .str b, e, v, h, g => by
    cases (show v = .str b from h)
    cases e with
    | str c => cases g; rfl
    | tup ds => obtain ⟨_, _, z, _⟩ := (show ∃ a xs, V.str b = .ref a ∧ _ from g); cases z
    | lst ds => obtain ⟨_, _, z, _⟩ := (show ∃ a xs, V.str b = .ref a ∧ _ from g); cases z
    | _ => cases g
  | .tup ds, e, v, h, g => by
    obtain ⟨a, xs, rfl, h1, h2⟩ := (show ∃ a xs, v = .ref a ∧ SqT X.K H a xs ∧ RepL X.K H ds xs from h)
    cases e with
    | tup es =>
      obtain ⟨a', ys, z, g1, g2⟩ := (show ∃ a' xs, V.ref a = .ref a' ∧ SqT X.K H a' xs ∧ RepL X.K H es xs from g)
      cases z
      cases I.tuple_inj h1 g1
      rw [RepL.inj I ds es h2 g2]
    | lst es =>
      obtain ⟨a', ys, z, g1, g2⟩ := (show ∃ a' xs, V.ref a = .ref a' ∧ SqL X.K H a' xs ∧ RepL X.K H es xs from g)
      cases z
      obtain ⟨_, _, p1, _⟩ := I.tuple h1
      obtain ⟨_, _, p2, _⟩ := I.list g1
      exact absurd rfl (SeqAt.ne_of_list_tuple p2.isList p1)
    | _ => cases g
  | .lst ds, e, v, h, g => by
    obtain ⟨a, xs, rfl, h1, h2⟩ := (show ∃ a xs, v = .ref a ∧ SqL X.K H a xs ∧ RepL X.K H ds xs from h)
    cases e with
    | lst es =>
      obtain ⟨a', ys, z, g1, g2⟩ := (show ∃ a' xs, V.ref a = .ref a' ∧ SqL X.K H a' xs ∧ RepL X.K H es xs from g)
      cases z
      cases I.list_inj h1 g1
      rw [RepL.inj I ds es h2 g2]
    | tup es =>
      obtain ⟨a', ys, z, g1, g2⟩ := (show ∃ a' xs, V.ref a = .ref a' ∧ SqT X.K H a' xs ∧ RepL X.K H es xs from g)
      cases z
      obtain ⟨_, _, p1, _⟩ := I.tuple g1
      obtain ⟨_, _, p2, _⟩ := I.list h1
      exact absurd rfl (SeqAt.ne_of_list_tuple p2.isList p1)
    | _ => cases g
theorem RepL.inj (I : Inv X pins σ H s) : ∀ (ds es : List Dt) {xs : List V}, RepL X.K H ds xs → RepL X.K H es xs → ds = es
  | [], es, xs, h, g => by
    cases (show xs = [] from h)
    cases es with
    | nil => rfl
    | cons e es => obtain ⟨_, _, z, _⟩ := (show ∃ x r, [] = x :: r ∧ _ from g); cases z
  | d :: ds, es, xs, h, g => by
    obtain ⟨x, r, rfl, h1, h2⟩ := (show ∃ x r, xs = x :: r ∧ Rep X.K H d x ∧ RepL X.K H ds r from h)
    cases es with
    | nil => cases (show x :: r = [] from g)
    | cons e es =>
      obtain ⟨_, _, z, g1, g2⟩ := (show ∃ y q, x :: r = y :: q ∧ Rep X.K H e y ∧ RepL X.K H es q from g)
      cases z
      rw [Rep.inj I d e h1 g1, RepL.inj I ds es h2 g2]
end
theorem in1_units (A : Around) : A.in1.units = A.units + 1 := rfl
mutual
theorem eqAt_D (I : Inv X pins σ H s) : ∀ (d e : Dt) {v u : V} {vv uu : Value} {A : Around}, Rep X.K H d v → Rep X.K H e u → RelV v vv → RelV u uu → A.units + dep d < cLine → SeqAt.EqAt A s vv uu (eqD d e)
  | .tup ds, e, v, u, vv, uu, A, h, g, rv, ru, hu => by
    obtain ⟨a, xs, rfl, h1, h2⟩ := (show ∃ a xs, v = .ref a ∧ SqT X.K H a xs ∧ RepL X.K H ds xs from h)
    cases rv
    have hu0 : A.units < cLine := Nat.lt_of_le_of_lt (Nat.le_add_right _ _) hu
    obtain ⟨j1, _, p0, _⟩ := I.tuple h1
    cases e with
    | non => cases (show u = .non from g); cases ru; exact .tuple_none p0 hu0
    | bl b => cases (show u = .bl b from g); cases ru; exact .tuple_bool _ p0 hu0
    | int b => cases (show u = .int b from g); obtain ⟨t, rfl⟩ := ru; exact .tuple_int _ _ p0 hu0
    | str b => cases (show u = .str b from g); obtain ⟨t, rfl⟩ := ru; exact .tuple_str _ _ p0 hu0
    | tup es =>
        obtain ⟨b, ys, rfl, g1, g2⟩ := (show ∃ a xs, u = .ref a ∧ SqT X.K H a xs ∧ RepL X.K H es xs from g)
        cases ru
        by_cases e : a = b
        · subst e
          cases I.tuple_inj h1 g1
          rw [RepL.inj I ds es h2 g2, show eqD (.tup es) (.tup es) = true from eqD_self _]
          exact .same _
        · obtain ⟨i1, r1, p1, _⟩ := I.tuple h1
          obtain ⟨i2, r2, p2, _⟩ := I.tuple g1
          have hu' : A.units + (depL ds + 1) < cLine := hu
          have l1 := h2.length.trans r1.length
          have l2 := g2.length.trans r2.length
          refine .of_refs e ?_
          rw [show eqD (.tup ds) (.tup es) = eqDL ds es from rfl, eqDL_range]
          have := SeqAt.RcAt.tuples (A := A) p1 p2 (by omega) (e := fun j => eqD (ds.getD j .non) (es.getD j .non)) fun j a1 a2 => by
            have a1' : j < i1.length := by simpa using a1
            have a2' : j < i2.length := by simpa using a2
            have := eqAt_DL I ds es h2 g2 r1 r2 (A := A.in1) (by rw [in1_units]; omega) j a1' a2'
            simpa using this
          rw [List.size_toArray, List.size_toArray, ← l1, ← l2] at this
          exact this
    | lst es =>
        obtain ⟨b, ys, rfl, g1, g2⟩ := (show ∃ a xs, u = .ref a ∧ SqL X.K H a xs ∧ RepL X.K H es xs from g)
        cases ru
        obtain ⟨i2, r2, p2, _⟩ := I.list g1
        exact .tuple_list p0 p2.isList hu0
  | .lst ds, e, v, u, vv, uu, A, h, g, rv, ru, hu => by
    obtain ⟨a, xs, rfl, h1, h2⟩ := (show ∃ a xs, v = .ref a ∧ SqL X.K H a xs ∧ RepL X.K H ds xs from h)
    cases rv
    have hu0 : A.units < cLine := Nat.lt_of_le_of_lt (Nat.le_add_right _ _) hu
    obtain ⟨j1, _, p0, _⟩ := I.list h1
    cases e with
    | non => cases (show u = .non from g); cases ru; exact .list_none p0.isList hu0
    | bl b => cases (show u = .bl b from g); cases ru; exact .list_bool _ p0.isList hu0
    | int b => cases (show u = .int b from g); obtain ⟨t, rfl⟩ := ru; exact .list_int _ _ p0.isList hu0
    | str b => cases (show u = .str b from g); obtain ⟨t, rfl⟩ := ru; exact .list_str _ _ p0.isList hu0
    | lst es =>
        obtain ⟨b, ys, rfl, g1, g2⟩ := (show ∃ a xs, u = .ref a ∧ SqL X.K H a xs ∧ RepL X.K H es xs from g)
        cases ru
        by_cases e : a = b
        · subst e
          cases I.list_inj h1 g1
          rw [RepL.inj I ds es h2 g2, show eqD (.lst es) (.lst es) = true from eqD_self _]
          exact .same _
        · obtain ⟨i1, r1, p1, _⟩ := I.list h1
          obtain ⟨i2, r2, p2, _⟩ := I.list g1
          have hu' : A.units + (depL ds + 1) < cLine := hu
          have l1 := h2.length.trans r1.length
          have l2 := g2.length.trans r2.length
          refine .of_refs e ?_
          rw [show eqD (.lst ds) (.lst es) = eqDL ds es from rfl, eqDL_range]
          by_cases hz : ds.length = es.length
          · have := SeqAt.RcAt.lists (A := A) p1.isList p2.isList (by simp only [List.size_toArray]; omega) (by omega) (e := fun j => eqD (ds.getD j .non) (es.getD j .non)) fun j a1 a2 => by
              have a1' : j < i1.length := by simpa using a1
              have a2' : j < i2.length := by simpa using a2
              have := eqAt_DL I ds es h2 g2 r1 r2 (A := A.in1) (by rw [in1_units]; omega) j a1' a2'
              simpa using this
            rw [List.size_toArray, ← l1] at this
            rw [← hz, Nat.min_self, beq_self_eq_true, Bool.and_true]
            exact this
          · have := SeqAt.RcAt.lists_lengths (A := A) p1.isList p2.isList (by simp only [List.size_toArray, bne_iff_ne]; omega) (by omega)
            rw [show (ds.length == es.length) = false by simpa using hz, Bool.and_false]
            exact this
    | tup es =>
        obtain ⟨b, ys, rfl, g1, g2⟩ := (show ∃ a xs, u = .ref a ∧ SqT X.K H a xs ∧ RepL X.K H es xs from g)
        cases ru
        obtain ⟨i2, r2, p2, _⟩ := I.tuple g1
        exact .list_tuple p0.isList p2 hu0
  | .non, e, v, u, vv, uu, A, h, g, rv, ru, hu => by
    cases (show v = .non from h); cases rv
    have hu0 : A.units < cLine := Nat.lt_of_le_of_lt (Nat.le_add_right _ _) hu
    cases e with
    | non => cases (show u = .non from g); cases ru; exact .same _
    | bl b => cases (show u = .bl b from g); cases ru; exact .none_bool _
    | int b => cases (show u = .int b from g); obtain ⟨t, rfl⟩ := ru; exact .none_int _ _
    | str b => cases (show u = .str b from g); obtain ⟨t, rfl⟩ := ru; exact .none_str _ _
    | tup es =>
        obtain ⟨b, ys, rfl, g1, g2⟩ := (show ∃ a xs, u = .ref a ∧ SqT X.K H a xs ∧ RepL X.K H es xs from g)
        cases ru
        obtain ⟨i2, r2, p2, _⟩ := I.tuple g1
        exact .none_tuple p2 hu0
    | lst es =>
        obtain ⟨b, ys, rfl, g1, g2⟩ := (show ∃ a xs, u = .ref a ∧ SqL X.K H a xs ∧ RepL X.K H es xs from g)
        cases ru
        obtain ⟨i2, r2, p2, _⟩ := I.list g1
        exact .none_list p2.isList hu0
  | .bl a, e, v, u, vv, uu, A, h, g, rv, ru, hu => by
    cases (show v = .bl a from h); cases rv
    have hu0 : A.units < cLine := Nat.lt_of_le_of_lt (Nat.le_add_right _ _) hu
    cases e with
    | non => cases (show u = .non from g); cases ru; exact .bool_none _
    | bl b => cases (show u = .bl b from g); cases ru; exact .bool_bool _ _
    | int b => cases (show u = .int b from g); obtain ⟨t, rfl⟩ := ru; exact .bool_int _ _ _
    | str b => cases (show u = .str b from g); obtain ⟨t, rfl⟩ := ru; exact .bool_str _ _ _
    | tup es =>
        obtain ⟨b, ys, rfl, g1, g2⟩ := (show ∃ a xs, u = .ref a ∧ SqT X.K H a xs ∧ RepL X.K H es xs from g)
        cases ru
        obtain ⟨i2, r2, p2, _⟩ := I.tuple g1
        exact .bool_tuple _ p2 hu0
    | lst es =>
        obtain ⟨b, ys, rfl, g1, g2⟩ := (show ∃ a xs, u = .ref a ∧ SqL X.K H a xs ∧ RepL X.K H es xs from g)
        cases ru
        obtain ⟨i2, r2, p2, _⟩ := I.list g1
        exact .bool_list _ p2.isList hu0
  | .int a, e, v, u, vv, uu, A, h, g, rv, ru, hu => by
    cases (show v = .int a from h); obtain ⟨t', rfl⟩ := rv
    have hu0 : A.units < cLine := Nat.lt_of_le_of_lt (Nat.le_add_right _ _) hu
    cases e with
    | non => cases (show u = .non from g); cases ru; exact .int_none _ _
    | bl b => cases (show u = .bl b from g); cases ru; exact .int_bool _ _ _
    | int b => cases (show u = .int b from g); obtain ⟨t, rfl⟩ := ru; exact .int_int _ _ _ _
    | str b => cases (show u = .str b from g); obtain ⟨t, rfl⟩ := ru; exact .int_str _ _ _ _
    | tup es =>
        obtain ⟨b, ys, rfl, g1, g2⟩ := (show ∃ a xs, u = .ref a ∧ SqT X.K H a xs ∧ RepL X.K H es xs from g)
        cases ru
        obtain ⟨i2, r2, p2, _⟩ := I.tuple g1
        exact .int_tuple _ _ p2 hu0
    | lst es =>
        obtain ⟨b, ys, rfl, g1, g2⟩ := (show ∃ a xs, u = .ref a ∧ SqL X.K H a xs ∧ RepL X.K H es xs from g)
        cases ru
        obtain ⟨i2, r2, p2, _⟩ := I.list g1
        exact .int_list _ _ p2.isList hu0
  | .str a, e, v, u, vv, uu, A, h, g, rv, ru, hu => by
    cases (show v = .str a from h); obtain ⟨t', rfl⟩ := rv
    have hu0 : A.units < cLine := Nat.lt_of_le_of_lt (Nat.le_add_right _ _) hu
    cases e with
    | non => cases (show u = .non from g); cases ru; exact .str_none _ _
    | bl b => cases (show u = .bl b from g); cases ru; exact .str_bool _ _ _
    | int b => cases (show u = .int b from g); obtain ⟨t, rfl⟩ := ru; exact .str_int _ _ _ _
    | str b => cases (show u = .str b from g); obtain ⟨t, rfl⟩ := ru; exact .str_str _ _ _ _
    | tup es =>
        obtain ⟨b, ys, rfl, g1, g2⟩ := (show ∃ a xs, u = .ref a ∧ SqT X.K H a xs ∧ RepL X.K H es xs from g)
        cases ru
        obtain ⟨i2, r2, p2, _⟩ := I.tuple g1
        exact .str_tuple _ _ p2 hu0
    | lst es =>
        obtain ⟨b, ys, rfl, g1, g2⟩ := (show ∃ a xs, u = .ref a ∧ SqL X.K H a xs ∧ RepL X.K H es xs from g)
        cases ru
        obtain ⟨i2, r2, p2, _⟩ := I.list g1
        exact .str_list _ _ p2.isList hu0
theorem eqAt_DL (I : Inv X pins σ H s) : ∀ (ds es : List Dt) {xs ys : List V} {us ws : List Value} {A : Around}, RepL X.K H ds xs → RepL X.K H es ys → Vals xs us → Vals ys ws → A.units + depL ds < cLine →
    ∀ (j : Nat) (h1 : j < us.length) (h2 : j < ws.length), SeqAt.EqAt A s us[j] ws[j] (eqD (ds.getD j .non) (es.getD j .non))
  | [], es, xs, ys, us, ws, A, h, g, rv, ru, hu => fun j h1 h2 => by
    cases (show xs = [] from h)
    cases rv
    exact absurd h1 (Nat.not_lt_zero _)
  | d :: ds, es, xs, ys, us, ws, A, h, g, rv, ru, hu => fun j h1 h2 => by
    obtain ⟨x, r, rfl, hd, hr⟩ := (show ∃ x r, xs = x :: r ∧ Rep X.K H d x ∧ RepL X.K H ds r from h)
    cases es with
    | nil =>
      cases (show ys = [] from g)
      cases ru
      exact absurd h2 (Nat.not_lt_zero _)
    | cons e es =>
      obtain ⟨y, q, rfl, gd, gr⟩ := (show ∃ x r, ys = x :: r ∧ Rep X.K H e x ∧ RepL X.K H es r from g)
      cases rv with
      | cons rv1 rv2 =>
        cases ru with
        | cons ru1 ru2 =>
          have hu' : A.units + max (dep d) (depL ds) < cLine := hu
          cases j with
          | zero => exact eqAt_D I d e hd gd rv1 ru1 (by omega)
          | succ j => exact eqAt_DL I ds es hr gr rv2 ru2 (by omega) j (by simpa using h1) (by simpa using h2)
end
noncomputable def rEqS (K : PySem.W.Frag) : R2 := fun x y H Q => ∃ ds es, ((Rep K H (.tup ds) x ∧ Rep K H (.tup es) y) ∨ (Rep K H (.lst ds) x ∧ Rep K H (.lst es) y)) ∧ depL ds ≤ 100 ∧ Q (.bl (eqDL ds es)) H
noncomputable def rNeS (K : PySem.W.Frag) : R2 := fun x y H Q => ∃ ds es, ((Rep K H (.tup ds) x ∧ Rep K H (.tup es) y) ∨ (Rep K H (.lst ds) x ∧ Rep K H (.lst es) y)) ∧ depL ds ≤ 100 ∧ Q (.bl (!eqDL ds es)) H
theorem op_eqS (hu : X.A.units + 150 < cLine) : OpR X (compareOp .Eq) (rEqS X.K) := by
  intro pins s σ H x y v u Q I rv ru h
  obtain ⟨ds, es, h, hd, q⟩ := h
  rcases h with ⟨h, g⟩ | ⟨h, g⟩
  · obtain ⟨a, xs, rfl, h1, h2⟩ := (show ∃ a xs, x = .ref a ∧ SqT X.K H a xs ∧ RepL X.K H ds xs from h)
    obtain ⟨b, ys, rfl, g1, g2⟩ := (show ∃ a xs, y = .ref a ∧ SqT X.K H a xs ∧ RepL X.K H es xs from g)
    cases rv; cases ru
    obtain ⟨i1, r1, p1, _⟩ := I.tuple h1
    obtain ⟨i2, r2, p2, _⟩ := I.tuple g1
    have l1 := h2.length.trans r1.length
    have l2 := g2.length.trans r2.length
    refine SeqAt.eq_tupleAt p1 p2 (by omega) (e := fun j => eqD (ds.getD j .non) (es.getD j .non)) (fun j a1 a2 => ?_) ⟨.bl _, H, I, rfl, ?_⟩
    · have a1' : j < i1.length := by simpa using a1
      have a2' : j < i2.length := by simpa using a2
      have := eqAt_DL I ds es h2 g2 r1 r2 (A := X.A.in1) (by rw [in1_units]; omega) j a1' a2'
      simpa using this
    · rw [List.size_toArray, List.size_toArray, ← l1, ← l2, ← eqDL_range]
      exact q
  · obtain ⟨a, xs, rfl, h1, h2⟩ := (show ∃ a xs, x = .ref a ∧ SqL X.K H a xs ∧ RepL X.K H ds xs from h)
    obtain ⟨b, ys, rfl, g1, g2⟩ := (show ∃ a xs, y = .ref a ∧ SqL X.K H a xs ∧ RepL X.K H es xs from g)
    cases rv; cases ru
    obtain ⟨i1, r1, p1, _⟩ := I.list h1
    obtain ⟨i2, r2, p2, _⟩ := I.list g1
    have l1 := h2.length.trans r1.length
    have l2 := g2.length.trans r2.length
    rw [eqDL_range] at q
    by_cases hz : ds.length = es.length
    · refine SeqAt.eq_listAt p1.isList p2.isList (by simp only [List.size_toArray]; omega) (by omega) (e := fun j => eqD (ds.getD j .non) (es.getD j .non)) (fun j a1 a2 => ?_) ⟨.bl _, H, I, rfl, ?_⟩
      · have a1' : j < i1.length := by simpa using a1
        have a2' : j < i2.length := by simpa using a2
        have := eqAt_DL I ds es h2 g2 r1 r2 (A := X.A.in1) (by rw [in1_units]; omega) j a1' a2'
        simpa using this
      · rw [← hz, Nat.min_self, beq_self_eq_true, Bool.and_true] at q
        rw [List.size_toArray, ← l1]
        exact q
    · refine SeqAt.eq_list_lengthsAt p1.isList p2.isList (by simp only [List.size_toArray, bne_iff_ne]; omega) (by omega) ⟨.bl _, H, I, rfl, ?_⟩
      rw [show (ds.length == es.length) = false by simpa using hz, Bool.and_false] at q
      exact q
theorem hu150 {A : Around} {k : Nat} (hr : Room k A) : A.units + 150 < cLine := by have := hr.un; omega
end
mutual
noncomputable def noL : Dt → Bool
  | .tup ds => noLL ds
  | .lst _ => false
  | _ => true
noncomputable def noLL : List Dt → Bool
  | [] => true
  | d :: ds => noL d && noLL ds
end
noncomputable def TK (H H' : Hp) : Prop := ∀ a xs, Rd H a (.tup xs) → Rd H' a (.tup xs)
theorem TK.sq {K : PySem.W.Frag} {H H' : Hp} (t : TK H H') {a : Addr} {xs : List V} (h : SqT K H a xs) : SqT K H' a xs := by
  rcases h with h | h
  · exact .inl (t a xs h)
  · exact .inr h
theorem TK.refl (H : Hp) : TK H H := fun _ _ h => h
theorem TK.trans {H H1 H2 : Hp} (a : TK H H1) (b : TK H1 H2) : TK H H2 := fun x xs h => b x xs (a x xs h)
theorem Same.tk {H H' : Hp} (s : Same H H') : TK H H' := fun a xs h => by
  rcases h with h | ⟨o, h⟩
  · exact .inl (s a _ h)
  · exact .inr ⟨o, s a _ h⟩
theorem TK.new {H : Hp} {p : Addr} {o : HO} (hp : H p = none) : TK H (upd H p o) := fun a xs h => by
  rcases h with h | ⟨u, h⟩
  · exact .inl (by rw [upd_ne (ne_of_none h hp)]; exact h)
  · exact .inr ⟨u, by rw [upd_ne (ne_of_none h hp)]; exact h⟩
theorem TK.lst {H : Hp} {p : Addr} {xs : List V} {o : HO} (hp : H p = some (.lst xs)) : TK H (upd H p o) := fun a ys h => by
  have ne : ∀ u, H a = some u → u ≠ .lst xs → a ≠ p := fun u e n z => by rw [z, hp] at e; cases e; exact n rfl
  rcases h with h | ⟨u, h⟩
  · exact .inl (by rw [upd_ne (ne _ h (by intro z; cases z))]; exact h)
  · exact .inr ⟨u, by rw [upd_ne (ne _ h (by intro z; cases z))]; exact h⟩
mutual
theorem Rep.mono {K : PySem.W.Frag} {H H' : Hp} (t : TK H H') : ∀ (d : Dt) {v : V}, noL d = true → Rep K H d v → Rep K H' d v
  | .non, v, _, h => h
  | .bl b, v, _, h => h
  | .int i, v, _, h => h
  | .str x, v, _, h => h
  | .lst ds, v, n, h => by cases n
  | .tup ds, v, n, h => by
    obtain ⟨a, xs, e, h1, h2⟩ := (show ∃ a xs, v = .ref a ∧ SqT K H a xs ∧ RepL K H ds xs from h)
    exact ⟨a, xs, e, t.sq h1, RepL.mono t ds n h2⟩
theorem RepL.mono {K : PySem.W.Frag} {H H' : Hp} (t : TK H H') : ∀ (ds : List Dt) {xs : List V}, noLL ds = true → RepL K H ds xs → RepL K H' ds xs
  | [], xs, _, h => h
  | d :: ds, xs, n, h => by
    obtain ⟨x, r, e, h1, h2⟩ := (show ∃ x r, xs = x :: r ∧ Rep K H d x ∧ RepL K H ds r from h)
    have n' : (noL d && noLL ds) = true := n
    rw [Bool.and_eq_true] at n'
    exact ⟨x, r, e, Rep.mono t d n'.1 h1, RepL.mono t ds n'.2 h2⟩
end
theorem RepL.append {K : PySem.W.Frag} {H : Hp} : ∀ {ds es : List Dt} {xs ys : List V}, RepL K H ds xs → RepL K H es ys → RepL K H (ds ++ es) (xs ++ ys)
  | [], es, xs, ys, h, g => by cases (show xs = [] from h); exact g
  | d :: ds, es, xs, ys, h, g => by
    obtain ⟨x, r, rfl, h1, h2⟩ := (show ∃ x r, xs = x :: r ∧ Rep K H d x ∧ RepL K H ds r from h)
    exact ⟨x, r ++ ys, rfl, h1, h2.append g⟩
noncomputable def pD (q : Int × Int) : Dt := .tup [.int q.1, .int q.2]
end L2
set_option Elab.async false
set_option linter.all false
set_option maxRecDepth 100000
set_option maxHeartbeats 4000000
namespace L2
open PySem PySem.Spec PyProof.Rows
noncomputable def EO (C : Value) (vs : Array Value) (sl : Array (Option Value)) : Obj := { cls := C, dict := none, data := .fields vs, slots := sl }
structure Flying (h : Heap) (e T : Addr) (C fl : Value) : Prop where
  ex : ∃ vs sl, h.get? e = some (EO C vs sl) ∧ vs[1]? = some (.ref T)
  tr : ∃ oT ts, h.get? T = some oT ∧ oT.data = .fields ts ∧ ts[3]? = some fl
  ne : T ≠ e
section
variable {M : Model} {A : Around} {E : Value → Shared → Prop} {s : Shared} {base : Heap} {env : Env} {outer : List Env} {L e : Addr} {C : Value} {vs : Array Value} {sl : Array (Option Value)} {Q : Unit → Shared → Prop}
theorem nofr_of (hl : s.heap.FunFrames base (env :: outer)) (he : s.heap.get? e = some (EO C vs sl)) : e ∉ frs (env :: outer) := fun hm => by
  obtain ⟨_, o, ho, hnf⟩ := hl.mem hm
  rw [he] at ho
  cases ho
  exact hnf vs rfl
theorem entry_ {head : Value} {hn : Bool} (hfr : A.frames = some (env :: outer)) (hl : s.heap.FunFrames base (env :: outer)) (hf : env.frame = some L) (he : s.heap.get? e = some (EO C vs sl)) (hsz : 1 < vs.size)
    (h : ∀ h' T, s.heap.objs.size ≤ T → Flying h' e T C (rawInt L) → (∀ b o, b ∉ frs (env :: outer) → b ≠ e → s.heap.get? b = some o → h'.get? b = some o) →
      (∀ b o, b ∈ frs (env :: outer) → s.heap.get? b = some o → ∃ sl, h'.get? b = some { o with slots := sl }) → Q () { s with heap := h' }) :
    wpAny M A (do let a ← frameOf env; let pl ← entryPlaceOf L hn; let b ← EntryCells.newEntry head a .none (rawInt L) .none pl; setField (.ref e) 1 b) Q E s := by
  have hef := nofr_of hl he
  refine wpAny_bind (wpAny_frameOf_fun hfr hl hf fun h1 S => ?_)
  refine wpAny_bind (wpAny_entryPlaceOf fun pl hpl => ?_)
  unfold EntryCells.newEntry newFields
  refine wpAny_bind (wpAny_newObj_type ?_ (hpl.sizeOk5 _ _ _ _ _))
  generalize hO : ({ cls := .type "traceback", dict := none, data := .fields ([head, .ref L, .none, rawInt L, .none] ++ (if pl.isEmpty then List.replicate 6 Value.none else pl)).toArray } : Obj) = O
  have he1 : h1.get? e = some (EO C vs sl) := (S.2.1 e hef).trans he
  have hTe : h1.objs.size ≠ e := Nat.ne_of_gt (Heap.lt_size he1)
  have he2 : (h1.push O).get? e = some (EO C vs sl) := Heap.get?_push_of_some O he1
  have hT2 : (h1.push O).get? h1.objs.size = some O := Heap.get?_push_size h1 (by rw [← hO]; rfl)
  refine wpAny_setField he2 rfl hsz (h _ h1.objs.size (Nat.le_of_eq S.1.symm) ⟨⟨vs.setIfInBounds 1 (.ref h1.objs.size), sl, ?_, by simp [hsz]⟩, ⟨O, _, (Heap.get?_update_other _ _ (Ne.symm hTe)).trans hT2, by rw [← hO], ?_⟩, hTe⟩ (fun b o hb hbe q => ?_) fun b o hb q => ?_)
  · exact Heap.get?_update_self _ he2 rfl
  · rcases hpl with rfl | ⟨_, _, _, _, _, _, _, rfl⟩ <;> simp
  · rw [Heap.get?_update_other _ _ (Ne.symm hbe)]
    exact Heap.get?_push_of_some _ ((S.2.1 b hb).trans q)
  · obtain ⟨sl', z⟩ := S.2.2 b o q
    have hbe : b ≠ e := fun w => hef (w ▸ hb)
    exact ⟨sl', by rw [Heap.get?_update_other _ _ (Ne.symm hbe)]; exact Heap.get?_push_of_some _ z⟩
structure Noted (fs : List Addr) (h h' : Heap) (e : Addr) (T0 : Option Addr) : Prop where
  keep : ∀ b o, b ∉ fs → b ≠ e → some b ≠ T0 → h.get? b = some o → h'.get? b = some o
  slot : ∀ b o, b ∈ fs → h.get? b = some o → ∃ sl, h'.get? b = some { o with slots := sl }
theorem note_made (hfr : A.frames = some (env :: outer)) (hl : s.heap.FunFrames base (env :: outer)) (hf : env.frame = some L) (he : s.heap.get? e = some (EO C vs sl)) (h1 : vs[1]? = some .none)
    (h : ∀ h' T, s.heap.objs.size ≤ T → Flying h' e T C (rawInt L) → Noted (frs (env :: outer)) s.heap h' e none → Q () { s with heap := h' }) : wpAny M A (noteFrame (.ref e) env) Q E s := by
  unfold noteFrame
  simp only [hf]
  refine wpAny_bind (wpAny_field he rfl h1 ?_)
  rw [if_neg (by decide)]
  exact entry_ hfr hl hf he (Array.getElem?_eq_some_iff.mp h1).1 fun h' T a b c d => h h' T a b ⟨fun b' o x y _ z => c b' o x y z, d⟩
theorem note_on {T0 : Addr} (hfr : A.frames = some (env :: outer)) (hl : s.heap.FunFrames base (env :: outer)) (hf : env.frame = some L) (F : Flying s.heap e T0 C .none)
    (h : ∀ h' T, s.heap.objs.size ≤ T → Flying h' e T C (rawInt L) → Noted (frs (env :: outer)) s.heap h' e (some T0) → Q () { s with heap := h' }) : wpAny M A (noteFrame (.ref e) env) Q E s := by
  obtain ⟨⟨vs, sl, he, h1⟩, ⟨oT, ts, hT, hdT, h3⟩, ne⟩ := F
  have hTf : T0 ∉ frs (env :: outer) := fun hm => by
    obtain ⟨_, o, ho, hnf⟩ := hl.mem hm
    rw [hT] at ho
    cases ho
    exact hnf ts hdT
  unfold noteFrame
  simp only [hf]
  refine wpAny_bind (wpAny_field he rfl h1 ?_)
  rw [if_pos (show (Value.ref T0 != Value.none) = true by simp)]
  refine wpAny_bind (wpAny_field hT hdT h3 ?_)
  rw [if_neg (show ¬ ((Value.none == rawInt L) = true) by simp [rawInt])]
  refine wpAny_bind (wpAny_setField hT hdT (Array.getElem?_eq_some_iff.mp h3).1 ?_)
  have other : ∀ b, b ≠ T0 → (s.heap.update T0 (Obj.mapFields (·.setIfInBounds 3 Value.none))).get? b = s.heap.get? b := fun b hb => Heap.get?_update_other _ _ (Ne.symm hb)
  have hl' : (s.heap.update T0 (Obj.mapFields (·.setIfInBounds 3 Value.none))).FunFrames base (env :: outer) := hl.of_keeps fun b o hb hnf => ⟨o, (other b fun q => by rw [q, hT] at hb; cases hb; exact hnf ts hdT).trans hb, rfl⟩
  refine entry_ hfr hl' hf ((other e (Ne.symm ne)).trans he) (Array.getElem?_eq_some_iff.mp h1).1 fun h' T a b c d => h h' T ?_ b ⟨fun b' o x y w z => c b' o x y ((other b' fun q => w (by rw [q])).trans z), fun b' o x z => d b' o x ((other b' fun q => hTf (q ▸ x)).trans z)⟩
  rwa [Heap.size_update] at a
theorem flight_none {T : Addr} {fl : Value} (F : Flying s.heap e T C fl) (h : ∀ h', Flying h' e T C .none → (∀ b o, b ≠ T → s.heap.get? b = some o → h'.get? b = some o) → h'.objs.size = s.heap.objs.size → Q () { s with heap := h' }) :
    wpAny M A (setFlight (.ref e) none) Q E s := by
  obtain ⟨⟨vs, sl, he, h1⟩, ⟨oT, ts, hT, hdT, h3⟩, ne⟩ := F
  have h3s : 3 < ts.size := (Array.getElem?_eq_some_iff.mp h3).1
  unfold setFlight
  refine wpAny_bind (wpAny_field he rfl h1 ?_)
  rw [if_pos (show (Value.ref T != Value.none) = true by simp)]
  refine wpAny_setField hT hdT h3s (h _ ⟨⟨vs, sl, (Heap.get?_update_other _ _ ne).trans he, h1⟩, ⟨_, _, Heap.get?_update_self _ hT (Obj.isFreed_of_fields (Obj.data_mapFields hdT _)), Obj.data_mapFields hdT _, by simp [h3s]⟩, ne⟩ (fun b o hb z => (Heap.get?_update_other _ _ (Ne.symm hb)).trans z) (Heap.size_update ..))
theorem leave_made (hfr : A.frames = some (env :: outer)) (hl : s.heap.FunFrames base (env :: outer)) (hf : env.frame = some L) (he : s.heap.get? e = some (EO C vs sl)) (h1 : vs[1]? = some .none)
    (h : ∀ h' T, s.heap.objs.size ≤ T → Flying h' e T C .none → Noted (frs (env :: outer)) s.heap h' e none → Q () { s with heap := h' }) : wpAny M A (leaving env (.ref e)) Q E s := by
  have hef := nofr_of hl he
  refine wpAny_bind (note_made hfr hl hf he h1 fun h' T a F N => flight_none F fun h2 F2 k _ => h h2 T a F2 ⟨fun b o x y w z => k b o (fun q => ?_) (N.keep b o x y w z), fun b o x z => ?_⟩)
  · exact absurd (Heap.lt_size z) (by rw [q]; exact Nat.not_lt.mpr a)
  · obtain ⟨sl', z'⟩ := N.slot b o x z
    exact ⟨sl', k b _ (fun q => absurd (Heap.lt_size z) (by rw [q]; exact Nat.not_lt.mpr a)) z'⟩
theorem leave_on {T0 : Addr} (hfr : A.frames = some (env :: outer)) (hl : s.heap.FunFrames base (env :: outer)) (hf : env.frame = some L) (F : Flying s.heap e T0 C .none)
    (h : ∀ h' T, s.heap.objs.size ≤ T → Flying h' e T C .none → Noted (frs (env :: outer)) s.heap h' e (some T0) → Q () { s with heap := h' }) : wpAny M A (leaving env (.ref e)) Q E s := by
  refine wpAny_bind (note_on hfr hl hf F fun h' T a F N => flight_none F fun h2 F2 k _ => h h2 T a F2 ⟨fun b o x y w z => k b o (fun q => ?_) (N.keep b o x y w z), fun b o x z => ?_⟩)
  · exact absurd (Heap.lt_size z) (by rw [q]; exact Nat.not_lt.mpr a)
  · obtain ⟨sl', z'⟩ := N.slot b o x z
    exact ⟨sl', k b _ (fun q => absurd (Heap.lt_size z) (by rw [q]; exact Nat.not_lt.mpr a)) z'⟩
end
noncomputable def Fly (g : Heap) (H : Hp) (a : Addr) (C : Value) (h : Heap) : Prop := ∃ T, Flying h a T C .none ∧ g.get? a = none ∧ g.get? T = none ∧ H a = none ∧ H T = none
theorem HOk.there {P : Program} {w : World} {H : Hp} {h : Heap} (x : HOk P w H h) {e : Addr} {u : HO} (q : H e = some u) : ∃ o, h.get? e = some o := by
  have ok := x e u q
  cases u with
  | lst xs => obtain ⟨_, _, _, _, z⟩ := ok; exact ⟨_, z⟩
  | tup xs => obtain ⟨_, _, _, o, z, _⟩ := ok; exact ⟨_, z⟩
  | dK kvs => obtain ⟨_, _, _, _, o, _, _, z, _⟩ := ok; exact ⟨_, z⟩
  | dT kvs => obtain ⟨_, _, _, _, o, _, _, z, _⟩ := ok; exact ⟨_, z⟩
  | set S n => obtain ⟨o, _, _, _, z, _⟩ := ok; exact ⟨_, z⟩
  | ins C dx fs => obtain ⟨_, _, _, z, _⟩ := ok; exact ⟨_, z⟩
  | own x => exact ok
  | xd fs => obtain ⟨_, ⟨o, _, _, z, _⟩, _⟩ := ok; exact ⟨_, z⟩
  | rng lo hi => obtain ⟨_, _, _, z⟩ := ok; exact ⟨_, z⟩
  | frz o u => exact ⟨_, ok.1⟩
  | tbl ps => exact ⟨_, ok⟩
  | met f x => exact ⟨_, ok⟩
  | ext φ => exact ok.2.1
theorem HOk.free_of {P : Program} {w : World} {H : Hp} {h : Heap} (x : HOk P w H h) {e : Addr} (q : h.get? e = none) : H e = none := by
  cases z : H e with
  | none => rfl
  | some u =>
    obtain ⟨o, y⟩ := x.there z
    rw [q] at y; cases y
noncomputable def CXE (P : Program) (w : World) : CXT := fun outer H s E e s' => ∃ a C H', e = .ref a ∧ Fly s.heap H' a C s'.heap ∧ s'.os = s.os ∧ AllBare s'.gens ∧ Un (frs outer) [] H H' s.heap s'.heap ∧ HOk P w H' s'.heap ∧ E C none H'
section
variable {X : Cx} {pins : List (Addr × Obj)} {σ : St} {H : Hp} {s : Shared}
theorem Inv.noted (I : Inv X pins σ H s) {h' : Heap} {e : Addr} {T0 : Option Addr} (N : Noted (frs X.stack) s.heap h' e T0) (he : H e = none) (h0 : X.s₀.heap.get? e = none) (hT : ∀ t, T0 = some t → H t = none ∧ X.s₀.heap.get? t = none) (hx : X.ex = []) :
    Un X.fs [] X.H₀ H X.s₀.heap h' ∧ HOk X.prog X.w H h' := by
  have neS : ∀ b o, X.s₀.heap.get? b = some o → b ≠ e ∧ some b ≠ T0 ∧ b ≠ X.env.locals := fun b o q => by
    have l := Heap.lt_size q
    refine ⟨fun z => ?_, fun z => ?_, fun z => ?_⟩
    · rw [z, h0] at q; cases q
    · rw [(hT b z.symm).2] at q; cases q
    · rw [z] at l; exact absurd l (Nat.not_lt.mpr I.ok.above)
  have st : ∀ b, b ∉ X.fs → b ≠ X.env.locals → b ∉ frs X.stack := fun b h1 h2 h3 => by
    rcases List.mem_cons.mp (I.stkSub b h3) with z | z
    · exact h2 z
    · exact h1 z
  have base := I.base
  rw [hx] at base
  refine ⟨⟨fun b o q n hb _ => ?_, fun b o q n hb _ => ?_, fun b o q n _ => base.free b o q n (by simp), fun b o q _ => ?_, base.tups, base.frzs, base.tbls⟩, fun a o q => ?_⟩
  · obtain ⟨z1, z2, z3⟩ := neS b o q
    exact N.keep b o (st b hb z3) z1 z2 (base.keep b o q n hb (by simp))
  · obtain ⟨z1, z2, z3⟩ := neS b o q
    obtain ⟨sl, q1⟩ := base.slot b o q n hb (by simp)
    by_cases hs : b ∈ frs X.stack
    · obtain ⟨sl', q2⟩ := N.slot b _ hs q1
      exact ⟨sl', q2⟩
    · exact ⟨sl, N.keep b _ hs z1 z2 q1⟩
  · obtain ⟨z1, z2, z3⟩ := neS b o q
    obtain ⟨o', q1⟩ := base.there b o q (by simp)
    by_cases hs : b ∈ frs X.stack
    · obtain ⟨sl', q2⟩ := N.slot b _ hs q1
      exact ⟨_, q2⟩
    · exact ⟨o', N.keep b _ hs z1 z2 q1⟩
  · have keep : ∀ b u, H b = some u → ∀ ob, s.heap.get? b = some ob → h'.get? b = some ob := fun b u z ob q' => by
      refine N.keep b ob (fun hm => ?_) (fun w => ?_) (fun w => ?_) q'
      · rw [I.stkFree b hm] at z; cases z
      · rw [w, he] at z; cases z
      · rw [(hT b w.symm).1] at z; cases z
    refine (I.hok a o q).stay (fun b u hb q' => ?_) (fun _ z => z) fun _ _ z => z
    rcases hb with z | z
    · exact keep b o (z ▸ q) u q'
    · exact keep b _ z u q'
theorem there_of (I : Inv X pins σ H s) (hx : X.ex = []) {b : Addr} (h : s.heap.get? b = none) : X.s₀.heap.get? b = none := by
  cases q : X.s₀.heap.get? b with
  | none => rfl
  | some o =>
    obtain ⟨o', z⟩ := I.base.there b o q (by rw [hx]; simp)
    rw [h] at z; cases z
end
section
variable {P : Program} {w : World} {K : PySem.W.Frag} {mg : Str → Option Value} {base : Heap} {N : List Str} {qual : Str} {scope : Scope} {f : Addr} {cd : Value} {A : Around} {outer : List Env} {s₀ : Shared} {H₀ : Hp} {E : XK}
noncomputable def Raises (X : Cx) (E : XK) : Prop := ∀ (pins : List (Addr × Obj)) (σ : St) (H : Hp) (s : Shared) (C e : Addr) (vs : List Value) (h' : Heap), Inv X pins σ H s → Heap.MadeExcOf s.heap h' e (.ref C) vs → E (.ref C) none H → X.xe (.ref e) { s with heap := h' }
theorem raises_cx : Raises (cxOf (CXE P w) P w K mg base N qual scope f cd A outer s₀ H₀ E) E := by
  intro pins σ H s C e vs h' I hx hE
  have J := I.kept (h' := h') (t' := s.toks) hx.keeps
  obtain ⟨t, he, htn, ht⟩ := hx.there
  have heH : H e = none := I.hok.free_of hx.new
  show wpAny (model P w) (A.deeper (envOfC qual scope s₀.heap.objs.size f cd)) (leaving (envOfC qual scope s₀.heap.objs.size f cd) (.ref e)) _ _ _
  refine leave_made (s := { s with heap := h' }) (base := base) J.ok.frames J.stack rfl he rfl fun h2 T a F Nt => ?_
  have hT : h'.get? T = none := Heap.get?_none_of_le a
  obtain ⟨U, ok⟩ := J.noted Nt heH (there_of I rfl hx.new) (fun _ z => nomatch z) rfl
  exact ⟨e, .ref C, H, rfl, ⟨T, F, there_of I rfl hx.new, there_of J rfl hT, heH, J.hok.free_of hT⟩, J.os, J.bare, U, ok, hE⟩
theorem passes_cx {E' : XK} (hE : ∀ C d H, E' C d H → E C d H) : Passes (CXE P w) (cxOf (CXE P w) P w K mg base N qual scope f cd A outer s₀ H₀ E) E' := by
  intro pins σ H s e s' I h
  obtain ⟨a, C, H', rfl, ⟨T, F, a1, a2, a3, a4⟩, ho, hg, U, ok, hE'⟩ := h
  have J := I.call' (s' := s') (ch := []) ho U ok hg (fun _ z => nomatch z)
  show wpAny (model P w) (A.deeper (envOfC qual scope s₀.heap.objs.size f cd)) (leaving (envOfC qual scope s₀.heap.objs.size f cd) (.ref a)) _ _ _
  refine leave_on (base := base) J.ok.frames J.stack rfl F fun h2 T2 b F2 Nt => ?_
  have hT : s'.heap.get? T2 = none := Heap.get?_none_of_le b
  obtain ⟨U2, ok2⟩ := J.noted Nt a3 (there_of I rfl a1) (fun t z => by cases z; exact ⟨a4, there_of I rfl a2⟩) rfl
  exact ⟨a, C, H', rfl, ⟨T2, F2, there_of I rfl a1, there_of J rfl hT, a3, J.hok.free_of hT⟩, J.os, J.bare, U2, ok2, hE _ _ _ hE'⟩
end
end L2
set_option Elab.async false
set_option linter.all false
set_option maxRecDepth 100000
set_option maxHeartbeats 4000000
namespace L2
open PySem PySem.Spec PyProof.Rows
section
variable {P : Program} {w : World} {K : PySem.W.Frag} {mg : Str → Option Value} {base : Heap}
theorem Fun.okX {x qual : Str} {st : Stmt} {f : Addr} {fd : FuncData} {N ps : List Str} {k : Nat} {sp : Sp} (F : Fun K x qual st f fd) (S : FnScope N ps (defScope st)) (len : ∀ vs H Q E, sp vs H Q E → vs.length = ps.length)
    (hbody : ∀ (cdv : Value) (A : Around) (outer : List Env) (s : Shared) (H : Hp) (vs : List V) (Q : VK) (E : XK), Room k (A.deeper (envOfC qual (defScope st) s.heap.objs.size f cdv)) → sp vs H Q E →
      ∃ t, PSs (cxOf (CXE P w) P w K mg base N qual (defScope st) f cdv A outer s H E) (defBody st) t ∧ t { nx := fun _ H' => Q .non H', rt := Q } (L2.start N vs) H) : FnOk P w K mg base (CXE P w) (k + 1) f fd ps sp := by
  obtain ⟨oc, od, kV, doc, pm, an, cdv, ct, osl, rfl, lk, hcd⟩ := F.ex
  exact fn_of lk hcd S len fun A outer s H vs Q E hr hsp => hbody cdv A outer s H vs Q E hr hsp
theorem passE0 {X : Cx} : Passes (CXE P w) X E0 := fun _ _ _ _ _ _ _ ⟨_, _, _, _, _, _, _, _, _, z⟩ => z.elim
end
section
variable {X : Cx} {st : Stmt} {t : TS}
theorem PS.nox (h : PS X.nox st t) : PS X st t := fun pins s σ H D I hw =>
  wpAny_mono (h pins s σ H D (I.wish _) hw) (fun _ _ q => SP.unwish q) fun _ _ q => q.elim
end
theorem toStr_len {i : Int} (h : i.natAbs < 10 ^ 100) : (toString i : Str).length ≤ 101 := by
  have e := PySem.int_text_length_le10 (k := 100) (by decide) h
  show (Str.ofString (toString i)).length ≤ 101
  rw [PySem.ofString_length]
  omega
section
variable {X : Cx} {e : Expr} {es : List Expr} {te : TE} {pos : Pos}
noncomputable def tFmt (te : TE) : TE := fun σ H Q => te σ H fun x H1 => (∃ y, x = .str y ∧ y.length ≤ sizeLine ∧ Q (.str y) H1) ∨ (∃ i : Int, x = .int i ∧ i.natAbs < 10 ^ 100 ∧ Q (.str (toString i)) H1)
theorem pe_fmt (he : PE X e te) : PE X (.FormattedValue e (-1) none pos) (tFmt te) := by
  intro pins s σ H Q I h
  refine FormattedValue_plain (thn (he pins s σ H _ I h) fun v s1 ⟨x, H1, I1, r, q⟩ => ?_)
  rcases q with ⟨y, rfl, hy, q⟩ | ⟨i, rfl, hi, q⟩
  · obtain ⟨t, rfl⟩ := r
    exact formatField_str (fun t' tk => ⟨.str y, H1, I1.tok tk, ⟨t', rfl⟩, q⟩) hy
  · obtain ⟨t, rfl⟩ := r
    exact formatField_int_small (Nat.lt_trans (log2_small hi) (by decide)) ⟨.str (toString i), H1, I1.tok _, ⟨_, rfl⟩, q⟩
noncomputable def PJ (X : Cx) (es : List Expr) (t : Str → TE) : Prop :=
  ∀ (acc : Str) (pins : List (Addr × Obj)) (s : Shared) (σ : St) (H : Hp) (Q : VK), Inv X pins σ H s → t acc σ H Q → wpAny (model X.prog X.w) X.A (joinParts acc (evalEach es X.env)) (EP X pins σ Q) X.xe s
noncomputable def jNil : Str → TE := fun acc _ H Q => acc.length ≤ sizeLine ∧ Q (.str acc) H
noncomputable def jCons (te : TE) (t : Str → TE) : Str → TE := fun acc σ H Q => te σ H fun x H1 => ∃ y, x = .str y ∧ (acc ++ y).length ≤ sizeLine ∧ t (acc ++ y) σ H1 Q
theorem pj_nil : PJ X [] jNil := fun acc _ _ _ H Q I h => joinParts_nil ⟨.str acc, H, I.tok _, ⟨_, rfl⟩, h.2⟩ h.1
theorem pj_cons {t : Str → TE} (he : PE X e te) (hr : PJ X es t) (hs : evalEach (e :: es) X.env = eval e X.env :: evalEach es X.env := by rfl) : PJ X (e :: es) (jCons te t) := by
  intro acc pins s σ H Q I h
  rw [hs]
  refine joinParts_cons (thn (he pins s σ H _ I h) fun v s1 ⟨x, H1, I1, r, y, e1, hz, q⟩ => ?_)
  subst e1
  obtain ⟨t', rfl⟩ := r
  exact ⟨hz, hr (acc ++ y) pins s1 σ H1 Q I1 q⟩
theorem pe_joined {e2 : Expr} {t : Str → TE} (h : PJ X (e :: e2 :: es) t) : PE X (.JoinedStr (e :: e2 :: es) pos) (t Str.empty) := fun pins s σ H Q I hw => JoinedStr_many (h Str.empty pins s σ H Q I hw)
end
noncomputable abbrev veMro : List Value := [.type "ValueError", .type "Exception", .type "BaseException", .type "object"]
noncomputable abbrev ExcC (K : PySem.W.Frag) (C : Addr) : Prop := PySem.W.excIn K C veMro "ValueError.__new__" = true
theorem exc_obj {K : PySem.W.Frag} {h : Heap} {C : Addr} (X : K.In h) (q : ExcC K C) : ∃ tl M nm qn bs hd sn sub ab col dd k0 k1 k2 k3 k5 mN,
    h.get? C = some (excClassObj nm qn C M bs tl hd sn sub ab col dd k0 k1 k2 k3 k5 "ValueError.__new__") ∧ h.Ns M mN ∧ mN "__init__" = none ∧ OwnTail h veMro tl := by
  unfold ExcC PySem.W.excIn at q
  split at q
  · rename_i dd cd sl ho
    split at q
    · rename_i C' tl k0 k1 k2 k3 nid k5 hm hs
      simp only [Bool.and_eq_true, beq_iff_eq, Bool.not_eq_true'] at q
      obtain ⟨⟨⟨⟨⟨rfl, rfl⟩, q1⟩, q2⟩, q3⟩, q4⟩ := q
      obtain ⟨nm, bs, mr, M, qn, hd, sn, sub, ab, col, dl⟩ := cd
      dsimp only at hm q1 q3 q4
      subst hm q1
      obtain ⟨ls⟩ := sl
      have hs' : ls = [k0, k1, k2, k3, some (.builtin "ValueError.__new__"), k5] := hs
      subst hs'
      exact ⟨tl, M, nm, qn, bs, hd, sn, sub, ab, col, dd, k0, k1, k2, k3, k5, _, X _ _ ho, .of_isNs (PySem.W.isNs_of_in X q3), PySem.W.nsMap_none_of_in X q3 q4, PySem.W.tail_of_in X q2⟩
    · cases q
  · cases q
section
variable {X : Cx} {x : Str} {C : Addr} {e : Expr} {te : TE} {np cpos pos : Pos} {E : XK}
noncomputable def tRaise (C : Addr) (E : XK) (te : TE) : TS := fun _ σ H => te σ H fun _ H1 => E (.ref C) none H1
theorem ps_raise (hX : Raises X E) (hc : X.calm = true) (hg : Gl X x) (hm : X.mg x = some (.ref C)) (q : ExcC X.K C) (he : PE X e te) (hd : (x == ("__debug__" : Str)) = false := by decide)
    (hs : starEach [e] X.env = [(false, eval e X.env)] := by rfl) : PS X (.Raise (some (.Call (.Name x np) [e] [] cpos)) none pos) (tRaise C E te) := by
  intro pins s σ H D I h
  obtain ⟨tl, M, nm, qn, bs, hd', sn, sub, ab, col, dd, k0, k1, k2, k3, k5, mN, hC, hN, hni, hT⟩ := exc_obj I.mod.kin q
  refine wpAny_Raise_call_subT (C := C) (nm := nm) (q := qn) (N := M) (bs := bs) (bm := tl) (hdct := hd') (sn := sn) (sub := sub) (ab := ab) (col := col) (dd := dd) (k0 := k0) (k1 := k1) (k2 := k2) (k3 := k3) (k5 := k5)
    PySem.F.excBase_ValueError (mN := mN) (hT.hasType (by decide)) (I.ok.hd hc) (by rw [hs]; rfl) hni (ld_glob I hg hm ⟨rfl, ?_⟩ hd)
  rw [hs]
  refine Calls.evalArgs_plain (Calls.spliced_cons (thn (he pins s σ H _ I h) fun u s1 ⟨v, H1, I1, r, z⟩ => Calls.spliced_nil ?_))
  exact ⟨rfl, by show 1 ≤ sizeLine; decide, I1.bk _ _ hC, hN.keeps I1.bk, hT.keeps I1.bk, fun h' a hm => hX pins σ H1 s1 C a _ h' I1 hm z⟩
end
end L2
set_option Elab.async false
set_option linter.all false
set_option maxRecDepth 100000
set_option maxHeartbeats 4000000
namespace L2
open PySem PySem.Spec PyProof.Rows
section
variable {X : Cx} {pins : List (Addr × Obj)} {σ σ' : St} {H : Hp} {s : Shared}
theorem Inv.frame {h' : Heap} {m' : Str → Option Value} {t : Nat} (I : Inv X pins σ H s) (sb : ∀ b, b ≠ X.env.locals → h'.get? b = s.heap.get? b) (hn : h'.Ns X.env.locals m')
    (hl : ∀ (i : Nat) (x : Str) (v : V), X.N[i]? = some x → σ'[i]? = some (some v) → Vis X.env.scope x → ∃ u, RelV v u ∧ Look X.env h' m' x u) (len : σ'.length = σ.length) : Inv X pins σ' H { s with heap := h', toks := t } := by
  have neL : ∀ b o, X.s₀.heap.get? b = some o → b ≠ X.env.locals := fun b o e => Nat.ne_of_lt (Nat.lt_of_lt_of_le (Heap.lt_size e) I.ok.above)
  refine ⟨I.ok, I.os, I.bare, ⟨fun b o e n hb hx => ?_, fun b o e n hb hx => ?_, I.base.free, fun b o e hx => ?_, I.base.tups, I.base.frzs, I.base.tbls⟩, ⟨m', hn, hl⟩, fun x c e => ?_, I.free, I.freeC, fun p hp => ?_, fun a o e => ?_, len.trans I.len⟩
  · exact (sb b (neL b o e)).trans (I.base.keep b o e n hb hx)
  · obtain ⟨sl, q⟩ := I.base.slot b o e n hb hx
    exact ⟨sl, (sb b (neL b o e)).trans q⟩
  · obtain ⟨o', q⟩ := I.base.there b o e hx
    exact ⟨o', (sb b (neL b o e)).trans q⟩
  · obtain ⟨v, o, ho, hd⟩ := I.cell x c e
    exact ⟨v, o, (sb c (I.cne x c e)).trans ho, hd⟩
  · obtain ⟨e, n, ne, r⟩ := I.pin p hp
    exact ⟨(sb p.1 ne).trans e, n, ne, r⟩
  · have ne : ∀ b u, H b = some u → b ≠ X.env.locals := fun b u q z => by rw [z, I.free] at q; cases q
    refine (I.hok a o e).stay (fun b u hb q => ?_) (fun _ z => z) fun _ _ z => z
    rcases hb with z | z
    · exact (sb b (ne b o (z ▸ e))).trans q
    · exact (sb b (ne b _ z)).trans q
theorem Inv.after_note {h' : Heap} {e : Addr} {T0 : Option Addr} (I : Inv X pins σ H s) (N : Noted (frs X.stack) s.heap h' e T0) (hx : X.ex = []) (he : H e = none) (h0 : X.s₀.heap.get? e = none) (hT : ∀ t, T0 = some t → H t = none ∧ X.s₀.heap.get? t = none)
    (hp : ∀ p ∈ X.pn ++ pins, p.1 ≠ e ∧ some p.1 ≠ T0) (hc : ∀ x c, X.env.cells.lookup x = some c → c ≠ e ∧ some c ≠ T0) (hcf : ∀ x c, X.env.cells.lookup x = some c → c ∉ frs X.stack) (hL : X.env.locals ≠ e ∧ some X.env.locals ≠ T0) : Inv X pins σ H { s with heap := h' } := by
  obtain ⟨U, ok⟩ := I.noted N he h0 hT hx
  rw [← hx] at U
  obtain ⟨m, hn, hl⟩ := I.loc
  have cellK : ∀ x c, X.env.cells.lookup x = some c → ∀ v, s.heap.IsCell c v → h'.IsCell c v := fun x c e v ⟨o, ho, hd⟩ =>
    ⟨o, N.keep c o (hcf x c e) (hc x c e).1 (hc x c e).2 ho, hd⟩
  refine ⟨I.ok, I.os, I.bare, U, ⟨m, ?_, fun i x v e1 e2 e3 => ?_⟩, fun x c q => ?_, I.free, I.freeC, fun p hpp => ?_, ok, I.len⟩
  · obtain ⟨o, es, ep, ho, r⟩ := hn
    by_cases hs : X.env.locals ∈ frs X.stack
    · obtain ⟨sl, q⟩ := N.slot _ o hs ho
      exact ⟨_, es, ep, q, r⟩
    · exact ⟨o, es, ep, N.keep _ o hs hL.1 hL.2 ho, r⟩
  · obtain ⟨u, r, l⟩ := hl i x v e1 e2 e3
    refine ⟨u, r, ?_⟩
    rcases l with l | ⟨k, c, q, z⟩
    · exact .inl l
    · exact .inr ⟨k, c, q, cellK x c q _ z⟩
  · obtain ⟨v, z⟩ := I.cell x c q
    exact ⟨v, cellK x c q v z⟩
  · obtain ⟨q, n, ne, nf, d⟩ := I.pin p hpp
    refine ⟨N.keep p.1 p.2 (fun hm => ?_) (hp p hpp).1 (hp p hpp).2 q, n, ne, nf, d⟩
    rcases List.mem_cons.mp (I.stkSub p.1 hm) with z | z
    · exact ne z
    · exact nf z
noncomputable abbrev Cx.marked (X : Cx) (v : Option Value) : Cx := { X with A := X.A.mark v, calm := false, xe := fun _ _ => False }
theorem Inv.mark (I : Inv X pins σ H s) (v : Option Value) : Inv (X.marked v) pins σ H s :=
  ⟨⟨I.ok.mod, I.ok.kind, I.ok.glob, I.ok.blt, I.ok.above, I.ok.inj, I.ok.has, I.ok.cab, (fun z => nomatch z), I.ok.frames, I.ok.stk, I.ok.exf, I.ok.bs, I.ok.bsz, I.ok.noex, I.ok.exfs, I.ok.funs, I.ok.frf⟩, I.os, I.bare, I.base, I.loc, I.cell, I.free, I.freeC, I.pin, I.hok, I.len⟩
theorem Inv.unmark {v : Option Value} (J : X.Ok) (I : Inv (X.marked v) pins σ H s) : Inv X pins σ H s := ⟨J, I.os, I.bare, I.base, I.loc, I.cell, I.free, I.freeC, I.pin, I.hok, I.len⟩
noncomputable def excH (a : Addr) (C : Value) : HO := .ext fun h => ∃ vs sl, h.get? a = some (EO C vs sl)
theorem excH_ok {P : Program} {w : World} {h : Heap} {a : Addr} {C : Value} (e : ∃ vs sl, h.get? a = some (EO C vs sl)) : ObjOk P w H h a (excH a C) :=
  ⟨e, let ⟨_, _, q⟩ := e; ⟨_, q⟩, fun h1 h2 ⟨vs, sl, q⟩ k => ⟨vs, sl, k _ q⟩⟩
theorem Inv.track {a : Addr} {o : HO} (I : Inv X pins σ H s) (hf : H a = none) (h0 : X.s₀.heap.get? a = none) (ok : ∀ H', ObjOk X.prog X.w H' s.heap a o) (hL : a ≠ X.env.locals) (hfs : ∀ x c, X.env.cells.lookup x = some c → c ≠ a) (hp : ∀ p ∈ X.pn ++ pins, p.1 ≠ a) (hx : X.ex = []) (ho : ∀ ob u, o ≠ .frz ob u) :
    Inv X pins σ (upd H a o) s := by
  have ne : ∀ b u, H b = some u → b ≠ a := fun b u q z => by rw [z, hf] at q; cases q
  have base := I.base
  refine ⟨I.ok, I.os, I.bare, ⟨base.keep, base.slot, fun b u q n hb => ?_, base.there, fun b xs q => ?_, fun b u v q => ?_, fun b ps q => ?_⟩, I.loc, I.cell, ?_, fun x c q => ?_, fun p hpp => ?_, fun b u q => ?_, I.len⟩
  · rw [upd_ne (fun z => by rw [z, h0] at q; cases q)]; exact base.free b u q n hb
  · have := base.tups b xs q
    rw [upd_ne (ne _ _ this)]; exact this
  · have := base.frzs b u v q
    rw [upd_ne (ne _ _ this)]; exact this
  · obtain ⟨more, this⟩ := base.tbls b ps q
    exact ⟨more, by rw [upd_ne (ne _ _ this)]; exact this⟩
  · rw [upd_ne hL.symm]; exact I.free
  · rw [upd_ne (hfs x c q)]; exact I.freeC x c q
  · obtain ⟨e, n, r⟩ := I.pin p hpp
    exact ⟨e, by rw [upd_ne (hp p hpp)]; exact n, r⟩
  · by_cases z : b = a
    · subst z
      rw [upd_same] at q
      cases q
      exact ok _
    · rw [upd_ne z] at q
      refine (I.hok b u q).stay (fun c v hc q' => q') (fun c hc => ?_) fun c xs hc => ?_
      · rw [upd_ne (ne _ _ hc)]; exact hc
      · rw [upd_ne (ne _ _ hc)]; exact hc
end
theorem eo_type {M : Model} {h : Heap} {a : Addr} {C : Value} {vs : Array Value} {sl : Array (Option Value)} (e : h.get? a = some (EO C vs sl)) : PySem.W.Looks M h (typeOf (.ref a)) C := by
  intro A Q E s k q
  unfold typeOf
  exact wpAny_bind (wpAny_loadPart (k _ _ e) (wpAny_pure q))
section
variable {X : Cx}
noncomputable abbrev TX := St → Hp → (Value → Hp → Prop) → Prop
noncomputable def PX (X : Cx) (body : List Stmt) (tb : TX) : Prop := ∀ (pins : List (Addr × Obj)) (s : Shared) (σ : St) (H : Hp) (R : Value → Hp → Prop), Inv X pins σ H s → tb σ H R →
  wpAny (model X.prog X.w) X.A (execs body X.env) (fun _ _ => False) (fun e s' => ∃ a C H', e = .ref a ∧ Inv X pins σ H' s' ∧ Fly s.heap H' a C s'.heap ∧ R C H') s
noncomputable def tTryX (K : PySem.W.Frag) (CP : Addr) (ie : Nat) (tb : TX) (ts : TS) : TS := fun D σ H => tb σ H fun C H' => PySem.W.exmOne K C (.ref CP) = some true ∧
  ∀ a, H' a = none → ts { nx := fun σ2 H2 => D.nx (σ2.set ie none) H2, rt := fun _ _ => False } (σ.set ie (some (.ref a))) (upd H' a (excH a C))
theorem ps_tryX {body suite : List Stmt} {b0 : Stmt} {cx n : Str} {CP : Addr} {ie : Nat} {tb : TX} {ts : TS} {np pos pos' : Pos} (hN : X.N.Nodup) (hi : X.N[ie]? = some n) (hn : X.env.scope.names.lookup n = some .local) (hx : X.ex = []) (hst : X.stack = X.env :: X.outer) (hfr : X.env.frame = some X.env.locals) (hcl : X.env.cells = [])
    (hg : Gl X cx) (hm : X.mg cx = some (.ref CP)) (hb : PX X body tb) (hs : ∀ v, PSs (X.marked v) (b0 :: suite) ts) (hd : (cx == ("__debug__" : Str)) = false := by decide) :
    PS X (.Try body [.ExceptHandler (some (.Name cx np)) (some n) (b0 :: suite) pos] [] [] pos') (tTryX X.K CP ie tb ts) := by
  intro pins s σ H D I h
  refine wpAny_Try_except (wpAny_mono (hb pins s σ H _ I h) (fun _ _ z => z.elim) fun e s1 ⟨a, C, H', ee, J, F, hmat, hR⟩ => ?_)
  subst ee
  obtain ⟨T, Fl, g1, g2, f1, f2⟩ := F
  have fr1 : X.A.frames = some (X.env :: X.outer) := by rw [← hst]; exact J.ok.frames
  have ff1 : s1.heap.FunFrames X.base (X.env :: X.outer) := by rw [← hst]; exact J.stack
  refine note_on (base := X.base) fr1 ff1 hfr Fl fun h2 T2 a2 Fl2 N => ?_
  refine flight_none (s := { s1 with heap := h2 }) Fl2 fun h3 Fl3 k3 _ => ?_
  have neT2 : ∀ b o, s1.heap.get? b = some o → b ≠ T2 := fun b o q z => absurd (Heap.lt_size q) (by rw [z]; exact Nat.not_lt.mpr a2)
  have N3 : Noted (frs X.stack) s1.heap h3 a (some T) := by
    rw [hst]
    refine ⟨fun b o x y z q => k3 b o (neT2 b o q) (N.keep b o x y z q), fun b o x q => ?_⟩
    obtain ⟨sl, q'⟩ := N.slot b o x q
    exact ⟨sl, k3 b _ (neT2 b o q) q'⟩
  have a0 := there_of I hx g1
  have t0 := there_of I hx g2
  have locs : ∃ o, s.heap.get? X.env.locals = some o := let ⟨_, ⟨o, _, _, q, _⟩, _⟩ := I.loc; ⟨o, q⟩
  have ne_a : ∀ b o, s.heap.get? b = some o → b ≠ a := fun b o q z => by rw [z, g1] at q; cases q
  have ne_T : ∀ b o, s.heap.get? b = some o → b ≠ T := fun b o q z => by rw [z, g2] at q; cases q
  have La : X.env.locals ≠ a := let ⟨o, q⟩ := locs; ne_a _ o q
  have nocell : ∀ x c, X.env.cells.lookup x = some c → False := fun x c q => by rw [hcl] at q; cases q
  have J3 : Inv X pins σ H' { s1 with heap := h3 } := by
    refine J.after_note N3 hx f1 a0 (fun t z => by cases z; exact ⟨f2, t0⟩) (fun p hp => ⟨ne_a _ _ (I.pin p hp).1, fun z => ne_T _ _ (I.pin p hp).1 (Option.some.inj z)⟩) (fun x c q => (nocell x c q).elim) (fun x c q => (nocell x c q).elim) ⟨La, fun z => ?_⟩
    obtain ⟨o, q⟩ := locs
    exact ne_T _ o q (Option.some.inj z)
  obtain ⟨⟨vs, sl, hea, _⟩, _, _⟩ := id Fl3
  refine wpAny_handleBy_cons (codeAny_handlers_test ?_) (by intro q; cases q)
  refine ld_glob (X := X.marked (some (.ref a))) (J3.mark _) hg hm ?_ hd
  have LM := PySem.W.exm_one (M := model X.prog X.w) J3.kIn (eo_type hea) hmat
  refine LM _ _ _ { s1 with heap := h3 } (fun _ _ q => q) ?_
  refine codeAny_handlers_suite_as (flight_none (s := { s1 with heap := h3 }) Fl3 fun h4 Fl4 k4 _ => ?_)
  have N4 : Noted (frs X.stack) h3 h4 a (some T2) := ⟨fun b o _ _ z q => k4 b o (fun w => z (by rw [w])) q, fun b o x q => ⟨o.slots, k4 b o (fun w => ?_) q⟩⟩
  rotate_left
  · have := J3.stack
    obtain ⟨_, o', q', hnf⟩ := this.mem x
    obtain ⟨oT, ts', q2, q3, _⟩ := Fl3.tr
    rw [w] at q'
    rw [show ({ s1 with heap := h3 } : Shared).heap.get? T2 = some oT from q2] at q'
    cases q'
    exact hnf ts' q3
  have T2free : H' T2 = none := J.hok.free_of (Heap.get?_none_of_le a2)
  have T2new : X.s₀.heap.get? T2 = none := there_of J hx (Heap.get?_none_of_le a2)
  have J4 : Inv X pins σ H' { s1 with heap := h4 } := by
    refine J3.after_note N4 hx f1 a0 (fun t z => by cases z; exact ⟨T2free, T2new⟩) (fun p hp => ⟨ne_a _ _ (I.pin p hp).1, fun z => neT2 _ _ (J.pin p hp).1 (Option.some.inj z)⟩) (fun x c q => (nocell x c q).elim) (fun x c q => (nocell x c q).elim) ⟨La, fun z => ?_⟩
    obtain ⟨_, ⟨o, _, _, q, _⟩, _⟩ := J.loc
    exact neT2 _ o q (Option.some.inj z)
  have J5 : Inv X pins σ (upd H' a (excH a C)) { s1 with heap := h4 } := by
    refine J4.track f1 a0 (fun H2 => excH_ok ?_) La.symm (fun x c q => (nocell x c q).elim) (fun p hp => ne_a _ _ (I.pin p hp).1) hx (fun _ _ z => by cases z)
    obtain ⟨⟨vs', sl', q, _⟩, _, _⟩ := Fl4
    exact ⟨vs', sl', q⟩
  refine store_ok (X := X.marked (some (.ref a))) (J5.mark _) hN hi (.inl hn) (v := .ref a) rfl (fun s5 J6 => ?_) (.inr hn)
  refine wpAny_mono (hs (some (.ref a)) pins s5 _ _ _ J6 (hR a f1)) (fun fl s6 q => ?_) (fun _ _ z => z.elim)
  cases fl with
  | next =>
    obtain ⟨σ6, H6, J7, q⟩ := q
    have J8 : Inv X pins σ6 H6 s6 := J7.unmark I.ok
    obtain ⟨m, hns, hl⟩ := id J8.loc
    refine wpAny_nameGoes_keeps (show X.env.kindOf n = some .local from hn) hns (by rw [I.ok.kind]; rfl) fun h' v hn' sb => ?_
    refine ⟨σ6.set ie none, H6, J8.frame (σ' := σ6.set ie none) (m' := fun x => if x = n then v else m x) (fun b hb => sb.2 b hb) hn' (fun i x u e1 e2 e3 => ?_) (by rw [List.length_set]), q⟩
    have ne : i ≠ ie := fun z => by
      subst z
      have hlt : i < σ6.length := by rw [J8.len]; exact (List.getElem?_eq_some_iff.mp e1).1
      rw [List.getElem?_set_self hlt] at e2
      cases e2
    have nx : x ≠ n := fun z => ne (nodup_ix hN e1 (z ▸ hi))
    rw [List.getElem?_set_ne ne.symm] at e2
    obtain ⟨u', r, l⟩ := hl i x u e1 e2 e3
    refine ⟨u', r, ?_⟩
    rcases l with ⟨l1, l2⟩ | ⟨_, c, e, _⟩
    · exact .inl ⟨l1, by show (if x = n then v else m x) = some u'; rw [if_neg nx]; exact l2⟩
    · exact (nocell x c e).elim
  | brk => obtain ⟨_, _, _, z⟩ := q; exact z.elim
  | cont => obtain ⟨_, _, _, z⟩ := q; exact z.elim
  | ret u => obtain ⟨_, _, _, _, _, z⟩ := q; exact z.elim
end
end L2
set_option Elab.async false
set_option linter.all false
set_option maxRecDepth 100000
set_option maxHeartbeats 4000000
namespace L2
open PySem PySem.Spec PyProof.Rows PySem.W
structure XCls (K : PySem.W.Frag) (C : Addr) : Prop where
  ga : PySem.W.findIn K (.ref C) "__getattribute__" = some (some (.builtin "BaseException.__getattribute__"))
  gt : PySem.W.findIn K (.ref C) "__getattr__" = some none
  hd : PySem.W.hasDictIn K C = true
  cl : PySem.W.findIn K (.ref C) "__class__" = some (some (.builtin "object.__class__"))
  sp : PySem.W.specialIn K (.builtin "object.__class__") "__get__" = some (some (.builtin "getset_descriptor.__get__"))
  tk : PySem.W.takesIn K (.builtin "object.__class__") = some true
  mr : PySem.W.mroIn K C (.type "object") = some true
  sb : PySem.W.subIn K (.ref C) (.type "BaseException") = some true
theorem eo_inst {h : Heap} {a C : Addr} {vs : Array Value} {sl : Array (Option Value)} (e : h.get? a = some (EO (.ref C) vs sl)) : PySem.W.InstAt h a (EO (.ref C) vs sl) C none := ⟨e, rfl, rfl, trivial⟩
theorem exc_class {prog : Program} {w : World} {A : Around} {E : Value → Shared → Prop} {Q : Option Value → Shared → Prop} {s : Shared} {K : PySem.W.Frag} {a C : Addr} {vs : Array Value} {sl : Array (Option Value)} (c : XCls K C) (X : K.In s.heap) (e : s.heap.get? a = some (EO (.ref C) vs sl))
    (q : Q (some (.ref C)) { s with toks := s.toks + 1 }) : wpAny (model prog w) A (getAttr? (.ref a) "__class__") Q E s := by
  have I := eo_inst e
  have hf : findObj K C none "__class__" = some (.bind (.builtin "getset_descriptor.__get__") (.builtin "object.__class__")) := by
    obtain ⟨cd, hc, _⟩ := any_some c.hd
    unfold findObj
    rw [hc, Option.bind_some, c.cl, Option.bind_some]
    simp only [c.sp, c.tk, Option.bind_some]
  obtain ⟨hh, g, d, t, os⟩ := s
  have L0 := I.type (M := model prog w)
  have L1 := looks_findIn (M := model prog w) X c.ga
  have L2 := looks_findIn (M := model prog w) X c.gt
  have L3 := looks_find (M := model prog w) X I hf
  unfold getAttr? getAttrBy? getAttrBy
  refine wpAny_bind (wpAny_mkText (wpAny_bind (wpAny_attempt (wpAny_holding (wpAny_bind (L0.at (wpAny_bind (L1.at ?_))))))))
  show wpAny _ _ (getAttrByItsOwn _ _ _ _ _ _) _ _ _
  unfold getAttrByItsOwn
  refine wpAny_bind (L2.at (wpAny_bind (wpAny_attempt (wpAny_holding ?_))))
  show wpAny _ _ (boundAndCalled _ _ _) _ _ _
  unfold boundAndCalled
  have hbs : bindSpecial (.builtin "BaseException.__getattribute__") (.ref a) = pure (.builtin "BaseException.__getattribute__", [.ref a]) := by
    have hop : withoutEnding? "BaseException.__getattribute__" "#opaque" = none := by decide +kernel
    have hdat : withoutEnding? "BaseException.__getattribute__" "#data" = none := by decide +kernel
    have hk : builtinKind "BaseException.__getattribute__" = some .slot := by decide +kernel
    simp only [bindSpecial, typeOf, builtinType, hop, hdat, hk]; rfl
  rw [hbs]
  refine wpAny_bind (wpAny_pure ?_)
  have L4 := looks_subIn (M := model prog w) X c.sb
  refine wpAny_call (codeAny_call_builtin (by decide +kernel) F.entry_bexc_ga ?_)
  have hk : builtinKind "BaseException.__getattribute__" = some .slot := by decide +kernel
  have hsplit : splitId "BaseException.__getattribute__" = some ("BaseException", "__getattribute__") := by decide +kernel
  have ha := F.args_bexc_ga (.ref a) (.str (Str.ofString "__class__") t)
  simp only [checkBuiltinCall, hk, hsplit]
  have LI : Looks (model prog w) hh (isInstance (.ref a) (.type "BaseException")) true := L0.andThen L4
  refine wpAny_bind (LI.at ?_)
  rw [if_neg (by decide)]
  refine wpAny_mono (Q := fun _ s' => s' = (⟨hh, g, d, t + 1, os⟩ : Shared)) (E := fun _ _ => False) ?_ (fun _ s' z => ?_) (fun _ _ z => z.elim)
  · repeat (first | assumption | rfl | wp_step)
  · subst z
    unfold Builtin.«object.__getattribute__»
    refine wpAny_bind (wpAny_pure ?_)
    refine wpAny_bind (wpAny_pure ?_)
    refine wpAny_bind (L0.at (wpAny_bind (L3.at ?_)))
    show wpAny _ _ (Builtin.ObjectAttr.bindTo _ _ _ _) _ _ _
    show wpAny _ _ (do let r ← holding [Value.builtin "object.__class__"] (call (.builtin "getset_descriptor.__get__") [.builtin "object.__class__", .ref a, .ref C]); ret r) _ _ _
    refine wpAny_bind (wpAny_holding (wpAny_call (class_get (s := ⟨hh, g, d, t + 1, os⟩) (ox := EO (.ref C) vs sl) (od := none) X I c.mr ?_)))
    refine wpAny_pure ?_
    show wpAny _ _ (handedOut (.ref C)) _ _ _
    exact wpAny_pure (wpAny_pure q)
theorem kitx_exc {K : PySem.W.Frag} {a C : Addr} (c : XCls K C) : PySem.W.KitX K (.ref a) (.ref C) (fun h => ∃ vs sl, h.get? a = some (EO (.ref C) vs sl)) where
  ty := fun _ _ _ ⟨_, _, e⟩ => eo_type e
  it := fun _ _ X _ => by
    obtain ⟨cd, hc, _⟩ := any_some c.hd
    unfold clsIn at hc
    split at hc
    · rename_i ho
      intro A' Q' E' s' k q
      unfold isType loadHead
      exact wpAny_bind (wpAny_loadPart (k _ _ (X _ _ ho)) (wpAny_pure q))
    · cases hc
  ne := fun h tp dd its n sl X htp => by
    obtain ⟨cd, hc, _⟩ := any_some c.hd
    refine Bool.eq_false_iff.mpr fun q => ?_
    obtain rfl : C = tp := Value.ref.inj (beq_iff_eq.mp q)
    unfold clsIn at hc
    split at hc
    · rename_i ho
      have z := (X _ _ ho).symm.trans htp
      cases z
    · cases hc
  ca := fun X ⟨_, _, e⟩ k => exc_class c X e k
section
variable {X : Cx}
noncomputable def rIsiX (K : PySem.W.Frag) : List V → Hp → VK → Prop := fun xs H Q => ∃ a C c u b, xs = [.ref a, c] ∧ H a = some (excH a (.ref C)) ∧ XCls K C ∧ clsV c = some u ∧ PySem.W.kitOne K (.ref C) u = some b ∧ Q (.bl b) H
theorem call_isinstX : CallR X (.builtin "isinstance") (rIsiX X.K) := by
  intro pins s σ H xs us Q I r h
  obtain ⟨a, C, c, u', b, rfl, ha, xc, ec, e, q⟩ := h
  obtain ⟨u, w', rfl, rx, rc⟩ := vals2 r
  obtain rfl := clsV_rel ec rc
  cases (show u = Value.ref a from rx)
  obtain ⟨p, _, _⟩ := (show ObjOk X.prog X.w H s.heap a (excH a (.ref C)) from I.hok a _ ha)
  exact PySem.W.kia_one (kitx_exc xc) I.kIn p e (fun z => nomatch z) fun tk => ⟨.bl b, H, I.tok tk, rfl, q⟩
end
end L2
set_option Elab.async false
set_option linter.all false
set_option maxRecDepth 100000
set_option maxHeartbeats 4000000
namespace L2
open PySem PySem.Spec PyProof.Rows
noncomputable def hidS (h : Heap) (H : Hp) (fs : List Addr) : Heap := PySem.W.hideAll h (trk h H ++ fs)
theorem hidS_get {h : Heap} {H : Hp} {fs : List Addr} {b : Addr} {o : Obj} (e : h.get? b = some o) (n : H b = none) (hf : b ∉ fs) : (hidS h H fs).get? b = some o :=
  PySem.W.hideAll_get _ e fun hm => by
    rcases List.mem_append.mp hm with hm | hm
    · have q : (H b).isSome = true := (List.mem_filter.mp hm).2
      rw [n] at q; simp at q
    · exact hf hm
theorem of_hidS {h : Heap} {H : Hp} {fs : List Addr} {b : Addr} {o : Obj} (e : (hidS h H fs).get? b = some o) : h.get? b = some o ∧ H b = none := by
  have e' : h.get? b = some o := PySem.W.of_hideAll _ e
  refine ⟨e', ?_⟩
  cases q : H b with
  | none => rfl
  | some x =>
    have hm : b ∈ trk h H ++ fs := List.mem_append_left _ (List.mem_filter.mpr ⟨List.mem_range.mpr (Heap.lt_size e'), by simp [q]⟩)
    have z : (hidS h H fs).get? b = none := PySem.W.hideAll_none _ hm
    rw [z] at e; cases e
theorem Mod.keeps {K : PySem.W.Frag} {mg : Str → Option Value} {b b' : Heap} (m : Mod K mg b) (k : ∀ a o, b.get? a = some o → b'.get? a = some o) : Mod K mg b' :=
  ⟨m.kin.keeps k, m.glob.keeps k, let ⟨mb, h1, h2⟩ := m.blt; ⟨mb, h1.keeps k, h2⟩, m.nolimit.keeps k⟩
noncomputable def CellsIn (X : Cx) (σ : St) (b : Heap) : Prop := ∀ (i : Nat) (x : Str) (v : V) (c : Addr), X.N[i]? = some x → σ[i]? = some (some v) → X.env.scope.names.lookup x = some .cell → X.env.cells.lookup x = some c → ∃ u, RelV v u ∧ b.IsCell c (some u)
section
variable {X : Cx} {pins : List (Addr × Obj)} {σ : St} {H : Hp} {s : Shared}
theorem Inv.cellsIn (I : Inv X pins σ H s) (hfn : ∀ x, X.fn x = true) : CellsIn X σ (hidS s.heap H (frs X.stack)) := fun i x v c e1 e2 e3 e4 => by
  obtain ⟨m, hn, hl⟩ := I.loc
  obtain ⟨u, r, l⟩ := hl i x v e1 e2 (.inr (.inl e3))
  rcases l with ⟨l, _⟩ | ⟨_, c', e5, o, ho, hd⟩
  · rw [show X.env.kindOf x = X.env.scope.names.lookup x from rfl, e3] at l; cases l
  · rw [e4] at e5
    cases e5
    refine ⟨u, r, o, hidS_get ho (I.freeC x c e4) fun hm => ?_, hd⟩
    rcases List.mem_cons.mp (I.stkSub c hm) with z | z
    · exact I.cne x c e4 z
    · obtain ⟨_, o', ho', _⟩ := I.ok.funs.mem z
      exact absurd (Heap.lt_size ho') (Nat.not_lt.mpr (I.ok.cab x c (hfn x) e4))
end
section
variable {X : Cx} {CX : CXT} {k : Nat} {f C : Addr} {fd : FuncData} {ps : List Str} {dvs : List V} {ds : List Value} {E : XK} {x m : Str} {p pos apos : Pos} {e o : Expr} {es : List Expr} {ta : TE} {t : TA}
noncomputable def tCallW (X : Cx) (sp : Heap → Sp) (dvs : List V) (E : XK) (t : TA) : TE := fun σ H Q => t σ H fun vs H1 => ∀ b, CellsIn X σ b → sp b (vs ++ dvs) H1 Q E
end
noncomputable def LamO (a : Addr) (fd : FuncData) : HO := .ext fun h => h.get? a = some { cls := .type "function", data := .func fd }
noncomputable def CodO (c : Addr) (qual : Str) : HO := .ext fun h => h.CodeRec (.ref c) qual
theorem lamO_ok {P : Program} {w : World} {H : Hp} {h : Heap} {a : Addr} {fd : FuncData} (e : h.get? a = some { cls := .type "function", data := .func fd }) : ObjOk P w H h a (LamO a fd) :=
  ⟨e, ⟨_, e⟩, fun h1 h2 q k => k _ q⟩
theorem codO_ok {P : Program} {w : World} {H : Hp} {h : Heap} {c : Addr} {q : Str} (e : h.CodeRec (.ref c) q) : ObjOk P w H h c (CodO c q) := by
  refine ⟨e, ?_, fun h1 h2 x k => ?_⟩
  · obtain ⟨c', o, vs, t, z, q, _⟩ := e
    cases z
    exact ⟨_, q⟩
  · obtain ⟨c', o, vs, t, z, q, r⟩ := x
    cases z
    exact ⟨c, o, vs, t, rfl, k _ q, r⟩
noncomputable def cxLam (P : Program) (w : World) (K : PySem.W.Frag) (mg : Str → Option Value) (base : Heap) (N : List Str) (qual : Str) (scope : Scope) (f : Addr) (cd : Value) (cl : List (Str × Addr)) (A : Around) (outer : List Env) (s : Shared) (H : Hp) (E : XK) : Cx where
  prog := P
  w := w
  K := K
  mg := mg
  base := base
  A := A.deeper (PySem.W.envX qual scope s.heap.objs.size f cd cl)
  N := N
  s₀ := s
  H₀ := H
  env := PySem.W.envX qual scope s.heap.objs.size f cd cl
  outer := outer
  stack := PySem.W.envX qual scope s.heap.objs.size f cd cl :: outer
  ex := []
  calm := true
  fn := fun _ => false
  pn := []
  xe := fun e s' => wpAny (model P w) (A.deeper (PySem.W.envX qual scope s.heap.objs.size f cd cl)) (leaving (PySem.W.envX qual scope s.heap.objs.size f cd cl) e) (fun _ s'' => CXE P w outer H s E e s'') (fun e' s'' => CXE P w outer H s E e' s'') s'
structure LamScope (N : List Str) (sc : Scope) (cl : List (Str × Addr)) : Prop where
  kind : sc.kind = .function
  co : sc.isCoroutine = false
  gen : sc.isGenerator = false
  nocell : ∀ y ∈ sc.names, y.2 ≠ .cell
  nm : ∀ x ∈ N, sc.names.lookup x = some .free
  has : ∀ x, sc.names.lookup x = some .free → ∃ c, cl.lookup x = some c
  inj : ∀ x y c, cl.lookup x = some c → cl.lookup y = some c → x = y
section
variable {P : Program} {w : World} {K : PySem.W.Frag} {mg : Str → Option Value} {base : Heap} {N : List Str} {name qual : Str} {params : Arguments} {body : Expr} {scope : Scope} {f c' : Addr} {pm ctv : Value} {cl : List (Str × Addr)} {k : Nat}
theorem inv_lam {A : Around} {outer : List Env} {s : Shared} {H : Hp} {E : XK} {h1 : Heap} {tk : Nat} {vs : List V} (S : LamScope N scope cl) (hd : A.handled = none) (e0 : Env0 P w K mg base A outer s H) (hlen : vs.length = N.length)
    (hcl : ∀ x c, cl.lookup x = some c → ∃ v, base.IsCell c v) (hv : ∀ (i : Nat) x v, N[i]? = some x → vs[i]? = some v → ∃ c u, cl.lookup x = some c ∧ RelV v u ∧ base.IsCell c (some u))
    (hns : h1.Ns s.heap.objs.size (fun _ => none)) (hk : ∀ b o, s.heap.get? b = some o → h1.get? b = some o) :
    Inv (cxLam P w K mg base N qual scope f (.ref c') cl A outer s H E) [] (vs.map some) H { s with heap := h1, toks := tk } := by
  have noA : ∀ b : Addr, b ∉ (cxLam P w K mg base N qual scope f (.ref c') cl A outer s H E).ex := fun b z => absurd (show b ∈ ([] : List Addr) from z) (by simp)
  have bk : ∀ c v, base.IsCell c v → h1.IsCell c v ∧ H c = none := fun c v ⟨o, ho, hd⟩ => ⟨⟨o, hk _ _ (e0.bs c o ho).1, hd⟩, (e0.bs c o ho).2⟩
  refine ⟨⟨e0.mod, S.kind, rfl, rfl, Nat.le_refl _, S.inj, fun y hy => ?_, fun y c z _ => (nomatch z), fun _ => hd, Around.frames_deeper e0.frames, .inr ⟨rfl, rfl⟩, fun b z => absurd z (noA b), e0.bs, e0.bsz, fun b _ _ => noA b, fun b z => absurd z (noA b), e0.funs, e0.frf⟩,
    rfl, e0.bare, Un.kept hk, ⟨_, hns, fun i y v h1 h2 h3 => ?_⟩, fun y c h => ?_, e0.hok.fresh (Nat.le_refl _), fun y c h => ?_, fun p hp => absurd (show p ∈ ([] : List (Addr × Obj)) from hp) (by simp), e0.hok.kept hk, ?_⟩
  · have hy : scope.names.lookup y = some .cell ∨ scope.names.lookup y = some .free := hy
    rcases hy with hy | hy
    · exact absurd rfl (S.nocell _ (PySem.mem_of_lookup hy))
    · exact S.has y hy
  · have ha : vs[i]? = some v := by
      rw [List.getElem?_map] at h2
      cases e : vs[i]? with
      | none => rw [e] at h2; cases h2
      | some a => rw [e] at h2; cases h2; rfl
    obtain ⟨c, u, q, r, z⟩ := hv i y v h1 ha
    exact ⟨u, r, .inr ⟨.inr (S.nm y (List.mem_of_getElem? h1)), c, q, (bk c _ z).1⟩⟩
  · obtain ⟨v, z⟩ := hcl y c h
    exact ⟨v, (bk c v z).1⟩
  · obtain ⟨v, z⟩ := hcl y c h
    exact (bk c v z).2
  · show (vs.map some).length = N.length
    rw [List.length_map, hlen]
theorem lam_ok {vs : List V} {sp : Hp → VK → XK → Prop} (S : LamScope N scope cl) (hlen : vs.length = N.length)
    (hcl : ∀ x c, cl.lookup x = some c → ∃ v, base.IsCell c v) (hv : ∀ (i : Nat) x v, N[i]? = some x → vs[i]? = some v → ∃ c u, cl.lookup x = some c ∧ RelV v u ∧ base.IsCell c (some u))
    (hbody : ∀ (A : Around) (outer : List Env) (s : Shared) (H : Hp) (Q : VK) (E : XK), Room k (A.deeper (PySem.W.envX qual scope s.heap.objs.size f (.ref c') cl)) → sp H Q E →
      ∃ t, PE (cxLam P w K mg base N qual scope f (.ref c') cl A outer s H E) body t ∧ t (vs.map some) H Q) :
    FnOk P w K mg base (CXE P w) (k + 1) f (PySem.W.kla_fn name qual params body scope cl pm (.ref c') ctv) []
      (fun us H Q E => us = [] ∧ H f = some (LamO f (PySem.W.kla_fn name qual params body scope cl pm (.ref c') ctv)) ∧ H c' = some (CodO c' qual) ∧ sp H Q E) := by
  refine ⟨fun vs H Q E h => by rw [h.1]; rfl, fun A outer s H args us vs' Q E hr e0 hb r hsp => ?_⟩
  obtain ⟨rfl, hf, hc, hsp⟩ := hsp
  have lim : s.heap.NoLimit := e0.mod.nolimit.keeps fun b o e => (e0.bs b o e).1
  obtain ⟨ho, _, _⟩ := e0.hok f _ hf
  obtain ⟨hcd, _, _⟩ := e0.hok c' _ hc
  refine PySem.W.kla_callFunE hr.depth ho rfl S.co S.gen rfl hcd (hb _ _ _ _ ?_)
  refine wpAny_newFunctionEnv S.nocell (fun y hy => by simp at hy) (fun h₁ hns hsb => ⟨lim.fresh _ hsb, ?_⟩) S.kind
  have hk₁ : ∀ b o, s.heap.get? b = some o → h₁.get? b = some o := fun b o e => hsb.extBut b o (Nat.ne_of_lt (Heap.lt_size e)) (Heap.get?_push_of_some _ e)
  show codeAny _ _ (.expr body (PySem.W.envX qual scope s.heap.objs.size f (.ref c') cl)) _ _
  obtain ⟨t, ht, hq⟩ := hbody A outer s H Q E (hr.deeper _) hsp
  have I := inv_lam (qual := qual) (f := f) (c' := c') (E := E) (tk := s.toks + (([] : List Str).zip us).length) S hr.hd e0 hlen hcl hv hns hk₁
  exact PySem.W.kla_codeExpr (wpAny_mono (ht [] _ _ H _ I hq) (fun u s' ⟨v, H', J, rv, q⟩ => ⟨v, H', J.os, J.bare, J.base, J.hok, rv, q⟩) fun e s' hs => hs)
theorem passes_lam {cd : Value} {A : Around} {outer : List Env} {s₀ : Shared} {H₀ : Hp} {E E' : XK} (hE : ∀ C d H, E' C d H → E C d H) : Passes (CXE P w) (cxLam P w K mg base N qual scope f cd cl A outer s₀ H₀ E) E' := by
  intro pins σ H s e s' I h
  obtain ⟨a, C, H', rfl, ⟨T, F, a1, a2, a3, a4⟩, ho, hg, U, ok, hE'⟩ := h
  have J := I.call' (s' := s') (ch := []) ho U ok hg (fun _ z => nomatch z)
  show wpAny (model P w) (A.deeper (PySem.W.envX qual scope s₀.heap.objs.size f cd cl)) (leaving (PySem.W.envX qual scope s₀.heap.objs.size f cd cl) (.ref a)) _ _ _
  refine leave_on (base := base) J.ok.frames J.stack rfl F fun h2 T2 b F2 Nt => ?_
  have hT : s'.heap.get? T2 = none := Heap.get?_none_of_le b
  obtain ⟨U2, ok2⟩ := J.noted Nt a3 (there_of I rfl a1) (fun t z => by cases z; exact ⟨a4, there_of I rfl a2⟩) rfl
  exact ⟨a, C, H', rfl, ⟨T2, F2, there_of I rfl a1, there_of J rfl hT, a3, J.hok.free_of hT⟩, J.os, J.bare, U2, ok2, hE _ _ _ hE'⟩
end
end L2
set_option Elab.async false
set_option linter.all false
set_option maxRecDepth 100000
set_option maxHeartbeats 4000000
namespace L2
open PySem PySem.Spec PyProof.Rows
section
variable {X : Cx} {k i : Nat} {x : Str} {p pos pos' : Pos}
noncomputable def xCall0 (X : Cx) (k i : Nat) : TX := fun σ H R => ∃ f fd sp, σ[i]? = some (some (.ref f)) ∧ H f = some (LamO f fd) ∧ FnOk X.prog X.w X.K X.mg X.base (CXE X.prog X.w) k f fd [] sp ∧ Binds X.K fd [] [] ∧ sp [] H (fun _ _ => False) (fun C _ H' => R C H')
theorem ld_var {E : Value → Shared → Prop} {pins : List (Addr × Obj)} {s : Shared} {σ : St} {H : Hp} {v : V} {Q : Value → Shared → Prop} (I : Inv X pins σ H s) (hN : X.N[i]? = some x) (hv : Vis X.env.scope x) (e : σ[i]? = some (some v)) (h : ∀ u, RelV v u → Q u s)
    (hd : (x == ("__debug__" : Str)) = false) (hcd : (x == ("__classdict__" : Str)) = false) : wpAny (model X.prog X.w) X.A (eval (.Name x p) X.env) Q E s := by
  obtain ⟨m, hn, hl⟩ := I.loc
  obtain ⟨u, r, l⟩ := hl i x v hN e hv
  have fin := h u r
  rcases l with ⟨hk, hm⟩ | ⟨hk, c, hc, hcell⟩
  · exact wpAny_Name (wpAny_loadName_local I.ok.kind hk hn hm fin) hd
  · rcases hk with hk | hk
    · exact wpAny_Name (wpAny_loadName_cell I.ok.kind hk hc hcell fin) hd
    · exact wpAny_Name (wpAny_loadName_free I.ok.kind hk hc hcell fin hcd) hd
theorem px_call0 (hN : X.N[i]? = some x) (hv : Vis X.env.scope x) (hr : Room k X.A) (hd : (x == ("__debug__" : Str)) = false := by decide) (hcd : (x == ("__classdict__" : Str)) = false := by decide)
    (hs : swapsWith (.Call (.Name x p) [] [] pos) none pos'.line X.env = pure false := by rfl) : PX X [.Expr (.Call (.Name x p) [] [] pos) pos'] (xCall0 X k i) := by
  intro pins s σ H R I h
  obtain ⟨f, fd, sp, e1, hf, F, hb, hsp⟩ := h
  refine wpAny_execs_cons (wpAny_Expr_any (wpAny_Call_Name_kw (ld_var I hN hv e1 (fun u r => ?_) hd hcd)) I.quiet hs)
  cases (show u = Value.ref f from r)
  obtain ⟨ho, _, _⟩ := I.hok f _ hf
  refine PySem.W.callWith_F0 ⟨_, _, _, _, ho⟩ ?_
  refine wpAny_call (codeAny_mono (F.run X.A X.stack s H ⟨[], []⟩ [] [] _ _ hr I.env0 (hb s [] I.kIn rfl) .nil hsp) fun r s' hq => ?_)
  cases r with
  | error e =>
    obtain ⟨a, C, H', rfl, fl, ho, hg, U, ok, hE⟩ := hq
    exact ⟨a, C, H', rfl, I.call' (s' := s') (ch := []) ho U ok hg (fun _ z => nomatch z), fl, hE⟩
  | ok fl =>
    cases fl with
    | ret u =>
      obtain ⟨_, _, _, _, _, _, _, z⟩ := hq
      exact z.elim
    | next => exact False.elim hq
    | brk => exact False.elim hq
    | cont => exact False.elim hq
end
noncomputable def TabOk (H : Hp) (P : Addr) (q : Str) : Prop := ∃ ps : Array Value, H P = some (.tbl ps) ∧ TriplesOk ps.toList ∧ ∀ pos cv, codeAmong pos ps.toList = some cv → ∃ c, cv = .ref c ∧ H c = some (CodO c q)
theorem among_snoc {pos : Pos} {a b : Nat} {c cv : Value} (l : List Value) (h : TriplesOk l) (e : codeAmong pos (l ++ [rawInt a, rawInt b, c]) = some cv) : codeAmong pos l = some cv ∨ cv = c := by
  fun_induction TriplesOk l with
  | case1 =>
    simp only [List.nil_append, codeAmong, rawInt] at e
    split at e
    · exact .inr (Option.some.inj e).symm
    · cases e
  | case2 i t j u d rest ih =>
    simp only [List.cons_append, codeAmong] at e ⊢
    split at e
    · rename_i z
      left; rw [if_pos z]; exact e
    · rename_i z
      rw [if_neg z]
      exact ih h e
  | case3 => exact h.elim
theorem triples_snoc {a b : Nat} {c : Value} (l : List Value) (h : TriplesOk l) : TriplesOk (l ++ [rawInt a, rawInt b, c]) := by
  fun_induction TriplesOk l with
  | case1 => simp [TriplesOk, rawInt]
  | case2 i t j u d rest ih => simp only [List.cons_append, TriplesOk]; exact ih h
  | case3 => exact h.elim
noncomputable def SameX (P : Addr) (H H' : Hp) : Prop := ∀ b o, b ≠ P → H b = some o → H' b = some o
structure LamCx (X : Cx) (c P : Addr) : Prop where
  code : X.env.code = .ref c
  hd : PySem.W.CodeHd X.base c P
  bm : X.base.BuiltinsAt X.mg P
section
variable {X : Cx} {c P : Addr} {params : Arguments} {body : Expr} {scope : Scope} {pos : Pos} {clos : List (Str × Addr)}
noncomputable def tLam (mg : Str → Option Value) (P : Addr) (q : Str) (params : Arguments) (body : Expr) (scope : Scope) (clos : List (Str × Addr)) : TE := fun _ H Q => TabOk H P q ∧
  ∀ f c' ctv H', H f = none → SameX P H H' → TabOk H' P q → H' f = some (LamO f (PySem.W.kla_fn "<lambda>" q params body scope clos ((mg "__name__").getD .none) (.ref c') ctv)) → H' c' = some (CodO c' q) → Q (.ref f) H'
theorem pe_lam (L : LamCx X c P) (hdef : defaultsOf params X.env = ([], [])) (hcl : closureFor scope X.env = pure clos) : PE X (.Lambda params body scope pos) (tLam X.mg P (X.env.qual ++ "<lambda>") params body scope clos) := by
  intro pins s σ H Q I h
  obtain ⟨⟨ps, hP, ht, hcs⟩, h⟩ := h
  have hPo : s.heap.get? P = some (PySem.W.tabObj ps) := I.hok P _ hP
  have hg : s.heap.Ns mainGlobals X.mg := I.mod.glob.keeps I.bk
  have hgP : mainGlobals ≠ P := fun q => by
    obtain ⟨o, es, ep, e, hd, _⟩ := hg
    rw [q, hPo] at e; cases e; cases hd
  have hb : s.heap.BuiltinsAt X.mg P := by
    obtain ⟨bm, o, b1, b2, b3, b4, b5, b6⟩ := L.bm
    exact ⟨bm, o, b1, b2, b3, b4, I.bk _ _ b5, b6⟩
  have fresh : ∀ b, s.heap.objs.size ≤ b → H b = none := fun b hb => I.hok.fresh hb
  refine PySem.W.kla_eval hdef ?_
  cases hA : codeAmong pos ps.toList with
  | some cv =>
    obtain ⟨c', rfl, hc'⟩ := hcs pos cv hA
    refine PySem.W.kla_makeFunctionHit hcl I.ok.glob hg L.code (L.hd.keeps I.bk) hPo ht hA hb fun ctv h' tk hk hsz => ?_
    have hfn : H h'.objs.size = none := fresh _ hsz
    refine ⟨.ref h'.objs.size, upd H h'.objs.size (LamO h'.objs.size (PySem.W.kla_fn "<lambda>" (X.env.qual ++ "<lambda>") params body scope clos ((X.mg "__name__").getD .none) (.ref c') ctv)), I.laid (fun b u q => Heap.get?_push_of_some _ (hk b u q)) hsz (lamO_ok (Heap.get?_push_size _ rfl)), rfl, ?_⟩
    have ne : ∀ b o, H b = some o → b ≠ h'.objs.size := fun b o q z => by rw [z, hfn] at q; cases q
    refine h _ c' ctv _ hfn (fun b o _ q => by rw [upd_ne (ne b o q)]; exact q) ⟨ps, by rw [upd_ne (ne _ _ hP)]; exact hP, ht, fun pos cv e => ?_⟩ upd_same (by rw [upd_ne (ne _ _ hc')]; exact hc')
    obtain ⟨c2, e1, e2⟩ := hcs pos cv e
    exact ⟨c2, e1, by rw [upd_ne (ne _ _ e2)]; exact e2⟩
  | none =>
    refine PySem.W.kla_makeFunction hcl I.ok.glob hg L.code (L.hd.keeps I.bk) hPo ht hA hgP hb fun c' ctv h' tk hx hge hlt hrec htb => ?_
    have hszP : P < s.heap.objs.size := Heap.lt_size hPo
    have hcn : H c' = none := fresh _ hge
    have hfn : H h'.objs.size = none := fresh _ (Nat.le_of_lt (Nat.lt_of_le_of_lt hge hlt))
    have hcf : c' ≠ h'.objs.size := Nat.ne_of_lt hlt
    have hPc : P ≠ c' := Nat.ne_of_lt (Nat.lt_of_lt_of_le hszP hge)
    have hPf : P ≠ h'.objs.size := Nat.ne_of_lt (Nat.lt_of_lt_of_le hszP (Nat.le_of_lt (Nat.lt_of_le_of_lt hge hlt)))
    generalize hfd : PySem.W.kla_fn "<lambda>" (X.env.qual ++ "<lambda>") params body scope clos ((X.mg "__name__").getD .none) (.ref c') ctv = fd
    obtain ⟨H', hH'⟩ : ∃ H', H' = upd (upd (upd H P (.tbl (ps ++ #[rawInt pos.line, rawInt pos.col, .ref c']))) c' (CodO c' (X.env.qual ++ "<lambda>"))) h'.objs.size (LamO h'.objs.size fd) := ⟨_, rfl⟩
    have gF : H' h'.objs.size = some (LamO h'.objs.size fd) := by rw [hH']; exact upd_same
    have gC : H' c' = some (CodO c' (X.env.qual ++ "<lambda>")) := by rw [hH', upd_ne hcf]; exact upd_same
    have gP : H' P = some (.tbl (ps ++ #[rawInt pos.line, rawInt pos.col, .ref c'])) := by rw [hH', upd_ne hPf, upd_ne hPc]; exact upd_same
    have gO : ∀ b, b ≠ h'.objs.size → b ≠ c' → b ≠ P → H' b = H b := fun b x y z => by rw [hH', upd_ne x, upd_ne y, upd_ne z]
    have gS : ∀ b o, b ≠ P → H b = some o → H' b = some o := fun b o z q => by
      rw [gO b (fun w => by rw [w, hfn] at q; cases q) (fun w => by rw [w, hcn] at q; cases q) z]; exact q
    have neP : ∀ b u, H b = some u → (∀ qs, u ≠ .tbl qs) → b ≠ P := fun b u q d w => by
      rw [w, hP] at q; cases q; exact d _ rfl
    have keep : ∀ b o, b ≠ P → s.heap.get? b = some o → (h'.push (PySem.W.kla_obj "<lambda>" (X.env.qual ++ "<lambda>") params body scope clos ((X.mg "__name__").getD .none) c' ctv)).get? b = some o := fun b o hb q => Heap.get?_push_of_some _ (hx b o hb q)
    have nP : ∀ b, H b = none → b ≠ P := fun b n w => by rw [w, hP] at n; cases n
    have U : Un X.fs [] H H' s.heap (h'.push (PySem.W.kla_obj "<lambda>" (X.env.qual ++ "<lambda>") params body scope clos ((X.mg "__name__").getD .none) c' ctv)) := by
      refine ⟨fun b o q n _ _ => keep b o (nP b n) q, fun b o q n _ _ => ⟨o.slots, keep b o (nP b n) q⟩, fun b o q n _ => ?_, fun b o q _ => ?_, fun b xs q => gS b _ (neP b _ q fun _ z => nomatch z) q, fun b o u q => gS b _ (neP b _ q fun _ z => nomatch z) q, fun b qs q => ?_⟩
      · have l := Heap.lt_size q
        rw [gO b (Nat.ne_of_lt (Nat.lt_of_lt_of_le l (Nat.le_of_lt (Nat.lt_of_le_of_lt hge hlt)))) (Nat.ne_of_lt (Nat.lt_of_lt_of_le l hge)) (nP b n)]
        exact n
      · by_cases w : b = P
        · subst w
          exact ⟨_, Heap.get?_push_of_some _ htb⟩
        · exact ⟨o, keep b o w q⟩
      · by_cases w : b = P
        · subst w
          rw [hP] at q
          cases q
          exact ⟨_, gP⟩
        · exact ⟨#[], by rw [Array.append_empty]; exact gS b _ w q⟩
    have ok : HOk X.prog X.w H' (h'.push (PySem.W.kla_obj "<lambda>" (X.env.qual ++ "<lambda>") params body scope clos ((X.mg "__name__").getD .none) c' ctv)) := fun a o q => by
      by_cases w1 : a = h'.objs.size
      · subst w1
        rw [gF] at q
        cases q
        refine lamO_ok ?_
        rw [← hfd]
        exact Heap.get?_push_size _ rfl
      by_cases w2 : a = c'
      · subst w2
        rw [gC] at q
        cases q
        exact codO_ok (hrec.push _)
      by_cases w3 : a = P
      · subst w3
        rw [gP] at q
        cases q
        exact Heap.get?_push_of_some _ htb
      rw [gO a w1 w2 w3] at q
      refine (I.hok a o q).stay (fun b u hb e => keep b u ?_ e) (fun b e => gS b _ (neP b _ e fun _ z => nomatch z) e) fun b xs e => gS b _ (neP b _ e fun _ z => nomatch z) e
      rcases hb with rfl | hb
      · exact w3
      · exact neP b _ hb fun _ z => nomatch z
    refine ⟨.ref h'.objs.size, H', I.un (t' := tk) U ok, rfl, ?_⟩
    refine h _ c' ctv H' hfn gS ⟨_, gP, ?_, fun pos' cv e => ?_⟩ (by rw [hfd]; exact gF) gC
    · rw [Array.toList_append]; exact triples_snoc _ ht
    · rw [Array.toList_append] at e
      rcases among_snoc _ ht e with e | e
      · obtain ⟨c2, e1, e2⟩ := hcs pos' cv e
        exact ⟨c2, e1, gS _ _ (neP _ _ e2 fun _ z => nomatch z) e2⟩
      · exact ⟨c', e, gC⟩
end
end L2
set_option Elab.async false
set_option linter.all false
set_option maxRecDepth 100000
set_option maxHeartbeats 4000000
namespace L2
open PySem PySem.Spec PyProof.Rows
noncomputable def OnlyT (Pt : Addr) (H : Hp) : Prop := ∀ b, H b = none ∨ (∃ o xs, H b = some (.frz o (.lst xs))) ∨ (b = Pt ∧ H b = some (.tbl #[]))
theorem law_callT {P : Program} {w : World} {K : PySem.W.Frag} {mg mb : Str → Option Value} {CX : CXT} {k : Nat} {fa a c Pt : Addr} {fd : FuncData} {x : Str} {sp : Sp} {s₁ : Shared} {vs : List Value} {ns : List Int}
    (KX : K.In s₁.heap) (hns : s₁.heap.Ns mainGlobals mg) (hb : s₁.heap.Ns builtinsNs mb) (hbb : ∀ x : Str, x ≠ "__name__" → mb x = bootBuiltins x) (hlim : s₁.heap.NoLimit) (hg : s₁.gens = #[])
    (hbm : ∃ bm ob, mg "__builtins__" = some (.ref bm) ∧ bm ≠ builtinsNs ∧ s₁.heap.get? bm = some ob ∧ ob.cls = .type "module" ∧ ob.dict = some builtinsNs ∧ ob.data = .plain)
    (hC : PySem.W.CodeHd s₁.heap c Pt) (hP : s₁.heap.get? Pt = some (PySem.W.tabObj #[])) (hPK : K.lookup Pt = none)
    (ha : s₁.heap.get? a = some { cls := .type "list", data := .seq vs.toArray }) (hi : IntsAre vs ns) (hl : ns.length ≤ sizeLine) (hr : Room k callerA)
    (F : ∀ base : Heap, K.In base → base.Ns mainGlobals mg → base.BuiltinsAt mg Pt → FnOk P w K mg base CX k fa fd [x] sp) (hbind : ∀ (s : Shared) (u : Value), BindsTo s fd ⟨[u], []⟩ [(x, u)])
    (hsp : ∀ H : Hp, OnlyT Pt H → SqL K H a (ns.map V.int) → H Pt = some (.tbl #[]) → sp [.ref a] H (fun v _ => v = .bl true) fun _ _ _ => False)
    (hCX : ∀ H e s', CX [] H s₁ (fun _ _ _ => False) e s' → False) :
    codeAny (model P w) callerA (.call (.ref fa) ⟨[.ref a], []⟩) (fun r s' => r = .ok (.ret (.bool true)) ∧ OldK s₁.heap s'.heap ∧ s'.os = s₁.os ∧ AllBare s'.gens) s₁ := by
  have rv := vals_ints hi
  have lenV := hi.length
  have aP : a ≠ Pt := fun z => by rw [z, hP] at ha; cases ha
  have core : ∀ H : Hp, OnlyT Pt H → H Pt = some (.tbl #[]) → SqL K H a (ns.map V.int) → HOk P w H s₁.heap → (∀ b, H b ≠ none → b = a ∨ b = Pt) → (H a ≠ none → K.lookup a = none) →
      codeAny (model P w) callerA (.call (.ref fa) ⟨[.ref a], []⟩) (fun r s' => r = .ok (.ret (.bool true)) ∧ OldK s₁.heap s'.heap ∧ s'.os = s₁.os ∧ AllBare s'.gens) s₁ := by
    intro H hO hT hS hok hA hK
    have base_of : ∀ {b : Addr} {o : Obj}, s₁.heap.get? b = some o → H b = none → (hidT s₁.heap H).get? b = some o := fun e n => hidT_get e n
    have noD : ∀ {b : Addr} {o : Obj}, s₁.heap.get? b = some o → (∀ its n, o.data ≠ .seq its n) → (∀ qs, o.data ≠ .fields qs) → H b = none := fun {b o} e d1 d2 => by
      cases q : H b with
      | none => rfl
      | some u =>
        rcases hA b (by rw [q]; simp) with e' | e'
        · subst e'
          rw [ha] at e; cases e
          exact absurd rfl (d1 _ _)
        · subst e'
          rw [hP] at e; cases e
          exact absurd rfl (d2 _)
    have nsK : ∀ {b : Addr} {m : Str → Option Value}, s₁.heap.Ns b m → (hidT s₁.heap H).Ns b m := fun {b m} ⟨o, es, ep, e, d, r⟩ => ⟨o, es, ep, base_of e (noD e (fun _ _ z => by rw [d] at z; cases z) (fun _ z => by rw [d] at z; cases z)), d, r⟩
    have hKb : K.In (hidT s₁.heap H) := fun b o e => base_of (KX b o e) (by
      cases q : H b with
      | none => rfl
      | some u =>
        rcases hA b (by rw [q]; simp) with e' | e'
        · subst e'
          rw [hK (by rw [q]; simp)] at e; cases e
        · subst e'
          rw [hPK] at e; cases e)
    have hM : Mod K mg (hidT s₁.heap H) := ⟨hKb, nsK hns, ⟨mb, nsK hb, hbb⟩, let ⟨mc, h1, h2⟩ := hlim; ⟨mc, nsK h1, h2⟩⟩
    have hB : (hidT s₁.heap H).BuiltinsAt mg Pt := by
      obtain ⟨bm, ob, b1, b2, b3, b4, b5, b6⟩ := hbm
      refine ⟨bm, ob, b1, b2, fun z => ?_, fun z => ?_, base_of b3 (noD b3 (fun _ _ z => by rw [b6] at z; cases z) (fun _ z => by rw [b6] at z; cases z)), b4, b5, b6⟩
      · obtain ⟨o, es, ep, e, d, _⟩ := hns
        rw [z, e] at b3; cases b3; rw [d] at b6; cases b6
      · rw [z, hP] at b3; cases b3; cases b4
    have e0 : Env0 P w K mg (hidT s₁.heap H) callerA [] s₁ H := ⟨rfl, hM, fun b o e => of_hidT e, Nat.le_of_eq (hidT_size _ _), trivial, fun b hb => absurd (show b ∈ ([] : List Addr) from hb) (by simp), hok, .of_eq hg⟩
    refine codeAny_mono ((F _ hKb (nsK hns) hB).run callerA [] s₁ H ⟨[.ref a], []⟩ [.ref a] [.ref a] _ _ hr e0 (hbind s₁ (.ref a)) (.cons rfl .nil) (hsp H hO hS hT)) fun r s' h => ?_
    cases r with
    | error e => exact (hCX H e s' h).elim
    | ok fl =>
      cases fl with
      | next => exact False.elim h
      | brk => exact False.elim h
      | cont => exact False.elim h
      | ret u =>
        obtain ⟨v, H', os, bare, un, hok', r', q⟩ := h
        have q' : v = .bl true := q
        subst q'
        obtain rfl : u = Value.bool true := r'
        obtain ⟨more, hT'⟩ := un.tbls Pt _ hT
        have hP' : s'.heap.get? Pt = some (PySem.W.tabObj (#[] ++ more)) := hok' Pt _ hT'
        have keep : ∀ b o, b ≠ Pt → s₁.heap.get? b = some o → s'.heap.get? b = some o := fun b o nb e => by
          cases q : H b with
          | none => exact un.keep b o e q (by intro z; exact absurd (show b ∈ ([] : List Addr) from z) (by simp)) (by simp)
          | some u =>
            rcases hO b with z | ⟨ob, xs, z⟩ | ⟨z, _⟩
            · rw [q] at z; cases z
            · have z2 := un.frzs b ob _ z
              obtain ⟨e1, _⟩ := hok b _ z
              obtain ⟨e2, _⟩ := hok' b _ z2
              rw [e] at e1; cases e1
              exact e2
            · exact absurd z nb
        refine ⟨rfl, ⟨fun b o e => ?_, fun b o e => ?_⟩, os, bare⟩
        · by_cases z : b = Pt
          · subst z
            rw [hP] at e
            cases e
            obtain ⟨oc, vsc, _, _, _, _, _, _, _, e1, e2, e3, e4, _⟩ := hC
            exact .inr (.inl ⟨⟨c, oc, vsc, e1, e2, e3, e4⟩, rfl, #[], more, rfl, hP'⟩)
          · exact .inl (keep b o z e)
        · by_cases z : b = Pt
          · subst z
            exact ⟨_, hP'⟩
          · exact ⟨o, keep b o z e⟩
  cases hk : K.lookup a with
  | some o =>
    have e := KX a o hk
    rw [ha] at e
    cases e
    refine core (fun b => if b = Pt then some (.tbl #[]) else none) (fun b => ?_) (if_pos rfl) (.inr ⟨_, vs.toArray, _, hk, rfl, rfl, rfl, by rw [List.size_toArray, lenV]; exact hl, by simpa using rv⟩) (fun b u z => ?_) (fun b z => ?_) (fun z => absurd (if_neg aP) z)
    · by_cases hb : b = Pt
      · exact .inr (.inr ⟨hb, if_pos hb⟩)
      · exact .inl (if_neg hb)
    · by_cases hb : b = Pt
      · have z' := (if_pos hb).symm.trans z
        cases z'
        subst hb
        exact hP
      · have z' := (if_neg hb).symm.trans z
        cases z'
    · by_cases hb : b = Pt
      · exact .inr hb
      · exact absurd (if_neg hb) z
  | none =>
    refine core (fun b => if b = a then some (.frz { cls := .type "list", data := .seq vs.toArray } (.lst (ns.map V.int))) else if b = Pt then some (.tbl #[]) else none) (fun b => ?_) ((if_neg aP.symm).trans (if_pos rfl)) (.inl (.inr ⟨{ cls := .type "list", data := .seq vs.toArray }, if_pos rfl⟩)) (fun b u z => ?_) (fun b z => ?_) fun _ => hk
    · by_cases hb : b = a
      · exact .inr (.inl ⟨_, _, if_pos hb⟩)
      · by_cases hb2 : b = Pt
        · exact .inr (.inr ⟨hb2, (if_neg hb).trans (if_pos hb2)⟩)
        · exact .inl ((if_neg hb).trans (if_neg hb2))
    · by_cases hb : b = a
      · have z' := (if_pos hb).symm.trans z
        cases z'
        subst hb
        exact ⟨ha, by rw [List.length_map]; exact hl, vs, _, rv, ha⟩
      · have z' := (if_neg hb).symm.trans z
        by_cases hb2 : b = Pt
        · have z' := (if_pos hb2).symm.trans z'
          cases z'
          subst hb2
          exact hP
        · have z' := (if_neg hb2).symm.trans z'
          cases z'
    · by_cases hb : b = a
      · exact .inl hb
      · by_cases hb2 : b = Pt
        · exact .inr hb2
        · exact absurd ((if_neg hb).trans (if_neg hb2)) z
theorem walk_ofT {l : PySem.W.OpenLaw} {n k : Nat} {q : Program} {loose : List Str} {XP : (Str → Option Value) → Heap → Prop} {YP : World → Heap → Prop} {d : DefRec} {K : Params → PySem.W.Frag} {CX : World → CXT} {sp : World → PySem.W.Frag → Sp} {x : Str} {Pt : Addr}
    (hn : l.most = some n) (hn2 : n ≤ sizeLine) (hdf : d.params.defaults = []) (hr : Room k callerA)
    (hY : ∀ (w : World) (h : Heap), YP w h → (K w.params).In h ∧ h.get? Pt = some (PySem.W.tabObj #[]))
    (F : ∀ (w : World) (mg : Str → Option Value) (fa : Addr) (h : Heap), (K w.params).In h → h.Ns mainGlobals mg → XP mg h → mg d.name = some (.ref fa) →
      ∃ (fd : FuncData) (c : Addr), PySem.W.codeHdIn (K w.params) c Pt = true ∧ (K w.params).lookup Pt = none ∧ (∀ (s : Shared) (u : Value), BindsTo s fd ⟨[u], []⟩ [(x, u)]) ∧
        ∀ base : Heap, (K w.params).In base → base.Ns mainGlobals mg → base.BuiltinsAt mg Pt → FnOk l.prog w (K w.params) mg base (CX w) k fa fd [x] (sp w (K w.params)))
    (hsp : ∀ (w : World) (K : PySem.W.Frag) (H : Hp) (a : Addr) (ns : List Int), ns.length ≤ n → OnlyT Pt H → SqL K H a (ns.map V.int) → H Pt = some (.tbl #[]) → sp w K [.ref a] H (fun v _ => v = .bl true) fun _ _ _ => False)
    (hCX : ∀ (w : World) (H : Hp) (s : Shared) (e : Value) (s' : Shared), CX w [] H s (fun _ _ _ => False) e s' → False) :
    PySem.W.WalkO q loose XP YP l.row.toRowW d [] (fun f vs => PySem.call f vs) := by
  refine Att.attach_call hn hdf fun w s₀ s₁ mg mb fa o pm cd doc a vs ns G Y ho hd hcd hmg hobj hints hlen hg => ?_
  obtain ⟨KX, hP⟩ := hY w _ Y
  obtain ⟨fd, c, hC, hPK, hb, hF⟩ := F w mg fa _ KX G.T.g G.X hmg
  exact law_callT KX G.T.g G.T.b G.T.builtins G.T.nolimit hg G.T.bmain (PySem.W.codeHd_of_K KX hC) hP hPK hobj hints (Nat.le_trans hlen hn2) hr hF hb (fun H hO hS hT => hsp w (K w.params) H a ns hlen hO hS hT) fun H e s' => hCX w H s₁ e s'
end L2
set_option Elab.async false
set_option linter.all false
set_option maxRecDepth 100000
set_option maxHeartbeats 4000000
namespace L2
open PySem PySem.Spec PyProof.Rows
section
variable {prog : Program} {w : World} {A : Around} {s : Shared}
noncomputable def ifsT (prog : Program) (w : World) (A : Around) (env : Env) : List Expr → Shared → (Bool → Shared → Prop) → Prop
  | [], s, Q => Q true s
  | [c], s, Q => wpAny (model prog w) A (PySem.isTrue c env (eval c env)) Q (fun _ _ => False) s
  | _, _, _ => False
theorem wpAny_ifs {env : Env} : ∀ {ifs : List Expr} {s : Shared} {Q : Bool → Shared → Prop}, ifsT prog w A env ifs s Q →
    wpAny (model prog w) A (forIn ifs true fun c r => if r = true then do let ok ← PySem.isTrue c env (eval c env); pure (ForInStep.yield ok) else pure (ForInStep.yield r)) Q (fun _ _ => False) s
  | [], s, Q, h => wpAny_tests_nil h
  | [c], s, Q, h => by
    simp only [List.forIn_cons, List.forIn_nil, if_true]
    refine wpAny_bind (wpAny_bind (wpAny_mono h (fun b s1 q => wpAny_pure (wpAny_pure q)) fun _ _ z => z))
  | _ :: _ :: _, _, _, h => h.elim
theorem compLoop_ifs {elt tg iter : Expr} {ifs : List Expr} {scope : Scope} {pos : Pos} {it acc : Value} {env : Env} {R : Result → Shared → Prop} (I : Nat → Shared → Prop)
    (turn : ∀ n s, I n s → wpAny (model prog w) A (pyNext it) (fun r s₁ => match r with
      | none => R (.ok .next) s₁
      | some v => wpAny (model prog w) A (letOwnedTupleGo tg it v) (fun _ s₁' => wpAny (model prog w) A (assign tg env v) (fun _ s₂ => ifsT prog w A env ifs s₂ fun ok s₃ =>
          if ok = true then wpAny (model prog w) A (eval elt env) (fun x s₄ =>
              wpAny (model prog w) A (call (.builtin "list.append") [acc, x]) (fun _ s₅ => ∃ m, m < n ∧ I m s₅) (fun _ _ => False) s₄) (fun _ _ => False) s₃ else ∃ m, m < n ∧ I m s₃) (fun _ _ => False) s₁') (fun _ _ => False) s₁) (fun _ _ => False) s)
    (n : Nat) (h : I n s) : codeAny (model prog w) A (.compLoop (.ListComp elt [⟨tg, iter, ifs, 0⟩] scope pos) 0 it acc env) R s := by
  refine codeAny_loop rfl I (fun n s hI => ?_) n h
  show wpAny _ A ((compTurn (.ListComp elt [⟨tg, iter, ifs, 0⟩] scope pos) 0 it acc env).onRaise (fun x => do noteFrame x env; theTreesLotGoes x)) _ _ s
  refine wpAny_noted ?_
  rw [compTurn_list]
  refine wpAny_bind (wpAny_standAt (wpAny_bind (wpAny_mono (turn n s hI) (fun r s₁ h₁ => ?_) fun _ _ h' => h'.elim)))
  cases r with
  | none => exact wpAny_pure h₁
  | some v =>
    refine wpAny_bind (wpAny_mono h₁ (fun _ s₁' h₁' => ?_) fun _ _ h' => h'.elim)
    refine wpAny_bind (wpAny_mono h₁' (fun _ s₂ h₂ => wpAny_bind (wpAny_mono (wpAny_ifs h₂) (fun ok s₃ h₃ => ?_) fun _ _ h' => h'.elim)) fun _ _ h' => h'.elim)
    cases ok with
    | true => exact wpAny_bind (wpAny_bind (wpAny_mono h₃ (fun x s₄ h₄ => wpAny_bind (wpAny_mono h₄ (fun _ s₅ h₅ => wpAny_pure (wpAny_pure ⟨rfl, h₅⟩)) fun _ _ h' => h'.elim)) fun _ _ h' => h'.elim))
    | false => exact wpAny_pure ⟨rfl, h₃⟩
end
noncomputable def cxCompC (X : Cx) (b : Heap) (N : List Str) (scope : Scope) (cl : List (Str × Addr)) (C : Addr) (fp : List Addr) (s : Shared) (H : Hp) : Cx where
  prog := X.prog
  w := X.w
  K := X.K
  mg := X.mg
  base := b
  A := X.A
  N := N
  s₀ := s
  H₀ := H
  env := compEnvC scope cl C X.env
  outer := X.stack
  stack := X.stack
  ex := fp
  calm := true
  fn := fun _ => false
  pn := []
  xe := fun _ _ => False
noncomputable def outOf (σ : St) (js : List (Option Nat)) : St := js.map fun o => match o with | none => none | some j => (σ[j]?).getD none
structure CompScopeC (X : Cx) (sc : Scope) (N : List Str) (cl : List (Str × Addr)) (js : List (Option Nat)) : Prop where
  kind : sc.kind = .function
  nocell : ∀ y ∈ sc.names, y.2 ≠ .cell
  nm : ∀ y ∈ sc.names, y.2 = .local → sc.names.lookup y.1 = some .local
  has : ∀ y ∈ sc.names, y.2 = .free → ∃ c, cl.lookup y.1 = some c
  sub : ∀ y ∈ cl, X.env.cells.lookup y.1 = some y.2
  len : js.length = N.length
  js : ∀ p ∈ N.zip js, ∀ j, p.2 = some j → X.N[j]? = some p.1 ∧ X.env.scope.names.lookup p.1 = some .cell ∧ ((relabel sc X.env).names.lookup p.1 = some .cell ∨ (relabel sc X.env).names.lookup p.1 = some .free) ∧ ∃ c, cl.lookup p.1 = some c
section
variable {X : Cx} {pins : List (Addr × Obj)} {σ : St} {H : Hp} {s : Shared}
theorem inv_compC {N : List Str} {scope : Scope} {cl : List (Str × Addr)} {js : List (Option Nat)} {fp : List Addr} {h1 : Heap} {tk : Nat} (S : CompScopeC X scope N cl js) (hc : X.calm = true) (hfn : ∀ x, X.fn x = true) (I : Inv X pins σ H s) (hfp : ∀ b ∈ fp, FpOk X pins H b) (hfo : ∀ b ∈ fp, ∃ o, s.heap.get? b = some o)
    (hns : h1.Ns s.heap.objs.size (fun _ => none)) (hk : ∀ b o, s.heap.get? b = some o → h1.get? b = some o) :
    Inv (cxCompC X (hidS s.heap H (frs X.stack ++ fp)) N scope cl s.heap.objs.size fp s H) [] (outOf σ js) H { s with heap := h1, toks := tk } := by
  have sub : ∀ x c, cl.lookup x = some c → X.env.cells.lookup x = some c := fun x c q => S.sub (x, c) (PySem.mem_of_lookup q)
  have rel : ∀ y k, (relabel scope X.env).names.lookup y = some k → (k = .cell ∨ k = .free) → ∃ c, cl.lookup y = some c := fun y k q hk => by
    have m := PySem.mem_of_lookup q
    obtain ⟨⟨n, k'⟩, hm, e⟩ := List.mem_map.mp (show (y, k) ∈ scope.names.map _ from m)
    have := S.nocell _ hm
    dsimp only at e this
    split at e
    · rename_i z
      simp only [Bool.and_eq_true, beq_iff_eq] at z
      cases e
      exact S.has _ hm z.1.1
    · cases e
      rcases hk with hk | hk
      · exact absurd hk this
      · exact S.has _ hm hk
  have e0 := I.env0
  have nfp : ∀ b o, X.base.get? b = some o → b ∉ fp := fun b o q hm => by
    rcases (hfp b hm).2.2.2.1 with z | z
    · exact I.ok.noex b o q z
    · exact absurd (Heap.lt_size (I.ok.bs b o q).1) (Nat.not_lt.mpr z)
  have nst : ∀ b ∈ fp, b ∉ frs X.stack := fun b hb hm => by
    rcases List.mem_cons.mp (I.stkSub b hm) with z | z
    · exact (hfp b hb).2.1 z
    · exact (hfp b hb).2.2.1 z
  have cells : ∀ y c, cl.lookup y = some c → (∃ v, h1.IsCell c v) ∧ H c = none := fun y c q => by
    obtain ⟨v, o, ho, hd⟩ := I.cell y c (sub y c q)
    exact ⟨⟨v, o, hk _ _ ho, hd⟩, I.freeC y c (sub y c q)⟩
  refine ⟨⟨e0.mod.keeps fun b o q => hidS_get (e0.bs b o q).1 (e0.bs b o q).2 fun hm => ?_, S.kind, I.ok.glob, I.ok.blt, Nat.le_refl _, fun y z c q r => I.ok.inj y z c (sub y c q) (sub z c r), fun y hy => ?_, fun y c z => (nomatch z), fun _ => I.ok.hd hc, I.ok.frames, .inl rfl, fun b hb => ⟨?_, fun y c q => ?_⟩, fun b o q => of_hidS q, Nat.le_of_eq (PySem.W.hideAll_size _ _), fun b o q hb => ?_, nst, ?_, I.stkFree⟩,
    rfl, I.bare, Un.kept hk, ⟨_, hns, fun i y v e1 e2 e3 => ?_⟩, fun y c q => (cells y c q).1, I.hok.fresh (Nat.le_refl _), fun y c q => (cells y c q).2, fun p hp => absurd (show p ∈ ([] : List (Addr × Obj)) from hp) (by simp), I.hok.kept hk, ?_⟩
  · rcases List.mem_append.mp hm with hm | hm
    · have z := (e0.funs.mem hm).1
      rw [q] at z; cases z
    · exact nfp b o q hm
  · have hy : (relabel scope X.env).names.lookup y = some .cell ∨ (relabel scope X.env).names.lookup y = some .free := hy
    rcases hy with hy | hy
    · exact rel y _ hy (.inl rfl)
    · exact rel y _ hy (.inr rfl)
  · obtain ⟨o, q⟩ := hfo b hb
    exact Nat.ne_of_lt (Heap.lt_size q)
  · exact (hfp b hb).2.2.2.2.1 y c (sub y c q)
  · have z : (hidS s.heap H (frs X.stack ++ fp)).get? b = none := PySem.W.hideAll_none _ (List.mem_append_right _ (List.mem_append_right _ hb))
    rw [show (cxCompC X (hidS s.heap H (frs X.stack ++ fp)) N scope cl s.heap.objs.size fp s H).base.get? b = none from z] at q; cases q
  · exact PySem.W.funFrames_hide e0.funs fun env he a ha => List.mem_append_right _ (List.mem_append_left _ (List.mem_filterMap.mpr ⟨env, he, ha⟩))
  · have e1 : N[i]? = some y := e1
    obtain ⟨j, hj, hv⟩ : ∃ j, js[i]? = some (some j) ∧ σ[j]? = some (some v) := by
      unfold outOf at e2
      rw [List.getElem?_map] at e2
      cases q : js[i]? with
      | none => rw [q] at e2; cases e2
      | some o =>
        rw [q] at e2
        cases o with
        | none => simp at e2
        | some j =>
          refine ⟨j, rfl, ?_⟩
          have e2 : some ((σ[j]?).getD none) = some (some v) := e2
          cases w : σ[j]? with
          | none => rw [w] at e2; cases e2
          | some u => rw [w] at e2; cases e2; rfl
    have hz : (y, some j) ∈ N.zip js := List.mem_of_getElem? (i := i) (by rw [List.getElem?_zip_eq_some]; exact ⟨e1, hj⟩)
    obtain ⟨f1, f2, f3, c, f4⟩ := S.js _ hz j rfl
    obtain ⟨m, hn, hl⟩ := I.loc
    obtain ⟨u, r, l⟩ := hl j y v f1 hv (.inr (.inl f2))
    rcases l with ⟨l, _⟩ | ⟨_, c', e5, o, ho, hd⟩
    · rw [show X.env.kindOf y = X.env.scope.names.lookup y from rfl, f2] at l; cases l
    · have : c' = c := by
        have := sub y c f4
        rw [e5] at this; cases this; rfl
      subst this
      exact ⟨u, r, .inr ⟨f3, c', f4, o, hk _ _ ho, hd⟩⟩
  · show (js.map _).length = N.length
    rw [List.length_map, S.len]
end
section
variable {X : Cx} {tg iter elt : Expr} {ifs : List Expr} {scope : Scope} {pos : Pos} {wi : TI} {N : List Str} {cl : List (Str × Addr)} {js : List (Option Nat)} {g : TG} {tt : Heap → TT} {te : Heap → TE}
noncomputable def PIfs (X : Cx) : List Expr → TT → Prop
  | [], t => ∀ σ H Q, t σ H Q → Q true H
  | [c], t => PT X c t
  | _, _ => False
noncomputable def tYes : TT := fun _ H Q => Q true H
theorem pifs_nil {X : Cx} : PIfs X [] tYes := fun _ _ _ h => h
noncomputable def tCompC (X : Cx) (js : List (Option Nat)) (wi : TI) (g : TG) (tt : Heap → TT) (te : Heap → TE) : TE := fun σ H Q => wi σ H fun J H1 => ∀ b D, CellsIn X σ b → H1 D = none → ∃ W : Nat → Nat → St → Hp → Prop, (∃ m, W 0 m (outOf σ js) (upd H1 D (.lst []))) ∧
  ∀ i m σ' H', W i m σ' H' → (J.stop i H' ∧ Q (.ref D) H') ∨ (J.go i H' ∧ ∃ Nx : St → Hp → Prop, (∀ σ'' H'', Nx σ'' H'' → ∃ m', m' < m ∧ W (i + 1) m' σ'' H'') ∧ ∀ x H2, J.yld i H' x H2 → g x σ' H2 fun σ3 H3 => tt b σ3 H3 fun ok H3' => if ok = true then te b σ3 H3' fun y H4 => ∃ ys, H4 D = some (.lst ys) ∧ ys.length < sizeLine ∧ Nx σ3 (upd H4 D (.lst (ys ++ [y]))) else Nx σ3 H3')
theorem pe_compC (S : CompScopeC X scope N cl js) (hc : X.calm = true) (hfn : ∀ x, X.fn x = true) (hi : PI X tg iter wi) (hclos : closureFor scope X.env = pure cl) (hg : ∀ b C fp s H, PG (cxCompC X b N scope cl C fp s H) tg g) (hif : ∀ b C fp s H, PIfs (cxCompC X b N scope cl C fp s H) ifs (tt b)) (he : ∀ b C fp s H, PE (cxCompC X b N scope cl C fp s H) elt (te b))
    (hs : ∀ x, foldedSetIterable iter X.env x = pure x := by intro _; rfl) : PE X (.ListComp elt [⟨tg, iter, ifs, 0⟩] scope pos) (tCompC X js wi g tt te) := by
  intro pins s σ H Q I h
  rw [eval_ListComp]
  refine wpAny_comprehension_free (use := none) rfl hs hclos S.kind S.nm (thn (hi pins s σ H _ I h) fun v s1 h1 => thn h1 fun itv s2 h2 => ?_)
  obtain ⟨it, fp, tn, J, H2, e, I2, T, st2, f2, R⟩ := h2
  subst e
  have hD : H2 s2.heap.objs.size = none := I2.fresh
  have old : ∀ b o, s2.heap.get? b = some o → (s2.heap.push { cls := .type "list", data := .seq ([] : List Value).toArray }).get? b = some o := fun b o q => Heap.get?_push_of_some _ q
  have I3 : Inv X pins σ (upd H2 s2.heap.objs.size (.lst [])) { s2 with heap := s2.heap.push { cls := .type "list", data := .seq ([] : List Value).toArray } } := I2.lnew (t' := s2.toks) (ys := []) (its := []) .nil (Nat.zero_le _)
  have fo : ∀ b ∈ fp, ∃ o, (s2.heap.push { cls := .type "list", data := .seq ([] : List Value).toArray }).get? b = some o := fun b hb => by
    obtain ⟨o, q, _⟩ := T.obj _ _ st2 b hb
    exact ⟨o, old b o q⟩
  have fne : ∀ b ∈ fp, b ≠ s2.heap.objs.size := fun b hb => by
    obtain ⟨o, q, _⟩ := T.obj _ _ st2 b hb
    exact Nat.ne_of_lt (Heap.lt_size q)
  have f3 : ∀ b ∈ fp, FpOk X pins (upd H2 s2.heap.objs.size (.lst [])) b := fun b hb => ⟨by rw [upd_ne (fne b hb)]; exact (f2 b hb).1, (f2 b hb).2⟩
  have st3 : tn 0 (s2.heap.push { cls := .type "list", data := .seq ([] : List Value).toArray }) := T.keep _ _ _ st2 fun b _ o q => old b o q
  refine wpAny_newObj_type (wpAny_newFunctionEnv S.nocell (fun y hy => by simp at hy) (fun h₁ hns hsb => ?_) S.kind)
  obtain ⟨s3, hs3⟩ : ∃ s3 : Shared, s3 = { s2 with heap := s2.heap.push { cls := .type "list", data := .seq ([] : List Value).toArray } } := ⟨_, rfl⟩
  obtain ⟨H3, hH3⟩ : ∃ H3, H3 = upd H2 s2.heap.objs.size (.lst []) := ⟨_, rfl⟩
  rw [← hs3, ← hH3] at I3
  rw [← hH3] at f3
  have hh3 : s3.heap = s2.heap.push { cls := .type "list", data := .seq ([] : List Value).toArray } := by rw [hs3]
  have hk₁ : ∀ b o, s3.heap.get? b = some o → h₁.get? b = some o := fun b o q => by
    rw [hh3] at q
    exact hsb.extBut b o (Nat.ne_of_lt (Heap.lt_size q)) (Heap.get?_push_of_some _ q)
  have hns' : h₁.Ns s3.heap.objs.size (fun _ => none) := by rw [hh3]; exact hns
  obtain ⟨W, ⟨m0, w0⟩, turn⟩ := R (hidS s3.heap H3 (frs X.stack ++ fp)) s2.heap.objs.size (fun i x v c e1 e2 e3 e4 => by
    obtain ⟨u, r, o, q, d⟩ := I3.cellsIn hfn i x v c e1 e2 e3 e4
    obtain ⟨q1, q2⟩ := of_hidS q
    refine ⟨u, r, o, hidS_get q1 q2 fun hm => ?_, d⟩
    rcases List.mem_append.mp hm with hm | hm
    · have z : (hidS s3.heap H3 (frs X.stack)).get? c = none := PySem.W.hideAll_none _ (List.mem_append_right _ hm)
      rw [z] at q; cases q
    · exact (f3 c hm).2.2.2.2.1 x c e4 rfl) hD
  rw [← hH3] at w0
  have J0 := inv_compC (js := js) (N := N) (scope := scope) (h1 := h₁) (tk := s2.toks + ([] : List (Str × Value)).length) S hc hfn I3 f3 (fun b hb => by rw [hh3]; exact fo b hb) hns' hk₁
  have st4 : tn 0 h₁ := T.keep _ _ _ st3 fun b hb o q => hk₁ b o (by rw [hh3]; exact q)
  have loop : ∀ s4 : Shared, s4 = { s3 with heap := h₁, toks := s2.toks + ([] : List (Str × Value)).length } →
      codeAny (model X.prog X.w) X.A (.compLoop (.ListComp elt [⟨tg, iter, ifs, 0⟩] scope pos) 0 (.ref it) (.ref s2.heap.objs.size) (compEnvC scope cl s3.heap.objs.size X.env))
        (compPost (model X.prog X.w) X.A X.xe none (EP X pins σ Q) (.ref s2.heap.objs.size) s3.heap.objs.size) s4 := by
    rintro s4 rfl
    have stat : ∀ {H' : Hp}, (∀ b ∈ fp, H' b = none) → ∀ b ∈ fp, FpOk (cxCompC X (hidS s3.heap H3 (frs X.stack ++ fp)) N scope cl s3.heap.objs.size fp s3 H3) [] H' b := fun hn b hb =>
      ⟨hn b hb, by
        obtain ⟨o, q⟩ := fo b hb
        exact Nat.ne_of_lt (Heap.lt_size (by rw [hh3]; exact q)), J0.ok.exfs b hb, .inl hb, fun y c q => (J0.ok.exf b hb).2 y c q, fun p hp => absurd (show p ∈ ([] : List (Addr × Obj)) from hp) (by simp)⟩
    refine compLoop_ifs (fun n s' => ∃ i σ' H', Inv (cxCompC X (hidS s3.heap H3 (frs X.stack ++ fp)) N scope cl s3.heap.objs.size fp s3 H3) [] σ' H' s' ∧ tn i s'.heap ∧ (∀ b ∈ fp, H' b = none) ∧ W i n σ' H') ?_ m0 ⟨0, _, H3, J0, st4, fun b hb => (f3 b hb).1, w0⟩
    rintro n s5 ⟨i, σ5, H5, I5, st5, fr5, w5⟩
    rcases turn i n σ5 H5 w5 with ⟨stop, qn⟩ | ⟨go, Nx, hN, step⟩
    · refine wpAny_mono (T.done (cxCompC X (hidS s3.heap H3 (frs X.stack ++ fp)) N scope cl s3.heap.objs.size fp s3 H3) rfl rfl rfl rfl i [] s5 σ5 H5 (fun _ _ => False) I5 (stat fr5) st5 stop) (fun r s6 ⟨hr, I6⟩ => ?_) fun _ _ z => z
      subst hr
      obtain ⟨m6, n6, _⟩ := id I6.loc
      refine ⟨m6, n6, fun h' hs' => ⟨.ref s2.heap.objs.size, H5, ?_, rfl, qn⟩⟩
      have neC : ∀ b o, s3.heap.get? b = some o → b ≠ s3.heap.objs.size := fun b o q => Nat.ne_of_lt (Heap.lt_size q)
      have B := I6.base
      have kp : ∀ b o, b ≠ s3.heap.objs.size → s6.heap.get? b = some o → h'.get? b = some o := fun b o nb q => hs'.extBut b o nb q
      refine I3.call' (s' := { s6 with heap := h' }) (ch := fp) I6.os ⟨fun b o q n hb hx => kp b o (neC b o q) (B.keep b o q n hb hx), fun b o q n hb hx => ?_, B.free, fun b o q hx => ?_, B.tups, B.frzs, B.tbls⟩ (fun a o q => ?_) I6.bare fun b hb => ⟨(f3 b hb).2.2.2.1, (f3 b hb).2.1, (f3 b hb).2.2.2.2.1, (f3 b hb).2.2.2.2.2⟩
      · obtain ⟨sl, z⟩ := B.slot b o q n hb hx
        exact ⟨sl, kp b _ (neC b o q) z⟩
      · obtain ⟨o', z⟩ := B.there b o q hx
        exact ⟨o', kp b _ (neC b o q) z⟩
      · have ne : ∀ b u, H5 b = some u → b ≠ s3.heap.objs.size := fun b u q z => by
          have fr : H5 s3.heap.objs.size = none := I6.free
          rw [z, fr] at q; cases q
        refine (I6.hok a o q).stay (fun b u hb q' => kp b u ?_ q') (fun _ z => z) fun _ _ z => z
        rcases hb with z | z
        · exact ne b o (z ▸ q)
        · exact ne b _ z
    · refine wpAny_mono (T.item (cxCompC X (hidS s3.heap H3 (frs X.stack ++ fp)) N scope cl s3.heap.objs.size fp s3 H3) rfl rfl rfl rfl i [] s5 σ5 H5 (fun _ _ => False) I5 (stat fr5) st5 go) (fun r s6 ⟨u, hr, h6⟩ => ?_) fun _ _ z => z
      subst hr
      refine wpAny_mono h6 (fun _ s7 ⟨x, H7, I7, r7, y7, st7, fr7⟩ => ?_) fun _ _ z => z
      have I7' := I7.pinned (stat fr7) (T.obj _ _ st7)
      refine wpAny_mono (hg _ _ _ _ _ _ s7 σ5 H7 x u _ I7' r7 (step x H7 y7)) (fun _ s8 ⟨σ8, H8, I8, q8⟩ => ?_) fun _ _ z => z
      have fin : ∀ (s8 : Shared) (H8 : Hp), Inv _ _ σ8 H8 s8 → (∃ m', m' < n ∧ W (i + 1) m' σ8 H8) → ∃ m, m < n ∧ (∃ i σ' H', Inv (cxCompC X (hidS s3.heap H3 (frs X.stack ++ fp)) N scope cl s3.heap.objs.size fp s3 H3) [] σ' H' s8 ∧ tn i s8.heap ∧ (∀ b ∈ fp, H' b = none) ∧ W i m σ' H') := fun s8 H8 I10 ⟨m', hm, w9⟩ => by
        refine ⟨m', hm, i + 1, σ8, _, I10.unpinned, T.keep _ _ _ st7 fun b hb o q => (I10.pin (b, o) (List.mem_append_right _ (List.mem_append_right _ (mem_pinsAt hb q)))).1, fun b hb => ?_, w9⟩
        obtain ⟨o, q, d⟩ := T.obj _ _ st7 b hb
        exact (I10.pin (b, o) (List.mem_append_right _ (List.mem_append_right _ (mem_pinsAt hb q)))).2.1
      have rest : ∀ (ok : Bool) (s8 : Shared) (H8 : Hp), Inv _ _ σ8 H8 s8 → (if ok = true then te (hidS s3.heap H3 (frs X.stack ++ fp)) σ8 H8 fun y H4 => ∃ ys, H4 s2.heap.objs.size = some (.lst ys) ∧ ys.length < sizeLine ∧ Nx σ8 (upd H4 s2.heap.objs.size (.lst (ys ++ [y]))) else Nx σ8 H8) →
          (if ok = true then wpAny (model X.prog X.w) X.A (eval elt (compEnvC scope cl s3.heap.objs.size X.env)) (fun x s₄ =>
              wpAny (model X.prog X.w) X.A (call (.builtin "list.append") [.ref s2.heap.objs.size, x]) (fun _ s₅ => ∃ m, m < n ∧ (∃ i σ' H', Inv (cxCompC X (hidS s3.heap H3 (frs X.stack ++ fp)) N scope cl s3.heap.objs.size fp s3 H3) [] σ' H' s₅ ∧ tn i s₅.heap ∧ (∀ b ∈ fp, H' b = none) ∧ W i m σ' H')) (fun _ _ => False) s₄) (fun _ _ => False) s8
            else ∃ m, m < n ∧ (∃ i σ' H', Inv (cxCompC X (hidS s3.heap H3 (frs X.stack ++ fp)) N scope cl s3.heap.objs.size fp s3 H3) [] σ' H' s8 ∧ tn i s8.heap ∧ (∀ b ∈ fp, H' b = none) ∧ W i m σ' H')) := fun ok s8 H8 I8 q8 => by
        cases ok with
        | false => exact fin s8 H8 I8 (hN _ _ q8)
        | true =>
          refine wpAny_mono (he _ _ _ _ _ _ s8 σ8 H8 _ I8 q8) (fun y s9 ⟨vy, H9, I9, ry, ys, hD9, hz, w9⟩ => ?_) fun _ _ z => z
          obtain ⟨z, its, nn, rr, hl, eo⟩ := I9.lstM hD9
          refine append_at (hsz := by rw [List.size_toArray]; omega) eo fun h10 hs10 hD10 => ?_
          have I10 : Inv _ _ σ8 (upd H9 s2.heap.objs.size (.lst (ys ++ [vy]))) { s9 with heap := h10, toks := s9.toks } := I9.write (x := s2.heap.objs.size) (e := s2.heap.objs.size) (o := .lst (ys ++ [vy])) (by rw [hD9]; exact trivial) (.inl rfl) (fun b o hb q => hs10.extBut b o hb q) ⟨_, hD10⟩
            ⟨by rw [List.length_append, List.length_singleton]; omega, its ++ [y], nn + 1, rr.append (.cons ry .nil), by rw [hD10, List.push_toArray]⟩
          exact fin _ _ I10 (hN _ _ w9)
      have hI := hif (hidS s3.heap H3 (frs X.stack ++ fp)) s3.heap.objs.size fp s3 H3
      match ifs, hI with
      | [], hI => exact rest true s8 H8 I8 (hI _ _ _ q8)
      | [c], hI => exact wpAny_mono (hI _ s8 σ8 H8 _ I8 q8) (fun ok s9 ⟨H9, I9, q9⟩ => rest ok s9 H9 I9 q9) fun _ _ z => z
      | _ :: _ :: _, hI => exact hI.elim
  have e4 : ({ ({ s2 with heap := s2.heap.push { cls := .type "list", data := .seq ([] : List Value).toArray } } : Shared) with heap := h₁, toks := s2.toks + ([] : List (Str × Value)).length } : Shared) = { s3 with heap := h₁, toks := s2.toks + ([] : List (Str × Value)).length } := by rw [hs3]
  have lp := loop _ e4
  have eC : s3.heap.objs.size = (s2.heap.push { cls := .type "list", data := .seq ([] : List Value).toArray }).objs.size := by rw [hh3]
  rw [eC] at lp
  exact codeAny_compStart_list lp (T.self _ 0 _ _ _ st4 lp)
end
section
variable {K : PySem.W.Frag} {a : Addr} {xs : List V} {g : TG} {tt : TT} {te : TE} {Q : VK} {D : Addr} {σ : St} {H : Hp} {J : It}
noncomputable abbrev CT (g : TG) (tt : TT) (te : TE) (D : Addr) (Nx : St → Hp → Prop) (x : V) (σ : St) (H : Hp) : Prop :=
  g x σ H fun σ3 H3 => tt σ3 H3 fun ok H3' => if ok = true then te σ3 H3' fun y H4 => ∃ ys, H4 D = some (.lst ys) ∧ ys.length < sizeLine ∧ Nx σ3 (upd H4 D (.lst (ys ++ [y]))) else Nx σ3 H3'
noncomputable abbrev CW (J : It) (g : TG) (tt : TT) (te : TE) (D : Addr) (Q : VK) (σ : St) (H : Hp) : Prop := ∃ W : Nat → Nat → St → Hp → Prop, (∃ m, W 0 m σ H) ∧
  ∀ i m σ' H', W i m σ' H' → (J.stop i H' ∧ Q (.ref D) H') ∨ (J.go i H' ∧ ∃ Nx : St → Hp → Prop, (∀ σ'' H'', Nx σ'' H'' → ∃ m', m' < m ∧ W (i + 1) m' σ'' H'') ∧ ∀ x H2, J.yld i H' x H2 → CT g tt te D Nx x σ' H2)
theorem comp_list (Pv : Nat → St → Hp → Prop) (h0 : Pv 0 σ H) (hl : ∀ i σ H, i ≤ xs.length → Pv i σ H → SqL K H a xs)
    (hs : ∀ i x σ H, xs[i]? = some x → Pv i σ H → CT g tt te D (Pv (i + 1)) x σ H) (hd : ∀ σ H, Pv xs.length σ H → Q (.ref D) H) : CW (Itl K a) g tt te D Q σ H := by
  refine ⟨fun i m σ H => m = xs.length - i ∧ i ≤ xs.length ∧ Pv i σ H, ⟨xs.length, by simp, Nat.zero_le _, h0⟩, ?_⟩
  rintro i m σ H ⟨rfl, hi, p⟩
  have q := hl i σ H hi p
  by_cases hlt : i < xs.length
  · refine .inr ⟨⟨xs, xs[i], q, by simp [hlt]⟩, Pv (i + 1), fun σ' H' p' => ⟨xs.length - (i + 1), by omega, rfl, hlt, p'⟩, fun x H' y => ?_⟩
    obtain ⟨e, y⟩ := y
    subst e
    exact hs i x σ _ (y xs q) p
  · have e : i = xs.length := by omega
    subst e
    exact .inl ⟨⟨xs, q, Nat.le_refl _⟩, hd σ H p⟩
end
end L2
set_option Elab.async false
set_option linter.all false
set_option maxRecDepth 100000
set_option maxHeartbeats 4000000
namespace L2
open PySem PySem.Spec PyProof.Rows
noncomputable def clOf (sc : Scope) (env : Env) : List (Str × Addr) := (sc.names.filter (·.2 == .free)).reverse.map fun y => (y.1, (env.cells.lookup y.1).getD 0)
theorem closure_go (env : Env) : ∀ (ns : List (Str × NameKind)) (cs : List (Str × Addr)), (∀ y ∈ ns, y.2 = .free → ∃ c, env.cells.lookup y.1 = some c) →
    (forIn ns cs fun (x : Str × NameKind) __s => match x with
        | (name, kind) => if (kind == NameKind.free) = true then do let __do_lift ← cellOf env name; pure (ForInStep.yield ((name, __do_lift) :: __s)) else pure (ForInStep.yield __s)) =
      (pure ((ns.filter (·.2 == .free)).reverse.map (fun y => (y.1, (env.cells.lookup y.1).getD 0)) ++ cs) : Sem (List (Str × Addr)))
  | [], cs, _ => by simp
  | (n, k) :: ns, cs, h => by
    have ih := fun cs => closure_go env ns cs fun y hy => h y (List.mem_cons_of_mem _ hy)
    rw [List.forIn_cons]
    by_cases e : (k == NameKind.free) = true
    · have ek : k = .free := by simpa using e
      obtain ⟨c, hc⟩ := h (n, k) List.mem_cons_self ek
      have e1 : cellOf env n = pure c := by unfold cellOf; simp only at hc; rw [hc]
      dsimp only
      rw [if_pos e, e1, pure_bind, pure_bind]
      dsimp only
      rw [ih, List.filter_cons_of_pos (by simpa using ek)]
      simp only at hc
      simp [hc]
    · dsimp only
      rw [if_neg e, pure_bind]
      dsimp only
      rw [ih, List.filter_cons_of_neg (by simpa using e)]
theorem closure_of {sc : Scope} {env : Env} (h : ∀ y ∈ sc.names, y.2 = .free → ∃ c, env.cells.lookup y.1 = some c) : closureFor sc env = pure (clOf sc env) := by
  unfold closureFor clOf
  have := closure_go env sc.names [] h
  dsimp only
  rw [this]
  simp
noncomputable def compOk (sc out : Scope) (N NX : List Str) (js : List (Option Nat)) : Bool :=
  (sc.kind == .function) && (sc.names.all fun y => y.2 != .cell) && (sc.names.all fun y => y.2 != .local || sc.names.lookup y.1 == some .local) && (sc.names.all fun y => y.2 != .free || out.names.lookup y.1 == some .cell) && (js.length == N.length) &&
  ((N.zip js).all fun p => match p.2 with | none => true | some j => (NX[j]? == some p.1) && (out.names.lookup p.1 == some .cell) && (sc.names.lookup p.1 == some .free))
theorem relabel_free {env : Env} {x : Str} : ∀ (ns : List (Str × NameKind)), ns.lookup x = some .free →
    (ns.map (fun x => match x with | (n, k) => if (k == NameKind.free && env.scope.kind == ScopeKind.function && env.kindOf n == some NameKind.cell) = true then (n, NameKind.cell) else (n, k))).lookup x = some .cell ∨
    (ns.map (fun x => match x with | (n, k) => if (k == NameKind.free && env.scope.kind == ScopeKind.function && env.kindOf n == some NameKind.cell) = true then (n, NameKind.cell) else (n, k))).lookup x = some .free
  | [], h => by cases h
  | (n, k) :: ns, h => by
    rw [List.map_cons]
    dsimp only
    by_cases e : x == n
    · have hk : k = .free := by
        rw [List.lookup_cons, e] at h
        simpa using h
      split
      · left; rw [List.lookup_cons, e]
      · right; rw [List.lookup_cons, e, hk]
    · have e' : (x == n) = false := by simpa using e
      rw [List.lookup_cons, e'] at h
      have ih := relabel_free (env := env) ns h
      split <;> (rw [List.lookup_cons, e']; exact ih)
theorem clOf_has {sc : Scope} {env : Env} {x : Str} (h : (x, NameKind.free) ∈ sc.names) : ∃ c, (clOf sc env).lookup x = some c := by
  have hm : (x, (env.cells.lookup x).getD 0) ∈ clOf sc env := List.mem_map.mpr ⟨(x, .free), by rw [List.mem_reverse, List.mem_filter]; exact ⟨h, by simp⟩, rfl⟩
  cases e : (clOf sc env).lookup x with
  | some c => exact ⟨c, rfl⟩
  | none =>
    have := List.lookup_eq_none_iff.mp e _ hm
    simp at this
section
variable {X : Cx} {tg iter elt : Expr} {ifs : List Expr} {scope : Scope} {pos : Pos} {wi : TI} {N : List Str} {js : List (Option Nat)} {g : TG} {tt : Heap → TT} {te : Heap → TE}
theorem pe_compD (hcb : compOk scope X.env.scope N X.N js = true) (hc : X.calm = true) (hfn : ∀ x, X.fn x = true) (hi : PI X tg iter wi)
    (hg : ∀ b C fp s H, PG (cxCompC X b N scope (clOf scope X.env) C fp s H) tg g) (hif : ∀ b C fp s H, PIfs (cxCompC X b N scope (clOf scope X.env) C fp s H) ifs (tt b)) (he : ∀ b C fp s H, PE (cxCompC X b N scope (clOf scope X.env) C fp s H) elt (te b))
    (hs : ∀ x, foldedSetIterable iter X.env x = pure x := by intro _; rfl) : PE X (.ListComp elt [⟨tg, iter, ifs, 0⟩] scope pos) (tCompC X js wi g tt te) := by
  intro pins s σ H Q I h
  simp only [compOk, Bool.and_eq_true, List.all_eq_true, beq_iff_eq, bne_iff_ne, Bool.or_eq_true] at hcb
  obtain ⟨⟨⟨⟨⟨c1, c2⟩, c3⟩, c4⟩, c5⟩, c6⟩ := hcb
  have env : ∀ y ∈ scope.names, y.2 = .free → ∃ c, X.env.cells.lookup y.1 = some c := fun y hy hf => by
    rcases c4 y hy with z | z
    · exact absurd hf z
    · exact I.ok.has y.1 (.inl z)
  have S : CompScopeC X scope N (clOf scope X.env) js := by
    refine ⟨c1, c2, fun y hy hl => ?_, fun y hy hf => ?_, fun y hy => ?_, c5, fun p hp j hj => ?_⟩
    · rcases c3 y hy with z | z
      · exact absurd hl z
      · exact z
    · exact clOf_has (by obtain ⟨a, b⟩ := y; cases hf; exact hy)
    · obtain ⟨z, hz, rfl⟩ := List.mem_map.mp hy
      rw [List.mem_reverse, List.mem_filter] at hz
      obtain ⟨c, hc⟩ := env z hz.1 (by simpa using hz.2)
      simp only [hc, Option.getD_some]
    · have := c6 p hp
      rw [hj] at this
      simp only [Bool.and_eq_true, beq_iff_eq] at this
      obtain ⟨⟨d1, d2⟩, d3⟩ := this
      refine ⟨d1, d2, ?_, clOf_has (PySem.mem_of_lookup d3)⟩
      exact relabel_free _ d3
  exact pe_compC S hc hfn hi (closure_of env) hg hif he hs pins s σ H Q I h
end
section
variable {X : Cx}
noncomputable def reprV : V → Option Str
  | .int i => some (toString i)
  | .non => some "None"
  | _ => none
end
section
variable {X : Cx} {K : PySem.W.Frag} {pos : Pos}
theorem pg_tupK {es : List Expr} {k : Nat} {t : TGs} {n : Nat} (hK : X.K = K) (hc : X.calm = true) (h : PGs X es t)
    (hn : (assignEach es X.env).length = n := by rfl) (hst : (assignEach es X.env).findIdx? (·.1) = none := by rfl) : PG X (.Tuple es k pos) (gTup K n t) := by
  subst hK
  exact pg_tup hc h hn hst
end
section
variable {X : Cx} {pos : Pos}
end
theorem tCompC_of {X : Cx} {js : List (Option Nat)} {wi : TI} {g : TG} {tt : Heap → TT} {te : Heap → TE} {σ : St} {H : Hp} {Q : VK} (h : wi σ H fun J H1 => ∀ b D, CellsIn X σ b → H1 D = none → CW J g (tt b) (te b) D Q (outOf σ js) (upd H1 D (.lst []))) : tCompC X js wi g tt te σ H Q := h
end L2
set_option Elab.async false
set_option linter.all false
set_option maxRecDepth 100000
set_option maxHeartbeats 4000000
namespace L2
open PySem PySem.Spec PyProof.Rows
section
variable {X : Cx} {pos : Pos}
noncomputable def rNeL (K : PySem.W.Frag) : R2 := fun x y H Q => ∃ ds es, Rep K H (.lst ds) x ∧ Rep K H (.lst es) y ∧ depL ds ≤ 100 ∧ Q (.bl (!eqDL ds es)) H
theorem op_neS (hu : X.A.units + 150 < cLine) : OpR X (compareOp .NotEq) (rNeL X.K) := by
  intro pins s σ H x y v u Q I rv ru h
  obtain ⟨ds, es, h, g, hd, q⟩ := h
  obtain ⟨a, xs, rfl, h1, h2⟩ := (show ∃ a xs, x = .ref a ∧ SqL X.K H a xs ∧ RepL X.K H ds xs from h)
  obtain ⟨b, ys, rfl, g1, g2⟩ := (show ∃ a xs, y = .ref a ∧ SqL X.K H a xs ∧ RepL X.K H es xs from g)
  cases rv; cases ru
  obtain ⟨i1, r1, p1, _⟩ := I.list h1
  obtain ⟨i2, r2, p2, _⟩ := I.list g1
  have l1 := h2.length.trans r1.length
  have l2 := g2.length.trans r2.length
  rw [eqDL_range] at q
  show wpAny (model X.prog X.w) X.A (richCompare .NotEq (.ref a) (.ref b)) _ _ _
  by_cases hz : ds.length = es.length
  · refine SeqAt.RcNeAt.lists p1.isList p2.isList (by simp only [List.size_toArray]; omega) (by omega) (e := fun j => eqD (ds.getD j .non) (es.getD j .non)) (fun j a1 a2 => ?_) _ _ _ _ ⟨.bl _, H, I, rfl, ?_⟩
    · have a1' : j < i1.length := by simpa using a1
      have a2' : j < i2.length := by simpa using a2
      have := eqAt_DL I ds es h2 g2 r1 r2 (A := X.A.in1) (by rw [in1_units]; omega) j a1' a2'
      simpa using this
    · rw [← hz, Nat.min_self, beq_self_eq_true, Bool.and_true] at q
      rw [List.size_toArray, ← l1]
      exact q
  · refine SeqAt.RcNeAt.lists_lengths p1.isList p2.isList (by simp only [List.size_toArray, bne_iff_ne]; omega) (by omega) _ _ _ _ ⟨.bl _, H, I, rfl, ?_⟩
    rw [show (ds.length == es.length) = false by simpa using hz, Bool.and_false] at q
    exact q
noncomputable def tDNew : TE := fun _ H Q => ∀ p, H p = none → Q (.ref p) (upd H p (.dK []))
theorem pe_dnew : PE X (.Dict [] [] pos) tDNew := by
  intro pins s σ H Q I h
  have big : sysModules < s.heap.objs.size := Nat.lt_trans (m := mainGlobals) (by decide) (I.mod.glob.keeps I.bk).lt
  have ok : ObjOk X.prog X.w (upd H s.heap.objs.size (.dK [])) (s.heap.push { cls := .type "dict", data := .dict #[] }) s.heap.objs.size (.dK []) := by
    refine ⟨Nat.zero_le _, ?_, [], .nil, Heap.DictOf.new _⟩
    rw [beq_eq_false_iff_ne]
    exact (Nat.ne_of_lt big).symm
  refine wpAny_Dict_empty ?_
  have J := I.laid (t' := s.toks) (h' := s.heap.push { cls := .type "dict", data := .dict #[] }) (fun _ _ q => Heap.get?_push_of_some _ q) (Nat.le_refl _) ok
  exact ⟨.ref _, _, J, rfl, h _ (I.hok.fresh (Nat.le_refl _))⟩
theorem pe_no {e : Expr} : PE X e (fun _ _ _ => False) := fun _ _ _ _ _ _ h => h.elim
theorem pss_no {b : List Stmt} : PSs X b (fun _ _ _ => False) := fun _ _ _ _ _ _ h => h.elim
noncomputable def boolOf : Value → Bool
  | .bool b => b
  | _ => false
theorem vals_bl : ∀ {bs : List Bool} {us : List Value}, Vals (bs.map V.bl) us → us = bs.map Value.bool
  | [], _, r => by cases r; rfl
  | b :: bs, _, r => by
    cases r with
    | cons p q => rw [vals_bl q]; cases p; rfl
noncomputable def rCount : V → List V → Hp → VK → Prop := fun x vs H Q => ∃ (l : Addr) (bs : List Bool), x = .ref l ∧ vs = [.bl true] ∧ H l = some (.lst (bs.map V.bl)) ∧ Q (.int (bs.countP id : Nat)) H
theorem mt_count : MtM X "list.count" rCount := by
  intro pins s σ H x vs v us Q I rx rv h
  obtain ⟨l, bs, rfl, rfl, hH, q⟩ := h
  cases rx
  obtain ⟨u, rfl, ru⟩ := rv.one
  cases ru
  obtain ⟨z, its, n, r, hl, e⟩ := I.lstM hH
  have ei := vals_bl r
  subst ei
  refine call_meets F.slot_list_count ⟨_, e, rfl⟩ F.entry_list_count (F.args_list_count_2 _ _) (SeqAt.list_countAt l _ n none _ (.bool true) boolOf) ⟨e, fun y hy => ?_, ?_⟩
  · have hy : y ∈ (bs.map Value.bool) := by simpa using hy
    obtain ⟨b, _, rfl⟩ := List.mem_map.mp hy
    have := SeqAt.EqAt.bool_bool (A := X.A.in1) (s := s) b true
    rw [show (b == true) = boolOf (.bool b) by cases b <;> rfl] at this
    exact this
  · have ec : List.countP boolOf (bs.map Value.bool).toArray.toList = bs.countP id := by
      rw [List.countP_map]
      congr 1
    rw [ec]
    exact ⟨.int _, H, I.tok _, ⟨_, rfl⟩, q⟩
noncomputable def rIndex : V → List V → Hp → VK → Prop := fun x vs H Q => ∃ (l : Addr) (bs : List Bool) (j : Nat), x = .ref l ∧ vs = [.bl true] ∧ H l = some (.lst (bs.map V.bl)) ∧ bs[j]? = some true ∧ (∀ m, m < j → bs[m]? = some false) ∧ j < 1000 ∧ Q (.int (j : Nat)) H
theorem mt_index : MtM X "list.index" rIndex := by
  intro pins s σ H x vs v us Q I rx rv h
  obtain ⟨l, bs, j, rfl, rfl, hH, hj, hm, hz, q⟩ := h
  cases rx
  obtain ⟨u, rfl, ru⟩ := rv.one
  cases ru
  obtain ⟨z, its, n, r, hl, e⟩ := I.lstM hH
  have ei := vals_bl r
  subst ei
  have jl : j < bs.length := (List.getElem?_eq_some_iff.mp hj).1
  have gt : ∀ (m : Nat) (h : m < (bs.map Value.bool).toArray.size) b, bs[m]? = some b → boolOf (bs.map Value.bool).toArray[m] = b := fun m h b hb => by
    obtain ⟨h1, h2⟩ := List.getElem?_eq_some_iff.mp hb
    simp [boolOf, h2]
  refine call_meets F.slot_list_index ⟨_, e, rfl⟩ F.entry_list_index (F.args_list_index_2 _ _) (SeqAt.list_indexAt l _ n none _ (.bool true) boolOf j (by simpa using jl) (by omega) (gt j _ _ hj) (fun m h1 h2 => gt m h1 _ (hm m h2))) ⟨e, fun y hy => ?_, ?_⟩
  · have hy : y ∈ (bs.map Value.bool) := by simpa using hy
    obtain ⟨b, _, rfl⟩ := List.mem_map.mp hy
    have := SeqAt.EqAt.bool_bool (A := X.A.in1) (s := s) b true
    rw [show (b == true) = boolOf (.bool b) by cases b <;> rfl] at this
    exact this
  · exact ⟨.int _, H, I.tok _, ⟨_, rfl⟩, q⟩
end
end L2
set_option Elab.async false
set_option linter.all false
set_option maxRecDepth 100000
set_option maxHeartbeats 4000000
namespace L2
open PySem PySem.Spec PyProof.Rows
noncomputable def lamCk (sc out : Scope) (N NX : List Str) (js : List Nat) : Bool :=
  (sc.kind == .function) && (sc.isCoroutine == false) && (sc.isGenerator == false) && (sc.names.all fun y => y.2 != .cell) && (sc.names.all fun y => y.2 != .free || (out.names.lookup y.1 == some .cell && N.contains y.1)) && (js.length == N.length) &&
  ((N.zip js).all fun p => (NX[p.2]? == some p.1) && (out.names.lookup p.1 == some .cell) && (sc.names.lookup p.1 == some .free))
theorem inj_of_nodup : ∀ {l : List (Str × Addr)}, (l.map (·.2)).Nodup → ∀ x y c, l.lookup x = some c → l.lookup y = some c → x = y := by
  intro l
  induction l with
  | nil => intro _ x y c h; cases h
  | cons q l ih =>
    intro h x y c hx hy
    rw [List.map_cons, List.nodup_cons] at h
    have mem : ∀ z, l.lookup z = some c → c ∈ l.map (·.2) := fun z hz => List.mem_map.mpr ⟨(z, c), PySem.mem_of_lookup hz, rfl⟩
    rw [List.lookup_cons] at hx hy
    cases ex : x == q.1 with
    | true =>
      rw [ex] at hx
      cases hx
      cases ey : y == q.1 with
      | true => rw [beq_iff_eq] at ex ey; rw [ex, ey]
      | false => rw [ey] at hy; exact absurd (mem y hy) h.1
    | false =>
      rw [ex] at hx
      cases ey : y == q.1 with
      | true => rw [ey] at hy; cases hy; exact absurd (mem x hx) h.1
      | false => rw [ey] at hy; exact ih h.2 x y c hx hy
section
variable {X : Cx} {sc : Scope} {N : List Str} {js : List Nat} {params : Arguments} {body : Expr} {pos : Pos} {c P : Addr}
theorem clOf_sub {env : Env} (h : ∀ y ∈ sc.names, y.2 = .free → ∃ c, env.cells.lookup y.1 = some c) {x : Str} {a : Addr} (q : (clOf sc env).lookup x = some a) : env.cells.lookup x = some a ∧ (x, NameKind.free) ∈ sc.names := by
  obtain ⟨z, hz, e⟩ := List.mem_map.mp (PySem.mem_of_lookup q)
  rw [List.mem_reverse, List.mem_filter] at hz
  have zf : z.2 = .free := by simpa using hz.2
  obtain ⟨c, hc⟩ := h z hz.1 zf
  have e1 : z.1 = x := congrArg Prod.fst e
  have e2 : (env.cells.lookup z.1).getD 0 = a := congrArg Prod.snd e
  rw [hc] at e2
  have e2 : c = a := e2
  refine ⟨by rw [← e1, hc, e2], ?_⟩
  obtain ⟨z1, z2⟩ := z
  simp only at e1 zf
  rw [← e1, ← zf]
  exact hz.1
theorem pe_lamD (L : LamCx X c P) (hck : lamCk sc X.env.scope N X.N js = true) (hdef : defaultsOf params X.env = ([], [])) : PE X (.Lambda params body sc pos) (tLam X.mg P (X.env.qual ++ "<lambda>") params body sc (clOf sc X.env)) := by
  intro pins s σ H Q I h
  simp only [lamCk, Bool.and_eq_true, List.all_eq_true, beq_iff_eq, bne_iff_ne, Bool.or_eq_true] at hck
  obtain ⟨⟨⟨⟨⟨⟨c1, c2⟩, c3⟩, c4⟩, c5⟩, c6⟩, c7⟩ := hck
  have env : ∀ y ∈ sc.names, y.2 = .free → ∃ c, X.env.cells.lookup y.1 = some c := fun y hy hf => by
    rcases c5 y hy with z | z
    · exact absurd hf z
    · exact I.ok.has y.1 (.inl z.1)
  exact pe_lam L hdef (closure_of env) pins s σ H Q I h
theorem lam_facts {σ : St} {b : Heap} {vs : List V} (hck : lamCk sc X.env.scope N X.N js = true) (hinj : (X.env.cells.map (·.2)).Nodup) (hhas : ∀ x, X.env.scope.names.lookup x = some .cell → ∃ c, X.env.cells.lookup x = some c) (hc : CellsIn X σ b)
    (hv : vs.length = js.length) (hσ : ∀ (i j : Nat) (v : V), js[i]? = some j → vs[i]? = some v → σ[j]? = some (some v)) :
    LamScope N sc (clOf sc X.env) ∧ vs.length = N.length ∧ (∀ x c, (clOf sc X.env).lookup x = some c → ∃ v, b.IsCell c v) ∧ (∀ (i : Nat) x v, N[i]? = some x → vs[i]? = some v → ∃ c u, (clOf sc X.env).lookup x = some c ∧ RelV v u ∧ b.IsCell c (some u)) := by
  simp only [lamCk, Bool.and_eq_true, List.all_eq_true, beq_iff_eq, bne_iff_ne, Bool.or_eq_true] at hck
  obtain ⟨⟨⟨⟨⟨⟨c1, c2⟩, c3⟩, c4⟩, c5⟩, c6⟩, c7⟩ := hck
  have env : ∀ y ∈ sc.names, y.2 = .free → ∃ c, X.env.cells.lookup y.1 = some c := fun y hy hf => by
    rcases c5 y hy with z | z
    · exact absurd hf z
    · exact hhas y.1 z.1
  have key : ∀ (i : Nat) x v, N[i]? = some x → vs[i]? = some v → ∃ c u, (clOf sc X.env).lookup x = some c ∧ RelV v u ∧ b.IsCell c (some u) := fun i x v e1 e2 => by
    have il : i < js.length := by rw [c6]; exact (List.getElem?_eq_some_iff.mp e1).1
    have hz : (x, js[i]) ∈ N.zip js := List.mem_of_getElem? (i := i) (by rw [List.getElem?_zip_eq_some]; exact ⟨e1, List.getElem?_eq_getElem il⟩)
    obtain ⟨⟨d1, d2⟩, d3⟩ := c7 _ hz
    obtain ⟨a, ha⟩ := clOf_has (env := X.env) (PySem.mem_of_lookup d3)
    obtain ⟨u, r, cell⟩ := hc js[i] x v a d1 (hσ i js[i] v (List.getElem?_eq_getElem il) e2) d2 (clOf_sub env ha).1
    exact ⟨a, u, ha, r, cell⟩
  refine ⟨⟨c1, c2, c3, c4, fun x hx => ?_, fun x hx => clOf_has (PySem.mem_of_lookup hx), fun x y a hx hy => inj_of_nodup hinj x y a (clOf_sub env hx).1 (clOf_sub env hy).1⟩, by rw [hv, c6], fun x a hx => ?_, key⟩
  · obtain ⟨i, hi⟩ := List.getElem?_of_mem hx
    have il : i < js.length := by rw [c6]; exact (List.getElem?_eq_some_iff.mp hi).1
    have hz : (x, js[i]) ∈ N.zip js := List.mem_of_getElem? (i := i) (by rw [List.getElem?_zip_eq_some]; exact ⟨hi, List.getElem?_eq_getElem il⟩)
    exact (c7 _ hz).2
  · obtain ⟨_, hm⟩ := clOf_sub env hx
    have hN : x ∈ N := by
      rcases c5 _ hm with z | z
      · exact absurd rfl z
      · simpa using z.2
    obtain ⟨i, hi⟩ := List.getElem?_of_mem hN
    have il : i < vs.length := by rw [hv, c6]; exact (List.getElem?_eq_some_iff.mp hi).1
    obtain ⟨a', u, h1, _, h2⟩ := key i x vs[i] hi (List.getElem?_eq_getElem il)
    rw [hx] at h1
    cases h1
    exact ⟨_, h2⟩
end
theorem fn_okC {Pr : Program} {w : World} {K : PySem.W.Frag} {mg : Str → Option Value} {base : Heap} {x qual : Str} {st : Stmt} {f c : Addr} {oc kV doc pm ct : Value} {od an : Option Addr} {osl : Array (Option Value)} {N ps : List Str} {k : Nat} {sp : Sp}
    (lk : K.lookup f = some ⟨oc, od, .func (PySem.W.fnOf x qual (defArgs st) (defBody st) (defScope st) .none kV doc pm an (.ref c) ct), osl⟩) (hcd : PySem.W.codeIn K (.ref c) qual = true) (S : FnScope N ps (defScope st)) (len : ∀ vs H Q E, sp vs H Q E → vs.length = ps.length)
    (hbody : ∀ (A : Around) (outer : List Env) (s : Shared) (H : Hp) (vs : List V) (Q : VK) (E : XK), Room k (A.deeper (envOfC qual (defScope st) s.heap.objs.size f (.ref c))) → sp vs H Q E →
      ∃ t, PSs (cxOf CX0 Pr w K mg base N qual (defScope st) f (.ref c) A outer s H E).nox (defBody st) t ∧ t { nx := fun _ H' => Q .non H', rt := Q } (start N vs) H) :
    FnOk Pr w K mg base CX0 (k + 1) f (PySem.W.fnOf x qual (defArgs st) (defBody st) (defScope st) .none kV doc pm an (.ref c) ct) ps sp := by
  refine fn_of lk hcd S len fun A outer s H vs Q E hr hsp => ?_
  obtain ⟨t, h, q⟩ := hbody A outer s H vs Q E hr hsp
  exact ⟨t, h.nox, q⟩
theorem lam_binds {K : PySem.W.Frag} {qual : Str} {body : Expr} {scope : Scope} {cl : List (Str × Addr)} {pm cd ctv : Value} {params : Arguments} (hp : ∀ pm cd ctv, bindArgs (PySem.W.kla_fn "<lambda>" qual params body scope cl pm cd ctv) ⟨[], []⟩ = pure []) : Binds K (PySem.W.kla_fn "<lambda>" qual params body scope cl pm cd ctv) [] [] := fun s us _ hl => by
  cases us with
  | nil => exact .of_eq (hp pm cd ctv)
  | cons u us => simp at hl
theorem TabOk.kept {H H' : Hp} {P : Addr} {q : Str} (h : TabOk H P q) (k : ∀ b o, H b = some o → (∀ xs, o ≠ .lst xs) → H' b = some o) : TabOk H' P q := by
  obtain ⟨ps, h1, h2, h3⟩ := h
  refine ⟨ps, k _ _ h1 (fun _ z => nomatch z), h2, fun pos cv e => ?_⟩
  obtain ⟨c, e1, e2⟩ := h3 pos cv e
  exact ⟨c, e1, k _ _ e2 (fun _ z => nomatch z)⟩
theorem TabOk.same {H H' : Hp} {P : Addr} {q : Str} (h : TabOk H P q) (s : Same H H') : TabOk H' P q := h.kept fun b o e _ => s b o e
theorem tabOk_new {H : Hp} {P : Addr} {q : Str} (h : H P = some (.tbl #[])) : TabOk H P q := ⟨#[], h, trivial, fun pos cv e => by simp [codeAmong] at e⟩
theorem SameX.refl (P : Addr) (H : Hp) : SameX P H H := fun _ _ _ e => e
theorem SameX.trans {P : Addr} {H H1 H2 : Hp} (a : SameX P H H1) (b : SameX P H1 H2) : SameX P H H2 := fun c o hc e => b c o hc (a c o hc e)
theorem SameX.of {P : Addr} {H H1 : Hp} (s : Same H H1) : SameX P H H1 := fun c o _ e => s c o e
theorem SameX.seq {K : PySem.W.Frag} {P a : Addr} {H H' : Hp} {ps : Array Value} {xs : List V} (hP : H P = some (.tbl ps)) (s : SameX P H H') (h : SqL K H a xs) : SqL K H' a xs := by
  rcases h with (h | ⟨o, h⟩) | h
  · exact .inl (.inl (s _ _ (fun z => by rw [z, hP] at h; cases h) h))
  · exact .inl (.inr ⟨o, s _ _ (fun z => by rw [z, hP] at h; cases h) h⟩)
  · exact .inr h
theorem cells_nodup : ∀ (ns : List (Str × NameKind)) (n : Nat) (acc : List (Str × Addr)), (acc.map (·.2)).Nodup → (∀ y ∈ acc, y.2 < n) → ((cellsFrom n ns acc).map (·.2)).Nodup
  | [], n, acc, h, _ => by rw [cellsFrom.eq_def]; exact h
  | (x, k) :: r, n, acc, h, hb => by
    rw [cellsFrom.eq_def]
    dsimp only
    split
    · refine cells_nodup r (n + 1) _ ?_ fun y hy => ?_
      · rw [List.map_cons, List.nodup_cons]
        refine ⟨fun hm => ?_, h⟩
        obtain ⟨y, hy, e⟩ := List.mem_map.mp hm
        have := hb y hy
        have e : y.2 = n := e
        rw [e] at this
        exact absurd this (Nat.lt_irrefl _)
      · rcases List.mem_cons.mp hy with rfl | hy
        · exact Nat.lt_succ_self _
        · exact Nat.lt_succ_of_lt (hb y hy)
    · exact cells_nodup r n acc h hb
end L2
set_option Elab.async false
set_option linter.all false
set_option maxRecDepth 100000
set_option maxHeartbeats 4000000
namespace L2
open PySem PySem.Spec PyProof.Rows
theorem back_run {α : Type} : ∀ (its : List α) (k : Nat), k ≤ its.length → (List.range k).filterMap (fun m => its[its.length - 1 - m]?) = (its.drop (its.length - k)).reverse := by
  intro its k
  induction k with
  | zero => intro _; simp
  | succ k ih =>
    intro hk
    rw [List.range_succ, List.filterMap_append, ih (by omega)]
    have e1 : its.length - k = its.length - (k + 1) + 1 := by omega
    have hl : its.length - (k + 1) < its.length := by omega
    have e2 : its.drop (its.length - (k + 1)) = its[its.length - (k + 1)] :: its.drop (its.length - k) := by
      rw [e1]; exact List.drop_eq_getElem_cons hl
    rw [e2, List.reverse_cons]
    have e3 : its.length - 1 - k = its.length - (k + 1) := by omega
    congr 1
    simp [e3, hl]
theorem slicePick_back (its : List Value) : slicePick its.toArray none none (some (-1)) = its.reverse.toArray := by
  have e : sliceRange (sliceBounds none none (some (-1)) its.toArray.size).fst (sliceBounds none none (some (-1)) its.toArray.size).snd.fst (sliceBounds none none (some (-1)) its.toArray.size).snd.snd = (List.range its.length).map fun k => its.length - 1 - k := by
    show ((List.range (if (-1 : Int) > 0 then (if ((its.toArray.size : Int) - 1) < -1 then (-1 - ((its.toArray.size : Int) - 1) + -1 - 1) / -1 else 0) else if ((its.toArray.size : Int) - 1) > -1 then (((its.toArray.size : Int) - 1) - -1 - -1 - 1) / - -1 else 0 : Int).toNat).map fun (k : Nat) => (((its.toArray.size : Int) - 1) + -1 * (k : Int)).toNat) = _
    rw [if_neg (by decide), List.size_toArray]
    have c : (if ((its.length : Int) - 1) > -1 then (((its.length : Int) - 1) - -1 - -1 - 1) / - -1 else 0 : Int).toNat = its.length := by
      split
      · rw [show (- -1 : Int) = 1 by decide, Int.ediv_one]; omega
      · omega
    rw [c]
    refine List.map_congr_left fun k _ => ?_
    omega
  unfold slicePick
  rw [e, List.filterMap_map]
  congr 1
  have b := back_run its its.length (Nat.le_refl _)
  rw [Nat.sub_self, List.drop_zero] at b
  rw [← b]
  congr 1
  funext k
  simp
section
variable {X : Cx} {e : Expr} {te : TE} {pos p1 p2 p3 : Pos} {kk : Nat}
noncomputable def tRev (K : PySem.W.Frag) (te : TE) : TE := fun σ H Q => te σ H fun x H1 => ∃ a xs, x = .ref a ∧ SqL K H1 a xs ∧ ∀ p, H1 p = none → Q (.ref p) (upd H1 p (.lst xs.reverse))
theorem Vals.rev : ∀ {xs : List V} {us : List Value}, Vals xs us → Vals xs.reverse us.reverse
  | [], _, r => by cases r; exact .nil
  | x :: xs, _, r => by
    cases r with
    | cons p q => rw [List.reverse_cons, List.reverse_cons]; exact (Vals.rev q).append (.cons p .nil)
theorem pe_rev (he : PE X e te) (hlt : ∀ (o r : Value), letTemporaryGo e o r = pure () := by intro _ _; rfl) : PE X (.Subscript e (.Slice none none (some (.UnaryOp .USub (.Constant (.int 1) kk p3) p1)) p2) pos) (tRev X.K te) := by
  intro pins s σ H Q I h
  refine wpAny_Subscript_Slice_step (T := "list") slot_list_getitem.lookup (thn (he pins s σ H _ I h) fun v s1 ⟨x, H1, I1, r1, a, xs, ex, hx, q⟩ => ?_) hlt
  subst ex
  refine wpAny_Slice ?_
  rw [evalPart_none]
  refine wpAny_pure (wpAny_pure ?_)
  rw [evalPart_some]
  have st : PE X (.UnaryOp .USub (.Constant (.int 1) kk p3) p1) _ := pe_un un_neg pe_int
  refine thn (st pins s1 σ H1 (fun y H2 => y = .int (-1) ∧ H2 = H1) I1 ⟨1, rfl, rfl, rfl⟩) fun u s2 ⟨y, H2, I2, r2, ey, eH⟩ => ?_
  subst ey eH
  obtain ⟨t, rfl⟩ := r2
  cases r1
  have I3 : Inv X pins σ H2 { s2 with heap := s2.heap.push { cls := .type "slice", data := .fields #[.none, .none, .int (-1) t] } } := I2.kept (t' := s2.toks) fun b ob q => Heap.get?_push_of_some _ q
  obtain ⟨its, r, ht, hz⟩ := I3.list hx
  have hlen := r.length
  have hg : wpAny (model X.prog X.w) X.A (getItem (.ref a) (.ref s2.heap.objs.size)) (EP X pins σ Q) X.xe { s2 with heap := s2.heap.push { cls := .type "slice", data := .fields #[.none, .none, .int (-1) t] } } := by
    refine wpAny_getItem_list_slice ht.isList (Heap.IsSliceOf.new ..) .none .none (.int (-1) t) (by decide) ?_ (by rw [List.size_toArray] <;> omega)
    rw [slicePick_back]
    refine ⟨.ref _, _, I3.laid (t' := s2.toks) (o := .lst xs.reverse) (fun b ob q => Heap.get?_push_of_some _ q) (Nat.le_refl _) ?_, rfl, q _ (I3.hok.fresh (Nat.le_refl _))⟩
    exact ⟨by rw [List.length_reverse]; exact hz, _, 0, Vals.rev r, Heap.get?_push_size _ rfl⟩
  exact ⟨ht.isList.typeIs, hg⟩
end
end L2
set_option Elab.async false
set_option linter.all false
set_option maxRecDepth 100000
set_option maxHeartbeats 4000000
namespace L2
open PySem PySem.Spec PyProof.Rows
section
variable {prog : Program} {w : World} {A : Around} {E : Value → Shared → Prop} {s : Shared}
theorem drawT_item {j t : Addr} {n : Nat} {vs : Array Value} {u : Value} {Q : Value → Shared → Prop} (hj : s.heap.IsTupleIter j t n) (ht : s.heap.IsTuple t vs) (hu : vs[n]? = some u)
    (k : ∀ g, g.IsTupleIter j t (n + 1) → Heap.SameBut j s.heap g → Q u { s with heap := g }) : wpAny (model prog w) A (Builtin.SmallTypes.nextOf (.ref j)) Q E s := by
  obtain ⟨oj, gj, cj, dj⟩ := id hj; obtain ⟨ot, gt, _, m, dt⟩ := ht
  unfold Builtin.SmallTypes.nextOf; refine wpAny_bind ?_
  refine wpAny_callSpecial?_slot (name := Str.ofString "__next__") hj.typeIs F.slot_tuple_iterator_next ?_
  refine wpAny_call_entry F.slot_tuple_iterator_next hj.typeIs F.entry_tuple_iterator_next ?_ (F.args_tuple_iterator_next_1 _)
  show wpAny _ _ (field (.ref j) 0 >>= _) _ _ s; refine wpAny_bind (wpAny_field gj dj (x := .ref t) rfl ?_)
  show wpAny _ _ (if (Value.ref t == Value.none) = true then _ else _) _ _ s; rw [if_neg (by exact Bool.false_ne_true)]
  show wpAny _ _ (field (.ref j) 1 >>= _) _ _ s; refine wpAny_bind (wpAny_field gj dj (x := .int n 0) rfl ?_)
  show wpAny _ _ (seqItems? (.ref t) >>= _) _ _ s; refine wpAny_bind (wpAny_seqItems gt dt ?_); simp only [Int.toNat_natCast, hu]
  refine wpAny_bind (wpAny_setField gj dj (by simp) (wpAny_pure ⟨u, rfl, wpAny_pure (k _ ⟨_, Heap.get?_update_self _ gj (Obj.isFreed_of_fields (Obj.data_mapFields dj _)), (Obj.cls_mapFields ..).trans cj, ?_⟩ (Heap.SameBut.update ..))⟩))
  rw [Obj.data_mapFields dj]; simp [rawInt]
theorem drawT_end {j t : Addr} {n : Nat} {vs : Array Value} {Q : Value → Shared → Prop} (quiet : A.handled = none) (hj : s.heap.IsTupleIter j t n) (ht : s.heap.IsTuple t vs) (hu : vs[n]? = none)
    (k : ∀ g e, Heap.ExtBut j s.heap g → (∃ o, g.get? e = some o ∧ o.cls = .type "StopIteration") → E (.ref e) { s with heap := g }) : wpAny (model prog w) A (Builtin.SmallTypes.nextOf (.ref j)) Q E s := by
  obtain ⟨oj, gj, cj, dj⟩ := id hj; obtain ⟨ot, gt, _, m, dt⟩ := ht
  unfold Builtin.SmallTypes.nextOf; refine wpAny_bind ?_
  refine wpAny_callSpecial?_slot (name := Str.ofString "__next__") hj.typeIs F.slot_tuple_iterator_next ?_
  refine wpAny_call_entry F.slot_tuple_iterator_next hj.typeIs F.entry_tuple_iterator_next ?_ (F.args_tuple_iterator_next_1 _)
  show wpAny _ _ (field (.ref j) 0 >>= _) _ _ s; refine wpAny_bind (wpAny_field gj dj (x := .ref t) rfl ?_)
  show wpAny _ _ (if (Value.ref t == Value.none) = true then _ else _) _ _ s; rw [if_neg (by exact Bool.false_ne_true)]
  show wpAny _ _ (field (.ref j) 1 >>= _) _ _ s; refine wpAny_bind (wpAny_field gj dj (x := .int n 0) rfl ?_)
  show wpAny _ _ (seqItems? (.ref t) >>= _) _ _ s; refine wpAny_bind (wpAny_seqItems gt dt ?_); simp only [Int.toNat_natCast, hu]
  refine wpAny_bind (wpAny_rule (wpAny_bind (wpAny_setField gj dj (by simp) ?_))); show wpAny _ _ (newExc (.type "StopIteration") [] >>= _) _ _ _
  refine wpAny_bind ?_; simp only [newExc, newTuple]; refine wpAny_bind (wpAny_newObj_type ?_ (by size_fits))
  refine wpAny_bind (m := firstArgMember _ _) (wpAny_of_eq (a := Value.none) (by first | rfl | (simp only [firstArgMember]; rfl)) ?_); refine wpAny_newObj_type ?_ (by size_fits)
  simp only [raiseNew]; refine wpAny_bind (wpAny_handled ?_)
  first | rw [show A.in1.handled = none from quiet] | rw [quiet]
  refine wpAny_bind (wpAny_pure (wpAny_throw ?_)); exact k _ _ (((Heap.SameBut.update ..).extBut.push _).push _) ⟨_, Heap.get?_push_size _ rfl, rfl⟩
theorem zipT_item {z TI TO j1 j2 t1 t2 : Addr} {n1 n2 : Nat} {xs ys : Array Value} {x y a b : Value} {Q : Value → Shared → Prop} (D : ZipApart z TI TO j1 j2 t1 t2) (hz : IsZip s.heap z TI TO .none) (hI : IsPair s.heap TI (.ref j1) (.ref j2)) (hO : IsPair s.heap TO a b)
    (q1 : s.heap.IsTupleIter j1 t1 n1) (q2 : s.heap.IsTupleIter j2 t2 n2) (e1 : s.heap.IsTuple t1 xs) (e2 : s.heap.IsTuple t2 ys) (hx : xs[n1]? = some x) (hy : ys[n2]? = some y)
    (k : ∀ g, IsZip g z TI TO (rawInt s.heap.objs.size) → IsPair g TO x y → g.IsTupleIter j1 t1 (n1 + 1) → g.IsTupleIter j2 t2 (n2 + 1) → IsPair g s.heap.objs.size x y → g.objs.size = s.heap.objs.size + 1 →
      (∀ c o, c ≠ z → c ≠ TO → c ≠ j1 → c ≠ j2 → s.heap.get? c = some o → g.get? c = some o) → Q (.ref s.heap.objs.size) { s with heap := g }) :
    wpAny (model prog w) A (Builtin.«zip.__next__» ⟨[.ref z], []⟩) (fun r s' => ∃ v, r = .done (.ret v) ∧ Q v s') E s := by
  show wpAny _ _ (field (.ref z) 2 >>= _) _ _ _; refine wpAny_bind (wpAny_field hz rfl (x := .bool false) rfl ?_); show wpAny _ _ (field (.ref z) 3 >>= _) _ _ _
  refine wpAny_bind (wpAny_field hz rfl (x := .ref TI) rfl (wpAny_bind (wpAny_seqItems hI rfl ?_))); show wpAny _ _ (Builtin.SmallTypes.ownedTupleIsFree (.ref z) >>= _) _ _ _
  refine wpAny_bind ?_; unfold Builtin.SmallTypes.ownedTupleIsFree; refine wpAny_bind (wpAny_field hz rfl (x := .none) rfl (wpAny_pure ?_)); simp only [if_true]
  refine wpAny_bind (wpAny_rule (wpAny_bind (wpAny_field hz rfl (x := .ref TO) rfl (wpAny_bind (wpAny_setField_rec hz (by simp) fun ga za sa => ?_))))); replace za : IsZip ga z TI TO .ellipsis := za
  refine wpAny_bind ?_; simp only [List.zipIdx_cons, List.zipIdx_nil, List.forIn_cons, List.forIn_nil]; refine wpAny_bind (wpAny_bind (wpAny_onRaise ?_))
  show wpAny _ _ (Builtin.SmallTypes.nextOf (.ref j1) >>= _) _ _ _; have ta : ga.IsTuple t1 xs := e1.extBut sa.extBut D.l1z
  refine wpAny_bind (drawT_item (q1.extBut sa.extBut D.i1z) ta hx fun gb qb sb => wpAny_pure ?_); have ob : IsPair gb TO a b := sb.extBut _ _ D.TOi1 (sa.extBut _ _ D.TOz hO)
  refine wpAny_bind (wpAny_seqItems ob rfl (wpAny_bind (wpAny_updateSeq_pair ob fun gc oc sc => ?_))); replace oc : IsPair gc TO x b := oc; refine wpAny_bind (wpAny_letGo (wpAny_pure ?_))
  refine wpAny_bind (wpAny_bind (wpAny_onRaise ?_)); show wpAny _ _ (Builtin.SmallTypes.nextOf (.ref j2) >>= _) _ _ _
  have tc : gc.IsTuple t2 ys := ((e2.extBut sa.extBut D.l2z).extBut sb.extBut D.l2i1).extBut sc.extBut D.l2TO
  have qc : gc.IsTupleIter j2 t2 n2 := ((q2.extBut sa.extBut D.i2z).extBut sb.extBut D.i12.symm).extBut sc.extBut D.TOi2.symm
  refine wpAny_bind (drawT_item qc tc hy fun gd qd sd => wpAny_pure ?_); have od : IsPair gd TO x b := sd.extBut _ _ D.TOi2 oc
  refine wpAny_bind (wpAny_seqItems od rfl (wpAny_bind (wpAny_updateSeq_pair od fun ge oe se => ?_))); replace oe : IsPair ge TO x y := oe; refine wpAny_bind (wpAny_letGo (wpAny_pure (wpAny_pure ?_)))
  refine wpAny_bind (wpAny_seqItems oe rfl (wpAny_bind (wpAny_newTuple ?_))); have sz : ge.objs.size = s.heap.objs.size := by rw [se.1, sd.1, sc.1, sb.1, sa.1]
  have ze : IsZip ge z TI TO .ellipsis := se.extBut _ _ D.TOz.symm (sd.extBut _ _ D.i2z.symm (sc.extBut _ _ D.TOz.symm (sb.extBut _ _ D.i1z.symm za)))
  have old : ∀ c o, c ≠ z → c ≠ TO → c ≠ j1 → c ≠ j2 → s.heap.get? c = some o → ge.get? c = some o := fun c o m1 m2 m3 m4 m5 => se.extBut _ _ m2 (sd.extBut _ _ m4 (sc.extBut _ _ m2 (sb.extBut _ _ m3 (sa.extBut _ _ m1 m5))))
  have r1 : ge.IsTupleIter j1 t1 (n1 + 1) := ((qb.extBut sc.extBut D.TOi1.symm).extBut sd.extBut D.i12).extBut se.extBut D.TOi1.symm
  have r2 : ge.IsTupleIter j2 t2 (n2 + 1) := qd.extBut se.extBut D.TOi2.symm; have zlt : z < ge.objs.size := Heap.lt_size ze
  show wpAny _ _ (Builtin.SmallTypes.ownedTupleHandOut (.ref z) (.ref ge.objs.size) >>= _) _ _ _; refine wpAny_bind ?_; unfold Builtin.SmallTypes.ownedTupleHandOut
  have zf : IsZip (ge.push { cls := .type "tuple", data := .seq #[x, y] }) z TI TO .ellipsis := Heap.get?_push_of_some _ ze
  refine wpAny_bind (wpAny_setField_rec zf (by simp) fun gg zg sg => ?_); replace zg : IsZip gg z TI TO (rawInt ge.objs.size) := zg
  refine wpAny_setField_rec zg (by simp) fun gh zh sh => ?_; replace zh : IsZip gh z TI TO (rawInt ge.objs.size) := zh
  have up : ∀ c o, c ≠ z → ge.get? c = some o → gh.get? c = some o := fun c o m q => sh.extBut _ _ m (sg.extBut _ _ m (Heap.get?_push_of_some _ q))
  have nh : IsPair gh ge.objs.size x y := sh.extBut _ _ (Nat.ne_of_gt zlt) (sg.extBut _ _ (Nat.ne_of_gt zlt) (Heap.get?_push_size _ rfl)); have szh : gh.objs.size = ge.objs.size + 1 := by rw [sh.1, sg.1, Heap.size_push]
  rw [sz] at zh nh szh; refine wpAny_pure ⟨_, rfl, ?_⟩; show Q (.ref ge.objs.size) _; rw [sz]
  exact k gh zh (up _ _ D.TOz oe) (r1.at fun o q => up _ o D.i1z q) (r2.at fun o q => up _ o D.i2z q) nh szh fun c o m1 m2 m3 m4 m5 => up c o m1 (old c o m1 m2 m3 m4 m5)
theorem zipT_end {z TI TO j1 j2 t1 t2 : Addr} {n1 n2 : Nat} {xs ys : Array Value} {a b : Value} {Q : PySem.Fin → Shared → Prop} (quiet : A.handled = none) (D : ZipApart z TI TO j1 j2 t1 t2) (hz : IsZip s.heap z TI TO .none) (hI : IsPair s.heap TI (.ref j1) (.ref j2)) (hO : IsPair s.heap TO a b)
    (q1 : s.heap.IsTupleIter j1 t1 n1) (q2 : s.heap.IsTupleIter j2 t2 n2) (e1 : s.heap.IsTuple t1 xs) (e2 : s.heap.IsTuple t2 ys) (fin : xs[n1]? = none ∨ ys[n2]? = none)
    (k : ∀ g e, (∀ c o, c ≠ z → c ≠ TO → c ≠ j1 → c ≠ j2 → s.heap.get? c = some o → g.get? c = some o) → (∃ o, g.get? e = some o ∧ o.cls = .type "StopIteration") → E (.ref e) { s with heap := g }) :
    wpAny (model prog w) A (Builtin.«zip.__next__» ⟨[.ref z], []⟩) Q E s := by
  show wpAny _ _ (field (.ref z) 2 >>= _) _ _ _; refine wpAny_bind (wpAny_field hz rfl (x := .bool false) rfl ?_); show wpAny _ _ (field (.ref z) 3 >>= _) _ _ _
  refine wpAny_bind (wpAny_field hz rfl (x := .ref TI) rfl (wpAny_bind (wpAny_seqItems hI rfl ?_))); show wpAny _ _ (Builtin.SmallTypes.ownedTupleIsFree (.ref z) >>= _) _ _ _
  refine wpAny_bind ?_; unfold Builtin.SmallTypes.ownedTupleIsFree; refine wpAny_bind (wpAny_field hz rfl (x := .none) rfl (wpAny_pure ?_)); simp only [if_true]
  refine wpAny_bind (wpAny_rule (wpAny_bind (wpAny_field hz rfl (x := .ref TO) rfl (wpAny_bind (wpAny_setField_rec hz (by simp) fun ga za sa => ?_))))); replace za : IsZip ga z TI TO .ellipsis := za
  refine wpAny_bind ?_; simp only [List.zipIdx_cons, List.zipIdx_nil, List.forIn_cons, List.forIn_nil]; refine wpAny_bind (wpAny_bind (wpAny_onRaise ?_))
  show wpAny _ _ (Builtin.SmallTypes.nextOf (.ref j1) >>= _) _ _ _; have ta : ga.IsTuple t1 xs := e1.extBut sa.extBut D.l1z
  cases hx : xs[n1]? with
  | none =>
    refine wpAny_bind (drawT_end quiet (q1.extBut sa.extBut D.i1z) ta hx fun gb e sb ⟨oe, he, ce⟩ => ?_); have zb : IsZip gb z TI TO .ellipsis := sb _ _ D.i1z.symm za
    have ez : e ≠ z := fun q => by subst q; rw [zb] at he; cases he; simp at ce
    exact wpAny_setField_rec zb (by simp) fun gc _ sc => k gc e (fun c o m1 _ m3 _ m5 => sc.extBut _ _ m1 (sb _ _ m3 (sa.extBut _ _ m1 m5))) ⟨oe, sc.extBut _ _ ez he, ce⟩
  | some x =>
    have hy : ys[n2]? = none := fin.resolve_left (by rw [hx]; exact fun q => nomatch q)
    refine wpAny_bind (drawT_item (q1.extBut sa.extBut D.i1z) ta hx fun gb qb sb => wpAny_pure ?_); have ob : IsPair gb TO a b := sb.extBut _ _ D.TOi1 (sa.extBut _ _ D.TOz hO)
    refine wpAny_bind (wpAny_seqItems ob rfl (wpAny_bind (wpAny_updateSeq_pair ob fun gc oc sc => wpAny_bind (wpAny_letGo (wpAny_pure ?_))))); refine wpAny_bind (wpAny_bind (wpAny_onRaise ?_)); show wpAny _ _ (Builtin.SmallTypes.nextOf (.ref j2) >>= _) _ _ _
    have tc : gc.IsTuple t2 ys := ((e2.extBut sa.extBut D.l2z).extBut sb.extBut D.l2i1).extBut sc.extBut D.l2TO; have qc : gc.IsTupleIter j2 t2 n2 := ((q2.extBut sa.extBut D.i2z).extBut sb.extBut D.i12.symm).extBut sc.extBut D.TOi2.symm
    refine wpAny_bind (drawT_end quiet qc tc hy fun gd e sd ⟨oe, he, ce⟩ => ?_); have zd : IsZip gd z TI TO .ellipsis := sd _ _ D.i2z.symm (sc.extBut _ _ D.TOz.symm (sb.extBut _ _ D.i1z.symm za))
    have ez : e ≠ z := fun q => by subst q; rw [zd] at he; cases he; simp at ce
    exact wpAny_setField_rec zd (by simp) fun gf _ sf => k gf e (fun c o m1 m2 m3 m4 m5 => sf.extBut _ _ m1 (sd _ _ m4 (sc.extBut _ _ m2 (sb.extBut _ _ m3 (sa.extBut _ _ m1 m5))))) ⟨oe, sf.extBut _ _ ez he, ce⟩
theorem nextZ_item {z TI TO j1 j2 t1 t2 : Addr} {n1 n2 : Nat} {xs ys : Array Value} {x y a b : Value} {Q : Option Value → Shared → Prop} (D : ZipApart z TI TO j1 j2 t1 t2) (hz : IsZip s.heap z TI TO .none) (hI : IsPair s.heap TI (.ref j1) (.ref j2)) (hO : IsPair s.heap TO a b)
    (q1 : s.heap.IsTupleIter j1 t1 n1) (q2 : s.heap.IsTupleIter j2 t2 n2) (e1 : s.heap.IsTuple t1 xs) (e2 : s.heap.IsTuple t2 ys) (hx : xs[n1]? = some x) (hy : ys[n2]? = some y)
    (k : ∀ g, IsZip g z TI TO (rawInt s.heap.objs.size) → IsPair g TO x y → g.IsTupleIter j1 t1 (n1 + 1) → g.IsTupleIter j2 t2 (n2 + 1) → IsPair g s.heap.objs.size x y → g.objs.size = s.heap.objs.size + 1 →
      (∀ c o, c ≠ z → c ≠ TO → c ≠ j1 → c ≠ j2 → s.heap.get? c = some o → g.get? c = some o) → Q (some (.ref s.heap.objs.size)) { s with heap := g }) : wpAny (model prog w) A (pyNext (.ref z)) Q E s := by
  have ty : s.TypeIs (.ref z) "zip" := ⟨_, hz, rfl⟩; unfold pyNext; refine wpAny_bind (wpAny_attempt (wpAny_callSpecial?_slot (name := Str.ofString "__next__") ty F.slot_zip_next ?_))
  exact wpAny_call_entry F.slot_zip_next ty F.entry_zip_next (zipT_item D hz hI hO q1 q2 e1 e2 hx hy fun g b1 b2 b3 b4 b5 b6 b7 => wpAny_pure (k g b1 b2 b3 b4 b5 b6 b7)) (F.args_zip_next_1 _)
theorem nextZ_end {z TI TO j1 j2 t1 t2 : Addr} {n1 n2 : Nat} {xs ys : Array Value} {a b : Value} {Q : Option Value → Shared → Prop} (quiet : A.handled = none) (D : ZipApart z TI TO j1 j2 t1 t2) (hz : IsZip s.heap z TI TO .none) (hI : IsPair s.heap TI (.ref j1) (.ref j2)) (hO : IsPair s.heap TO a b)
    (q1 : s.heap.IsTupleIter j1 t1 n1) (q2 : s.heap.IsTupleIter j2 t2 n2) (e1 : s.heap.IsTuple t1 xs) (e2 : s.heap.IsTuple t2 ys) (fin : xs[n1]? = none ∨ ys[n2]? = none)
    (k : ∀ g, (∀ c o, c ≠ z → c ≠ TO → c ≠ j1 → c ≠ j2 → s.heap.get? c = some o → g.get? c = some o) → Q none { s with heap := g }) : wpAny (model prog w) A (pyNext (.ref z)) Q E s := by
  have ty : s.TypeIs (.ref z) "zip" := ⟨_, hz, rfl⟩; unfold pyNext; refine wpAny_bind (wpAny_attempt (wpAny_callSpecial?_slot (name := Str.ofString "__next__") ty F.slot_zip_next ?_))
  refine wpAny_call_entry F.slot_zip_next ty F.entry_zip_next (zipT_end quiet D hz hI hO q1 q2 e1 e2 fin fun g e kp ⟨o, ho, hc⟩ => ?_) (F.args_zip_next_1 _)
  exact wpAny_bind (wpAny_isInstance (T := "StopIteration") (b := true) ⟨o, ho, hc⟩ isSubtype_stop (wpAny_pure (k _ kp)))
noncomputable def zHA (g : Heap) (t1 : Addr) : Heap := g.push { cls := .type "tuple_iterator", data := .fields #[.ref t1, .int 0 0] }
noncomputable def zHB (g : Heap) (t1 t2 : Addr) : Heap := (zHA g t1).push { cls := .type "tuple_iterator", data := .fields #[.ref t2, .int 0 0] }
noncomputable def zHC (g : Heap) (t1 t2 : Addr) : Heap := (zHB g t1 t2).push { cls := .type "tuple", data := .seq #[.ref g.objs.size, .ref (zHA g t1).objs.size] }
noncomputable def zHD (g : Heap) (t1 t2 : Addr) : Heap := (zHC g t1 t2).push { cls := .type "tuple", data := .seq #[.none, .none] }
noncomputable def zHE (g : Heap) (t1 t2 : Addr) : Heap := (zHD g t1 t2).push { cls := .type "zip", data := .fields #[.none, .bool false, .bool false, .ref (zHB g t1 t2).objs.size, .ref (zHC g t1 t2).objs.size] }
theorem zipT_new (t1 t2 : Addr) (xs ys : Array Value) : Meets (Builtin.«zip.__new__» ⟨[.type "zip", .ref t1, .ref t2], []⟩) (fun _ R s => s.heap.IsTuple t1 xs ∧ s.heap.IsTuple t2 ys ∧ R (.ok (.ret (.ref (zHD s.heap t1 t2).objs.size))) { s with heap := zHE s.heap t1 t2 }) :=
  .of_wp fun prog w A R s h => by
    obtain ⟨hp, g, d, tk, os⟩ := s; obtain ⟨a1, a2, a3⟩ := h; have sub := sub_zip
    have b1 : Heap.IsTuple (Shared.heap ⟨hp, g, d, tk, os⟩) t1 xs := a1
    have b2 : Heap.IsTuple (Shared.heap ⟨hp.push { cls := .type "tuple_iterator", data := .fields #[.ref t1, .int 0 0] }, g, d, tk, os⟩) t2 ys := by
      obtain ⟨o, e, r⟩ := a2; exact ⟨o, Heap.get?_push_of_some _ e, r⟩
    wp_walk using wpAny_pyIter_tuple b1, wpAny_pyIter_tuple b2
    exact ⟨_, rfl, a3⟩
theorem call_zipT {t1 t2 : Addr} {xs ys : Array Value} {Q : Value → Shared → Prop} (a1 : s.heap.IsTuple t1 xs) (a2 : s.heap.IsTuple t2 ys)
    (k : ∀ g, IsZip g (s.heap.objs.size + 4) (s.heap.objs.size + 2) (s.heap.objs.size + 3) .none → IsPair g (s.heap.objs.size + 2) (.ref s.heap.objs.size) (.ref (s.heap.objs.size + 1)) → IsPair g (s.heap.objs.size + 3) .none .none →
      g.IsTupleIter s.heap.objs.size t1 0 → g.IsTupleIter (s.heap.objs.size + 1) t2 0 → (∀ c o, s.heap.get? c = some o → g.get? c = some o) → Q (.ref (s.heap.objs.size + 4)) { s with heap := g }) :
    wpAny (model prog w) A (call (.type "zip") [.ref t1, .ref t2]) Q E s := by
  refine callType_new F.called_zip (by decide) (F.typeCall_zip_2 _ _) (F.newCall_zip_2 _ _) (fun ob => F.args_object_init_3 ob _ _) F.entry_zip_new (zipT_new t1 t2 xs ys) ⟨a1, a2, ?_⟩
  have zA : (zHA s.heap t1).objs.size = s.heap.objs.size + 1 := Heap.size_push ..
  have zB : (zHB s.heap t1 t2).objs.size = s.heap.objs.size + 2 := by unfold zHB; rw [Heap.size_push, zA]
  have zC : (zHC s.heap t1 t2).objs.size = s.heap.objs.size + 3 := by unfold zHC; rw [Heap.size_push, zB]
  have zD : (zHD s.heap t1 t2).objs.size = s.heap.objs.size + 4 := by unfold zHD; rw [Heap.size_push, zC]
  have gE : (zHE s.heap t1 t2).get? (zHD s.heap t1 t2).objs.size = some { cls := .type "zip", data := .fields #[.none, .bool false, .bool false, .ref (zHB s.heap t1 t2).objs.size, .ref (zHC s.heap t1 t2).objs.size] } := Heap.get?_push_size _ rfl
  have gD : (zHE s.heap t1 t2).get? (zHC s.heap t1 t2).objs.size = some { cls := .type "tuple", data := .seq #[.none, .none] } := Heap.get?_push_of_some _ (Heap.get?_push_size _ rfl)
  have gC : (zHE s.heap t1 t2).get? (zHB s.heap t1 t2).objs.size = some { cls := .type "tuple", data := .seq #[.ref s.heap.objs.size, .ref (zHA s.heap t1).objs.size] } := Heap.get?_push_of_some _ (Heap.get?_push_of_some _ (Heap.get?_push_size _ rfl))
  have gB : (zHE s.heap t1 t2).get? (zHA s.heap t1).objs.size = some { cls := .type "tuple_iterator", data := .fields #[.ref t2, .int 0 0] } := Heap.get?_push_of_some _ (Heap.get?_push_of_some _ (Heap.get?_push_of_some _ (Heap.get?_push_size _ rfl)))
  have gA : (zHE s.heap t1 t2).get? s.heap.objs.size = some { cls := .type "tuple_iterator", data := .fields #[.ref t1, .int 0 0] } := Heap.get?_push_of_some _ (Heap.get?_push_of_some _ (Heap.get?_push_of_some _ (Heap.get?_push_of_some _ (Heap.get?_push_size _ rfl))))
  rw [zB, zC, zD] at gE; rw [zA, zB] at gC; rw [zC] at gD; rw [zA] at gB
  show _ ∧ _; rw [zD]
  exact ⟨⟨_, gE, rfl⟩, k _ gE gC gD ⟨_, gA, rfl, rfl⟩ ⟨_, gB, rfl, rfl⟩ fun c o q => Heap.get?_push_of_some _ (Heap.get?_push_of_some _ (Heap.get?_push_of_some _ (Heap.get?_push_of_some _ (Heap.get?_push_of_some _ q))))⟩
end
section
variable {X : Cx} {pins : List (Addr × Obj)} {σ : St} {H : Hp} {s : Shared} {h' : Heap}
theorem Inv.turnedL {t' : Nat} {ch : List Addr} (I : Inv X pins σ H s) (k : ∀ b o, b ∉ ch → s.heap.get? b = some o → h'.get? b = some o) (hf : ∀ b ∈ ch, FpOk X pins H b) : Inv X pins σ H { s with heap := h', toks := t' } := by
  have nt : ∀ b u, H b = some u → b ∉ ch := fun b u e hb => by have z := (hf b hb).1; rw [e] at z; cases z
  have nL : X.env.locals ∉ ch := fun hb => (hf _ hb).2.1 rfl
  refine I.step (g' := s.gens) (d' := s.drawn) (ch := ch) (fun b hb => ⟨(hf b hb).2.2.2.1, (hf b hb).2.1, (hf b hb).2.2.2.2.1, (hf b hb).2.2.2.2.2⟩) (fun b o _ _ hc e _ => k b o hc e) (fun b o _ _ hc e _ => ⟨o.slots, k b o hc e⟩) (fun _ _ _ _ n => n) (fun b o hc e => ⟨o, k b o hc e⟩) (fun _ _ e => e) (fun _ _ _ e => e) (fun b ps e => ⟨#[], by rw [e]; simp⟩) (fun m hm => ?_) (fun b u e => ?_) I.bare
  · obtain ⟨o, es, ep, ho, r⟩ := hm; exact ⟨o, es, ep, k _ o nL ho, r⟩
  · refine (I.hok b u e).stay (fun c v hc q => k c v (hc.elim (fun z => by rw [z]; exact nt b u e) fun z => nt c _ z) q) (fun _ q => q) fun _ _ q => q
end
noncomputable def Itz (K : PySem.W.Frag) (t1 t2 : Addr) : It :=
  ⟨fun i H => ∃ xs ys x y, SqT K H t1 xs ∧ SqT K H t2 ys ∧ xs[i]? = some x ∧ ys[i]? = some y,
   fun i H v H' => ∃ x y p, H p = none ∧ v = .ref p ∧ H' = upd H p (.tup [x, y]) ∧ (∀ xs, SqT K H t1 xs → xs[i]? = some x) ∧ ∀ ys, SqT K H t2 ys → ys[i]? = some y,
   fun i H => ∃ xs ys, SqT K H t1 xs ∧ SqT K H t2 ys ∧ (xs.length ≤ i ∨ ys.length ≤ i)⟩
theorem turn_zip {P : Program} {w : World} {K : PySem.W.Frag} {elts : List Expr} {kk : Nat} {ps : Pos} (z TI TO j1 j2 t1 t2 : Addr) (D : ZipApart z TI TO j1 j2 t1 t2) :
    Turn P w K (.Tuple elts kk ps) (Itz K t1 t2) [z, TI, TO, j1, j2] z (fun i h => IsZip h z TI TO .none ∧ IsPair h TI (.ref j1) (.ref j2) ∧ (∃ a b, IsPair h TO a b) ∧ h.IsTupleIter j1 t1 i ∧ h.IsTupleIter j2 t2 i) where
  mem := by simp
  obj := fun i h ⟨c1, c2, ⟨a, b, c3⟩, ⟨o4, c4, _, d4⟩, ⟨o5, c5, _, d5⟩⟩ b hb => by
    simp only [List.mem_cons, List.not_mem_nil, or_false] at hb
    rcases hb with rfl | rfl | rfl | rfl | rfl
    · exact ⟨_, c1, fun v q => nomatch q⟩
    · exact ⟨_, c2, fun v q => nomatch q⟩
    · exact ⟨_, c3, fun v q => nomatch q⟩
    · exact ⟨o4, c4, fun v q => by rw [d4] at q; cases q⟩
    · exact ⟨o5, c5, fun v q => by rw [d5] at q; cases q⟩
  keep := fun i h g ⟨c1, c2, ⟨a, b, c3⟩, c4, c5⟩ k => ⟨k z (by simp) _ c1, k TI (by simp) _ c2, ⟨a, b, k TO (by simp) _ c3⟩, c4.at fun o e => k j1 (by simp) o e, c5.at fun o e => k j2 (by simp) o e⟩
  item := by
    intro X hP hw hK hc i pins s σ H E I hf ⟨c1, c2, ⟨a, b, c3⟩, c4, c5⟩ ⟨xs, ys, x, y, hx, hy, gx, gy⟩
    subst hP hw hK
    obtain ⟨us, ru, pu, zu⟩ := I.tuple hx
    obtain ⟨vs, rv, pv, zv⟩ := I.tuple hy
    obtain ⟨u, eu, xu⟩ := ru.get gx
    obtain ⟨v, ev, yv⟩ := rv.get gy
    refine nextZ_item D c1 c2 c3 c4 c5 (show s.heap.IsTuple t1 us.toArray from pu) (show s.heap.IsTuple t2 vs.toArray from pv) (x := u) (y := v) (by simpa using eu) (by simpa using ev) fun g d1 d2 d3 d4 d5 d6 d7 => ⟨_, rfl, ?_⟩
    have fr : H s.heap.objs.size = none := I.hok.fresh (Nat.le_refl _)
    have ne : ∀ q ∈ [z, TI, TO, j1, j2], q ≠ s.heap.objs.size := fun q hq => by
      simp only [List.mem_cons, List.not_mem_nil, or_false] at hq
      rcases hq with rfl | rfl | rfl | rfl | rfl
      · exact Nat.ne_of_lt (Heap.lt_size c1)
      · exact Nat.ne_of_lt (Heap.lt_size c2)
      · exact Nat.ne_of_lt (Heap.lt_size c3)
      · obtain ⟨o, e, _⟩ := c4; exact Nat.ne_of_lt (Heap.lt_size e)
      · obtain ⟨o, e, _⟩ := c5; exact Nat.ne_of_lt (Heap.lt_size e)
    have I1 : Inv X pins σ (upd H s.heap.objs.size (.tup [x, y])) { s with heap := s.heap.push { cls := .type "tuple", data := .seq #[u, v] }, toks := s.toks } := I.laid (fun b o q => Heap.get?_push_of_some _ q) (Nat.le_refl _) ⟨by show 2 ≤ sizeLine; decide, [u, v], .cons xu (.cons yv .nil), IsTup.new _ _⟩
    have fo : ∀ q ∈ [z, TI, TO, j1, j2], FpOk X pins (upd H s.heap.objs.size (.tup [x, y])) q := fun q hq => ⟨by rw [upd_ne (ne q hq)]; exact (hf q hq).1, (hf q hq).2⟩
    have I2 := I1.turnedL (h' := g) (t' := s.toks) (ch := [z, TI, TO, j1, j2]) (fun q o hq e => by
      simp only [List.mem_cons, List.not_mem_nil, or_false, not_or] at hq
      by_cases hn : q = s.heap.objs.size
      · subst hn
        rw [show (s.heap.push { cls := .type "tuple", data := .seq #[u, v] }).get? s.heap.objs.size = some { cls := .type "tuple", data := .seq #[u, v] } from Heap.get?_push_size _ rfl] at e
        cases e; exact d5
      · refine d7 q o hq.1 hq.2.2.1 hq.2.2.2.1 hq.2.2.2.2 ?_
        rwa [Heap.get?_push_ne _ _ _ hn] at e) fo
    refine wpAny_letOwnedTupleGo_zip (T := s.heap.objs.size) d1 fun g2 y1 y2 => ?_
    have I3 := I2.turnedL (h' := g2) (t' := s.toks) (ch := [z, TI, TO, j1, j2]) (fun q o hq e => y2.extBut q o (fun w => hq (by simp [w])) e) fo
    refine ⟨.ref s.heap.objs.size, _, I3, rfl, ⟨x, y, s.heap.objs.size, fr, rfl, rfl, fun zs hz => by rw [I.tuple_inj hz hx]; exact gx, fun zs hz => by rw [I.tuple_inj hz hy]; exact gy⟩, ?_, fun q hq => (fo q hq).1⟩
    exact ⟨y1, y2.extBut _ _ D.TIz (d7 _ _ D.TIz D.TITO D.TIi1 D.TIi2 c2), ⟨_, _, y2.extBut _ _ D.TOz d2⟩, d3.extBut y2.extBut D.i1z, d4.extBut y2.extBut D.i2z⟩
  done := by
    intro X hP hw hK hc i pins s σ H E I hf ⟨c1, c2, ⟨a, b, c3⟩, c4, c5⟩ ⟨xs, ys, hx, hy, fin⟩
    subst hP hw hK
    obtain ⟨us, ru, pu, zu⟩ := I.tuple hx
    obtain ⟨vs, rv, pv, zv⟩ := I.tuple hy
    have lu := ru.length; have lv := rv.length
    refine nextZ_end (I.ok.hd hc) D c1 c2 c3 c4 c5 (show s.heap.IsTuple t1 us.toArray from pu) (show s.heap.IsTuple t2 vs.toArray from pv) (by rcases fin with q | q; (left; simp; omega); (right; simp; omega)) fun g kp => ⟨rfl, I.turnedL (t' := s.toks) (ch := [z, TI, TO, j1, j2]) (fun q o hq e => ?_) hf⟩
    simp only [List.mem_cons, List.not_mem_nil, or_false, not_or] at hq
    exact kp q o hq.1 hq.2.2.1 hq.2.2.2.1 hq.2.2.2.2 e
  self := fun _ _ _ _ _ ⟨c1, _⟩ h => by
    have ty : Shared.TypeIs _ (.ref z) "zip" := ⟨_, c1, rfl⟩
    exact wpAny_pyIter_slot ty F.slot_zip_iter (wpAny_call_entry F.slot_zip_iter ty F.entry_zip_iter (wpAny_pure ⟨_, rfl, "zip", _, ty, F.slot_zip_next.lookup, h⟩) (F.args_zip_iter_1 _))
section
variable {X : Cx} {a b : Expr} {ta : TA} {elts : List Expr} {kk : Nat} {ps p pos : Pos}
noncomputable def iZip (K : PySem.W.Frag) (ta : TA) : TI := fun σ H R => ta σ H fun vs H1 => ∃ t1 t2 xs ys, vs = [.ref t1, .ref t2] ∧ SqT K H1 t1 xs ∧ SqT K H1 t2 ys ∧ R (Itz K t1 t2) H1
theorem pi_zip (hg : Gl X "zip") (hm : X.mg "zip" = none) (ha : PA X [a, b] ta) (hs : starEach [a, b] X.env = [(false, eval a X.env), (false, eval b X.env)] := by rfl) (hs2 : starEach [b] X.env = [(false, eval b X.env)] := by rfl) :
    PI X (.Tuple elts kk ps) (.Call (.Name "zip" p) [a, b] [] pos) (iZip X.K ta) := by
  intro pins s σ H R I h
  have fin : ∀ us s1, (∃ vs H1, Inv X pins σ H1 s1 ∧ Vals vs us ∧ ∃ t1 t2 xs ys, vs = [.ref t1, .ref t2] ∧ SqT X.K H1 t1 xs ∧ SqT X.K H1 t2 ys ∧ R (Itz X.K t1 t2) H1) →
      wpAny (model X.prog X.w) X.A (call (.type "zip") us) (fun v s2 => wpAny (model X.prog X.w) X.A (pyIter v) (PIE X pins σ (.Tuple elts kk ps) R) X.xe s2) X.xe s1 := by
    rintro us s1 ⟨vs, H1, I1, r, t1, t2, xs, ys, rfl, hx, hy, q⟩
    obtain ⟨u1, u2, rfl, e1, e2⟩ := vals2 r
    cases e1; cases e2
    obtain ⟨zs, ru, pu, zu⟩ := I1.tuple hx
    obtain ⟨ws, rv, pv, zv⟩ := I1.tuple hy
    have l1 : t1 < s1.heap.objs.size := by obtain ⟨o, e, _⟩ := pu; exact Heap.lt_size e
    have l2 : t2 < s1.heap.objs.size := by obtain ⟨o, e, _⟩ := pv; exact Heap.lt_size e
    refine call_zipT (show s1.heap.IsTuple t1 zs.toArray from pu) (show s1.heap.IsTuple t2 ws.toArray from pv) fun g c1 c2 c3 c4 c5 kp => ?_
    have I2 : Inv X pins σ H1 { s1 with heap := g, toks := s1.toks } := I1.kept kp
    have T := turn_zip (P := X.prog) (w := X.w) (K := X.K) (elts := elts) (kk := kk) (ps := ps) (s1.heap.objs.size + 4) (s1.heap.objs.size + 2) (s1.heap.objs.size + 3) s1.heap.objs.size (s1.heap.objs.size + 1) t1 t2 (zipApart_new l1 l2)
    refine T.self X.A 0 _ _ _ ⟨c1, c2, ⟨_, _, c3⟩, c4, c5⟩ ⟨_, _, _, _, H1, rfl, I2, T, ⟨c1, c2, ⟨_, _, c3⟩, c4, c5⟩, fun d hd => ?_, q⟩
    have big : s1.heap.objs.size ≤ d := by
      simp only [List.mem_cons, List.not_mem_nil, or_false] at hd
      rcases hd with rfl | rfl | rfl | rfl | rfl
      · exact Nat.le_add_right _ _
      · exact Nat.le_add_right _ _
      · exact Nat.le_add_right _ _
      · exact Nat.le_refl _
      · exact Nat.le_add_right _ _
    exact I1.fpOk big (I1.hok.fresh big)
  exact Call_ (ld_blt I hg hm boot_zip (PyProof.Rows.callWith_type1 (thn (ha pos pins s σ H _ I h) fun us s1 ⟨vs, H1, I1, r1, q1⟩ => fin us s1 ⟨vs, H1, I1, r1, q1⟩) (by rw [hs, hs2]) (by rw [hs2]; rfl)))
end
section
variable {X : Cx}
noncomputable def rAll : List V → Hp → VK → Prop := fun vs H Q => ∃ (l : Addr) (bs : List Bool), vs = [.ref l] ∧ H l = some (.lst (bs.map V.bl)) ∧ Q (.bl (bs.all id)) H
theorem all_range (bs : List Bool) : (List.range bs.length).all (fun i => (bs[i]?).getD false) = bs.all id := by
  rw [Bool.eq_iff_iff, List.all_eq_true, List.all_eq_true]
  constructor
  · intro h b hb
    obtain ⟨i, hi⟩ := List.getElem?_of_mem hb
    have := h i (List.mem_range.mpr (List.getElem?_eq_some_iff.mp hi).1)
    rw [hi] at this
    exact this
  · intro h i hi
    have hi := List.mem_range.mp hi
    rw [List.getElem?_eq_getElem hi]
    exact h _ (List.getElem_mem _)
theorem call_all (hc : X.calm = true) : CallR X (.builtin "all") rAll := by
  intro pins s σ H xs us Q I r h
  obtain ⟨l, bs, rfl, hl, q⟩ := h
  obtain ⟨u, rfl, ru⟩ := vals1 r
  cases ru
  obtain ⟨z, its, n, rr, hn, e⟩ := I.lstM hl
  have ei := vals_bl rr
  subst ei
  have il : s.heap.IsList l (bs.map Value.bool).toArray := ⟨_, e, rfl, n, rfl⟩
  have lt : l < s.heap.objs.size := Heap.lt_size e
  refine call_all_walk (wpAny_pyIter_list il ?_)
  refine ⟨s.heap.objs.size, _, _, _, _, _, fun i => (bs[i]?).getD false, rfl, Walks.list (show X.A.in1.handled = none from I.ok.hd hc) s.heap.objs.size l (Nat.ne_of_lt lt) (bs.map Value.bool).toArray, ⟨⟨_, Heap.get?_push_size _ rfl, rfl, rfl⟩, ?_⟩, fun i v s' Q' E' hv hq => ?_, fun g tk kp => ?_⟩
  · exact ⟨_, Heap.get?_push_of_some _ e, rfl, n, rfl⟩
  · have hv' : (bs[i]?).map Value.bool = some v := by simpa using hv
    cases hb : bs[i]? with
    | none => rw [hb] at hv'; cases hv'
    | some b =>
      have hq : Q' ((bs[i]?).getD false) s' := hq
      rw [hb] at hv' hq
      cases hv'
      exact wpAny_truthy_bool hq
  · have e2 : (bs.map Value.bool).toArray.size = bs.length := by simp
    rw [e2, all_range]
    exact ⟨.bl _, H, I.kept (t' := tk) fun b o q => kp b o (by have := Heap.lt_size q; simp; exact Nat.ne_of_lt this) (Heap.get?_push_of_some _ q), rfl, q⟩
end
end L2
set_option Elab.async false
set_option linter.all false
set_option maxRecDepth 100000
set_option maxHeartbeats 4000000
namespace L2
open PySem PySem.Spec PyProof.Rows
section
variable {X : Cx}
theorem sqT_kit {pins : List (Addr × Obj)} {σ : St} {H : Hp} {s : Shared} {a : Addr} {xs : List V} (I : Inv X pins σ H s) (h : SqT X.K H a xs) : ∃ o, s.heap.get? a = some o ∧ o.cls = .type "tuple" := by
  obtain ⟨its, r, ⟨o, e, c, _⟩, _⟩ := I.tuple h
  exact ⟨o, e, c⟩
noncomputable def rIsiS (K : PySem.W.Frag) : List V → Hp → VK → Prop := fun vs H Q => ∃ a xs c, vs = [.ref a, .ty c] ∧ SqT K H a xs ∧ (c = "int" ∨ c = "bool" ∨ c = "tuple" ∨ c = "list" ∨ c = "str" ∨ c = "dict") ∧ Q (.bl (isaB "tuple" c)) H
theorem call_isinstS : CallR X (.builtin "isinstance") (rIsiS X.K) := by
  intro pins s σ H xs us Q I r h
  obtain ⟨a, zs, c, rfl, ha, hc, q⟩ := h
  obtain ⟨u, w', rfl, rx, rc⟩ := vals2 r
  cases rx
  cases (show w' = Value.type c from rc)
  exact PySem.W.kia_one PySem.W.kitx_tuple I.kIn (sqT_kit I ha) (kit_ty (by simp) hc) (fun z => nomatch z) fun tk => ⟨.bl _, H, I.tok tk, rfl, q⟩
noncomputable def rIsiS2 (K : PySem.W.Frag) : List V → Hp → VK → Prop := fun vs H Q => ∃ a xs p c d, vs = [.ref a, .ref p] ∧ SqT K H a xs ∧ H p = some (.tup [.ty c, .ty d]) ∧ (c = "int" ∨ c = "bool" ∨ c = "tuple" ∨ c = "list" ∨ c = "str" ∨ c = "dict") ∧ (d = "int" ∨ d = "bool" ∨ d = "tuple" ∨ d = "list" ∨ d = "str" ∨ d = "dict") ∧ Q (.bl (isaB "tuple" c || isaB "tuple" d)) H
theorem call_isinstS2 : CallR X (.builtin "isinstance") (rIsiS2 X.K) := by
  intro pins s σ H xs us Q I r h
  obtain ⟨a, zs, pp, c, d, rfl, ha, hp, hc, hd, q⟩ := h
  obtain ⟨u, w', rfl, rx, rc⟩ := vals2 r
  cases rx
  cases (show w' = Value.ref pp from rc)
  obtain ⟨_, its, r', o, h1, h2, n, h3⟩ := (show ObjOk X.prog X.w H s.heap pp (.tup [.ty c, .ty d]) from I.hok pp _ hp)
  obtain ⟨v1, v2, rfl, r1, r2⟩ := vals2 r'
  cases (show v1 = Value.type c from r1)
  cases (show v2 = Value.type d from r2)
  obtain ⟨oc, od, odt, osl⟩ := o
  cases h2; cases h3
  refine PySem.W.kia_tup PySem.W.kitx_tuple I.kIn (sqT_kit I ha) h1 (b := isaB "tuple" c || isaB "tuple" d) ?_ (fun z => nomatch z) fun tk => ⟨.bl _, H, I.tok tk, rfl, q⟩
  show (match PySem.W.kitOne X.K (.type "tuple") (.type c) with | some true => some true | some false => (match PySem.W.kitOne X.K (.type "tuple") (.type d) with | some true => some true | some false => some false | none => none) | none => none) = _
  rw [kit_ty (by simp) hc, kit_ty (by simp) hd]
  cases isaB "tuple" c <;> cases isaB "tuple" d <;> rfl
end
end L2
set_option Elab.async false
set_option linter.all false
set_option maxRecDepth 100000
set_option maxHeartbeats 4000000
namespace L2
open PySem PySem.Spec PyProof.Rows
mutual
noncomputable def toPy : Dt → PyData
  | .non => .none
  | .bl b => .bool b
  | .int i => .int i
  | .str x => .str x
  | .tup ds => .tuple (toPyL ds)
  | .lst ds => .list (toPyL ds)
noncomputable def toPyL : List Dt → List PyData
  | [] => []
  | d :: ds => toPy d :: toPyL ds
end
mutual
noncomputable def okD : Dt → Bool
  | .int i => decide (i.natAbs < 10 ^ 100)
  | .str x => x.cps.toList.all fun c => decide (c < 16 ^ 8)
  | .tup ds => okDL ds
  | .lst ds => okDL ds
  | .non => true
  | .bl _ => true
noncomputable def okDL : List Dt → Bool
  | [] => true
  | d :: ds => okD d && okDL ds
end
mutual
noncomputable def lenD : Dt → Nat
  | .non => 4
  | .bl _ => 5
  | .int _ => 101
  | .str x => 10 * x.length + 2
  | .tup ds => lenDL ds + 3
  | .lst ds => lenDL ds + 3
noncomputable def lenDL : List Dt → Nat
  | [] => 0
  | d :: ds => lenD d + 2 + lenDL ds
end
mutual
theorem toPy_show : ∀ d : Dt, okD d = true → (toPy d).showable = true
  | .non, _ => rfl
  | .bl _, _ => rfl
  | .int i, h => by
    have h' : i.natAbs < 10 ^ 100 := of_decide_eq_true (show decide (i.natAbs < 10 ^ 100) = true from h)
    have := log2_small h'
    show decide (i.natAbs.log2 < 1920) = true
    exact decide_eq_true (by omega)
  | .str _, _ => rfl
  | .tup ds, h => toPyL_show ds h
  | .lst ds, h => toPyL_show ds h
theorem toPyL_show : ∀ ds : List Dt, okDL ds = true → PyData.showableAll (toPyL ds) = true
  | [], _ => rfl
  | d :: ds, h => by
    obtain ⟨h1, h2⟩ := Bool.and_eq_true_iff.mp (show (okD d && okDL ds) = true from h)
    show ((toPy d).showable && PyData.showableAll (toPyL ds)) = true
    rw [toPy_show d h1, toPyL_show ds h2]; rfl
end
mutual
theorem toPy_dict : ∀ d : Dt, (toPy d).hasDict = false
  | .non => rfl
  | .bl _ => rfl
  | .int i => rfl
  | .str _ => rfl
  | .tup ds => toPyL_dict ds
  | .lst ds => toPyL_dict ds
theorem toPyL_dict : ∀ ds : List Dt, PyData.hasDictAll (toPyL ds) = false
  | [] => rfl
  | d :: ds => by
    show ((toPy d).hasDict || PyData.hasDictAll (toPyL ds)) = false
    rw [toPy_dict d, toPyL_dict ds]; rfl
end
mutual
theorem toPy_depth : ∀ d : Dt, (toPy d).depth = dep d
  | .non => rfl
  | .bl _ => rfl
  | .int i => rfl
  | .str _ => rfl
  | .tup ds => by show PyData.depthAll (toPyL ds) + 1 = depL ds + 1; rw [toPyL_depth ds]
  | .lst ds => by show PyData.depthAll (toPyL ds) + 1 = depL ds + 1; rw [toPyL_depth ds]
theorem toPyL_depth : ∀ ds : List Dt, PyData.depthAll (toPyL ds) = depL ds
  | [] => rfl
  | d :: ds => by
    show max (toPy d).depth (PyData.depthAll (toPyL ds)) = max (dep d) (depL ds)
    rw [toPy_depth d, toPyL_depth ds]
end
mutual
theorem toPy_len : ∀ d : Dt, okD d = true → (toPy d).shown.length ≤ lenD d
  | .non, _ => by show (PyData.shown .none).length ≤ 4; decide
  | .bl b, _ => by show (PyData.shown (.bool b)).length ≤ 5; cases b <;> decide
  | .int i, h => by
    have h' : i.natAbs < 10 ^ 100 := of_decide_eq_true (show decide (i.natAbs < 10 ^ 100) = true from h)
    exact toStr_len h'
  | .str x, h => by
    have hx : ∀ c ∈ x.cps.toList, c < 16 ^ 8 := by
      have h' : (x.cps.toList.all fun c => decide (c < 16 ^ 8)) = true := h
      simpa only [List.all_eq_true, decide_eq_true_eq] using h'
    exact StrLaws.reprText_len x hx
  | .tup ds, h => by
    have h1 := toPyL_len ds h
    have h2 := tupleText_len_le (PyData.shownAll (toPyL ds))
    have h3 := PyData.shownAll_length (toPyL ds)
    show (tupleText (PyData.shownAll (toPyL ds))).length ≤ lenDL ds + 3
    omega
  | .lst ds, h => by
    have h1 := toPyL_len ds h
    have h2 := listText_len_le (PyData.shownAll (toPyL ds))
    have h3 := PyData.shownAll_length (toPyL ds)
    show (listText (PyData.shownAll (toPyL ds))).length ≤ lenDL ds + 3
    omega
theorem toPyL_len : ∀ ds : List Dt, okDL ds = true → ((PyData.shownAll (toPyL ds)).map (·.length)).sum + 2 * (toPyL ds).length ≤ lenDL ds
  | [], _ => Nat.le_refl _
  | d :: ds, h => by
    obtain ⟨h1, h2⟩ := Bool.and_eq_true_iff.mp (show (okD d && okDL ds) = true from h)
    have e1 := toPy_len d h1
    have e2 := toPyL_len ds h2
    show (((toPy d).shown :: PyData.shownAll (toPyL ds)).map (·.length)).sum + 2 * (toPy d :: toPyL ds).length ≤ lenD d + 2 + lenDL ds
    simp only [List.map_cons, List.sum_cons, List.length_cons]
    omega
end
section
variable {X : Cx} {pins : List (Addr × Obj)} {σ : St} {H : Hp} {s : Shared}
mutual
theorem reads_D (I : Inv X pins σ H s) : ∀ (d : Dt) {v : V} {u : Value}, Rep X.K H d v → RelV v u → ∃ as, Reads s.heap u (toPy d) as
  | .non, v, u, h, r => by cases (show v = .non from h); cases r; exact ⟨_, .none⟩
  | .bl b, v, u, h, r => by cases (show v = .bl b from h); cases r; exact ⟨_, .bool b⟩
  | .int b, v, u, h, r => by cases (show v = .int b from h); obtain ⟨t, rfl⟩ := r; exact ⟨_, .int b t⟩
  | .str b, v, u, h, r => by cases (show v = .str b from h); obtain ⟨t, rfl⟩ := r; exact ⟨_, .str b t⟩
  | .tup ds, v, u, h, r => by
    obtain ⟨a, xs, rfl, h1, h2⟩ := (show ∃ a xs, v = .ref a ∧ SqT X.K H a xs ∧ RepL X.K H ds xs from h)
    cases r
    obtain ⟨its, r1, ⟨o, e1, e2, n, e3⟩, _⟩ := I.tuple h1
    obtain ⟨as, ra⟩ := reads_DL I ds h2 r1
    exact ⟨_, .tuple e1 e2 e3 ra⟩
  | .lst ds, v, u, h, r => by
    obtain ⟨a, xs, rfl, h1, h2⟩ := (show ∃ a xs, v = .ref a ∧ SqL X.K H a xs ∧ RepL X.K H ds xs from h)
    cases r
    obtain ⟨its, r1, ⟨o, n, e1, e2, _, e3⟩, _⟩ := I.list h1
    obtain ⟨as, ra⟩ := reads_DL I ds h2 r1
    exact ⟨_, .list e1 e2 e3 ra⟩
theorem reads_DL (I : Inv X pins σ H s) : ∀ (ds : List Dt) {xs : List V} {us : List Value}, RepL X.K H ds xs → Vals xs us → ∃ as, ReadsAll s.heap us (toPyL ds) as
  | [], xs, us, h, r => by cases (show xs = [] from h); cases r; exact ⟨_, .nil⟩
  | d :: ds, xs, us, h, r => by
    obtain ⟨x, y, rfl, h1, h2⟩ := (show ∃ x r, xs = x :: r ∧ Rep X.K H d x ∧ RepL X.K H ds r from h)
    cases r with
    | cons r1 r2 =>
      obtain ⟨as, q1⟩ := reads_D I d h1 r1
      obtain ⟨bs, q2⟩ := reads_DL I ds h2 r2
      exact ⟨_, .cons q1 q2⟩
end
end
noncomputable def shD (d : Dt) : Str := (toPy d).shown
noncomputable def isScB : Dt → Bool
  | .bl _ => true
  | .str _ => true
  | _ => false
noncomputable def rReprD (K : PySem.W.Frag) : List V → Hp → VK → Prop := fun vs H Q => ∃ x d, vs = [x] ∧ Rep K H d x ∧ okD d = true ∧ isScB d = false ∧ lenD d ≤ 1000000 ∧ dep d ≤ 100 ∧ Q (.str (shD d)) H
theorem call_reprD {X : Cx} (hg : X.A.guards = some []) (hu : X.A.units + 150 < cLine) : CallR X (.builtin "repr") (rReprD X.K) := by
  intro pins s σ H xs us Q I r h
  obtain ⟨x, d, rfl, hd, ho, hb, hl, hp, q⟩ := h
  obtain ⟨u, rfl, rx⟩ := vals1 r
  have hlen : (toPy d).shown.length ≤ sizeLine := Nat.le_trans (toPy_len d ho) (Nat.le_trans hl (by decide))
  have go : ∀ a, u = .ref a → wpAny (model X.prog X.w) X.A (call (.builtin "repr") [u]) (EP X pins σ Q) X.xe s := fun a e => by
    subst e
    obtain ⟨as, R⟩ := reads_D I d hd rx
    refine repr_of_reads' R (toPy_show d ho) (PyData.noDict_hsm (toPy_dict d)) hg (by rw [toPy_depth d]; omega) (fun _ _ e => e) (fun h' u' tk hk => ?_) hlen
    exact ⟨.str (shD d), H, I.kept (t' := tk) hk, ⟨_, rfl⟩, q⟩
  cases d with
  | non =>
    cases (show x = .non from hd)
    cases rx
    exact PySem.P.repr_of_none ⟨.str _, H, I.tok _, ⟨_, rfl⟩, q⟩
  | int i =>
    cases (show x = .int i from hd)
    obtain ⟨t, rfl⟩ := rx
    have h' : i.natAbs < 10 ^ 100 := of_decide_eq_true (show decide (i.natAbs < 10 ^ 100) = true from ho)
    have := log2_small h'
    exact PySem.P.repr_of_int (by omega) ⟨.str _, H, I.tok _, ⟨_, rfl⟩, q⟩
  | bl b => cases hb
  | str b => cases hb
  | tup ds =>
    obtain ⟨a, xs, rfl, _⟩ := (show ∃ a xs, x = .ref a ∧ SqT X.K H a xs ∧ RepL X.K H ds xs from hd)
    cases rx
    exact go a rfl
  | lst ds =>
    obtain ⟨a, xs, rfl, _⟩ := (show ∃ a xs, x = .ref a ∧ SqL X.K H a xs ∧ RepL X.K H ds xs from hd)
    cases rx
    exact go a rfl
theorem okD_str (i : Int) : okD (.str (toString i)) = true := by
  show ((Str.ofString (toString i)).cps.toList.all fun c => decide (c < 16 ^ 8)) = true
  rw [Str.ofString_eq_toList]
  rw [List.all_eq_true]
  intro c hc
  obtain ⟨ch, _, rfl⟩ := List.mem_map.mp (by simpa using hc)
  refine decide_eq_true ?_
  have := ch.valid
  have e : ch.toNat < 1114112 := by
    have h := ch.valid
    rcases h with h | ⟨_, h⟩
    · have : ch.val.toNat < 0xD800 := h
      show ch.val.toNat < _
      omega
    · have : ch.val.toNat < 0x110000 := h
      show ch.val.toNat < _
      omega
  exact Nat.lt_trans e (by decide)
end L2
set_option linter.all false
set_option maxHeartbeats 4000000
namespace MM
noncomputable def Cg (n a b : Int) : Prop := n ∣ a - b
theorem Cg.refl (n a : Int) : Cg n a a := ⟨0, by omega⟩
theorem Cg.symm {n a b : Int} (h : Cg n a b) : Cg n b a := by
  obtain ⟨k, h⟩ := h; exact ⟨-k, by grind⟩
theorem Cg.trans {n a b c : Int} (h : Cg n a b) (g : Cg n b c) : Cg n a c := by
  obtain ⟨k, h⟩ := h; obtain ⟨l, g⟩ := g; exact ⟨k + l, by grind⟩
theorem Cg.mul {n a b c d : Int} (h : Cg n a b) (g : Cg n c d) : Cg n (a * c) (b * d) := by
  obtain ⟨k, h⟩ := h; obtain ⟨l, g⟩ := g; exact ⟨a * l + d * k, by grind⟩
theorem Cg.add {n a b c d : Int} (h : Cg n a b) (g : Cg n c d) : Cg n (a + c) (b + d) := by
  obtain ⟨k, h⟩ := h; obtain ⟨l, g⟩ := g; exact ⟨k + l, by grind⟩
theorem Cg.sub {n a b c d : Int} (h : Cg n a b) (g : Cg n c d) : Cg n (a - c) (b - d) := by
  obtain ⟨k, h⟩ := h; obtain ⟨l, g⟩ := g; exact ⟨k - l, by grind⟩
theorem Cg.pow {n a b : Int} (h : Cg n a b) (k : Nat) : Cg n (a ^ k) (b ^ k) := by
  induction k with
  | zero => rw [Int.pow_zero, Int.pow_zero]; exact Cg.refl _ _
  | succ k ih => rw [Int.pow_succ, Int.pow_succ]; exact ih.mul h
theorem cg_mod (n a : Int) : Cg n (a % n) a := ⟨-(a / n), by have := Int.emod_add_mul_ediv a n; grind⟩
theorem cg_eq {n a b : Int} (h : Cg n a b) : a % n = b % n := Int.emod_eq_emod_iff_emod_sub_eq_zero.mpr (Int.emod_eq_zero_of_dvd h)
structure PowInv (base often n done square left : Int) : Prop where
  d0 : 0 ≤ done
  d1 : done < n
  s0 : 0 ≤ square
  s1 : square < n
  l0 : 0 ≤ left
  cg : Cg n (done * square ^ left.toNat) (base ^ often.toNat)
structure GcdInv (a b great small : Int) : Prop where
  g0 : 0 ≤ great
  s0 : 0 ≤ small
  gb : great ≤ a.natAbs ∨ great ≤ b.natAbs
  sb : small ≤ b.natAbs
  gc : Nat.gcd great.toNat small.toNat = Int.gcd a b
structure UndInv (a n great gt small st : Int) : Prop where
  g0 : 0 < great
  g1 : great ≤ n
  s0 : 0 ≤ small
  s1 : small ≤ n
  cg : Cg n great (gt * a)
  cs : Cg n small (st * a)
  gc : Nat.gcd great.toNat small.toNat = Int.gcd a n
  bd : great * st.natAbs + small * gt.natAbs ≤ n
noncomputable def Undo (a n v : Int) : Prop := 0 ≤ v ∧ v < n ∧ Cg n (v * a) 1
noncomputable def IsPr (n : Int) : Prop := 2 ≤ n ∧ ∀ d, 2 ≤ d → d * d ≤ n → n % d ≠ 0
noncomputable def isPrB (n : Int) : Bool := @decide (IsPr n) (Classical.propDecidable _)
noncomputable def ch : Nat → Nat → Nat
  | _, 0 => 1
  | 0, _ + 1 => 0
  | n + 1, k + 1 => ch n k + ch n (k + 1)
noncomputable def bi (a : Int) (n : Nat) : Nat → Int
  | 0 => 0
  | m + 1 => bi a n m + (ch n m : Int) * a ^ m
end MM
set_option linter.all false
set_option maxHeartbeats 4000000
namespace MM
noncomputable def prod : List (Int × Int) → Int
  | [] => 1
  | q :: r => q.1 ^ q.2.toNat * prod r
structure PartsOk (l : List (Int × Int)) : Prop where
  pr : ∀ q ∈ l, IsPr q.1 ∧ 1 ≤ q.2
  up : l.Pairwise fun a b => a.1 < b.1
noncomputable def Parts (n : Int) (l : List (Int × Int)) : Prop := PartsOk l ∧ prod l = n
theorem pow_pos' {p : Int} (h : 1 ≤ p) (k : Nat) : 1 ≤ p ^ k := by
  induction k with
  | zero => simp
  | succ k ih =>
    rw [Int.pow_succ]
    have := Int.mul_le_mul_of_nonneg_right ih (show 0 ≤ p by omega)
    omega
structure DivInv (l0 t left o : Int) : Prop where
  l1 : 1 ≤ left
  o0 : 0 ≤ o
  eq : l0 = left * t ^ o.toNat
noncomputable def LpEnd (n s r : Int) : Prop := (r = n ∧ ∀ d, s ≤ d → d * d ≤ n → n % d ≠ 0) ∨ (s ≤ r ∧ r * r ≤ n ∧ n % r = 0 ∧ ∀ d, s ≤ d → d < r → n % d ≠ 0)
structure PtInv (n : Int) (l : List (Int × Int)) (left t : Int) : Prop where
  l1 : 1 ≤ left
  t2 : 2 ≤ t
  eq : n = prod l * left
  lo : ∀ d, 2 ≤ d → d < t → left % d ≠ 0
  ok : PartsOk l
  le : ∀ q ∈ l, q.1 ≤ t ∧ left % q.1 ≠ 0
structure LtInv (n : Int) (l : List (Int × Int)) (left t : Int) : Prop where
  l1 : 1 ≤ left
  t2 : 2 ≤ t
  eq : n = prod l * left
  lo : ∀ d, 2 ≤ d → d < t → left % d ≠ 0
  ok : PartsOk l
  le : ∀ q ∈ l, q.1 < t
  tb : 1 < left → t ≤ left
noncomputable def tryB (n : Nat) : Nat → Nat → Bool
  | 0, _ => true
  | k + 1, d => decide (n % d ≠ 0) && tryB n k (d + 1)
end MM
set_option linter.all false
set_option maxHeartbeats 4000000
namespace MM
theorem mul_pow' (a b : Int) (k : Nat) : (a * b) ^ k = a ^ k * b ^ k := by
  induction k with
  | zero => simp
  | succ k ih => rw [Int.pow_succ, Int.pow_succ, Int.pow_succ, ih]; grind
theorem pow_pow' (a : Int) (x y : Nat) : (a ^ x) ^ y = (a ^ y) ^ x := by
  rw [← Int.pow_mul, ← Int.pow_mul, Nat.mul_comm]
theorem m1 {a x y n : Int} (hx : 0 ≤ x) (hy : 0 ≤ y) : a ^ x.toNat % n * (a ^ y.toNat % n) % n = a ^ (x + y).toNat % n := by
  have e : (x + y).toNat = x.toNat + y.toNat := by omega
  rw [e, Int.pow_add]
  exact cg_eq ((cg_mod n _).mul (cg_mod n _))
theorem m2 (a b : Int) (x : Nat) (n : Int) : (a * b) ^ x % n = a ^ x % n * (b ^ x % n) % n := by
  rw [mul_pow']
  exact cg_eq ((cg_mod n _).mul (cg_mod n _)).symm
theorem m3 (a : Int) (x y : Nat) (n : Int) : (a ^ x % n) ^ y % n = (a ^ y % n) ^ x % n := by
  have h1 := (cg_mod n (a ^ x)).pow y
  have h2 := (cg_mod n (a ^ y)).pow x
  rw [pow_pow'] at h1
  exact cg_eq (h1.trans h2.symm)
end MM
set_option linter.all false
set_option maxHeartbeats 4000000
namespace MM
noncomputable def valL : List Int → Int
  | [] => 0
  | b :: r => b + 2 * valL r
theorem valL_append (l : List Int) (b : Int) : valL (l ++ [b]) = valL l + 2 ^ l.length * b := by
  induction l with
  | nil => simp [valL]
  | cons c l ih => rw [List.cons_append, valL, valL, ih, List.length_cons, Int.pow_succ]; grind
structure BitInv (o l : Int) (bs : List Int) : Prop where
  l0 : 0 ≤ l
  eq : o = valL bs + 2 ^ bs.length * l
  bit : ∀ b ∈ bs, b = 0 ∨ b = 1
theorem bit_start {o : Int} (h : 0 ≤ o) : BitInv o o [] := ⟨h, by simp [valL], fun _ h => (by cases h)⟩
theorem bit_turn {o l : Int} {bs : List Int} (I : BitInv o l bs) : BitInv o (l / 2) (bs ++ [l % 2]) := by
  have l0 := I.l0
  refine ⟨by omega, ?_, fun b hb => ?_⟩
  · rw [valL_append, List.length_append, List.length_singleton, Int.pow_succ]
    have e : l = 2 * (l / 2) + l % 2 := by omega
    have := I.eq
    generalize l / 2 = q at e ⊢
    generalize l % 2 = r at e ⊢
    subst e
    grind
  · rcases List.mem_append.mp hb with hb | hb
    · exact I.bit b hb
    · rw [List.mem_singleton.mp hb]; omega
theorem valL_nonneg {bs : List Int} (h : ∀ b ∈ bs, b = 0 ∨ b = 1) : 0 ≤ valL bs := by
  induction bs with
  | nil => exact Int.le_refl _
  | cons b r ih =>
    have := ih fun x hx => h x (List.mem_cons_of_mem _ hx)
    have := h b List.mem_cons_self
    rw [valL]; omega
theorem two_pow_big {k : Nat} (h : 100 ≤ k) : (10 : Int) ^ 30 < 2 ^ k := by
  obtain ⟨j, rfl⟩ : ∃ j, k = 100 + j := ⟨k - 100, by omega⟩
  rw [Int.pow_add]
  have := pow_pos' (show (1 : Int) ≤ 2 by decide) j
  have := Int.mul_le_mul_of_nonneg_left this (show (0 : Int) ≤ 2 ^ 100 by decide)
  have e : (2 : Int) ^ 100 = 1267650600228229401496703205376 := by decide
  omega
theorem bit_len {o l : Int} {bs : List Int} (I : BitInv o l bs) (hl : 0 < l) (ho : o ≤ 10 ^ 30) : bs.length < 100 := by
  refine Classical.byContradiction fun hc => ?_
  have h1 := two_pow_big (k := bs.length) (by omega)
  have h2 := Int.mul_le_mul_of_nonneg_left (show 1 ≤ l by omega) (show (0 : Int) ≤ 2 ^ bs.length by omega)
  have h3 := valL_nonneg I.bit
  have := I.eq
  omega
theorem bit_end {o : Int} {bs : List Int} (I : BitInv o 0 bs) : valL bs = o := by
  have := I.eq
  rw [Int.mul_zero, Int.add_zero] at this
  exact this.symm
theorem rev_at {bs : List Int} {j : Nat} {c : Int} (hx : bs.reverse[j]? = some c) : c ∈ bs ∧ valL (bs.drop (bs.length - (j + 1))) = c + 2 * valL (bs.drop (bs.length - j)) := by
  obtain ⟨hj, rfl⟩ := List.getElem?_eq_some_iff.mp hx
  rw [List.length_reverse] at hj
  refine ⟨List.mem_reverse.mp (List.getElem_mem _), ?_⟩
  rw [List.getElem_reverse]
  have hl : bs.length - (j + 1) < bs.length := by omega
  rw [List.drop_eq_getElem_cons hl, valL]
  have e1 : bs.length - (j + 1) + 1 = bs.length - j := by omega
  have e2 : bs.length - (j + 1) = bs.length - 1 - j := by omega
  rw [e1]
  congr 1
  congr 1
end MM
set_option linter.all false
set_option maxHeartbeats 4000000
namespace MM
noncomputable abbrev PZ := Int × Int
noncomputable def pm (d : Int) (P Q : PZ) : PZ := (P.1 * Q.1 + d * P.2 * Q.2, P.1 * Q.2 + P.2 * Q.1)
noncomputable def pw (d : Int) (P : PZ) : Nat → PZ
  | 0 => (1, 0)
  | k + 1 => pm d (pw d P k) P
theorem pm_comm (d : Int) (P Q : PZ) : pm d P Q = pm d Q P := by
  unfold pm; refine Prod.ext ?_ ?_ <;> simp only <;> grind
theorem pm_assoc (d : Int) (P Q R : PZ) : pm d (pm d P Q) R = pm d P (pm d Q R) := by
  unfold pm; refine Prod.ext ?_ ?_ <;> simp only <;> grind
theorem pm_one (d : Int) (P : PZ) : pm d P (1, 0) = P := by
  unfold pm; refine Prod.ext ?_ ?_ <;> simp
theorem one_pm (d : Int) (P : PZ) : pm d (1, 0) P = P := by rw [pm_comm, pm_one]
theorem pw_add (d : Int) (P : PZ) (a : Nat) : ∀ b, pw d P (a + b) = pm d (pw d P a) (pw d P b)
  | 0 => by rw [Nat.add_zero, pw, pm_one]
  | b + 1 => by rw [← Nat.add_assoc, pw, pw_add d P a b, pw, pm_assoc]
theorem pw_sq (d : Int) (P : PZ) : ∀ k, pw d (pm d P P) k = pw d P (2 * k)
  | 0 => rfl
  | k + 1 => by
    rw [pw, pw_sq d P k, show 2 * (k + 1) = 2 * k + 1 + 1 by omega, pw, pw, pm_assoc]
noncomputable def CP (n : Int) (P Q : PZ) : Prop := Cg n P.1 Q.1 ∧ Cg n P.2 Q.2
theorem CP.refl (n : Int) (P : PZ) : CP n P P := ⟨Cg.refl _ _, Cg.refl _ _⟩
theorem CP.symm {n : Int} {P Q : PZ} (h : CP n P Q) : CP n Q P := ⟨h.1.symm, h.2.symm⟩
theorem CP.trans {n : Int} {P Q R : PZ} (h : CP n P Q) (g : CP n Q R) : CP n P R := ⟨h.1.trans g.1, h.2.trans g.2⟩
theorem CP.mul {n d : Int} {P P' Q Q' : PZ} (h : CP n P P') (g : CP n Q Q') : CP n (pm d P Q) (pm d P' Q') :=
  ⟨(h.1.mul g.1).add (((Cg.refl n d).mul h.2).mul g.2), (h.1.mul g.2).add (h.2.mul g.1)⟩
theorem CP.pw {n d : Int} {P P' : PZ} (h : CP n P P') : ∀ k, CP n (pw d P k) (pw d P' k)
  | 0 => CP.refl _ _
  | k + 1 => (CP.pw h k).mul h
noncomputable def rp (n : Int) (P : PZ) : PZ := (P.1 % n, P.2 % n)
theorem cp_rp (n : Int) (P : PZ) : CP n (rp n P) P := ⟨cg_mod n _, cg_mod n _⟩
theorem cp_eq {n : Int} {P Q : PZ} (h : CP n P Q) : rp n P = rp n Q := Prod.ext (cg_eq h.1) (cg_eq h.2)
structure Rst (n : Int) (P : PZ) : Prop where
  a0 : 0 ≤ P.1
  a1 : P.1 < n
  b0 : 0 ≤ P.2
  b1 : P.2 < n
theorem Rst.of {n : Int} (hn : 0 < n) (P : PZ) : Rst n (rp n P) := ⟨Int.emod_nonneg _ (by omega), Int.emod_lt_of_pos _ hn, Int.emod_nonneg _ (by omega), Int.emod_lt_of_pos _ hn⟩
theorem Rst.rp {n : Int} {P : PZ} (h : Rst n P) : rp n P = P := Prod.ext (Int.emod_eq_of_lt h.a0 h.a1) (Int.emod_eq_of_lt h.b0 h.b1)
structure PPInv (d n : Int) (P : PZ) (often : Int) (done square : PZ) (left : Int) : Prop where
  rd : Rst n done
  rs : Rst n square
  l0 : 0 ≤ left
  cg : CP n (pm d done (pw d square left.toNat)) (pw d P often.toNat)
theorem one_rp {n : Int} (hn : 0 < n) : ((1 % n, 0) : PZ) = rp n (1, 0) := by
  unfold rp; refine Prod.ext rfl ?_; simp
theorem pp_start {d n : Int} {P : PZ} {often : Int} (hn : 0 < n) (ho : 0 ≤ often) : PPInv d n P often (1 % n, 0) (rp n P) often := by
  rw [one_rp hn]
  refine ⟨.of hn _, .of hn _, ho, ?_⟩
  have h := (cp_rp n (1, 0)).mul (d := d) ((cp_rp n P).pw (d := d) often.toNat)
  rwa [one_pm] at h
theorem pp_even {d n : Int} {P done square : PZ} {often left : Int} (hn : 0 < n) (I : PPInv d n P often done square left) (h : left % 2 ≠ 1) : PPInv d n P often done (rp n (pm d square square)) (left / 2) := by
  have l0 := I.l0
  refine ⟨I.rd, .of hn _, by omega, ?_⟩
  have e : left.toNat = 2 * (left / 2).toNat := by omega
  have c := I.cg
  rw [e, ← pw_sq] at c
  exact ((CP.refl n done).mul ((cp_rp n _).pw _)).trans c
theorem pp_odd {d n : Int} {P done square : PZ} {often left : Int} (hn : 0 < n) (I : PPInv d n P often done square left) (h : left % 2 = 1) : PPInv d n P often (rp n (pm d done square)) (rp n (pm d square square)) (left / 2) := by
  have l0 := I.l0
  refine ⟨.of hn _, .of hn _, by omega, ?_⟩
  have e : left.toNat = 2 * (left / 2).toNat + 1 := by omega
  have c := I.cg
  rw [e, pw, ← pw_sq, pm_comm d (pw _ _ _) square, ← pm_assoc] at c
  exact ((cp_rp n _).mul ((cp_rp n _).pw _)).trans c
theorem pp_end {d n : Int} {P done square : PZ} {often left : Int} (I : PPInv d n P often done square left) (h : ¬ 0 < left) : done = rp n (pw d P often.toNat) := by
  have l0 := I.l0
  have e : left.toNat = 0 := by omega
  have c := I.cg
  rw [e, pw, pm_one] at c
  rw [← cp_eq c, I.rd.rp]
theorem pw_bit0 {d n v : Int} {P : PZ} (hv : 0 ≤ v) : rp n (pm d (rp n (pw d P v.toNat)) (rp n (pw d P v.toNat))) = rp n (pw d P (0 + 2 * v).toNat) := by
  have e : (0 + 2 * v).toNat = v.toNat + v.toNat := by omega
  rw [e, pw_add]
  exact cp_eq ((cp_rp n _).mul (cp_rp n _))
theorem pw_bit1 {d n v : Int} {P : PZ} (hv : 0 ≤ v) : rp n (pm d (rp n (pm d (rp n (pw d P v.toNat)) (rp n (pw d P v.toNat)))) P) = rp n (pw d P (1 + 2 * v).toNat) := by
  have e : (1 + 2 * v).toNat = v.toNat + v.toNat + 1 := by omega
  rw [e, pw, pw_add]
  exact cp_eq (((cp_rp n _).trans ((cp_rp n _).mul (cp_rp n _))).mul (CP.refl n P))
theorem nb_mul {a b : Int} {x y z : Nat} (ha : a.natAbs < x) (hb : b.natAbs < y) (h : x * y ≤ z) : (a * b).natAbs < z := by
  rw [Int.natAbs_mul]
  have := Nat.mul_lt_mul'' ha hb
  omega
end MM
set_option Elab.async false
set_option linter.all false
set_option maxRecDepth 100000
set_option maxHeartbeats 4000000
namespace PP
open PySem L2 MM
noncomputable def top (i : Nat) : Stmt := PySem.Challenge.pw_primepapers_k40_pairs_of_rests.main.body.getD i (.Pass ⟨0, 0, 0, 0⟩)
structure Cl where
  pe : Addr
  nn : Addr
  np : Addr
  pa : Addr
  pp : Addr
  nb : Addr
  nt : Addr
  nl : Addr
  nm : Addr
  nd : Addr
  tg : Addr
structure Txt (K : PySem.W.Frag) (mg : Str → Option Value) (t1 : Tok) (cl : Cl) : Prop where
  mg_MOST : mg "MOST" = some (.int 1000000000000000000000000000000 t1)
  no_len : mg "len" = none
  no_isinstance : mg "isinstance" = none
  no_int : mg "int" = none
  no_bool : mg "bool" = none
  no_range : mg "range" = none
  no_max : mg "max" = none
  no_min : mg "min" = none
  no_str : mg "str" = none
  no_tuple : mg "tuple" = none
  no_list : mg "list" = none
  no_zip : mg "zip" = none
  no_all : mg "all" = none
  no_repr : mg "repr" = none
  no_ValueError : mg "ValueError" = none
  mg_PrimeError : mg "PrimeError" = some (.ref cl.pe)
  mg_NoNumber : mg "NoNumber" = some (.ref cl.nn)
  mg_NoPrime : mg "NoPrime" = some (.ref cl.np)
  mg_NoPair : mg "NoPair" = some (.ref cl.pa)
  mg_NoPaper : mg "NoPaper" = some (.ref cl.pp)
  mg_NoBases : mg "NoBases" = some (.ref cl.nb)
  mg_NoText : mg "NoText" = some (.ref cl.nt)
  mg_NoLine : mg "NoLine" = some (.ref cl.nl)
  mg_NoName : mg "NoName" = some (.ref cl.nm)
  mg_NoDeed : mg "NoDeed" = some (.ref cl.nd)
  mg_TooGreat : mg "TooGreat" = some (.ref cl.tg)
  xc_NoNumber : ExcC K cl.nn
  xc_NoPair : ExcC K cl.pa
section
variable {P : Program} {w : World} {K : PySem.W.Frag} {mg : Str → Option Value} {base : Heap} {t1 : Tok} {cl : Cl} {f : Addr} {fd : FuncData}
noncomputable abbrev s_is_whole : Stmt := top 14
theorem sc_is_whole : FnScope ["thing"] ["thing"] (defScope s_is_whole) := ⟨rfl, rfl, rfl, by decide +kernel, rfl, by decide +kernel, by decide +kernel⟩
noncomputable abbrev Df_is_whole (K : PySem.W.Frag) (mg : Str → Option Value) (f : Addr) (fd : FuncData) : Prop := Def K mg "is_whole" s_is_whole ["thing"] f fd
noncomputable def isWh : V → Bool
  | .int _ => true
  | _ => false
noncomputable def spWhole (K : PySem.W.Frag) : Sp := fun vs H Q _ => ∃ x n, vs = [x] ∧ TyOf K H x (.type n) ∧ Q (.bl (isWh x)) H
theorem ok_is_whole (D : Df_is_whole K mg f fd) (T : Txt K mg t1 cl) : FnOk P w K mg base CX0 1 f fd ["thing"] (spWhole K) := by
  refine D.fn.ok sc_is_whole (fun vs H Q E h => ?_) (fun cdv A outer s H vs Q E hr h => ?_)
  · obtain ⟨x, n, rfl, _⟩ := h
    rfl
  · obtain ⟨x, n, rfl, ty, k⟩ := h
    refine ⟨_, (pss_one (ps_ret (pe_and (pe_callB call_isinst (by rfl) T.no_isinstance PyProof.Rows.boot_isinstance (pa_cons (pv 0) (pa_cons (pe_bltn (v := .ty "int") rfl T.no_int PyProof.Rows.boot_int rfl) pa_nil))) (pe_one (pe_not (pe_callB call_isinst (by rfl) T.no_isinstance PyProof.Rows.boot_isinstance (pa_cons (pv 0) (pa_cons (pe_bltn (v := .ty "bool") rfl T.no_bool PyProof.Rows.boot_bool rfl) pa_nil)))))))), ?_⟩
    have e0 : L2.start ["thing"] [x] = [some x] := rfl
    rw [e0]
    simp only [tSeq, tIfS, tTest, tRet, tRetN, tNext, tDrop, tAsg, tPar, tPar3, tAug, tVar, tC, tOp, tUn, rI, rI0, rU, tB, tAnd, tOr, tNot, tAndV, tOrV, tNotV, tIf, gName, gNil, gCons, gTup, gSub, tCB, tCons, tNil, tCall, tChain, ipI, tIsN, tNotN, tBM, tyV, tTup, tLst, rAppend, rCat, scal_ii, scal_bb, scal_ss, scal_ni, scal_in, rEq, rNe, List.getElem?_cons_zero, List.getElem?_cons_succ, List.set_cons_zero, List.set_cons_succ, eq_self, and_assoc, Option.some.injEq, V.int.injEq, V.bl.injEq, V.ref.injEq, V.str.injEq, List.cons.injEq, exists_eq_left', exists_eq_left, exists_and_left, List.nil_append, List.cons_append, List.append_nil, true_and, and_true, decide_eq_true_eq, Bool.not_eq_true', decide_eq_false_iff_not, if_true, if_false, Bool.not_true, Bool.not_false, Bool.false_eq_true, reduceCtorEq, decide_true, decide_false, ite_true, ite_false, rSetL, rIxL, tRaise, jCons, jNil, tFmt, tDNew, rCount, rIndex, Int.reduceToNat, Int.reducePow]
    refine isi ty ⟨_, rfl, ?_⟩
    have ty' := ty
    cases ty' <;> first | exact iteF k | (refine iteT ?_; refine isi (by assumption) ⟨_, rfl, ?_⟩; exact k)
noncomputable abbrev s_is_between : Stmt := top 15
theorem sc_is_between : FnScope ["thing", "least", "most"] ["thing", "least", "most"] (defScope s_is_between) := ⟨rfl, rfl, rfl, by decide +kernel, rfl, by decide +kernel, by decide +kernel⟩
noncomputable abbrev Df_is_between (K : PySem.W.Frag) (mg : Str → Option Value) (f : Addr) (fd : FuncData) : Prop := Def K mg "is_between" s_is_between ["thing", "least", "most"] f fd
noncomputable def isBet : V → Int → Int → Bool
  | .int i, lo, hi => decide (lo ≤ i) && decide (i ≤ hi)
  | _, _, _ => false
noncomputable def spBetween (K : PySem.W.Frag) : Sp := fun vs H Q _ => ∃ x n lo hi, vs = [x, .int lo, .int hi] ∧ TyOf K H x (.type n) ∧ Q (.bl (isBet x lo hi)) H
theorem ok_is_between (D : Df_is_between K mg f fd) (T : Txt K mg t1 cl) {f1 fd1} (D_is_whole : Df_is_whole K mg f1 fd1) : FnOk P w K mg base CX0 2 f fd ["thing", "least", "most"] (spBetween K) := by
  have G_is_whole : FnOk P w K mg base CX0 1 _ _ _ _ := ok_is_whole D_is_whole T
  refine D.fn.ok sc_is_between (fun vs H Q E h => ?_) (fun cdv A outer s H vs Q E hr h => ?_)
  · obtain ⟨x, n, lo, hi, rfl, _⟩ := h
    rfl
  · obtain ⟨x, n, lo, hi, rfl, ty, k⟩ := h
    refine ⟨_, (pss_one (ps_ret (pe_and (pe_call (G_is_whole.mono (by decide)) hr rfl D_is_whole.mgx D_is_whole.fn.kp D_is_whole.bd .nil pass0 (pa_cons (pv 0) pa_nil)) (pe_one (pe_chain op_le op_le (pv 1) (pv 0) (pv 2)))))), ?_⟩
    have e0 : L2.start ["thing", "least", "most"] [x, .int lo, .int hi] = [some (x), some (.int lo), some (.int hi)] := rfl
    rw [e0]; clear e0
    simp only [tSeq, tIfS, tTest, tRet, tRetN, tNext, tDrop, tAsg, tPar, tPar3, tAug, tVar, tC, tOp, tUn, rI, rI0, rU, tB, tAnd, tOr, tNot, tAndV, tOrV, tNotV, tIf, gName, gNil, gCons, gTup, gSub, tCB, tCons, tNil, tCall, tChain, ipI, tIsN, tNotN, tBM, tyV, tTup, tLst, rAppend, rCat, scal_ii, scal_bb, scal_ss, scal_ni, scal_in, rEq, rNe, List.getElem?_cons_zero, List.getElem?_cons_succ, List.set_cons_zero, List.set_cons_succ, eq_self, and_assoc, Option.some.injEq, V.int.injEq, V.bl.injEq, V.ref.injEq, V.str.injEq, List.cons.injEq, exists_eq_left', exists_eq_left, exists_and_left, List.nil_append, List.cons_append, List.append_nil, true_and, and_true, decide_eq_true_eq, Bool.not_eq_true', decide_eq_false_iff_not, if_true, if_false, Bool.not_true, Bool.not_false, Bool.false_eq_true, reduceCtorEq, decide_true, decide_false, ite_true, ite_false, rSetL, rIxL, tRaise, jCons, jNil, tFmt, tDNew, rCount, rIndex, Int.reduceToNat, Int.reducePow]
    refine ⟨x, n, rfl, ty, _, rfl, ?_⟩
    cases x
    case int i =>
      refine iteT ⟨_, rfl, ?_⟩
      by_cases hl : lo ≤ i
      · rw [if_pos (by simpa using hl)]
        have e : isBet (.int i) lo hi = decide (i ≤ hi) := by simp [isBet, hl]
        rw [e] at k
        simp only [tSeq, tIfS, tTest, tRet, tRetN, tNext, tDrop, tAsg, tPar, tPar3, tAug, tVar, tC, tOp, tUn, rI, rI0, rU, tB, tAnd, tOr, tNot, tAndV, tOrV, tNotV, tIf, gName, gNil, gCons, gTup, gSub, tCB, tCons, tNil, tCall, tChain, ipI, tIsN, tNotN, tBM, tyV, tTup, tLst, rAppend, rCat, scal_ii, scal_bb, scal_ss, scal_ni, scal_in, rEq, rNe, List.getElem?_cons_zero, List.getElem?_cons_succ, List.set_cons_zero, List.set_cons_succ, eq_self, and_assoc, Option.some.injEq, V.int.injEq, V.bl.injEq, V.ref.injEq, V.str.injEq, List.cons.injEq, exists_eq_left', exists_eq_left, exists_and_left, List.nil_append, List.cons_append, List.append_nil, true_and, and_true, decide_eq_true_eq, Bool.not_eq_true', decide_eq_false_iff_not, if_true, if_false, Bool.not_true, Bool.not_false, Bool.false_eq_true, reduceCtorEq, decide_true, decide_false, ite_true, ite_false, rSetL, rIxL, tRaise, jCons, jNil, tFmt, tDNew, rCount, rIndex, Int.reduceToNat, Int.reducePow]
        exact k
      · rw [if_neg (by simpa using hl)]
        have e : isBet (.int i) lo hi = false := by simp [isBet, hl]
        rw [e] at k
        exact k
    all_goals exact iteF k
noncomputable abbrev O_is_between (P : Program) (w : World) (K : PySem.W.Frag) (mg : Str → Option Value) (base : Heap) : Prop := ∃ f fd, Df_is_between K mg f fd ∧ FnOk P w K mg base CX0 2 f fd ["thing", "least", "most"] (spBetween K)
noncomputable abbrev s_is_far : Stmt := top 16
theorem sc_is_far : FnScope ["thing"] ["thing"] (defScope s_is_far) := ⟨rfl, rfl, rfl, by decide +kernel, rfl, by decide +kernel, by decide +kernel⟩
noncomputable abbrev Df_is_far (K : PySem.W.Frag) (mg : Str → Option Value) (f : Addr) (fd : FuncData) : Prop := Def K mg "is_far" s_is_far ["thing"] f fd
noncomputable def spIsFar (K : PySem.W.Frag) : Sp := fun vs H Q _ => ∃ x n, vs = [x] ∧ TyOf K H x (.type n) ∧ Q (.bl (isBet x (-1000000000000000000000000000000) 1000000000000000000000000000000)) H
theorem ok_is_far (D : Df_is_far K mg f fd) (T : Txt K mg t1 cl) (o1 : O_is_between P w K mg base) : FnOk P w K mg base CX0 3 f fd ["thing"] (spIsFar K) := by
  obtain ⟨_, _, D_is_between, G_is_between⟩ := o1
  refine D.fn.ok sc_is_far (fun vs H Q E h => ?_) (fun cdv A outer s H vs Q E hr h => ?_)
  · obtain ⟨x, n, rfl, _⟩ := h
    rfl
  · obtain ⟨x, n, rfl, ty, k⟩ := h
    refine ⟨_, (pss_one (ps_ret (pe_call (G_is_between.mono (by decide)) hr rfl D_is_between.mgx D_is_between.fn.kp D_is_between.bd .nil pass0 (pa_cons (pv 0) (pa_cons (pe_un un_neg (pe_glob (v := .int _) rfl T.mg_MOST ⟨_, rfl⟩)) (pa_cons (pe_glob (v := .int _) rfl T.mg_MOST ⟨_, rfl⟩) pa_nil)))))), ?_⟩
    have e0 : L2.start ["thing"] [x] = [some (x)] := rfl
    rw [e0]; clear e0
    simp only [tSeq, tIfS, tTest, tRet, tRetN, tNext, tDrop, tAsg, tPar, tPar3, tAug, tVar, tC, tOp, tUn, rI, rI0, rU, tB, tAnd, tOr, tNot, tAndV, tOrV, tNotV, tIf, gName, gNil, gCons, gTup, gSub, tCB, tCons, tNil, tCall, tChain, ipI, tIsN, tNotN, tBM, tyV, tTup, tLst, rAppend, rCat, scal_ii, scal_bb, scal_ss, scal_ni, scal_in, rEq, rNe, List.getElem?_cons_zero, List.getElem?_cons_succ, List.set_cons_zero, List.set_cons_succ, eq_self, and_assoc, Option.some.injEq, V.int.injEq, V.bl.injEq, V.ref.injEq, V.str.injEq, List.cons.injEq, exists_eq_left', exists_eq_left, exists_and_left, List.nil_append, List.cons_append, List.append_nil, true_and, and_true, decide_eq_true_eq, Bool.not_eq_true', decide_eq_false_iff_not, if_true, if_false, Bool.not_true, Bool.not_false, Bool.false_eq_true, reduceCtorEq, decide_true, decide_false, ite_true, ite_false, rSetL, rIxL, tRaise, jCons, jNil, tFmt, tDNew, rCount, rIndex, Int.reduceToNat, Int.reducePow]
    exact ⟨x, n, _, _, rfl, ty, k⟩
noncomputable abbrev O_is_far (P : Program) (w : World) (K : PySem.W.Frag) (mg : Str → Option Value) (base : Heap) : Prop := ∃ f fd, Df_is_far K mg f fd ∧ FnOk P w K mg base CX0 3 f fd ["thing"] (spIsFar K)
noncomputable abbrev s_want_between : Stmt := top 17
theorem sc_want_between : FnScope ["thing", "least", "most", "name"] ["thing", "least", "most", "name"] (defScope s_want_between) := ⟨rfl, rfl, rfl, by decide +kernel, rfl, by decide +kernel, by decide +kernel⟩
noncomputable abbrev Df_want_between (K : PySem.W.Frag) (mg : Str → Option Value) (f : Addr) (fd : FuncData) : Prop := Def K mg "want_between" s_want_between ["thing", "least", "most", "name"] f fd
noncomputable def spWantB (K : PySem.W.Frag) (cl : Cl) : Sp := fun vs H Q E => ∃ (x : V) (n : String) (lo hi : Int) (nm : Str), vs = [x, .int lo, .int hi, .str nm] ∧ TyOf K H x (.type n) ∧ (lo.natAbs < 10 ^ 100 ∧ hi.natAbs < 10 ^ 100 ∧ nm.length ≤ 100) ∧ (isBet x lo hi = true → Q .non H) ∧ (isBet x lo hi = false → E (.ref cl.nn) none H)
theorem ok_want_between (D : Df_want_between K mg f fd) (T : Txt K mg t1 cl) (o1 : O_is_between P w K mg base) : FnOk P w K mg base (CXE P w) 3 f fd ["thing", "least", "most", "name"] (spWantB K cl) := by
  obtain ⟨_, _, D_is_between, G_is_between⟩ := o1
  refine D.fn.okX sc_want_between (fun vs H Q E h => ?_) (fun cdv A outer s H vs Q E hr h => ?_)
  · obtain ⟨x, n, lo, hi, nm, rfl, _⟩ := h
    rfl
  · obtain ⟨x, n, lo, hi, nm, rfl, ty, ⟨b1, b2, b3⟩, k1, k2⟩ := h
    refine ⟨_, (pss_one (ps_if (pt_not (pt_val (pe_call (G_is_between.mono (by decide)) hr rfl D_is_between.mgx D_is_between.fn.kp D_is_between.bd .nil pass0 (pa_cons (pv 0) (pa_cons (pv 1) (pa_cons (pv 2) pa_nil))))))
 (pss_one (ps_raise raises_cx rfl rfl T.mg_NoNumber T.xc_NoNumber (pe_joined (pj_cons (pe_fmt (pv 3)) (pj_cons pe_str (pj_cons (pe_fmt (pv 1)) (pj_cons pe_str (pj_cons (pe_fmt (pv 2)) pj_nil))))))))
 pss_nil)), ?_⟩
    have e0 : L2.start ["thing", "least", "most", "name"] [x, .int lo, .int hi, .str nm] = [some (x), some (.int lo), some (.int hi), some (.str nm)] := rfl
    rw [e0]; clear e0
    simp only [tSeq, tIfS, tTest, tRet, tRetN, tNext, tDrop, tAsg, tPar, tPar3, tAug, tVar, tC, tOp, tUn, rI, rI0, rU, tB, tAnd, tOr, tNot, tAndV, tOrV, tNotV, tIf, gName, gNil, gCons, gTup, gSub, tCB, tCons, tNil, tCall, tChain, ipI, tIsN, tNotN, tBM, tyV, tTup, tLst, rAppend, rCat, scal_ii, scal_bb, scal_ss, scal_ni, scal_in, rEq, rNe, List.getElem?_cons_zero, List.getElem?_cons_succ, List.set_cons_zero, List.set_cons_succ, eq_self, and_assoc, Option.some.injEq, V.int.injEq, V.bl.injEq, V.ref.injEq, V.str.injEq, List.cons.injEq, exists_eq_left', exists_eq_left, exists_and_left, List.nil_append, List.cons_append, List.append_nil, true_and, and_true, decide_eq_true_eq, Bool.not_eq_true', decide_eq_false_iff_not, if_true, if_false, Bool.not_true, Bool.not_false, Bool.false_eq_true, reduceCtorEq, decide_true, decide_false, ite_true, ite_false, rSetL, rIxL, tRaise, jCons, jNil, tFmt, tDNew, rCount, rIndex, Int.reduceToNat, Int.reducePow]
    refine ⟨x, n, lo, hi, rfl, ty, _, rfl, ?_⟩
    cases e : isBet x lo hi with
    | true => rw [if_neg (by decide)]; exact k1 e
    | false =>
      rw [if_pos rfl]
      have l1 : (Str.ofString (toString lo)).length ≤ 101 := toStr_len b1
      have l2 : (Str.ofString (toString hi)).length ≤ 101 := toStr_len b2
      have e0 : Str.empty.length = 0 := rfl
      have e1 : (Str.ofString " is no whole number from ").length = 25 := by rfl
      have e2 : (Str.ofString " to ").length = 4 := by rfl
      refine .inl ⟨?_, ?_, ?_, .inr ⟨b1, ?_, ?_, .inr ⟨b2, ?_, ?_, k2 e⟩⟩⟩ <;> (try simp only [Str.length_append, e0, e1, e2]) <;> exact Nat.le_of_lt (small1000 (by omega))
noncomputable abbrev O_want_between (P : Program) (w : World) (K : PySem.W.Frag) (mg : Str → Option Value) (base : Heap) (cl : Cl) : Prop := ∃ f fd, Df_want_between K mg f fd ∧ FnOk P w K mg base (CXE P w) 3 f fd ["thing", "least", "most", "name"] (spWantB K cl)
noncomputable def spWant (K : PySem.W.Frag) (cl : Cl) (lo hi : Int) : Sp := fun vs H Q E => ∃ (x : V) (n : String) (nm : Str), vs = [x, .str nm] ∧ TyOf K H x (.type n) ∧ nm.length ≤ 100 ∧ (isBet x lo hi = true → Q .non H) ∧ (isBet x lo hi = false → E (.ref cl.nn) none H)
noncomputable abbrev s_want_far : Stmt := top 19
theorem sc_want_far : FnScope ["thing", "name"] ["thing", "name"] (defScope s_want_far) := ⟨rfl, rfl, rfl, by decide +kernel, rfl, by decide +kernel, by decide +kernel⟩
noncomputable abbrev Df_want_far (K : PySem.W.Frag) (mg : Str → Option Value) (f : Addr) (fd : FuncData) : Prop := Def K mg "want_far" s_want_far ["thing", "name"] f fd
theorem ok_want_far (D : Df_want_far K mg f fd) (T : Txt K mg t1 cl) (o1 : O_want_between P w K mg base cl) : FnOk P w K mg base (CXE P w) 4 f fd ["thing", "name"] (spWant K cl (-1000000000000000000000000000000) 1000000000000000000000000000000) := by
  obtain ⟨_, _, D_want_between, G_want_between⟩ := o1
  refine D.fn.okX sc_want_far (fun vs H Q E h => ?_) (fun cdv A outer s H vs Q E hr h => ?_)
  · obtain ⟨x, n, nm, rfl, _⟩ := h
    rfl
  · obtain ⟨x, n, nm, rfl, ty, hb, k1, k2⟩ := h
    refine ⟨_, (pss_one (ps_expr (pe_call (G_want_between.mono (by decide)) hr rfl D_want_between.mgx D_want_between.fn.kp D_want_between.bd .nil (passes_cx (fun _ _ _ h => h)) (pa_cons (pv 0) (pa_cons (pe_un un_neg (pe_glob (v := .int _) rfl T.mg_MOST ⟨_, rfl⟩)) (pa_cons (pe_glob (v := .int _) rfl T.mg_MOST ⟨_, rfl⟩) (pa_cons (pv 1) pa_nil))))))), ?_⟩
    have e0 : L2.start ["thing", "name"] [x, .str nm] = [some (x), some (.str nm)] := rfl
    rw [e0]; clear e0
    simp only [tSeq, tIfS, tTest, tRet, tRetN, tNext, tDrop, tAsg, tPar, tPar3, tAug, tVar, tC, tOp, tUn, rI, rI0, rU, tB, tAnd, tOr, tNot, tAndV, tOrV, tNotV, tIf, gName, gNil, gCons, gTup, gSub, tCB, tCons, tNil, tCall, tChain, ipI, tIsN, tNotN, tBM, tyV, tTup, tLst, rAppend, rCat, scal_ii, scal_bb, scal_ss, scal_ni, scal_in, rEq, rNe, List.getElem?_cons_zero, List.getElem?_cons_succ, List.set_cons_zero, List.set_cons_succ, eq_self, and_assoc, Option.some.injEq, V.int.injEq, V.bl.injEq, V.ref.injEq, V.str.injEq, List.cons.injEq, exists_eq_left', exists_eq_left, exists_and_left, List.nil_append, List.cons_append, List.append_nil, true_and, and_true, decide_eq_true_eq, Bool.not_eq_true', decide_eq_false_iff_not, if_true, if_false, Bool.not_true, Bool.not_false, Bool.false_eq_true, reduceCtorEq, decide_true, decide_false, ite_true, ite_false, rSetL, rIxL, tRaise, jCons, jNil, tFmt, tDNew, rCount, rIndex, Int.reduceToNat, Int.reducePow]
    exact ⟨x, n, _, _, nm, rfl, ty, ⟨by decide, by decide, hb⟩, k1, k2⟩
noncomputable abbrev O_want_far (P : Program) (w : World) (K : PySem.W.Frag) (mg : Str → Option Value) (base : Heap) (cl : Cl) : Prop := ∃ f fd, Df_want_far K mg f fd ∧ FnOk P w K mg base (CXE P w) 4 f fd ["thing", "name"] (spWant K cl (-1000000000000000000000000000000) 1000000000000000000000000000000)
noncomputable abbrev s_want_often : Stmt := top 20
theorem sc_want_often : FnScope ["thing", "name"] ["thing", "name"] (defScope s_want_often) := ⟨rfl, rfl, rfl, by decide +kernel, rfl, by decide +kernel, by decide +kernel⟩
noncomputable abbrev Df_want_often (K : PySem.W.Frag) (mg : Str → Option Value) (f : Addr) (fd : FuncData) : Prop := Def K mg "want_often" s_want_often ["thing", "name"] f fd
theorem ok_want_often (D : Df_want_often K mg f fd) (T : Txt K mg t1 cl) (o1 : O_want_between P w K mg base cl) : FnOk P w K mg base (CXE P w) 4 f fd ["thing", "name"] (spWant K cl 0 1000000000000000000000000000000) := by
  obtain ⟨_, _, D_want_between, G_want_between⟩ := o1
  refine D.fn.okX sc_want_often (fun vs H Q E h => ?_) (fun cdv A outer s H vs Q E hr h => ?_)
  · obtain ⟨x, n, nm, rfl, _⟩ := h
    rfl
  · obtain ⟨x, n, nm, rfl, ty, hb, k1, k2⟩ := h
    refine ⟨_, (pss_one (ps_expr (pe_call (G_want_between.mono (by decide)) hr rfl D_want_between.mgx D_want_between.fn.kp D_want_between.bd .nil (passes_cx (fun _ _ _ h => h)) (pa_cons (pv 0) (pa_cons pe_int (pa_cons (pe_glob (v := .int _) rfl T.mg_MOST ⟨_, rfl⟩) (pa_cons (pv 1) pa_nil))))))), ?_⟩
    have e0 : L2.start ["thing", "name"] [x, .str nm] = [some (x), some (.str nm)] := rfl
    rw [e0]; clear e0
    simp only [tSeq, tIfS, tTest, tRet, tRetN, tNext, tDrop, tAsg, tPar, tPar3, tAug, tVar, tC, tOp, tUn, rI, rI0, rU, tB, tAnd, tOr, tNot, tAndV, tOrV, tNotV, tIf, gName, gNil, gCons, gTup, gSub, tCB, tCons, tNil, tCall, tChain, ipI, tIsN, tNotN, tBM, tyV, tTup, tLst, rAppend, rCat, scal_ii, scal_bb, scal_ss, scal_ni, scal_in, rEq, rNe, List.getElem?_cons_zero, List.getElem?_cons_succ, List.set_cons_zero, List.set_cons_succ, eq_self, and_assoc, Option.some.injEq, V.int.injEq, V.bl.injEq, V.ref.injEq, V.str.injEq, List.cons.injEq, exists_eq_left', exists_eq_left, exists_and_left, List.nil_append, List.cons_append, List.append_nil, true_and, and_true, decide_eq_true_eq, Bool.not_eq_true', decide_eq_false_iff_not, if_true, if_false, Bool.not_true, Bool.not_false, Bool.false_eq_true, reduceCtorEq, decide_true, decide_false, ite_true, ite_false, rSetL, rIxL, tRaise, jCons, jNil, tFmt, tDNew, rCount, rIndex, Int.reduceToNat, Int.reducePow]
    exact ⟨x, n, _, _, nm, rfl, ty, ⟨by decide, by decide, hb⟩, k1, k2⟩
noncomputable abbrev O_want_often (P : Program) (w : World) (K : PySem.W.Frag) (mg : Str → Option Value) (base : Heap) (cl : Cl) : Prop := ∃ f fd, Df_want_often K mg f fd ∧ FnOk P w K mg base (CXE P w) 4 f fd ["thing", "name"] (spWant K cl 0 1000000000000000000000000000000)
noncomputable abbrev s_want_number : Stmt := top 18
theorem sc_want_number : FnScope ["thing", "name"] ["thing", "name"] (defScope s_want_number) := ⟨rfl, rfl, rfl, by decide +kernel, rfl, by decide +kernel, by decide +kernel⟩
noncomputable abbrev Df_want_number (K : PySem.W.Frag) (mg : Str → Option Value) (f : Addr) (fd : FuncData) : Prop := Def K mg "want_number" s_want_number ["thing", "name"] f fd
theorem ok_want_number (D : Df_want_number K mg f fd) (T : Txt K mg t1 cl) (o1 : O_want_between P w K mg base cl) : FnOk P w K mg base (CXE P w) 4 f fd ["thing", "name"] (spWant K cl 1 1000000000000000000000000000000) := by
  obtain ⟨_, _, D_want_between, G_want_between⟩ := o1
  refine D.fn.okX sc_want_number (fun vs H Q E h => ?_) (fun cdv A outer s H vs Q E hr h => ?_)
  · obtain ⟨x, n, nm, rfl, _⟩ := h
    rfl
  · obtain ⟨x, n, nm, rfl, ty, hb, k1, k2⟩ := h
    refine ⟨_, (pss_one (ps_expr (pe_call (G_want_between.mono (by decide)) hr rfl D_want_between.mgx D_want_between.fn.kp D_want_between.bd .nil (passes_cx (fun _ _ _ h => h)) (pa_cons (pv 0) (pa_cons pe_int (pa_cons (pe_glob (v := .int _) rfl T.mg_MOST ⟨_, rfl⟩) (pa_cons (pv 1) pa_nil))))))), ?_⟩
    have e0 : L2.start ["thing", "name"] [x, .str nm] = [some (x), some (.str nm)] := rfl
    rw [e0]; clear e0
    simp only [tSeq, tIfS, tTest, tRet, tRetN, tNext, tDrop, tAsg, tPar, tPar3, tAug, tVar, tC, tOp, tUn, rI, rI0, rU, tB, tAnd, tOr, tNot, tAndV, tOrV, tNotV, tIf, gName, gNil, gCons, gTup, gSub, tCB, tCons, tNil, tCall, tChain, ipI, tIsN, tNotN, tBM, tyV, tTup, tLst, rAppend, rCat, scal_ii, scal_bb, scal_ss, scal_ni, scal_in, rEq, rNe, List.getElem?_cons_zero, List.getElem?_cons_succ, List.set_cons_zero, List.set_cons_succ, eq_self, and_assoc, Option.some.injEq, V.int.injEq, V.bl.injEq, V.ref.injEq, V.str.injEq, List.cons.injEq, exists_eq_left', exists_eq_left, exists_and_left, List.nil_append, List.cons_append, List.append_nil, true_and, and_true, decide_eq_true_eq, Bool.not_eq_true', decide_eq_false_iff_not, if_true, if_false, Bool.not_true, Bool.not_false, Bool.false_eq_true, reduceCtorEq, decide_true, decide_false, ite_true, ite_false, rSetL, rIxL, tRaise, jCons, jNil, tFmt, tDNew, rCount, rIndex, Int.reduceToNat, Int.reducePow]
    exact ⟨x, n, _, _, nm, rfl, ty, ⟨by decide, by decide, hb⟩, k1, k2⟩
noncomputable abbrev O_want_number (P : Program) (w : World) (K : PySem.W.Frag) (mg : Str → Option Value) (base : Heap) (cl : Cl) : Prop := ∃ f fd, Df_want_number K mg f fd ∧ FnOk P w K mg base (CXE P w) 4 f fd ["thing", "name"] (spWant K cl 1 1000000000000000000000000000000)
theorem isBet_of {i lo hi : Int} (h1 : lo ≤ i) (h2 : i ≤ hi) : isBet (.int i) lo hi = true := by simp [isBet, h1, h2]
noncomputable abbrev farB (x : V) : Bool := isBet x (-1000000000000000000000000000000) 1000000000000000000000000000000
inductive PQ (K : PySem.W.Frag) (H : Hp) : V → Bool → Prop
  | yes {p : Addr} {a b : Int} : H p = some (.tup [.int a, .int b]) → -(10 ^ 30) ≤ a → a ≤ 10 ^ 30 → -(10 ^ 30) ≤ b → b ≤ 10 ^ 30 → PQ K H (.ref p) true
  | ty {x : V} {n : String} : TyOf K H x (.type n) → n ≠ "tuple" → PQ K H x false
  | len {p : Addr} {xs : List V} : H p = some (.tup xs) → xs.length ≠ 2 → PQ K H (.ref p) false
  | fst {p : Addr} {u v : V} {n : String} : H p = some (.tup [u, v]) → TyOf K H u (.type n) → farB u = false → PQ K H (.ref p) false
  | snd {p : Addr} {u v : V} {n m : String} : H p = some (.tup [u, v]) → TyOf K H u (.type n) → TyOf K H v (.type m) → farB u = true → farB v = false → PQ K H (.ref p) false
noncomputable abbrev s_is_pair : Stmt := top 25
theorem sc_is_pair : FnScope ["thing"] ["thing"] (defScope s_is_pair) := ⟨rfl, rfl, rfl, by decide +kernel, rfl, by decide +kernel, by decide +kernel⟩
noncomputable abbrev Df_is_pair (K : PySem.W.Frag) (mg : Str → Option Value) (f : Addr) (fd : FuncData) : Prop := Def K mg "is_pair" s_is_pair ["thing"] f fd
noncomputable def spIsPair (K : PySem.W.Frag) : Sp := fun vs H Q _ => ∃ x b, vs = [x] ∧ PQ K H x b ∧ Q (.bl b) H
theorem ok_is_pair (D : Df_is_pair K mg f fd) (T : Txt K mg t1 cl) (o1 : O_is_far P w K mg base) : FnOk P w K mg base CX0 4 f fd ["thing"] (spIsPair K) := by
  obtain ⟨_, _, D_is_far, G_is_far⟩ := o1
  refine D.fn.ok sc_is_pair (fun vs H Q E h => ?_) (fun cdv A outer s H vs Q E hr h => ?_)
  · obtain ⟨x, b, rfl, _⟩ := h
    rfl
  · obtain ⟨x, b, rfl, pq, k⟩ := h
    refine ⟨_, (pss_one (ps_ret (pe_and (pe_callB call_isinst (by rfl) T.no_isinstance PyProof.Rows.boot_isinstance (pa_cons (pv 0) (pa_cons (pe_bltn (v := .ty "tuple") rfl T.no_tuple PyProof.Rows.boot_tuple rfl) pa_nil))) (pe_and (pe_cmpR op_eq (pe_callB call_len_seq (by rfl) T.no_len PySem.boot_len (pa_cons (pv 0) pa_nil)) pe_int (nomark _)) (pe_and (pe_call (G_is_far.mono (by decide)) hr rfl D_is_far.mgx D_is_far.fn.kp D_is_far.bd .nil pass0 (pa_cons (pe_ix ix_tup (pv 0) pe_int (fun _ _ => rfl)) pa_nil)) (pe_one (pe_call (G_is_far.mono (by decide)) hr rfl D_is_far.mgx D_is_far.fn.kp D_is_far.bd .nil pass0 (pa_cons (pe_ix ix_tup (pv 0) pe_int (fun _ _ => rfl)) pa_nil)))))))), ?_⟩
    have e0 : L2.start ["thing"] [x] = [some (x)] := rfl
    rw [e0]; clear e0
    cases pq with
    | @ty _ n t hn =>
      simp only [tSeq, tIfS, tTest, tRet, tRetN, tNext, tDrop, tAsg, tPar, tPar3, tAug, tVar, tC, tOp, tUn, rI, rI0, rU, tB, tAnd, tOr, tNot, tAndV, tOrV, tNotV, tIf, gName, gNil, gCons, gTup, gSub, tCB, tCons, tNil, tCall, tChain, ipI, tIsN, tNotN, tBM, tyV, tTup, tLst, rAppend, rCat, scal_ii, scal_bb, scal_ss, scal_ni, scal_in, rEq, rNe, List.getElem?_cons_zero, List.getElem?_cons_succ, List.set_cons_zero, List.set_cons_succ, eq_self, and_assoc, Option.some.injEq, V.int.injEq, V.bl.injEq, V.ref.injEq, V.str.injEq, List.cons.injEq, exists_eq_left', exists_eq_left, exists_and_left, List.nil_append, List.cons_append, List.append_nil, true_and, and_true, decide_eq_true_eq, Bool.not_eq_true', decide_eq_false_iff_not, if_true, if_false, Bool.not_true, Bool.not_false, Bool.false_eq_true, reduceCtorEq, decide_true, decide_false, ite_true, ite_false, rSetL, rIxL, tRaise, jCons, jNil, tFmt, tDNew, rCount, rIndex, Int.reduceToNat, Int.reducePow, rIxT]
      refine isi t ⟨_, rfl, ?_⟩
      have e : isaB n "tuple" = false := by
        unfold isaB
        rw [beq_eq_false_iff_ne.mpr hn]
        simp
      rw [e]
      exact iteF k
    | len e hl =>
      simp only [tSeq, tIfS, tTest, tRet, tRetN, tNext, tDrop, tAsg, tPar, tPar3, tAug, tVar, tC, tOp, tUn, rI, rI0, rU, tB, tAnd, tOr, tNot, tAndV, tOrV, tNotV, tIf, gName, gNil, gCons, gTup, gSub, tCB, tCons, tNil, tCall, tChain, ipI, tIsN, tNotN, tBM, tyV, tTup, tLst, rAppend, rCat, scal_ii, scal_bb, scal_ss, scal_ni, scal_in, rEq, rNe, List.getElem?_cons_zero, List.getElem?_cons_succ, List.set_cons_zero, List.set_cons_succ, eq_self, and_assoc, Option.some.injEq, V.int.injEq, V.bl.injEq, V.ref.injEq, V.str.injEq, List.cons.injEq, exists_eq_left', exists_eq_left, exists_and_left, List.nil_append, List.cons_append, List.append_nil, true_and, and_true, decide_eq_true_eq, Bool.not_eq_true', decide_eq_false_iff_not, if_true, if_false, Bool.not_true, Bool.not_false, Bool.false_eq_true, reduceCtorEq, decide_true, decide_false, ite_true, ite_false, rSetL, rIxL, tRaise, jCons, jNil, tFmt, tDNew, rCount, rIndex, Int.reduceToNat, Int.reducePow, rIxT]
      refine isi (.tup e) ⟨_, rfl, iteT ?_⟩
      refine ⟨_, .inr (SqT.of e), ?_⟩
      rw [if_neg (by omega)]
      exact k
    | fst e t hf =>
      simp only [tSeq, tIfS, tTest, tRet, tRetN, tNext, tDrop, tAsg, tPar, tPar3, tAug, tVar, tC, tOp, tUn, rI, rI0, rU, tB, tAnd, tOr, tNot, tAndV, tOrV, tNotV, tIf, gName, gNil, gCons, gTup, gSub, tCB, tCons, tNil, tCall, tChain, ipI, tIsN, tNotN, tBM, tyV, tTup, tLst, rAppend, rCat, scal_ii, scal_bb, scal_ss, scal_ni, scal_in, rEq, rNe, List.getElem?_cons_zero, List.getElem?_cons_succ, List.set_cons_zero, List.set_cons_succ, eq_self, and_assoc, Option.some.injEq, V.int.injEq, V.bl.injEq, V.ref.injEq, V.str.injEq, List.cons.injEq, exists_eq_left', exists_eq_left, exists_and_left, List.nil_append, List.cons_append, List.append_nil, true_and, and_true, decide_eq_true_eq, Bool.not_eq_true', decide_eq_false_iff_not, if_true, if_false, Bool.not_true, Bool.not_false, Bool.false_eq_true, reduceCtorEq, decide_true, decide_false, ite_true, ite_false, rSetL, rIxL, tRaise, jCons, jNil, tFmt, tDNew, rCount, rIndex, Int.reduceToNat, Int.reducePow, rIxT]
      refine isi (.tup e) ⟨_, rfl, iteT ?_⟩
      refine ⟨_, .inr (SqT.of e), ?_⟩
      rw [if_pos (by rfl)]
      refine ⟨_, SqT.of e, _, rfl, _, _, rfl, t, _, rfl, ?_⟩
      rw [show isBet _ (-1000000000000000000000000000000) 1000000000000000000000000000000 = false from hf]
      exact iteF k
    | snd e t1 t2 h1 h2 =>
      simp only [tSeq, tIfS, tTest, tRet, tRetN, tNext, tDrop, tAsg, tPar, tPar3, tAug, tVar, tC, tOp, tUn, rI, rI0, rU, tB, tAnd, tOr, tNot, tAndV, tOrV, tNotV, tIf, gName, gNil, gCons, gTup, gSub, tCB, tCons, tNil, tCall, tChain, ipI, tIsN, tNotN, tBM, tyV, tTup, tLst, rAppend, rCat, scal_ii, scal_bb, scal_ss, scal_ni, scal_in, rEq, rNe, List.getElem?_cons_zero, List.getElem?_cons_succ, List.set_cons_zero, List.set_cons_succ, eq_self, and_assoc, Option.some.injEq, V.int.injEq, V.bl.injEq, V.ref.injEq, V.str.injEq, List.cons.injEq, exists_eq_left', exists_eq_left, exists_and_left, List.nil_append, List.cons_append, List.append_nil, true_and, and_true, decide_eq_true_eq, Bool.not_eq_true', decide_eq_false_iff_not, if_true, if_false, Bool.not_true, Bool.not_false, Bool.false_eq_true, reduceCtorEq, decide_true, decide_false, ite_true, ite_false, rSetL, rIxL, tRaise, jCons, jNil, tFmt, tDNew, rCount, rIndex, Int.reduceToNat, Int.reducePow, rIxT]
      refine isi (.tup e) ⟨_, rfl, iteT ?_⟩
      refine ⟨_, .inr (SqT.of e), ?_⟩
      rw [if_pos (by rfl)]
      refine ⟨_, SqT.of e, _, rfl, _, _, rfl, t1, _, rfl, ?_⟩
      rw [show isBet _ (-1000000000000000000000000000000) 1000000000000000000000000000000 = true from h1]
      refine iteT ?_
      refine ⟨_, SqT.of e, _, rfl, _, _, rfl, t2, ?_⟩
      rw [show isBet _ (-1000000000000000000000000000000) 1000000000000000000000000000000 = false from h2]
      exact k
    | yes e a1 a2 b1 b2 =>
      simp only [tSeq, tIfS, tTest, tRet, tRetN, tNext, tDrop, tAsg, tPar, tPar3, tAug, tVar, tC, tOp, tUn, rI, rI0, rU, tB, tAnd, tOr, tNot, tAndV, tOrV, tNotV, tIf, gName, gNil, gCons, gTup, gSub, tCB, tCons, tNil, tCall, tChain, ipI, tIsN, tNotN, tBM, tyV, tTup, tLst, rAppend, rCat, scal_ii, scal_bb, scal_ss, scal_ni, scal_in, rEq, rNe, List.getElem?_cons_zero, List.getElem?_cons_succ, List.set_cons_zero, List.set_cons_succ, eq_self, and_assoc, Option.some.injEq, V.int.injEq, V.bl.injEq, V.ref.injEq, V.str.injEq, List.cons.injEq, exists_eq_left', exists_eq_left, exists_and_left, List.nil_append, List.cons_append, List.append_nil, true_and, and_true, decide_eq_true_eq, Bool.not_eq_true', decide_eq_false_iff_not, if_true, if_false, Bool.not_true, Bool.not_false, Bool.false_eq_true, reduceCtorEq, decide_true, decide_false, ite_true, ite_false, rSetL, rIxL, tRaise, jCons, jNil, tFmt, tDNew, rCount, rIndex, Int.reduceToNat, Int.reducePow, rIxT]
      refine isi (.tup e) ⟨_, rfl, iteT ?_⟩
      refine ⟨_, .inr (SqT.of e), ?_⟩
      rw [if_pos (by rfl)]
      refine ⟨_, SqT.of e, _, rfl, _, _, rfl, .int _, _, rfl, ?_⟩
      rw [isBet_of (by omega) (by omega)]
      refine iteT ?_
      refine ⟨_, SqT.of e, _, rfl, _, _, rfl, .int _, ?_⟩
      rw [isBet_of (by omega) (by omega)]
      exact k
noncomputable abbrev O_is_pair (P : Program) (w : World) (K : PySem.W.Frag) (mg : Str → Option Value) (base : Heap) : Prop := ∃ f fd, Df_is_pair K mg f fd ∧ FnOk P w K mg base CX0 4 f fd ["thing"] (spIsPair K)
noncomputable abbrev s_want_pair : Stmt := top 26
theorem sc_want_pair : FnScope ["thing", "name"] ["thing", "name"] (defScope s_want_pair) := ⟨rfl, rfl, rfl, by decide +kernel, rfl, by decide +kernel, by decide +kernel⟩
noncomputable abbrev Df_want_pair (K : PySem.W.Frag) (mg : Str → Option Value) (f : Addr) (fd : FuncData) : Prop := Def K mg "want_pair" s_want_pair ["thing", "name"] f fd
noncomputable def spWantP (K : PySem.W.Frag) (cl : Cl) : Sp := fun vs H Q E => ∃ (x : V) (b : Bool) (nm : Str), vs = [x, .str nm] ∧ PQ K H x b ∧ nm.length ≤ 100 ∧ (b = true → Q .non H) ∧ (b = false → E (.ref cl.pa) none H)
theorem ok_want_pair (D : Df_want_pair K mg f fd) (T : Txt K mg t1 cl) (o1 : O_is_pair P w K mg base) : FnOk P w K mg base (CXE P w) 5 f fd ["thing", "name"] (spWantP K cl) := by
  obtain ⟨_, _, D_is_pair, G_is_pair⟩ := o1
  refine D.fn.okX sc_want_pair (fun vs H Q E h => ?_) (fun cdv A outer s H vs Q E hr h => ?_)
  · obtain ⟨x, b, nm, rfl, _⟩ := h
    rfl
  · obtain ⟨x, b, nm, rfl, pq, b3, k1, k2⟩ := h
    refine ⟨_, (pss_one (ps_if (pt_not (pt_val (pe_call (G_is_pair.mono (by decide)) hr rfl D_is_pair.mgx D_is_pair.fn.kp D_is_pair.bd .nil pass0 (pa_cons (pv 0) pa_nil))))
 (pss_one (ps_raise raises_cx rfl rfl T.mg_NoPair T.xc_NoPair (pe_joined (pj_cons (pe_fmt (pv 1)) (pj_cons pe_str pj_nil)))))
 pss_nil)), ?_⟩
    have e0 : L2.start ["thing", "name"] [x, .str nm] = [some (x), some (.str nm)] := rfl
    rw [e0]; clear e0
    simp only [tSeq, tIfS, tTest, tRet, tRetN, tNext, tDrop, tAsg, tPar, tPar3, tAug, tVar, tC, tOp, tUn, rI, rI0, rU, tB, tAnd, tOr, tNot, tAndV, tOrV, tNotV, tIf, gName, gNil, gCons, gTup, gSub, tCB, tCons, tNil, tCall, tChain, ipI, tIsN, tNotN, tBM, tyV, tTup, tLst, rAppend, rCat, scal_ii, scal_bb, scal_ss, scal_ni, scal_in, rEq, rNe, List.getElem?_cons_zero, List.getElem?_cons_succ, List.set_cons_zero, List.set_cons_succ, eq_self, and_assoc, Option.some.injEq, V.int.injEq, V.bl.injEq, V.ref.injEq, V.str.injEq, List.cons.injEq, exists_eq_left', exists_eq_left, exists_and_left, List.nil_append, List.cons_append, List.append_nil, true_and, and_true, decide_eq_true_eq, Bool.not_eq_true', decide_eq_false_iff_not, if_true, if_false, Bool.not_true, Bool.not_false, Bool.false_eq_true, reduceCtorEq, decide_true, decide_false, ite_true, ite_false, rSetL, rIxL, tRaise, jCons, jNil, tFmt, tDNew, rCount, rIndex, Int.reduceToNat, Int.reducePow]
    refine ⟨x, b, rfl, pq, _, rfl, ?_⟩
    cases b with
    | true => rw [if_neg (by decide)]; exact k1 rfl
    | false =>
      rw [if_pos rfl]
      have e0 : Str.empty.length = 0 := rfl
      have e1 : (Str.ofString " is no tuple of two far numbers").length = 31 := by rfl
      refine .inl ⟨?_, ?_, ?_, ?_, k2 rfl⟩ <;> (try simp only [Str.length_append, e0, e1]) <;> exact Nat.le_of_lt (small1000 (by omega))
noncomputable abbrev O_want_pair (P : Program) (w : World) (K : PySem.W.Frag) (mg : Str → Option Value) (base : Heap) (cl : Cl) : Prop := ∃ f fd, Df_want_pair K mg f fd ∧ FnOk P w K mg base (CXE P w) 5 f fd ["thing", "name"] (spWantP K cl)
noncomputable abbrev prV (P : PZ) : List V := [.int P.1, .int P.2]
structure Sm (P : PZ) : Prop where
  a : P.1.natAbs < 10 ^ 31
  b : P.2.natAbs < 10 ^ 31
structure Fr (P : PZ) : Prop where
  a0 : -(10 ^ 30) ≤ P.1
  a1 : P.1 ≤ 10 ^ 30
  b0 : -(10 ^ 30) ≤ P.2
  b1 : P.2 ≤ 10 ^ 30
theorem Fr.sm {P : PZ} (h : Fr P) : Sm P := by
  have := h.a0; have := h.a1; have := h.b0; have := h.b1
  exact ⟨by omega, by omega⟩
theorem rst_sm {n : Int} {P : PZ} (r : Rst n P) (h : n ≤ 10 ^ 30) : Sm P := by
  have := r.a0; have := r.a1; have := r.b0; have := r.b1
  exact ⟨by omega, by omega⟩
theorem Sm.rp {n : Int} (hn : 0 < n) (h : n ≤ 10 ^ 30) (P : PZ) : Sm (rp n P) := rst_sm (Rst.of hn P) h
theorem Fr.pq {H : Hp} {p : Addr} {A : PZ} (h : Fr A) (e : H p = some (.tup (prV A))) : PQ K H (.ref p) true := .yes e h.a0 h.a1 h.b0 h.b1
theorem ten100 {z : Int} (h : z.natAbs < 10 ^ 31) : z.natAbs < 10 ^ 100 := by omega
noncomputable def spProd (K : PySem.W.Frag) : Sp := fun vs H Q _ => ∃ (p q : Addr) (A B : PZ) (d n : Int), vs = [.ref p, .ref q, .int d, .int n] ∧ SqT K H p (prV A) ∧ SqT K H q (prV B) ∧ (Sm A ∧ Sm B ∧ d.natAbs < 10 ^ 31 ∧ 0 < n ∧ n ≤ 10 ^ 30) ∧ ∀ r, H r = none → Q (.ref r) (upd H r (.tup (prV (rp n (pm d A B)))))
noncomputable abbrev s_pair_product : Stmt := top 27
theorem sc_pair_product : FnScope ["one", "other", "d", "n", "x", "y", "z", "w"] ["one", "other", "d", "n"] (defScope s_pair_product) := ⟨rfl, rfl, rfl, by decide +kernel, rfl, by decide +kernel, by decide +kernel⟩
noncomputable abbrev Df_pair_product (K : PySem.W.Frag) (mg : Str → Option Value) (f : Addr) (fd : FuncData) : Prop := Def K mg "pair_product" s_pair_product ["one", "other", "d", "n"] f fd
theorem ok_pair_product (D : Df_pair_product K mg f fd) (T : Txt K mg t1 cl) : FnOk P w K mg base CX0 1 f fd ["one", "other", "d", "n"] (spProd K) := by
  refine D.fn.ok sc_pair_product (fun vs H Q E h => ?_) (fun cdv A outer s H vs Q E hr h => ?_)
  · obtain ⟨p, q, A, B, d, n, rfl, _⟩ := h
    rfl
  · obtain ⟨p, q, A, B, d, n, rfl, hp, hq, ⟨sa, sb, hd, hn, hn2⟩, k⟩ := h
    refine ⟨_, (pss_cons (ps_asg (pv 0) (pg_tup rfl (pgs_cons (pg_name (i := 4) sc_pair_product.nd rfl (by first | exact Or.inl rfl | exact Or.inr rfl)) (pgs_cons (pg_name (i := 5) sc_pair_product.nd rfl (by first | exact Or.inl rfl | exact Or.inr rfl)) pgs_nil))))
 (pss_cons (ps_asg (pv 1) (pg_tup rfl (pgs_cons (pg_name (i := 6) sc_pair_product.nd rfl (by first | exact Or.inl rfl | exact Or.inr rfl)) (pgs_cons (pg_name (i := 7) sc_pair_product.nd rfl (by first | exact Or.inl rfl | exact Or.inr rfl)) pgs_nil))))
 (pss_one (ps_ret (pe_tup (pa_cons (pe_op op_mod (pe_op op_add (pe_op op_mulB (pv 4) (pv 6)) (pe_op op_mulB (pe_op op_mulB (pv 2) (pv 5)) (pv 7))) (pv 3)) (pa_cons (pe_op op_mod (pe_op op_add (pe_op op_mulB (pv 4) (pv 7)) (pe_op op_mulB (pv 5) (pv 6))) (pv 3)) pa_nil))))))), ?_⟩
    have e0 : L2.start ["one", "other", "d", "n", "x", "y", "z", "w"] [.ref p, .ref q, .int d, .int n] = [some (.ref p), some (.ref q), some (.int d), some (.int n), none, none, none, none] := rfl
    rw [e0]; clear e0
    simp only [tSeq, tIfS, tTest, tRet, tRetN, tNext, tDrop, tAsg, tPar, tPar3, tAug, tVar, tC, tOp, tUn, rI, rI0, rU, tB, tAnd, tOr, tNot, tAndV, tOrV, tNotV, tIf, gName, gNil, gCons, gTup, gSub, tCB, tCons, tNil, tCall, tChain, ipI, tIsN, tNotN, tBM, tyV, tTup, tLst, rAppend, rCat, scal_ii, scal_bb, scal_ss, scal_ni, scal_in, rEq, rNe, List.getElem?_cons_zero, List.getElem?_cons_succ, List.set_cons_zero, List.set_cons_succ, eq_self, and_assoc, Option.some.injEq, V.int.injEq, V.bl.injEq, V.ref.injEq, V.str.injEq, List.cons.injEq, exists_eq_left', exists_eq_left, exists_and_left, List.nil_append, List.cons_append, List.append_nil, true_and, and_true, decide_eq_true_eq, Bool.not_eq_true', decide_eq_false_iff_not, if_true, if_false, Bool.not_true, Bool.not_false, Bool.false_eq_true, reduceCtorEq, decide_true, decide_false, ite_true, ite_false, rSetL, rIxL, tRaise, jCons, jNil, tFmt, tDNew, rCount, rIndex, Int.reduceToNat, Int.reducePow]
    refine ⟨_, hp, rfl, ?_⟩
    simp only [tSeq, tIfS, tTest, tRet, tRetN, tNext, tDrop, tAsg, tPar, tPar3, tAug, tVar, tC, tOp, tUn, rI, rI0, rU, tB, tAnd, tOr, tNot, tAndV, tOrV, tNotV, tIf, gName, gNil, gCons, gTup, gSub, tCB, tCons, tNil, tCall, tChain, ipI, tIsN, tNotN, tBM, tyV, tTup, tLst, rAppend, rCat, scal_ii, scal_bb, scal_ss, scal_ni, scal_in, rEq, rNe, List.getElem?_cons_zero, List.getElem?_cons_succ, List.set_cons_zero, List.set_cons_succ, eq_self, and_assoc, Option.some.injEq, V.int.injEq, V.bl.injEq, V.ref.injEq, V.str.injEq, List.cons.injEq, exists_eq_left', exists_eq_left, exists_and_left, List.nil_append, List.cons_append, List.append_nil, true_and, and_true, decide_eq_true_eq, Bool.not_eq_true', decide_eq_false_iff_not, if_true, if_false, Bool.not_true, Bool.not_false, Bool.false_eq_true, reduceCtorEq, decide_true, decide_false, ite_true, ite_false, rSetL, rIxL, tRaise, jCons, jNil, tFmt, tDNew, rCount, rIndex, Int.reduceToNat, Int.reducePow]
    refine ⟨_, hq, rfl, ?_⟩
    simp only [tSeq, tIfS, tTest, tRet, tRetN, tNext, tDrop, tAsg, tPar, tPar3, tAug, tVar, tC, tOp, tUn, rI, rI0, rU, tB, tAnd, tOr, tNot, tAndV, tOrV, tNotV, tIf, gName, gNil, gCons, gTup, gSub, tCB, tCons, tNil, tCall, tChain, ipI, tIsN, tNotN, tBM, tyV, tTup, tLst, rAppend, rCat, scal_ii, scal_bb, scal_ss, scal_ni, scal_in, rEq, rNe, List.getElem?_cons_zero, List.getElem?_cons_succ, List.set_cons_zero, List.set_cons_succ, eq_self, and_assoc, Option.some.injEq, V.int.injEq, V.bl.injEq, V.ref.injEq, V.str.injEq, List.cons.injEq, exists_eq_left', exists_eq_left, exists_and_left, List.nil_append, List.cons_append, List.append_nil, true_and, and_true, decide_eq_true_eq, Bool.not_eq_true', decide_eq_false_iff_not, if_true, if_false, Bool.not_true, Bool.not_false, Bool.false_eq_true, reduceCtorEq, decide_true, decide_false, ite_true, ite_false, rSetL, rIxL, tRaise, jCons, jNil, tFmt, tDNew, rCount, rIndex, Int.reduceToNat, Int.reducePow]
    exact ⟨.inr ⟨ten100 sa.a, ten100 sb.a⟩, .inr ⟨ten100 hd, ten100 sa.b⟩, .inr ⟨nb_mul hd sa.b (by decide), ten100 sb.b⟩, hn, .inr ⟨ten100 sa.a, ten100 sb.b⟩, .inr ⟨ten100 sa.b, ten100 sb.a⟩, hn, by show 2 ≤ sizeLine; decide, fun r hr' => k r hr'⟩
noncomputable abbrev O_pair_product (P : Program) (w : World) (K : PySem.W.Frag) (mg : Str → Option Value) (base : Heap) : Prop := ∃ f fd, Df_pair_product K mg f fd ∧ FnOk P w K mg base CX0 1 f fd ["one", "other", "d", "n"] (spProd K)
noncomputable abbrev s_norm_rest : Stmt := top 29
theorem sc_norm_rest : FnScope ["pair", "d", "n", "x", "y"] ["pair", "d", "n"] (defScope s_norm_rest) := ⟨rfl, rfl, rfl, by decide +kernel, rfl, by decide +kernel, by decide +kernel⟩
noncomputable abbrev Df_norm_rest (K : PySem.W.Frag) (mg : Str → Option Value) (f : Addr) (fd : FuncData) : Prop := Def K mg "norm_rest" s_norm_rest ["pair", "d", "n"] f fd
noncomputable def spNorm (K : PySem.W.Frag) : Sp := fun vs H Q _ => ∃ (p : Addr) (A : PZ) (d n : Int), vs = [.ref p, .int d, .int n] ∧ SqT K H p (prV A) ∧ (Sm A ∧ d.natAbs < 10 ^ 31 ∧ 0 < n ∧ n ≤ 10 ^ 30) ∧ Q (.int ((A.1 * A.1 - d * A.2 * A.2) % n)) H
theorem ok_norm_rest (D : Df_norm_rest K mg f fd) (T : Txt K mg t1 cl) : FnOk P w K mg base CX0 1 f fd ["pair", "d", "n"] (spNorm K) := by
  refine D.fn.ok sc_norm_rest (fun vs H Q E h => ?_) (fun cdv A outer s H vs Q E hr h => ?_)
  · obtain ⟨p, A, d, n, rfl, _⟩ := h
    rfl
  · obtain ⟨p, A, d, n, rfl, hp, ⟨sa, hd, hn, hn2⟩, k⟩ := h
    refine ⟨_, (pss_cons (ps_asg (pv 0) (pg_tup rfl (pgs_cons (pg_name (i := 3) sc_norm_rest.nd rfl (by first | exact Or.inl rfl | exact Or.inr rfl)) (pgs_cons (pg_name (i := 4) sc_norm_rest.nd rfl (by first | exact Or.inl rfl | exact Or.inr rfl)) pgs_nil))))
 (pss_one (ps_ret (pe_op op_mod (pe_op op_sub (pe_op op_mulB (pv 3) (pv 3)) (pe_op op_mulB (pe_op op_mulB (pv 1) (pv 4)) (pv 4))) (pv 2))))), ?_⟩
    have e0 : L2.start ["pair", "d", "n", "x", "y"] [.ref p, .int d, .int n] = [some (.ref p), some (.int d), some (.int n), none, none] := rfl
    rw [e0]; clear e0
    simp only [tSeq, tIfS, tTest, tRet, tRetN, tNext, tDrop, tAsg, tPar, tPar3, tAug, tVar, tC, tOp, tUn, rI, rI0, rU, tB, tAnd, tOr, tNot, tAndV, tOrV, tNotV, tIf, gName, gNil, gCons, gTup, gSub, tCB, tCons, tNil, tCall, tChain, ipI, tIsN, tNotN, tBM, tyV, tTup, tLst, rAppend, rCat, scal_ii, scal_bb, scal_ss, scal_ni, scal_in, rEq, rNe, List.getElem?_cons_zero, List.getElem?_cons_succ, List.set_cons_zero, List.set_cons_succ, eq_self, and_assoc, Option.some.injEq, V.int.injEq, V.bl.injEq, V.ref.injEq, V.str.injEq, List.cons.injEq, exists_eq_left', exists_eq_left, exists_and_left, List.nil_append, List.cons_append, List.append_nil, true_and, and_true, decide_eq_true_eq, Bool.not_eq_true', decide_eq_false_iff_not, if_true, if_false, Bool.not_true, Bool.not_false, Bool.false_eq_true, reduceCtorEq, decide_true, decide_false, ite_true, ite_false, rSetL, rIxL, tRaise, jCons, jNil, tFmt, tDNew, rCount, rIndex, Int.reduceToNat, Int.reducePow]
    refine ⟨_, hp, rfl, ?_⟩
    simp only [tSeq, tIfS, tTest, tRet, tRetN, tNext, tDrop, tAsg, tPar, tPar3, tAug, tVar, tC, tOp, tUn, rI, rI0, rU, tB, tAnd, tOr, tNot, tAndV, tOrV, tNotV, tIf, gName, gNil, gCons, gTup, gSub, tCB, tCons, tNil, tCall, tChain, ipI, tIsN, tNotN, tBM, tyV, tTup, tLst, rAppend, rCat, scal_ii, scal_bb, scal_ss, scal_ni, scal_in, rEq, rNe, List.getElem?_cons_zero, List.getElem?_cons_succ, List.set_cons_zero, List.set_cons_succ, eq_self, and_assoc, Option.some.injEq, V.int.injEq, V.bl.injEq, V.ref.injEq, V.str.injEq, List.cons.injEq, exists_eq_left', exists_eq_left, exists_and_left, List.nil_append, List.cons_append, List.append_nil, true_and, and_true, decide_eq_true_eq, Bool.not_eq_true', decide_eq_false_iff_not, if_true, if_false, Bool.not_true, Bool.not_false, Bool.false_eq_true, reduceCtorEq, decide_true, decide_false, ite_true, ite_false, rSetL, rIxL, tRaise, jCons, jNil, tFmt, tDNew, rCount, rIndex, Int.reduceToNat, Int.reducePow]
    exact ⟨.inr ⟨ten100 sa.a, ten100 sa.a⟩, .inr ⟨ten100 hd, ten100 sa.b⟩, .inr ⟨nb_mul hd sa.b (by decide), ten100 sa.b⟩, hn, k⟩
noncomputable abbrev O_norm_rest (P : Program) (w : World) (K : PySem.W.Frag) (mg : Str → Option Value) (base : Heap) : Prop := ∃ f fd, Df_norm_rest K mg f fd ∧ FnOk P w K mg base CX0 1 f fd ["pair", "d", "n"] (spNorm K)
noncomputable abbrev s_pair_power : Stmt := top 28
theorem sc_pair_power : FnScope ["pair", "often", "d", "n", "done", "square", "left"] ["pair", "often", "d", "n"] (defScope s_pair_power) := ⟨rfl, rfl, rfl, by decide +kernel, rfl, by decide +kernel, by decide +kernel⟩
noncomputable abbrev Df_pair_power (K : PySem.W.Frag) (mg : Str → Option Value) (f : Addr) (fd : FuncData) : Prop := Def K mg "pair_power" s_pair_power ["pair", "often", "d", "n"] f fd
noncomputable def spPP (K : PySem.W.Frag) : Sp := fun vs H Q _ => ∃ (p : Addr) (A : PZ) (o d n : Int), vs = [.ref p, .int o, .int d, .int n] ∧ H p = some (.tup (prV A)) ∧ (Sm A ∧ 0 ≤ o ∧ o ≤ 10 ^ 30 ∧ d.natAbs < 10 ^ 31 ∧ 0 < n ∧ n ≤ 10 ^ 30) ∧ ∀ r H', Same H H' → H' r = some (.tup (prV (rp n (pw d A o.toNat)))) → Q (.ref r) H'
theorem keep {H : Hp} {p q : Addr} {o u : HO} (e : H q = some o) (hp : H p = none) : (upd H p u) q = some o := by rw [upd_ne (ne_of_none e hp)]; exact e
theorem ok_pair_power (D : Df_pair_power K mg f fd) (T : Txt K mg t1 cl) (o1 : O_pair_product P w K mg base) : FnOk P w K mg base CX0 2 f fd ["pair", "often", "d", "n"] (spPP K) := by
  obtain ⟨_, _, D_pair_product, G_pair_product⟩ := o1
  refine D.fn.ok sc_pair_power (fun vs H Q E h => ?_) (fun cdv A outer s H vs Q E hr h => ?_)
  · obtain ⟨p, A, o, d, n, rfl, _⟩ := h
    rfl
  · obtain ⟨p, A, o, d, n, rfl, hp, ⟨sa, ho, ho2, hd, hn, hn2⟩, k⟩ := h
    refine ⟨_, (pss_cons (ps_set (i := 4) sc_pair_power.nd rfl (by first | exact Or.inl rfl | exact Or.inr rfl) (pe_tup (pa_cons (pe_op op_mod pe_int (pv 3)) (pa_cons pe_int pa_nil))))
 (pss_cons (ps_set (i := 5) sc_pair_power.nd rfl (by first | exact Or.inl rfl | exact Or.inr rfl) (pe_tup (pa_cons (pe_op op_mod (pe_ix ix_tup (pv 0) pe_int (fun _ _ => rfl)) (pv 3)) (pa_cons (pe_op op_mod (pe_ix ix_tup (pv 0) pe_int (fun _ _ => rfl)) (pv 3)) pa_nil))))
 (pss_cons (ps_set (i := 6) sc_pair_power.nd rfl (by first | exact Or.inl rfl | exact Or.inr rfl) (pv 1))
 (pss_cons (ps_while PassesOwn.never (pt_cmpR op_gt (pv 6) pe_int (nomark _))
 (pss_cons (ps_if (pt_cmpR op_eq (pe_op op_mod (pv 6) pe_int) pe_int (nomark _))
 (pss_one (ps_set (i := 4) sc_pair_power.nd rfl (by first | exact Or.inl rfl | exact Or.inr rfl) (pe_call (G_pair_product.mono (by decide)) hr rfl D_pair_product.mgx D_pair_product.fn.kp D_pair_product.bd .nil pass0 (pa_cons (pv 4) (pa_cons (pv 5) (pa_cons (pv 2) (pa_cons (pv 3) pa_nil)))))))
 pss_nil)
 (pss_cons (ps_set (i := 5) sc_pair_power.nd rfl (by first | exact Or.inl rfl | exact Or.inr rfl) (pe_call (G_pair_product.mono (by decide)) hr rfl D_pair_product.mgx D_pair_product.fn.kp D_pair_product.bd .nil pass0 (pa_cons (pv 5) (pa_cons (pv 5) (pa_cons (pv 2) (pa_cons (pv 3) pa_nil))))))
 (pss_one (ps_set (i := 6) sc_pair_power.nd rfl (by first | exact Or.inl rfl | exact Or.inr rfl) (pe_op op_fdivB (pv 6) pe_int))))))
 (pss_one (ps_ret (pv 4))))))), ?_⟩
    have e0 : L2.start ["pair", "often", "d", "n", "done", "square", "left"] [.ref p, .int o, .int d, .int n] = [some (.ref p), some (.int o), some (.int d), some (.int n), none, none, none] := rfl
    rw [e0]; clear e0
    simp only [tSeq, tIfS, tTest, tRet, tRetN, tNext, tDrop, tAsg, tPar, tPar3, tAug, tVar, tC, tOp, tUn, rI, rI0, rU, tB, tAnd, tOr, tNot, tAndV, tOrV, tNotV, tIf, gName, gNil, gCons, gTup, gSub, tCB, tCons, tNil, tCall, tChain, ipI, tIsN, tNotN, tBM, tyV, tTup, tLst, rAppend, rCat, scal_ii, scal_bb, scal_ss, scal_ni, scal_in, rEq, rNe, List.getElem?_cons_zero, List.getElem?_cons_succ, List.set_cons_zero, List.set_cons_succ, eq_self, and_assoc, Option.some.injEq, V.int.injEq, V.bl.injEq, V.ref.injEq, V.str.injEq, List.cons.injEq, exists_eq_left', exists_eq_left, exists_and_left, List.nil_append, List.cons_append, List.append_nil, true_and, and_true, decide_eq_true_eq, Bool.not_eq_true', decide_eq_false_iff_not, if_true, if_false, Bool.not_true, Bool.not_false, Bool.false_eq_true, reduceCtorEq, decide_true, decide_false, ite_true, ite_false, rSetL, rIxL, tRaise, jCons, jNil, tFmt, tDNew, rCount, rIndex, Int.reduceToNat, Int.reducePow, rIxT]
    refine ⟨hn, by show 2 ≤ sizeLine; decide, fun p1 hp1 => ?_⟩
    have hp2 := keep (u := .tup [V.int (1 % n), V.int 0]) hp hp1
    have s1 : Same H (upd H p1 (.tup [V.int (1 % n), V.int 0])) := fun b o e => keep e hp1
    have e1 : (upd H p1 (.tup [V.int (1 % n), V.int 0])) p1 = some (.tup (prV (1 % n, 0))) := upd_same
    generalize upd H p1 (.tup [V.int (1 % n), V.int 0]) = H1 at hp2 s1 e1 ⊢
    refine ⟨_, SqT.of hp2, _, rfl, _, rfl, hn, _, SqT.of hp2, _, rfl, _, rfl, hn, by show 2 ≤ sizeLine; decide, fun p3 hp3 => ?_⟩
    have s2 : Same H (upd H1 p3 (.tup (prV (rp n A)))) := fun b o e => keep (s1 _ _ e) hp3
    have e2 : (upd H1 p3 (.tup (prV (rp n A)))) p1 = some (.tup (prV (1 % n, 0))) := keep e1 hp3
    have e3 : (upd H1 p3 (.tup (prV (rp n A)))) p3 = some (.tup (prV (rp n A))) := upd_same
    obtain ⟨W, hW⟩ : ∃ W : Nat → St → Hp → Prop, ∀ m σ H', W m σ H' ↔ ∃ (pd ps : Addr) (D S : PZ) (l : Int), m = l.toNat ∧ σ = [some (.ref p), some (.int o), some (.int d), some (.int n), some (.ref pd), some (.ref ps), some (.int l)] ∧ Same H H' ∧ H' pd = some (.tup (prV D)) ∧ H' ps = some (.tup (prV S)) ∧ PPInv d n A o D S l := ⟨_, fun _ _ _ => Iff.rfl⟩
    refine ⟨W, ⟨_, (hW _ _ _).mpr ⟨p1, p3, (1 % n, 0), rp n A, o, rfl, rfl, s2, e2, e3, pp_start hn ho⟩⟩, ?_⟩
    intro m σ H' hw
    obtain ⟨pd, ps, D, S, l, rfl, rfl, sm, ed, es, I⟩ := (hW _ _ _).mp hw
    clear hw
    have l0 := I.l0
    simp only [tSeq, tIfS, tTest, tRet, tRetN, tNext, tDrop, tAsg, tPar, tPar3, tAug, tVar, tC, tOp, tUn, rI, rI0, rU, tB, tAnd, tOr, tNot, tAndV, tOrV, tNotV, tIf, gName, gNil, gCons, gTup, gSub, tCB, tCons, tNil, tCall, tChain, ipI, tIsN, tNotN, tBM, tyV, tTup, tLst, rAppend, rCat, scal_ii, scal_bb, scal_ss, scal_ni, scal_in, rEq, rNe, List.getElem?_cons_zero, List.getElem?_cons_succ, List.set_cons_zero, List.set_cons_succ, eq_self, and_assoc, Option.some.injEq, V.int.injEq, V.bl.injEq, V.ref.injEq, V.str.injEq, List.cons.injEq, exists_eq_left', exists_eq_left, exists_and_left, List.nil_append, List.cons_append, List.append_nil, true_and, and_true, decide_eq_true_eq, Bool.not_eq_true', decide_eq_false_iff_not, if_true, if_false, Bool.not_true, Bool.not_false, Bool.false_eq_true, reduceCtorEq, decide_true, decide_false, ite_true, ite_false, rSetL, rIxL, tRaise, jCons, jNil, tFmt, tDNew, rCount, rIndex, Int.reduceToNat, Int.reducePow]
    refine ite2 (fun hl => ?_) (fun hl => ?_)
    · refine ⟨fun σ' H2 => ∃ m', m' < l.toNat ∧ W m' σ' H2, fun _ _ h => h, ?_⟩
      have c3 : CDivB l 2 := ⟨by decide, by decide⟩
      refine ⟨by decide, ?_⟩
      refine ite2 (fun ho => ?_) (fun ho => ?_)
      · refine ⟨pd, ps, D, S, d, n, rfl, SqT.of ed, SqT.of es, ⟨rst_sm I.rd hn2, rst_sm I.rs hn2, hd, hn, hn2⟩, fun r1 hr1 => ?_⟩
        simp only [tSeq, tIfS, tTest, tRet, tRetN, tNext, tDrop, tAsg, tPar, tPar3, tAug, tVar, tC, tOp, tUn, rI, rI0, rU, tB, tAnd, tOr, tNot, tAndV, tOrV, tNotV, tIf, gName, gNil, gCons, gTup, gSub, tCB, tCons, tNil, tCall, tChain, ipI, tIsN, tNotN, tBM, tyV, tTup, tLst, rAppend, rCat, scal_ii, scal_bb, scal_ss, scal_ni, scal_in, rEq, rNe, List.getElem?_cons_zero, List.getElem?_cons_succ, List.set_cons_zero, List.set_cons_succ, eq_self, and_assoc, Option.some.injEq, V.int.injEq, V.bl.injEq, V.ref.injEq, V.str.injEq, List.cons.injEq, exists_eq_left', exists_eq_left, exists_and_left, List.nil_append, List.cons_append, List.append_nil, true_and, and_true, decide_eq_true_eq, Bool.not_eq_true', decide_eq_false_iff_not, if_true, if_false, Bool.not_true, Bool.not_false, Bool.false_eq_true, reduceCtorEq, decide_true, decide_false, ite_true, ite_false, rSetL, rIxL, tRaise, jCons, jNil, tFmt, tDNew, rCount, rIndex, Int.reduceToNat, Int.reducePow]
        have es1 := keep (u := .tup (prV (rp n (pm d D S)))) es hr1
        refine ⟨ps, ps, S, S, d, n, rfl, SqT.of es1, SqT.of es1, ⟨rst_sm I.rs hn2, rst_sm I.rs hn2, hd, hn, hn2⟩, fun r2 hr2 => ?_⟩
        simp only [tSeq, tIfS, tTest, tRet, tRetN, tNext, tDrop, tAsg, tPar, tPar3, tAug, tVar, tC, tOp, tUn, rI, rI0, rU, tB, tAnd, tOr, tNot, tAndV, tOrV, tNotV, tIf, gName, gNil, gCons, gTup, gSub, tCB, tCons, tNil, tCall, tChain, ipI, tIsN, tNotN, tBM, tyV, tTup, tLst, rAppend, rCat, scal_ii, scal_bb, scal_ss, scal_ni, scal_in, rEq, rNe, List.getElem?_cons_zero, List.getElem?_cons_succ, List.set_cons_zero, List.set_cons_succ, eq_self, and_assoc, Option.some.injEq, V.int.injEq, V.bl.injEq, V.ref.injEq, V.str.injEq, List.cons.injEq, exists_eq_left', exists_eq_left, exists_and_left, List.nil_append, List.cons_append, List.append_nil, true_and, and_true, decide_eq_true_eq, Bool.not_eq_true', decide_eq_false_iff_not, if_true, if_false, Bool.not_true, Bool.not_false, Bool.false_eq_true, reduceCtorEq, decide_true, decide_false, ite_true, ite_false, rSetL, rIxL, tRaise, jCons, jNil, tFmt, tDNew, rCount, rIndex, Int.reduceToNat, Int.reducePow]
        exact ⟨c3, _, by omega, (hW _ _ _).mpr ⟨r1, r2, _, _, l / 2, rfl, rfl, fun b o e => keep (keep (sm _ _ e) hr1) hr2, keep upd_same hr2, upd_same, pp_odd hn I ho⟩⟩
      · refine ⟨ps, ps, S, S, d, n, rfl, SqT.of es, SqT.of es, ⟨rst_sm I.rs hn2, rst_sm I.rs hn2, hd, hn, hn2⟩, fun r2 hr2 => ?_⟩
        simp only [tSeq, tIfS, tTest, tRet, tRetN, tNext, tDrop, tAsg, tPar, tPar3, tAug, tVar, tC, tOp, tUn, rI, rI0, rU, tB, tAnd, tOr, tNot, tAndV, tOrV, tNotV, tIf, gName, gNil, gCons, gTup, gSub, tCB, tCons, tNil, tCall, tChain, ipI, tIsN, tNotN, tBM, tyV, tTup, tLst, rAppend, rCat, scal_ii, scal_bb, scal_ss, scal_ni, scal_in, rEq, rNe, List.getElem?_cons_zero, List.getElem?_cons_succ, List.set_cons_zero, List.set_cons_succ, eq_self, and_assoc, Option.some.injEq, V.int.injEq, V.bl.injEq, V.ref.injEq, V.str.injEq, List.cons.injEq, exists_eq_left', exists_eq_left, exists_and_left, List.nil_append, List.cons_append, List.append_nil, true_and, and_true, decide_eq_true_eq, Bool.not_eq_true', decide_eq_false_iff_not, if_true, if_false, Bool.not_true, Bool.not_false, Bool.false_eq_true, reduceCtorEq, decide_true, decide_false, ite_true, ite_false, rSetL, rIxL, tRaise, jCons, jNil, tFmt, tDNew, rCount, rIndex, Int.reduceToNat, Int.reducePow]
        exact ⟨c3, _, by omega, (hW _ _ _).mpr ⟨pd, r2, _, _, l / 2, rfl, rfl, fun b o e => keep (sm _ _ e) hr2, keep ed hr2, upd_same, pp_even hn I ho⟩⟩
    · have e := pp_end I hl
      rw [e] at ed
      exact k _ _ sm ed
noncomputable abbrev O_pair_power (P : Program) (w : World) (K : PySem.W.Frag) (mg : Str → Option Value) (base : Heap) : Prop := ∃ f fd, Df_pair_power K mg f fd ∧ FnOk P w K mg base CX0 2 f fd ["pair", "often", "d", "n"] (spPP K)
noncomputable abbrev s_paired : Stmt := top 22
theorem sc_paired : FnScope ["one", "other", "d", "n"] ["one", "other", "d", "n"] (defScope s_paired) := ⟨rfl, rfl, rfl, by decide +kernel, rfl, by decide +kernel, by decide +kernel⟩
noncomputable abbrev Df_paired (K : PySem.W.Frag) (mg : Str → Option Value) (f : Addr) (fd : FuncData) : Prop := Def K mg "paired" s_paired ["one", "other", "d", "n"] f fd
noncomputable abbrev numB (x : V) : Bool := isBet x 1 1000000000000000000000000000000
noncomputable abbrev oftB (x : V) : Bool := isBet x 0 1000000000000000000000000000000
noncomputable def spPaired (K : PySem.W.Frag) (cl : Cl) : Sp := fun vs H Q E => ∃ (u v x3 x4 : V), vs = [u, v, x3, x4] ∧
  ((PQ K H u false ∧ E (.ref cl.pa) none H) ∨ (PQ K H u true ∧ PQ K H v false ∧ E (.ref cl.pa) none H) ∨
   (∃ n, PQ K H u true ∧ PQ K H v true ∧ TyOf K H x3 (.type n) ∧ farB x3 = false ∧ E (.ref cl.nn) none H) ∨
   (∃ n m, PQ K H u true ∧ PQ K H v true ∧ TyOf K H x3 (.type n) ∧ TyOf K H x4 (.type m) ∧ farB x3 = true ∧ numB x4 = false ∧ E (.ref cl.nn) none H) ∨
   (∃ p q A B d n, u = .ref p ∧ v = .ref q ∧ x3 = .int d ∧ x4 = .int n ∧ H p = some (.tup (prV A)) ∧ H q = some (.tup (prV B)) ∧ (Fr A ∧ Fr B ∧ -(10 ^ 30) ≤ d ∧ d ≤ 10 ^ 30 ∧ 1 ≤ n ∧ n ≤ 10 ^ 30) ∧ ∀ r, H r = none → Q (.ref r) (upd H r (.tup (prV (rp n (pm d A B)))))))
theorem ok_paired (D : Df_paired K mg f fd) (T : Txt K mg t1 cl) (o1 : O_want_pair P w K mg base cl) (o2 : O_want_far P w K mg base cl) (o3 : O_want_number P w K mg base cl) (o4 : O_pair_product P w K mg base) : FnOk P w K mg base (CXE P w) 6 f fd ["one", "other", "d", "n"] (spPaired K cl) := by
  obtain ⟨_, _, D_want_pair, G_want_pair⟩ := o1
  obtain ⟨_, _, D_want_far, G_want_far⟩ := o2
  obtain ⟨_, _, D_want_number, G_want_number⟩ := o3
  obtain ⟨_, _, D_pair_product, G_pair_product⟩ := o4
  refine D.fn.okX sc_paired (fun vs H Q E h => ?_) (fun cdv A outer s H vs Q E hr h => ?_)
  · obtain ⟨u, v, x3, x4, rfl, _⟩ := h
    rfl
  · obtain ⟨u, v, x3, x4, rfl, h⟩ := h
    refine ⟨_, (pss_cons (ps_expr (pe_call (G_want_pair.mono (by decide)) hr rfl D_want_pair.mgx D_want_pair.fn.kp D_want_pair.bd .nil (passes_cx (fun _ _ _ h => h)) (pa_cons (pv 0) (pa_cons pe_str pa_nil))))
 (pss_cons (ps_expr (pe_call (G_want_pair.mono (by decide)) hr rfl D_want_pair.mgx D_want_pair.fn.kp D_want_pair.bd .nil (passes_cx (fun _ _ _ h => h)) (pa_cons (pv 1) (pa_cons pe_str pa_nil))))
 (pss_cons (ps_expr (pe_call (G_want_far.mono (by decide)) hr rfl D_want_far.mgx D_want_far.fn.kp D_want_far.bd .nil (passes_cx (fun _ _ _ h => h)) (pa_cons (pv 2) (pa_cons pe_str pa_nil))))
 (pss_cons (ps_expr (pe_call (G_want_number.mono (by decide)) hr rfl D_want_number.mgx D_want_number.fn.kp D_want_number.bd .nil (passes_cx (fun _ _ _ h => h)) (pa_cons (pv 3) (pa_cons pe_str pa_nil))))
 (pss_one (ps_ret (pe_call (G_pair_product.mono (by decide)) hr rfl D_pair_product.mgx D_pair_product.fn.kp D_pair_product.bd .nil pass0 (pa_cons (pv 0) (pa_cons (pv 1) (pa_cons (pv 2) (pa_cons (pv 3) pa_nil))))))))))), ?_⟩
    have e0 : L2.start ["one", "other", "d", "n"] [u, v, x3, x4] = [some (u), some (v), some (x3), some (x4)] := rfl
    rw [e0]; clear e0
    simp only [tSeq, tIfS, tTest, tRet, tRetN, tNext, tDrop, tAsg, tPar, tPar3, tAug, tVar, tC, tOp, tUn, rI, rI0, rU, tB, tAnd, tOr, tNot, tAndV, tOrV, tNotV, tIf, gName, gNil, gCons, gTup, gSub, tCB, tCons, tNil, tCall, tChain, ipI, tIsN, tNotN, tBM, tyV, tTup, tLst, rAppend, rCat, scal_ii, scal_bb, scal_ss, scal_ni, scal_in, rEq, rNe, List.getElem?_cons_zero, List.getElem?_cons_succ, List.set_cons_zero, List.set_cons_succ, eq_self, and_assoc, Option.some.injEq, V.int.injEq, V.bl.injEq, V.ref.injEq, V.str.injEq, List.cons.injEq, exists_eq_left', exists_eq_left, exists_and_left, List.nil_append, List.cons_append, List.append_nil, true_and, and_true, decide_eq_true_eq, Bool.not_eq_true', decide_eq_false_iff_not, if_true, if_false, Bool.not_true, Bool.not_false, Bool.false_eq_true, reduceCtorEq, decide_true, decide_false, ite_true, ite_false, rSetL, rIxL, tRaise, jCons, jNil, tFmt, tDNew, rCount, rIndex, Int.reduceToNat, Int.reducePow]
    rcases h with ⟨q1, ke⟩ | ⟨q1, q2, ke⟩ | ⟨n, q1, q2, ty, b1, ke⟩ | ⟨n, m, q1, q2, ty, ty', b1, b2, ke⟩ | ⟨p, q, A, B, d, n, rfl, rfl, rfl, rfl, hp, hq, ⟨fa, fb, d0, d1, n0, n1⟩, kq⟩
    · exact ⟨u, false, _, rfl, q1, by decide, (fun z => nomatch z), fun _ => ke⟩
    · refine ⟨u, true, _, rfl, q1, by decide, fun _ => ?_, fun z => nomatch z⟩
      simp only [tSeq, tIfS, tTest, tRet, tRetN, tNext, tDrop, tAsg, tPar, tPar3, tAug, tVar, tC, tOp, tUn, rI, rI0, rU, tB, tAnd, tOr, tNot, tAndV, tOrV, tNotV, tIf, gName, gNil, gCons, gTup, gSub, tCB, tCons, tNil, tCall, tChain, ipI, tIsN, tNotN, tBM, tyV, tTup, tLst, rAppend, rCat, scal_ii, scal_bb, scal_ss, scal_ni, scal_in, rEq, rNe, List.getElem?_cons_zero, List.getElem?_cons_succ, List.set_cons_zero, List.set_cons_succ, eq_self, and_assoc, Option.some.injEq, V.int.injEq, V.bl.injEq, V.ref.injEq, V.str.injEq, List.cons.injEq, exists_eq_left', exists_eq_left, exists_and_left, List.nil_append, List.cons_append, List.append_nil, true_and, and_true, decide_eq_true_eq, Bool.not_eq_true', decide_eq_false_iff_not, if_true, if_false, Bool.not_true, Bool.not_false, Bool.false_eq_true, reduceCtorEq, decide_true, decide_false, ite_true, ite_false, rSetL, rIxL, tRaise, jCons, jNil, tFmt, tDNew, rCount, rIndex, Int.reduceToNat, Int.reducePow]
      exact ⟨v, false, _, rfl, q2, by decide, (fun z => nomatch z), fun _ => ke⟩
    · refine ⟨u, true, _, rfl, q1, by decide, fun _ => ?_, fun z => nomatch z⟩
      simp only [tSeq, tIfS, tTest, tRet, tRetN, tNext, tDrop, tAsg, tPar, tPar3, tAug, tVar, tC, tOp, tUn, rI, rI0, rU, tB, tAnd, tOr, tNot, tAndV, tOrV, tNotV, tIf, gName, gNil, gCons, gTup, gSub, tCB, tCons, tNil, tCall, tChain, ipI, tIsN, tNotN, tBM, tyV, tTup, tLst, rAppend, rCat, scal_ii, scal_bb, scal_ss, scal_ni, scal_in, rEq, rNe, List.getElem?_cons_zero, List.getElem?_cons_succ, List.set_cons_zero, List.set_cons_succ, eq_self, and_assoc, Option.some.injEq, V.int.injEq, V.bl.injEq, V.ref.injEq, V.str.injEq, List.cons.injEq, exists_eq_left', exists_eq_left, exists_and_left, List.nil_append, List.cons_append, List.append_nil, true_and, and_true, decide_eq_true_eq, Bool.not_eq_true', decide_eq_false_iff_not, if_true, if_false, Bool.not_true, Bool.not_false, Bool.false_eq_true, reduceCtorEq, decide_true, decide_false, ite_true, ite_false, rSetL, rIxL, tRaise, jCons, jNil, tFmt, tDNew, rCount, rIndex, Int.reduceToNat, Int.reducePow]
      refine ⟨v, true, _, rfl, q2, by decide, fun _ => ?_, fun z => nomatch z⟩
      simp only [tSeq, tIfS, tTest, tRet, tRetN, tNext, tDrop, tAsg, tPar, tPar3, tAug, tVar, tC, tOp, tUn, rI, rI0, rU, tB, tAnd, tOr, tNot, tAndV, tOrV, tNotV, tIf, gName, gNil, gCons, gTup, gSub, tCB, tCons, tNil, tCall, tChain, ipI, tIsN, tNotN, tBM, tyV, tTup, tLst, rAppend, rCat, scal_ii, scal_bb, scal_ss, scal_ni, scal_in, rEq, rNe, List.getElem?_cons_zero, List.getElem?_cons_succ, List.set_cons_zero, List.set_cons_succ, eq_self, and_assoc, Option.some.injEq, V.int.injEq, V.bl.injEq, V.ref.injEq, V.str.injEq, List.cons.injEq, exists_eq_left', exists_eq_left, exists_and_left, List.nil_append, List.cons_append, List.append_nil, true_and, and_true, decide_eq_true_eq, Bool.not_eq_true', decide_eq_false_iff_not, if_true, if_false, Bool.not_true, Bool.not_false, Bool.false_eq_true, reduceCtorEq, decide_true, decide_false, ite_true, ite_false, rSetL, rIxL, tRaise, jCons, jNil, tFmt, tDNew, rCount, rIndex, Int.reduceToNat, Int.reducePow]
      exact ⟨x3, n, _, rfl, ty, by decide, (fun z => absurd (b1.symm.trans z) (by decide)), fun _ => ke⟩
    · refine ⟨u, true, _, rfl, q1, by decide, fun _ => ?_, fun z => nomatch z⟩
      simp only [tSeq, tIfS, tTest, tRet, tRetN, tNext, tDrop, tAsg, tPar, tPar3, tAug, tVar, tC, tOp, tUn, rI, rI0, rU, tB, tAnd, tOr, tNot, tAndV, tOrV, tNotV, tIf, gName, gNil, gCons, gTup, gSub, tCB, tCons, tNil, tCall, tChain, ipI, tIsN, tNotN, tBM, tyV, tTup, tLst, rAppend, rCat, scal_ii, scal_bb, scal_ss, scal_ni, scal_in, rEq, rNe, List.getElem?_cons_zero, List.getElem?_cons_succ, List.set_cons_zero, List.set_cons_succ, eq_self, and_assoc, Option.some.injEq, V.int.injEq, V.bl.injEq, V.ref.injEq, V.str.injEq, List.cons.injEq, exists_eq_left', exists_eq_left, exists_and_left, List.nil_append, List.cons_append, List.append_nil, true_and, and_true, decide_eq_true_eq, Bool.not_eq_true', decide_eq_false_iff_not, if_true, if_false, Bool.not_true, Bool.not_false, Bool.false_eq_true, reduceCtorEq, decide_true, decide_false, ite_true, ite_false, rSetL, rIxL, tRaise, jCons, jNil, tFmt, tDNew, rCount, rIndex, Int.reduceToNat, Int.reducePow]
      refine ⟨v, true, _, rfl, q2, by decide, fun _ => ?_, fun z => nomatch z⟩
      simp only [tSeq, tIfS, tTest, tRet, tRetN, tNext, tDrop, tAsg, tPar, tPar3, tAug, tVar, tC, tOp, tUn, rI, rI0, rU, tB, tAnd, tOr, tNot, tAndV, tOrV, tNotV, tIf, gName, gNil, gCons, gTup, gSub, tCB, tCons, tNil, tCall, tChain, ipI, tIsN, tNotN, tBM, tyV, tTup, tLst, rAppend, rCat, scal_ii, scal_bb, scal_ss, scal_ni, scal_in, rEq, rNe, List.getElem?_cons_zero, List.getElem?_cons_succ, List.set_cons_zero, List.set_cons_succ, eq_self, and_assoc, Option.some.injEq, V.int.injEq, V.bl.injEq, V.ref.injEq, V.str.injEq, List.cons.injEq, exists_eq_left', exists_eq_left, exists_and_left, List.nil_append, List.cons_append, List.append_nil, true_and, and_true, decide_eq_true_eq, Bool.not_eq_true', decide_eq_false_iff_not, if_true, if_false, Bool.not_true, Bool.not_false, Bool.false_eq_true, reduceCtorEq, decide_true, decide_false, ite_true, ite_false, rSetL, rIxL, tRaise, jCons, jNil, tFmt, tDNew, rCount, rIndex, Int.reduceToNat, Int.reducePow]
      refine ⟨x3, n, _, rfl, ty, by decide, fun _ => ?_, fun z => absurd (b1.symm.trans z) (by decide)⟩
      simp only [tSeq, tIfS, tTest, tRet, tRetN, tNext, tDrop, tAsg, tPar, tPar3, tAug, tVar, tC, tOp, tUn, rI, rI0, rU, tB, tAnd, tOr, tNot, tAndV, tOrV, tNotV, tIf, gName, gNil, gCons, gTup, gSub, tCB, tCons, tNil, tCall, tChain, ipI, tIsN, tNotN, tBM, tyV, tTup, tLst, rAppend, rCat, scal_ii, scal_bb, scal_ss, scal_ni, scal_in, rEq, rNe, List.getElem?_cons_zero, List.getElem?_cons_succ, List.set_cons_zero, List.set_cons_succ, eq_self, and_assoc, Option.some.injEq, V.int.injEq, V.bl.injEq, V.ref.injEq, V.str.injEq, List.cons.injEq, exists_eq_left', exists_eq_left, exists_and_left, List.nil_append, List.cons_append, List.append_nil, true_and, and_true, decide_eq_true_eq, Bool.not_eq_true', decide_eq_false_iff_not, if_true, if_false, Bool.not_true, Bool.not_false, Bool.false_eq_true, reduceCtorEq, decide_true, decide_false, ite_true, ite_false, rSetL, rIxL, tRaise, jCons, jNil, tFmt, tDNew, rCount, rIndex, Int.reduceToNat, Int.reducePow]
      exact ⟨x4, m, _, rfl, ty', by decide, (fun z => absurd (b2.symm.trans z) (by decide)), fun _ => ke⟩
    · refine ⟨_, true, _, rfl, fa.pq hp, by decide, fun _ => ?_, fun z => nomatch z⟩
      simp only [tSeq, tIfS, tTest, tRet, tRetN, tNext, tDrop, tAsg, tPar, tPar3, tAug, tVar, tC, tOp, tUn, rI, rI0, rU, tB, tAnd, tOr, tNot, tAndV, tOrV, tNotV, tIf, gName, gNil, gCons, gTup, gSub, tCB, tCons, tNil, tCall, tChain, ipI, tIsN, tNotN, tBM, tyV, tTup, tLst, rAppend, rCat, scal_ii, scal_bb, scal_ss, scal_ni, scal_in, rEq, rNe, List.getElem?_cons_zero, List.getElem?_cons_succ, List.set_cons_zero, List.set_cons_succ, eq_self, and_assoc, Option.some.injEq, V.int.injEq, V.bl.injEq, V.ref.injEq, V.str.injEq, List.cons.injEq, exists_eq_left', exists_eq_left, exists_and_left, List.nil_append, List.cons_append, List.append_nil, true_and, and_true, decide_eq_true_eq, Bool.not_eq_true', decide_eq_false_iff_not, if_true, if_false, Bool.not_true, Bool.not_false, Bool.false_eq_true, reduceCtorEq, decide_true, decide_false, ite_true, ite_false, rSetL, rIxL, tRaise, jCons, jNil, tFmt, tDNew, rCount, rIndex, Int.reduceToNat, Int.reducePow]
      refine ⟨_, true, _, rfl, fb.pq hq, by decide, fun _ => ?_, fun z => nomatch z⟩
      simp only [tSeq, tIfS, tTest, tRet, tRetN, tNext, tDrop, tAsg, tPar, tPar3, tAug, tVar, tC, tOp, tUn, rI, rI0, rU, tB, tAnd, tOr, tNot, tAndV, tOrV, tNotV, tIf, gName, gNil, gCons, gTup, gSub, tCB, tCons, tNil, tCall, tChain, ipI, tIsN, tNotN, tBM, tyV, tTup, tLst, rAppend, rCat, scal_ii, scal_bb, scal_ss, scal_ni, scal_in, rEq, rNe, List.getElem?_cons_zero, List.getElem?_cons_succ, List.set_cons_zero, List.set_cons_succ, eq_self, and_assoc, Option.some.injEq, V.int.injEq, V.bl.injEq, V.ref.injEq, V.str.injEq, List.cons.injEq, exists_eq_left', exists_eq_left, exists_and_left, List.nil_append, List.cons_append, List.append_nil, true_and, and_true, decide_eq_true_eq, Bool.not_eq_true', decide_eq_false_iff_not, if_true, if_false, Bool.not_true, Bool.not_false, Bool.false_eq_true, reduceCtorEq, decide_true, decide_false, ite_true, ite_false, rSetL, rIxL, tRaise, jCons, jNil, tFmt, tDNew, rCount, rIndex, Int.reduceToNat, Int.reducePow]
      refine ⟨_, _, _, rfl, .int _, by decide, fun _ => ?_, fun z => absurd ((isBet_of (by omega) (by omega)).symm.trans z) (by decide)⟩
      simp only [tSeq, tIfS, tTest, tRet, tRetN, tNext, tDrop, tAsg, tPar, tPar3, tAug, tVar, tC, tOp, tUn, rI, rI0, rU, tB, tAnd, tOr, tNot, tAndV, tOrV, tNotV, tIf, gName, gNil, gCons, gTup, gSub, tCB, tCons, tNil, tCall, tChain, ipI, tIsN, tNotN, tBM, tyV, tTup, tLst, rAppend, rCat, scal_ii, scal_bb, scal_ss, scal_ni, scal_in, rEq, rNe, List.getElem?_cons_zero, List.getElem?_cons_succ, List.set_cons_zero, List.set_cons_succ, eq_self, and_assoc, Option.some.injEq, V.int.injEq, V.bl.injEq, V.ref.injEq, V.str.injEq, List.cons.injEq, exists_eq_left', exists_eq_left, exists_and_left, List.nil_append, List.cons_append, List.append_nil, true_and, and_true, decide_eq_true_eq, Bool.not_eq_true', decide_eq_false_iff_not, if_true, if_false, Bool.not_true, Bool.not_false, Bool.false_eq_true, reduceCtorEq, decide_true, decide_false, ite_true, ite_false, rSetL, rIxL, tRaise, jCons, jNil, tFmt, tDNew, rCount, rIndex, Int.reduceToNat, Int.reducePow]
      refine ⟨_, _, _, rfl, .int _, by decide, fun _ => ?_, fun z => absurd ((isBet_of (by omega) (by omega)).symm.trans z) (by decide)⟩
      simp only [tSeq, tIfS, tTest, tRet, tRetN, tNext, tDrop, tAsg, tPar, tPar3, tAug, tVar, tC, tOp, tUn, rI, rI0, rU, tB, tAnd, tOr, tNot, tAndV, tOrV, tNotV, tIf, gName, gNil, gCons, gTup, gSub, tCB, tCons, tNil, tCall, tChain, ipI, tIsN, tNotN, tBM, tyV, tTup, tLst, rAppend, rCat, scal_ii, scal_bb, scal_ss, scal_ni, scal_in, rEq, rNe, List.getElem?_cons_zero, List.getElem?_cons_succ, List.set_cons_zero, List.set_cons_succ, eq_self, and_assoc, Option.some.injEq, V.int.injEq, V.bl.injEq, V.ref.injEq, V.str.injEq, List.cons.injEq, exists_eq_left', exists_eq_left, exists_and_left, List.nil_append, List.cons_append, List.append_nil, true_and, and_true, decide_eq_true_eq, Bool.not_eq_true', decide_eq_false_iff_not, if_true, if_false, Bool.not_true, Bool.not_false, Bool.false_eq_true, reduceCtorEq, decide_true, decide_false, ite_true, ite_false, rSetL, rIxL, tRaise, jCons, jNil, tFmt, tDNew, rCount, rIndex, Int.reduceToNat, Int.reducePow]
      exact ⟨p, q, A, B, d, n, rfl, SqT.of hp, SqT.of hq, ⟨fa.sm, fb.sm, by omega, by omega, n1⟩, kq⟩
noncomputable abbrev O_paired (P : Program) (w : World) (K : PySem.W.Frag) (mg : Str → Option Value) (base : Heap) (cl : Cl) : Prop := ∃ f fd, Df_paired K mg f fd ∧ FnOk P w K mg base (CXE P w) 6 f fd ["one", "other", "d", "n"] (spPaired K cl)
noncomputable abbrev s_pair_raised : Stmt := top 23
theorem sc_pair_raised : FnScope ["pair", "often", "d", "n"] ["pair", "often", "d", "n"] (defScope s_pair_raised) := ⟨rfl, rfl, rfl, by decide +kernel, rfl, by decide +kernel, by decide +kernel⟩
noncomputable abbrev Df_pair_raised (K : PySem.W.Frag) (mg : Str → Option Value) (f : Addr) (fd : FuncData) : Prop := Def K mg "pair_raised" s_pair_raised ["pair", "often", "d", "n"] f fd
noncomputable def spPRaised (K : PySem.W.Frag) (cl : Cl) : Sp := fun vs H Q E => ∃ (u x2 x3 x4 : V), vs = [u, x2, x3, x4] ∧
  ((PQ K H u false ∧ E (.ref cl.pa) none H) ∨
   (∃ n, PQ K H u true ∧ TyOf K H x2 (.type n) ∧ oftB x2 = false ∧ E (.ref cl.nn) none H) ∨
   (∃ n m, PQ K H u true ∧ TyOf K H x2 (.type n) ∧ TyOf K H x3 (.type m) ∧ oftB x2 = true ∧ farB x3 = false ∧ E (.ref cl.nn) none H) ∨
   (∃ n m l, PQ K H u true ∧ TyOf K H x2 (.type n) ∧ TyOf K H x3 (.type m) ∧ TyOf K H x4 (.type l) ∧ oftB x2 = true ∧ farB x3 = true ∧ numB x4 = false ∧ E (.ref cl.nn) none H) ∨
   (∃ p A o d n, u = .ref p ∧ x2 = .int o ∧ x3 = .int d ∧ x4 = .int n ∧ H p = some (.tup (prV A)) ∧ (Fr A ∧ 0 ≤ o ∧ o ≤ 10 ^ 30 ∧ -(10 ^ 30) ≤ d ∧ d ≤ 10 ^ 30 ∧ 1 ≤ n ∧ n ≤ 10 ^ 30) ∧ ∀ r H', Same H H' → H' r = some (.tup (prV (rp n (pw d A o.toNat)))) → Q (.ref r) H'))
theorem ok_pair_raised (D : Df_pair_raised K mg f fd) (T : Txt K mg t1 cl) (o1 : O_want_pair P w K mg base cl) (o0 : O_want_often P w K mg base cl) (o2 : O_want_far P w K mg base cl) (o3 : O_want_number P w K mg base cl) (o4 : O_pair_power P w K mg base) : FnOk P w K mg base (CXE P w) 6 f fd ["pair", "often", "d", "n"] (spPRaised K cl) := by
  obtain ⟨_, _, D_want_pair, G_want_pair⟩ := o1
  obtain ⟨_, _, D_want_often, G_want_often⟩ := o0
  obtain ⟨_, _, D_want_far, G_want_far⟩ := o2
  obtain ⟨_, _, D_want_number, G_want_number⟩ := o3
  obtain ⟨_, _, D_pair_power, G_pair_power⟩ := o4
  refine D.fn.okX sc_pair_raised (fun vs H Q E h => ?_) (fun cdv A outer s H vs Q E hr h => ?_)
  · obtain ⟨u, v, x3, x4, rfl, _⟩ := h
    rfl
  · obtain ⟨u, x2, x3, x4, rfl, h⟩ := h
    refine ⟨_, (pss_cons (ps_expr (pe_call (G_want_pair.mono (by decide)) hr rfl D_want_pair.mgx D_want_pair.fn.kp D_want_pair.bd .nil (passes_cx (fun _ _ _ h => h)) (pa_cons (pv 0) (pa_cons pe_str pa_nil))))
 (pss_cons (ps_expr (pe_call (G_want_often.mono (by decide)) hr rfl D_want_often.mgx D_want_often.fn.kp D_want_often.bd .nil (passes_cx (fun _ _ _ h => h)) (pa_cons (pv 1) (pa_cons pe_str pa_nil))))
 (pss_cons (ps_expr (pe_call (G_want_far.mono (by decide)) hr rfl D_want_far.mgx D_want_far.fn.kp D_want_far.bd .nil (passes_cx (fun _ _ _ h => h)) (pa_cons (pv 2) (pa_cons pe_str pa_nil))))
 (pss_cons (ps_expr (pe_call (G_want_number.mono (by decide)) hr rfl D_want_number.mgx D_want_number.fn.kp D_want_number.bd .nil (passes_cx (fun _ _ _ h => h)) (pa_cons (pv 3) (pa_cons pe_str pa_nil))))
 (pss_one (ps_ret (pe_call (G_pair_power.mono (by decide)) hr rfl D_pair_power.mgx D_pair_power.fn.kp D_pair_power.bd .nil pass0 (pa_cons (pv 0) (pa_cons (pv 1) (pa_cons (pv 2) (pa_cons (pv 3) pa_nil))))))))))), ?_⟩
    have e0 : L2.start ["pair", "often", "d", "n"] [u, x2, x3, x4] = [some (u), some (x2), some (x3), some (x4)] := rfl
    rw [e0]; clear e0
    simp only [tSeq, tIfS, tTest, tRet, tRetN, tNext, tDrop, tAsg, tPar, tPar3, tAug, tVar, tC, tOp, tUn, rI, rI0, rU, tB, tAnd, tOr, tNot, tAndV, tOrV, tNotV, tIf, gName, gNil, gCons, gTup, gSub, tCB, tCons, tNil, tCall, tChain, ipI, tIsN, tNotN, tBM, tyV, tTup, tLst, rAppend, rCat, scal_ii, scal_bb, scal_ss, scal_ni, scal_in, rEq, rNe, List.getElem?_cons_zero, List.getElem?_cons_succ, List.set_cons_zero, List.set_cons_succ, eq_self, and_assoc, Option.some.injEq, V.int.injEq, V.bl.injEq, V.ref.injEq, V.str.injEq, List.cons.injEq, exists_eq_left', exists_eq_left, exists_and_left, List.nil_append, List.cons_append, List.append_nil, true_and, and_true, decide_eq_true_eq, Bool.not_eq_true', decide_eq_false_iff_not, if_true, if_false, Bool.not_true, Bool.not_false, Bool.false_eq_true, reduceCtorEq, decide_true, decide_false, ite_true, ite_false, rSetL, rIxL, tRaise, jCons, jNil, tFmt, tDNew, rCount, rIndex, Int.reduceToNat, Int.reducePow]
    rcases h with ⟨q1, ke⟩ | ⟨n, q1, ty, b1, ke⟩ | ⟨n, m, q1, ty, ty', b1, b2, ke⟩ | ⟨n, m, l, q1, ty, ty', ty2, b1, b2, b3, ke⟩ | ⟨p, A, o, d, n, rfl, rfl, rfl, rfl, hp, ⟨fa, o0, o1, d0, d1, n0, n1⟩, kq⟩
    · exact ⟨u, false, _, rfl, q1, by decide, (fun z => nomatch z), fun _ => ke⟩
    · refine ⟨u, true, _, rfl, q1, by decide, fun _ => ?_, fun z => nomatch z⟩
      simp only [tSeq, tIfS, tTest, tRet, tRetN, tNext, tDrop, tAsg, tPar, tPar3, tAug, tVar, tC, tOp, tUn, rI, rI0, rU, tB, tAnd, tOr, tNot, tAndV, tOrV, tNotV, tIf, gName, gNil, gCons, gTup, gSub, tCB, tCons, tNil, tCall, tChain, ipI, tIsN, tNotN, tBM, tyV, tTup, tLst, rAppend, rCat, scal_ii, scal_bb, scal_ss, scal_ni, scal_in, rEq, rNe, List.getElem?_cons_zero, List.getElem?_cons_succ, List.set_cons_zero, List.set_cons_succ, eq_self, and_assoc, Option.some.injEq, V.int.injEq, V.bl.injEq, V.ref.injEq, V.str.injEq, List.cons.injEq, exists_eq_left', exists_eq_left, exists_and_left, List.nil_append, List.cons_append, List.append_nil, true_and, and_true, decide_eq_true_eq, Bool.not_eq_true', decide_eq_false_iff_not, if_true, if_false, Bool.not_true, Bool.not_false, Bool.false_eq_true, reduceCtorEq, decide_true, decide_false, ite_true, ite_false, rSetL, rIxL, tRaise, jCons, jNil, tFmt, tDNew, rCount, rIndex, Int.reduceToNat, Int.reducePow]
      exact ⟨x2, n, _, rfl, ty, by decide, (fun z => absurd (b1.symm.trans z) (by decide)), fun _ => ke⟩
    · refine ⟨u, true, _, rfl, q1, by decide, fun _ => ?_, fun z => nomatch z⟩
      simp only [tSeq, tIfS, tTest, tRet, tRetN, tNext, tDrop, tAsg, tPar, tPar3, tAug, tVar, tC, tOp, tUn, rI, rI0, rU, tB, tAnd, tOr, tNot, tAndV, tOrV, tNotV, tIf, gName, gNil, gCons, gTup, gSub, tCB, tCons, tNil, tCall, tChain, ipI, tIsN, tNotN, tBM, tyV, tTup, tLst, rAppend, rCat, scal_ii, scal_bb, scal_ss, scal_ni, scal_in, rEq, rNe, List.getElem?_cons_zero, List.getElem?_cons_succ, List.set_cons_zero, List.set_cons_succ, eq_self, and_assoc, Option.some.injEq, V.int.injEq, V.bl.injEq, V.ref.injEq, V.str.injEq, List.cons.injEq, exists_eq_left', exists_eq_left, exists_and_left, List.nil_append, List.cons_append, List.append_nil, true_and, and_true, decide_eq_true_eq, Bool.not_eq_true', decide_eq_false_iff_not, if_true, if_false, Bool.not_true, Bool.not_false, Bool.false_eq_true, reduceCtorEq, decide_true, decide_false, ite_true, ite_false, rSetL, rIxL, tRaise, jCons, jNil, tFmt, tDNew, rCount, rIndex, Int.reduceToNat, Int.reducePow]
      refine ⟨x2, n, _, rfl, ty, by decide, fun _ => ?_, fun z => absurd (b1.symm.trans z) (by decide)⟩
      simp only [tSeq, tIfS, tTest, tRet, tRetN, tNext, tDrop, tAsg, tPar, tPar3, tAug, tVar, tC, tOp, tUn, rI, rI0, rU, tB, tAnd, tOr, tNot, tAndV, tOrV, tNotV, tIf, gName, gNil, gCons, gTup, gSub, tCB, tCons, tNil, tCall, tChain, ipI, tIsN, tNotN, tBM, tyV, tTup, tLst, rAppend, rCat, scal_ii, scal_bb, scal_ss, scal_ni, scal_in, rEq, rNe, List.getElem?_cons_zero, List.getElem?_cons_succ, List.set_cons_zero, List.set_cons_succ, eq_self, and_assoc, Option.some.injEq, V.int.injEq, V.bl.injEq, V.ref.injEq, V.str.injEq, List.cons.injEq, exists_eq_left', exists_eq_left, exists_and_left, List.nil_append, List.cons_append, List.append_nil, true_and, and_true, decide_eq_true_eq, Bool.not_eq_true', decide_eq_false_iff_not, if_true, if_false, Bool.not_true, Bool.not_false, Bool.false_eq_true, reduceCtorEq, decide_true, decide_false, ite_true, ite_false, rSetL, rIxL, tRaise, jCons, jNil, tFmt, tDNew, rCount, rIndex, Int.reduceToNat, Int.reducePow]
      exact ⟨x3, m, _, rfl, ty', by decide, (fun z => absurd (b2.symm.trans z) (by decide)), fun _ => ke⟩
    · refine ⟨u, true, _, rfl, q1, by decide, fun _ => ?_, fun z => nomatch z⟩
      simp only [tSeq, tIfS, tTest, tRet, tRetN, tNext, tDrop, tAsg, tPar, tPar3, tAug, tVar, tC, tOp, tUn, rI, rI0, rU, tB, tAnd, tOr, tNot, tAndV, tOrV, tNotV, tIf, gName, gNil, gCons, gTup, gSub, tCB, tCons, tNil, tCall, tChain, ipI, tIsN, tNotN, tBM, tyV, tTup, tLst, rAppend, rCat, scal_ii, scal_bb, scal_ss, scal_ni, scal_in, rEq, rNe, List.getElem?_cons_zero, List.getElem?_cons_succ, List.set_cons_zero, List.set_cons_succ, eq_self, and_assoc, Option.some.injEq, V.int.injEq, V.bl.injEq, V.ref.injEq, V.str.injEq, List.cons.injEq, exists_eq_left', exists_eq_left, exists_and_left, List.nil_append, List.cons_append, List.append_nil, true_and, and_true, decide_eq_true_eq, Bool.not_eq_true', decide_eq_false_iff_not, if_true, if_false, Bool.not_true, Bool.not_false, Bool.false_eq_true, reduceCtorEq, decide_true, decide_false, ite_true, ite_false, rSetL, rIxL, tRaise, jCons, jNil, tFmt, tDNew, rCount, rIndex, Int.reduceToNat, Int.reducePow]
      refine ⟨x2, n, _, rfl, ty, by decide, fun _ => ?_, fun z => absurd (b1.symm.trans z) (by decide)⟩
      simp only [tSeq, tIfS, tTest, tRet, tRetN, tNext, tDrop, tAsg, tPar, tPar3, tAug, tVar, tC, tOp, tUn, rI, rI0, rU, tB, tAnd, tOr, tNot, tAndV, tOrV, tNotV, tIf, gName, gNil, gCons, gTup, gSub, tCB, tCons, tNil, tCall, tChain, ipI, tIsN, tNotN, tBM, tyV, tTup, tLst, rAppend, rCat, scal_ii, scal_bb, scal_ss, scal_ni, scal_in, rEq, rNe, List.getElem?_cons_zero, List.getElem?_cons_succ, List.set_cons_zero, List.set_cons_succ, eq_self, and_assoc, Option.some.injEq, V.int.injEq, V.bl.injEq, V.ref.injEq, V.str.injEq, List.cons.injEq, exists_eq_left', exists_eq_left, exists_and_left, List.nil_append, List.cons_append, List.append_nil, true_and, and_true, decide_eq_true_eq, Bool.not_eq_true', decide_eq_false_iff_not, if_true, if_false, Bool.not_true, Bool.not_false, Bool.false_eq_true, reduceCtorEq, decide_true, decide_false, ite_true, ite_false, rSetL, rIxL, tRaise, jCons, jNil, tFmt, tDNew, rCount, rIndex, Int.reduceToNat, Int.reducePow]
      refine ⟨x3, m, _, rfl, ty', by decide, fun _ => ?_, fun z => absurd (b2.symm.trans z) (by decide)⟩
      simp only [tSeq, tIfS, tTest, tRet, tRetN, tNext, tDrop, tAsg, tPar, tPar3, tAug, tVar, tC, tOp, tUn, rI, rI0, rU, tB, tAnd, tOr, tNot, tAndV, tOrV, tNotV, tIf, gName, gNil, gCons, gTup, gSub, tCB, tCons, tNil, tCall, tChain, ipI, tIsN, tNotN, tBM, tyV, tTup, tLst, rAppend, rCat, scal_ii, scal_bb, scal_ss, scal_ni, scal_in, rEq, rNe, List.getElem?_cons_zero, List.getElem?_cons_succ, List.set_cons_zero, List.set_cons_succ, eq_self, and_assoc, Option.some.injEq, V.int.injEq, V.bl.injEq, V.ref.injEq, V.str.injEq, List.cons.injEq, exists_eq_left', exists_eq_left, exists_and_left, List.nil_append, List.cons_append, List.append_nil, true_and, and_true, decide_eq_true_eq, Bool.not_eq_true', decide_eq_false_iff_not, if_true, if_false, Bool.not_true, Bool.not_false, Bool.false_eq_true, reduceCtorEq, decide_true, decide_false, ite_true, ite_false, rSetL, rIxL, tRaise, jCons, jNil, tFmt, tDNew, rCount, rIndex, Int.reduceToNat, Int.reducePow]
      exact ⟨x4, l, _, rfl, ty2, by decide, (fun z => absurd (b3.symm.trans z) (by decide)), fun _ => ke⟩
    · refine ⟨_, true, _, rfl, fa.pq hp, by decide, fun _ => ?_, fun z => nomatch z⟩
      simp only [tSeq, tIfS, tTest, tRet, tRetN, tNext, tDrop, tAsg, tPar, tPar3, tAug, tVar, tC, tOp, tUn, rI, rI0, rU, tB, tAnd, tOr, tNot, tAndV, tOrV, tNotV, tIf, gName, gNil, gCons, gTup, gSub, tCB, tCons, tNil, tCall, tChain, ipI, tIsN, tNotN, tBM, tyV, tTup, tLst, rAppend, rCat, scal_ii, scal_bb, scal_ss, scal_ni, scal_in, rEq, rNe, List.getElem?_cons_zero, List.getElem?_cons_succ, List.set_cons_zero, List.set_cons_succ, eq_self, and_assoc, Option.some.injEq, V.int.injEq, V.bl.injEq, V.ref.injEq, V.str.injEq, List.cons.injEq, exists_eq_left', exists_eq_left, exists_and_left, List.nil_append, List.cons_append, List.append_nil, true_and, and_true, decide_eq_true_eq, Bool.not_eq_true', decide_eq_false_iff_not, if_true, if_false, Bool.not_true, Bool.not_false, Bool.false_eq_true, reduceCtorEq, decide_true, decide_false, ite_true, ite_false, rSetL, rIxL, tRaise, jCons, jNil, tFmt, tDNew, rCount, rIndex, Int.reduceToNat, Int.reducePow]
      refine ⟨_, _, _, rfl, .int _, by decide, fun _ => ?_, fun z => absurd ((isBet_of (by omega) (by omega)).symm.trans z) (by decide)⟩
      simp only [tSeq, tIfS, tTest, tRet, tRetN, tNext, tDrop, tAsg, tPar, tPar3, tAug, tVar, tC, tOp, tUn, rI, rI0, rU, tB, tAnd, tOr, tNot, tAndV, tOrV, tNotV, tIf, gName, gNil, gCons, gTup, gSub, tCB, tCons, tNil, tCall, tChain, ipI, tIsN, tNotN, tBM, tyV, tTup, tLst, rAppend, rCat, scal_ii, scal_bb, scal_ss, scal_ni, scal_in, rEq, rNe, List.getElem?_cons_zero, List.getElem?_cons_succ, List.set_cons_zero, List.set_cons_succ, eq_self, and_assoc, Option.some.injEq, V.int.injEq, V.bl.injEq, V.ref.injEq, V.str.injEq, List.cons.injEq, exists_eq_left', exists_eq_left, exists_and_left, List.nil_append, List.cons_append, List.append_nil, true_and, and_true, decide_eq_true_eq, Bool.not_eq_true', decide_eq_false_iff_not, if_true, if_false, Bool.not_true, Bool.not_false, Bool.false_eq_true, reduceCtorEq, decide_true, decide_false, ite_true, ite_false, rSetL, rIxL, tRaise, jCons, jNil, tFmt, tDNew, rCount, rIndex, Int.reduceToNat, Int.reducePow]
      refine ⟨_, _, _, rfl, .int _, by decide, fun _ => ?_, fun z => absurd ((isBet_of (by omega) (by omega)).symm.trans z) (by decide)⟩
      simp only [tSeq, tIfS, tTest, tRet, tRetN, tNext, tDrop, tAsg, tPar, tPar3, tAug, tVar, tC, tOp, tUn, rI, rI0, rU, tB, tAnd, tOr, tNot, tAndV, tOrV, tNotV, tIf, gName, gNil, gCons, gTup, gSub, tCB, tCons, tNil, tCall, tChain, ipI, tIsN, tNotN, tBM, tyV, tTup, tLst, rAppend, rCat, scal_ii, scal_bb, scal_ss, scal_ni, scal_in, rEq, rNe, List.getElem?_cons_zero, List.getElem?_cons_succ, List.set_cons_zero, List.set_cons_succ, eq_self, and_assoc, Option.some.injEq, V.int.injEq, V.bl.injEq, V.ref.injEq, V.str.injEq, List.cons.injEq, exists_eq_left', exists_eq_left, exists_and_left, List.nil_append, List.cons_append, List.append_nil, true_and, and_true, decide_eq_true_eq, Bool.not_eq_true', decide_eq_false_iff_not, if_true, if_false, Bool.not_true, Bool.not_false, Bool.false_eq_true, reduceCtorEq, decide_true, decide_false, ite_true, ite_false, rSetL, rIxL, tRaise, jCons, jNil, tFmt, tDNew, rCount, rIndex, Int.reduceToNat, Int.reducePow]
      refine ⟨_, _, _, rfl, .int _, by decide, fun _ => ?_, fun z => absurd ((isBet_of (by omega) (by omega)).symm.trans z) (by decide)⟩
      simp only [tSeq, tIfS, tTest, tRet, tRetN, tNext, tDrop, tAsg, tPar, tPar3, tAug, tVar, tC, tOp, tUn, rI, rI0, rU, tB, tAnd, tOr, tNot, tAndV, tOrV, tNotV, tIf, gName, gNil, gCons, gTup, gSub, tCB, tCons, tNil, tCall, tChain, ipI, tIsN, tNotN, tBM, tyV, tTup, tLst, rAppend, rCat, scal_ii, scal_bb, scal_ss, scal_ni, scal_in, rEq, rNe, List.getElem?_cons_zero, List.getElem?_cons_succ, List.set_cons_zero, List.set_cons_succ, eq_self, and_assoc, Option.some.injEq, V.int.injEq, V.bl.injEq, V.ref.injEq, V.str.injEq, List.cons.injEq, exists_eq_left', exists_eq_left, exists_and_left, List.nil_append, List.cons_append, List.append_nil, true_and, and_true, decide_eq_true_eq, Bool.not_eq_true', decide_eq_false_iff_not, if_true, if_false, Bool.not_true, Bool.not_false, Bool.false_eq_true, reduceCtorEq, decide_true, decide_false, ite_true, ite_false, rSetL, rIxL, tRaise, jCons, jNil, tFmt, tDNew, rCount, rIndex, Int.reduceToNat, Int.reducePow]
      exact ⟨p, A, o, d, n, rfl, hp, ⟨fa.sm, o0, o1, by omega, by omega, n1⟩, kq⟩
noncomputable abbrev O_pair_raised (P : Program) (w : World) (K : PySem.W.Frag) (mg : Str → Option Value) (base : Heap) (cl : Cl) : Prop := ∃ f fd, Df_pair_raised K mg f fd ∧ FnOk P w K mg base (CXE P w) 6 f fd ["pair", "often", "d", "n"] (spPRaised K cl)
noncomputable abbrev s_norm_of : Stmt := top 24
theorem sc_norm_of : FnScope ["pair", "d", "n"] ["pair", "d", "n"] (defScope s_norm_of) := ⟨rfl, rfl, rfl, by decide +kernel, rfl, by decide +kernel, by decide +kernel⟩
noncomputable abbrev Df_norm_of (K : PySem.W.Frag) (mg : Str → Option Value) (f : Addr) (fd : FuncData) : Prop := Def K mg "norm_of" s_norm_of ["pair", "d", "n"] f fd
noncomputable def spNormOf (K : PySem.W.Frag) (cl : Cl) : Sp := fun vs H Q E => ∃ (u x3 x4 : V), vs = [u, x3, x4] ∧
  ((PQ K H u false ∧ E (.ref cl.pa) none H) ∨
   (∃ n, PQ K H u true ∧ TyOf K H x3 (.type n) ∧ farB x3 = false ∧ E (.ref cl.nn) none H) ∨
   (∃ n m, PQ K H u true ∧ TyOf K H x3 (.type n) ∧ TyOf K H x4 (.type m) ∧ farB x3 = true ∧ numB x4 = false ∧ E (.ref cl.nn) none H) ∨
   (∃ p A d n, u = .ref p ∧ x3 = .int d ∧ x4 = .int n ∧ H p = some (.tup (prV A)) ∧ (Fr A ∧ -(10 ^ 30) ≤ d ∧ d ≤ 10 ^ 30 ∧ 1 ≤ n ∧ n ≤ 10 ^ 30) ∧ Q (.int ((A.1 * A.1 - d * A.2 * A.2) % n)) H))
theorem ok_norm_of (D : Df_norm_of K mg f fd) (T : Txt K mg t1 cl) (o1 : O_want_pair P w K mg base cl) (o2 : O_want_far P w K mg base cl) (o3 : O_want_number P w K mg base cl) (o4 : O_norm_rest P w K mg base) : FnOk P w K mg base (CXE P w) 6 f fd ["pair", "d", "n"] (spNormOf K cl) := by
  obtain ⟨_, _, D_want_pair, G_want_pair⟩ := o1
  obtain ⟨_, _, D_want_far, G_want_far⟩ := o2
  obtain ⟨_, _, D_want_number, G_want_number⟩ := o3
  obtain ⟨_, _, D_norm_rest, G_norm_rest⟩ := o4
  refine D.fn.okX sc_norm_of (fun vs H Q E h => ?_) (fun cdv A outer s H vs Q E hr h => ?_)
  · obtain ⟨u, x3, x4, rfl, _⟩ := h
    rfl
  · obtain ⟨u, x3, x4, rfl, h⟩ := h
    refine ⟨_, (pss_cons (ps_expr (pe_call (G_want_pair.mono (by decide)) hr rfl D_want_pair.mgx D_want_pair.fn.kp D_want_pair.bd .nil (passes_cx (fun _ _ _ h => h)) (pa_cons (pv 0) (pa_cons pe_str pa_nil))))
 (pss_cons (ps_expr (pe_call (G_want_far.mono (by decide)) hr rfl D_want_far.mgx D_want_far.fn.kp D_want_far.bd .nil (passes_cx (fun _ _ _ h => h)) (pa_cons (pv 1) (pa_cons pe_str pa_nil))))
 (pss_cons (ps_expr (pe_call (G_want_number.mono (by decide)) hr rfl D_want_number.mgx D_want_number.fn.kp D_want_number.bd .nil (passes_cx (fun _ _ _ h => h)) (pa_cons (pv 2) (pa_cons pe_str pa_nil))))
 (pss_one (ps_ret (pe_call (G_norm_rest.mono (by decide)) hr rfl D_norm_rest.mgx D_norm_rest.fn.kp D_norm_rest.bd .nil pass0 (pa_cons (pv 0) (pa_cons (pv 1) (pa_cons (pv 2) pa_nil))))))))), ?_⟩
    have e0 : L2.start ["pair", "d", "n"] [u, x3, x4] = [some (u), some (x3), some (x4)] := rfl
    rw [e0]; clear e0
    simp only [tSeq, tIfS, tTest, tRet, tRetN, tNext, tDrop, tAsg, tPar, tPar3, tAug, tVar, tC, tOp, tUn, rI, rI0, rU, tB, tAnd, tOr, tNot, tAndV, tOrV, tNotV, tIf, gName, gNil, gCons, gTup, gSub, tCB, tCons, tNil, tCall, tChain, ipI, tIsN, tNotN, tBM, tyV, tTup, tLst, rAppend, rCat, scal_ii, scal_bb, scal_ss, scal_ni, scal_in, rEq, rNe, List.getElem?_cons_zero, List.getElem?_cons_succ, List.set_cons_zero, List.set_cons_succ, eq_self, and_assoc, Option.some.injEq, V.int.injEq, V.bl.injEq, V.ref.injEq, V.str.injEq, List.cons.injEq, exists_eq_left', exists_eq_left, exists_and_left, List.nil_append, List.cons_append, List.append_nil, true_and, and_true, decide_eq_true_eq, Bool.not_eq_true', decide_eq_false_iff_not, if_true, if_false, Bool.not_true, Bool.not_false, Bool.false_eq_true, reduceCtorEq, decide_true, decide_false, ite_true, ite_false, rSetL, rIxL, tRaise, jCons, jNil, tFmt, tDNew, rCount, rIndex, Int.reduceToNat, Int.reducePow]
    rcases h with ⟨q1, ke⟩ | ⟨n, q1, ty, b1, ke⟩ | ⟨n, m, q1, ty, ty', b1, b2, ke⟩ | ⟨p, A, d, n, rfl, rfl, rfl, hp, ⟨fa, d0, d1, n0, n1⟩, kq⟩
    · exact ⟨u, false, _, rfl, q1, by decide, (fun z => nomatch z), fun _ => ke⟩
    · refine ⟨u, true, _, rfl, q1, by decide, fun _ => ?_, fun z => nomatch z⟩
      simp only [tSeq, tIfS, tTest, tRet, tRetN, tNext, tDrop, tAsg, tPar, tPar3, tAug, tVar, tC, tOp, tUn, rI, rI0, rU, tB, tAnd, tOr, tNot, tAndV, tOrV, tNotV, tIf, gName, gNil, gCons, gTup, gSub, tCB, tCons, tNil, tCall, tChain, ipI, tIsN, tNotN, tBM, tyV, tTup, tLst, rAppend, rCat, scal_ii, scal_bb, scal_ss, scal_ni, scal_in, rEq, rNe, List.getElem?_cons_zero, List.getElem?_cons_succ, List.set_cons_zero, List.set_cons_succ, eq_self, and_assoc, Option.some.injEq, V.int.injEq, V.bl.injEq, V.ref.injEq, V.str.injEq, List.cons.injEq, exists_eq_left', exists_eq_left, exists_and_left, List.nil_append, List.cons_append, List.append_nil, true_and, and_true, decide_eq_true_eq, Bool.not_eq_true', decide_eq_false_iff_not, if_true, if_false, Bool.not_true, Bool.not_false, Bool.false_eq_true, reduceCtorEq, decide_true, decide_false, ite_true, ite_false, rSetL, rIxL, tRaise, jCons, jNil, tFmt, tDNew, rCount, rIndex, Int.reduceToNat, Int.reducePow]
      exact ⟨x3, n, _, rfl, ty, by decide, (fun z => absurd (b1.symm.trans z) (by decide)), fun _ => ke⟩
    · refine ⟨u, true, _, rfl, q1, by decide, fun _ => ?_, fun z => nomatch z⟩
      simp only [tSeq, tIfS, tTest, tRet, tRetN, tNext, tDrop, tAsg, tPar, tPar3, tAug, tVar, tC, tOp, tUn, rI, rI0, rU, tB, tAnd, tOr, tNot, tAndV, tOrV, tNotV, tIf, gName, gNil, gCons, gTup, gSub, tCB, tCons, tNil, tCall, tChain, ipI, tIsN, tNotN, tBM, tyV, tTup, tLst, rAppend, rCat, scal_ii, scal_bb, scal_ss, scal_ni, scal_in, rEq, rNe, List.getElem?_cons_zero, List.getElem?_cons_succ, List.set_cons_zero, List.set_cons_succ, eq_self, and_assoc, Option.some.injEq, V.int.injEq, V.bl.injEq, V.ref.injEq, V.str.injEq, List.cons.injEq, exists_eq_left', exists_eq_left, exists_and_left, List.nil_append, List.cons_append, List.append_nil, true_and, and_true, decide_eq_true_eq, Bool.not_eq_true', decide_eq_false_iff_not, if_true, if_false, Bool.not_true, Bool.not_false, Bool.false_eq_true, reduceCtorEq, decide_true, decide_false, ite_true, ite_false, rSetL, rIxL, tRaise, jCons, jNil, tFmt, tDNew, rCount, rIndex, Int.reduceToNat, Int.reducePow]
      refine ⟨x3, n, _, rfl, ty, by decide, fun _ => ?_, fun z => absurd (b1.symm.trans z) (by decide)⟩
      simp only [tSeq, tIfS, tTest, tRet, tRetN, tNext, tDrop, tAsg, tPar, tPar3, tAug, tVar, tC, tOp, tUn, rI, rI0, rU, tB, tAnd, tOr, tNot, tAndV, tOrV, tNotV, tIf, gName, gNil, gCons, gTup, gSub, tCB, tCons, tNil, tCall, tChain, ipI, tIsN, tNotN, tBM, tyV, tTup, tLst, rAppend, rCat, scal_ii, scal_bb, scal_ss, scal_ni, scal_in, rEq, rNe, List.getElem?_cons_zero, List.getElem?_cons_succ, List.set_cons_zero, List.set_cons_succ, eq_self, and_assoc, Option.some.injEq, V.int.injEq, V.bl.injEq, V.ref.injEq, V.str.injEq, List.cons.injEq, exists_eq_left', exists_eq_left, exists_and_left, List.nil_append, List.cons_append, List.append_nil, true_and, and_true, decide_eq_true_eq, Bool.not_eq_true', decide_eq_false_iff_not, if_true, if_false, Bool.not_true, Bool.not_false, Bool.false_eq_true, reduceCtorEq, decide_true, decide_false, ite_true, ite_false, rSetL, rIxL, tRaise, jCons, jNil, tFmt, tDNew, rCount, rIndex, Int.reduceToNat, Int.reducePow]
      exact ⟨x4, m, _, rfl, ty', by decide, (fun z => absurd (b2.symm.trans z) (by decide)), fun _ => ke⟩
    · refine ⟨_, true, _, rfl, fa.pq hp, by decide, fun _ => ?_, fun z => nomatch z⟩
      simp only [tSeq, tIfS, tTest, tRet, tRetN, tNext, tDrop, tAsg, tPar, tPar3, tAug, tVar, tC, tOp, tUn, rI, rI0, rU, tB, tAnd, tOr, tNot, tAndV, tOrV, tNotV, tIf, gName, gNil, gCons, gTup, gSub, tCB, tCons, tNil, tCall, tChain, ipI, tIsN, tNotN, tBM, tyV, tTup, tLst, rAppend, rCat, scal_ii, scal_bb, scal_ss, scal_ni, scal_in, rEq, rNe, List.getElem?_cons_zero, List.getElem?_cons_succ, List.set_cons_zero, List.set_cons_succ, eq_self, and_assoc, Option.some.injEq, V.int.injEq, V.bl.injEq, V.ref.injEq, V.str.injEq, List.cons.injEq, exists_eq_left', exists_eq_left, exists_and_left, List.nil_append, List.cons_append, List.append_nil, true_and, and_true, decide_eq_true_eq, Bool.not_eq_true', decide_eq_false_iff_not, if_true, if_false, Bool.not_true, Bool.not_false, Bool.false_eq_true, reduceCtorEq, decide_true, decide_false, ite_true, ite_false, rSetL, rIxL, tRaise, jCons, jNil, tFmt, tDNew, rCount, rIndex, Int.reduceToNat, Int.reducePow]
      refine ⟨_, _, _, rfl, .int _, by decide, fun _ => ?_, fun z => absurd ((isBet_of (by omega) (by omega)).symm.trans z) (by decide)⟩
      simp only [tSeq, tIfS, tTest, tRet, tRetN, tNext, tDrop, tAsg, tPar, tPar3, tAug, tVar, tC, tOp, tUn, rI, rI0, rU, tB, tAnd, tOr, tNot, tAndV, tOrV, tNotV, tIf, gName, gNil, gCons, gTup, gSub, tCB, tCons, tNil, tCall, tChain, ipI, tIsN, tNotN, tBM, tyV, tTup, tLst, rAppend, rCat, scal_ii, scal_bb, scal_ss, scal_ni, scal_in, rEq, rNe, List.getElem?_cons_zero, List.getElem?_cons_succ, List.set_cons_zero, List.set_cons_succ, eq_self, and_assoc, Option.some.injEq, V.int.injEq, V.bl.injEq, V.ref.injEq, V.str.injEq, List.cons.injEq, exists_eq_left', exists_eq_left, exists_and_left, List.nil_append, List.cons_append, List.append_nil, true_and, and_true, decide_eq_true_eq, Bool.not_eq_true', decide_eq_false_iff_not, if_true, if_false, Bool.not_true, Bool.not_false, Bool.false_eq_true, reduceCtorEq, decide_true, decide_false, ite_true, ite_false, rSetL, rIxL, tRaise, jCons, jNil, tFmt, tDNew, rCount, rIndex, Int.reduceToNat, Int.reducePow]
      refine ⟨_, _, _, rfl, .int _, by decide, fun _ => ?_, fun z => absurd ((isBet_of (by omega) (by omega)).symm.trans z) (by decide)⟩
      simp only [tSeq, tIfS, tTest, tRet, tRetN, tNext, tDrop, tAsg, tPar, tPar3, tAug, tVar, tC, tOp, tUn, rI, rI0, rU, tB, tAnd, tOr, tNot, tAndV, tOrV, tNotV, tIf, gName, gNil, gCons, gTup, gSub, tCB, tCons, tNil, tCall, tChain, ipI, tIsN, tNotN, tBM, tyV, tTup, tLst, rAppend, rCat, scal_ii, scal_bb, scal_ss, scal_ni, scal_in, rEq, rNe, List.getElem?_cons_zero, List.getElem?_cons_succ, List.set_cons_zero, List.set_cons_succ, eq_self, and_assoc, Option.some.injEq, V.int.injEq, V.bl.injEq, V.ref.injEq, V.str.injEq, List.cons.injEq, exists_eq_left', exists_eq_left, exists_and_left, List.nil_append, List.cons_append, List.append_nil, true_and, and_true, decide_eq_true_eq, Bool.not_eq_true', decide_eq_false_iff_not, if_true, if_false, Bool.not_true, Bool.not_false, Bool.false_eq_true, reduceCtorEq, decide_true, decide_false, ite_true, ite_false, rSetL, rIxL, tRaise, jCons, jNil, tFmt, tDNew, rCount, rIndex, Int.reduceToNat, Int.reducePow]
      exact ⟨p, A, d, n, rfl, SqT.of hp, ⟨fa.sm, by omega, by omega, n1⟩, kq⟩
noncomputable abbrev O_norm_of (P : Program) (w : World) (K : PySem.W.Frag) (mg : Str → Option Value) (base : Heap) (cl : Cl) : Prop := ∃ f fd, Df_norm_of K mg f fd ∧ FnOk P w K mg base (CXE P w) 6 f fd ["pair", "d", "n"] (spNormOf K cl)
end
end PP
set_option Elab.async false
set_option linter.all false
set_option maxRecDepth 100000
set_option maxHeartbeats 4000000
namespace PP
open PySem L2 MM
noncomputable def StAt (H : Hp) (a : Addr) : Prop := ∃ x y, H a = some (.lst [.int x, .int y]) ∧ 0 ≤ y ∧ y < 2 ^ 32
noncomputable def But (a : Addr) (H H' : Hp) : Prop := ∀ b o, b ≠ a → H b = some o → H' b = some o
structure Step (a : Addr) (H H' : Hp) : Prop where
  st : StAt H' a
  but : But a H H'
theorem Step.trans {a : Addr} {H H1 H2 : Hp} (x : Step a H H1) (y : Step a H1 H2) : Step a H H2 := ⟨y.st, fun b o hb e => y.but b o hb (x.but b o hb e)⟩
theorem StAt.upd {H : Hp} {a p : Addr} {o : HO} (h : StAt H a) (hp : H p = none) : StAt (upd H p o) a := by
  obtain ⟨x, y, e, r⟩ := h
  exact ⟨x, y, by rw [upd_ne (ne_of_none e hp)]; exact e, r⟩
theorem Step.new {a p : Addr} {H H1 : Hp} {o : HO} (x : Step a H H1) (hp : H1 p = none) : Step a H (upd H1 p o) :=
  ⟨x.st.upd hp, fun b u hb e => by rw [upd_ne (ne_of_none (x.but b u hb e) hp)]; exact x.but b u hb e⟩
theorem Step.refl {a : Addr} {H : Hp} (h : StAt H a) : Step a H H := ⟨h, fun _ _ _ e => e⟩
theorem nb_mod (a : Int) {m : Int} (h0 : 0 < m) (h1 : m < 10 ^ 99) : (a % m).natAbs < 10 ^ 100 := by
  have := Int.emod_nonneg a (show m ≠ 0 by omega)
  have := Int.emod_lt_of_pos a h0
  omega
section
variable {P : Program} {w : World} {K : PySem.W.Frag} {mg : Str → Option Value} {base : Heap} {t1 : Tok} {cl : Cl} {f : Addr} {fd : FuncData}
noncomputable abbrev s_law_cell_at : Stmt := top 31
theorem sc_law_cell_at : FnScope ["_law_script", "_law_k"] ["_law_script", "_law_k"] (defScope s_law_cell_at) := ⟨rfl, rfl, rfl, by decide +kernel, rfl, by decide +kernel, by decide +kernel⟩
noncomputable abbrev Df_law_cell_at (K : PySem.W.Frag) (mg : Str → Option Value) (f : Addr) (fd : FuncData) : Prop := Def K mg "_law_cell_at" s_law_cell_at ["_law_script", "_law_k"] f fd
noncomputable def spCell (K : PySem.W.Frag) : Sp := fun vs H Q _ => ∃ (a : Addr) (ns : List Int) (k : Int), vs = [.ref a, .int k] ∧ SqL K H a (ns.map V.int) ∧ ns.length ≤ 63 ∧ 0 ≤ k ∧ ∀ v, Q (.int v) H
theorem ok_law_cell_at (D : Df_law_cell_at K mg f fd) (T : Txt K mg t1 cl) : FnOk P w K mg base CX0 1 f fd ["_law_script", "_law_k"] (spCell K) := by
  refine D.fn.ok sc_law_cell_at (fun vs H Q E h => ?_) (fun cdv A outer s H vs Q E hr h => ?_)
  · obtain ⟨a, ns, k, rfl, _⟩ := h
    rfl
  · obtain ⟨a, ns, k, rfl, hS, hl, h0, q⟩ := h
    refine ⟨_, (pss_cons (ps_if (pt_cmpR op_lt (pv 1) (pe_callB call_len_seq (by rfl) T.no_len PySem.boot_len (pa_cons (pv 0) pa_nil)) (nomark _))
 (pss_one (ps_ret (pe_ix ix_list (pv 0) (pv 1) (fun _ _ => rfl))))
 pss_nil)
 (pss_one (ps_ret pe_int))), ?_⟩
    have e0 : L2.start ["_law_script", "_law_k"] [.ref a, .int k] = [some (.ref a), some (.int k)] := rfl
    rw [e0]; clear e0
    simp only [tSeq, tIfS, tTest, tRet, tRetN, tNext, tDrop, tAsg, tPar, tPar3, tAug, tVar, tC, tOp, tUn, rI, rI0, rU, tB, tAnd, tOr, tNot, tAndV, tOrV, tNotV, tIf, gName, gNil, gCons, gTup, gSub, tCB, tCons, tNil, tCall, tChain, ipI, tIsN, tNotN, tBM, tyV, tTup, tLst, rAppend, rCat, scal_ii, scal_bb, scal_ss, scal_ni, scal_in, rEq, rNe, List.getElem?_cons_zero, List.getElem?_cons_succ, List.set_cons_zero, List.set_cons_succ, eq_self, and_assoc, Option.some.injEq, V.int.injEq, V.bl.injEq, V.ref.injEq, V.str.injEq, List.cons.injEq, exists_eq_left', exists_eq_left, exists_and_left, List.nil_append, List.cons_append, List.append_nil, true_and, and_true, decide_eq_true_eq, Bool.not_eq_true', decide_eq_false_iff_not, if_true, if_false, Bool.not_true, Bool.not_false, Bool.false_eq_true, reduceCtorEq, decide_true, decide_false, ite_true, ite_false, rSetL, rIxL, tRaise, jCons, jNil, tFmt, tDNew, rCount, rIndex, Int.reduceToNat, Int.reducePow]
    refine ⟨_, .inl hS, ?_⟩
    rw [List.length_map]
    refine ite2 (fun hk => ?_) (fun _ => q 0)
    obtain ⟨j, rfl⟩ := Int.eq_ofNat_of_zero_le h0
    have hj : j < ns.length := by omega
    refine ⟨_, hS, .int (ns[j]), atI_nat ?_, q _⟩
    rw [List.getElem?_map, List.getElem?_eq_getElem hj]
    rfl
noncomputable abbrev O_law_cell_at (P : Program) (w : World) (K : PySem.W.Frag) (mg : Str → Option Value) (base : Heap) : Prop := ∃ f fd, Df_law_cell_at K mg f fd ∧ FnOk P w K mg base CX0 1 f fd ["_law_script", "_law_k"] (spCell K)
noncomputable abbrev s_law_state : Stmt := top 32
theorem sc_law_state : FnScope ["_law_script", "_law_k", "_law_cell"] ["_law_script", "_law_k"] (defScope s_law_state) := ⟨rfl, rfl, rfl, by decide +kernel, rfl, by decide +kernel, by decide +kernel⟩
noncomputable abbrev Df_law_state (K : PySem.W.Frag) (mg : Str → Option Value) (f : Addr) (fd : FuncData) : Prop := Def K mg "_law_state" s_law_state ["_law_script", "_law_k"] f fd
noncomputable def spState (K : PySem.W.Frag) : Sp := fun vs H Q _ => ∃ (a : Addr) (ns : List Int) (k : Int), vs = [.ref a, .int k] ∧ SqL K H a (ns.map V.int) ∧ ns.length ≤ 63 ∧ 0 ≤ k ∧ ∀ p x y, 0 ≤ y → y < 2 ^ 32 → H p = none → Q (.ref p) (upd H p (.lst [.int x, .int y]))
theorem ok_law_state (D : Df_law_state K mg f fd) (T : Txt K mg t1 cl) (o1 : O_law_cell_at P w K mg base) : FnOk P w K mg base CX0 2 f fd ["_law_script", "_law_k"] (spState K) := by
  obtain ⟨_, _, D_law_cell_at, G_law_cell_at⟩ := o1
  refine D.fn.ok sc_law_state (fun vs H Q E h => ?_) (fun cdv A outer s H vs Q E hr h => ?_)
  · obtain ⟨a, ns, k, rfl, _⟩ := h
    rfl
  · obtain ⟨a, ns, k, rfl, hS, hl, h0, q⟩ := h
    refine ⟨_, (pss_cons (ps_set (i := 2) sc_law_state.nd rfl (by first | exact Or.inl rfl | exact Or.inr rfl) (pe_call (G_law_cell_at.mono (by decide)) hr rfl D_law_cell_at.mgx D_law_cell_at.fn.kp D_law_cell_at.bd .nil pass0 (pa_cons (pv 0) (pa_cons (pv 1) pa_nil))))
 (pss_cons (ps_if (pt_cmpR op_ge (pv 2) (pe_op op_pow pe_int pe_int) (nomark _))
 (pss_one (ps_ret (pe_lst (pa_cons (pe_op op_sub (pv 2) (pe_op op_pow pe_int pe_int)) (pa_cons (pe_op op_add (pe_op op_mod (pv 2) pe_int) pe_int) pa_nil)))))
 pss_nil)
 (pss_one (ps_ret (pe_lst (pa_cons pe_int (pa_cons (pe_op op_add (pe_op op_mod (pv 2) pe_int) pe_int) pa_nil))))))), ?_⟩
    have e0 : L2.start ["_law_script", "_law_k", "_law_cell"] [.ref a, .int k] = [some (.ref a), some (.int k), none] := rfl
    rw [e0]; clear e0
    simp only [tSeq, tIfS, tTest, tRet, tRetN, tNext, tDrop, tAsg, tPar, tPar3, tAug, tVar, tC, tOp, tUn, rI, rI0, rU, tB, tAnd, tOr, tNot, tAndV, tOrV, tNotV, tIf, gName, gNil, gCons, gTup, gSub, tCB, tCons, tNil, tCall, tChain, ipI, tIsN, tNotN, tBM, tyV, tTup, tLst, rAppend, rCat, scal_ii, scal_bb, scal_ss, scal_ni, scal_in, rEq, rNe, List.getElem?_cons_zero, List.getElem?_cons_succ, List.set_cons_zero, List.set_cons_succ, eq_self, and_assoc, Option.some.injEq, V.int.injEq, V.bl.injEq, V.ref.injEq, V.str.injEq, List.cons.injEq, exists_eq_left', exists_eq_left, exists_and_left, List.nil_append, List.cons_append, List.append_nil, true_and, and_true, decide_eq_true_eq, Bool.not_eq_true', decide_eq_false_iff_not, if_true, if_false, Bool.not_true, Bool.not_false, Bool.false_eq_true, reduceCtorEq, decide_true, decide_false, ite_true, ite_false, rSetL, rIxL, tRaise, jCons, jNil, tFmt, tDNew, rCount, rIndex, Int.reduceToNat, Int.reducePow]
    refine ⟨a, ns, k, rfl, hS, hl, h0, fun v => ⟨⟨by decide, by decide, by decide⟩, ?_⟩⟩
    simp only [tSeq, tIfS, tTest, tRet, tRetN, tNext, tDrop, tAsg, tPar, tPar3, tAug, tVar, tC, tOp, tUn, rI, rI0, rU, tB, tAnd, tOr, tNot, tAndV, tOrV, tNotV, tIf, gName, gNil, gCons, gTup, gSub, tCB, tCons, tNil, tCall, tChain, ipI, tIsN, tNotN, tBM, tyV, tTup, tLst, rAppend, rCat, scal_ii, scal_bb, scal_ss, scal_ni, scal_in, rEq, rNe, List.getElem?_cons_zero, List.getElem?_cons_succ, List.set_cons_zero, List.set_cons_succ, eq_self, and_assoc, Option.some.injEq, V.int.injEq, V.bl.injEq, V.ref.injEq, V.str.injEq, List.cons.injEq, exists_eq_left', exists_eq_left, exists_and_left, List.nil_append, List.cons_append, List.append_nil, true_and, and_true, decide_eq_true_eq, Bool.not_eq_true', decide_eq_false_iff_not, if_true, if_false, Bool.not_true, Bool.not_false, Bool.false_eq_true, reduceCtorEq, decide_true, decide_false, ite_true, ite_false, rSetL, rIxL, tRaise, jCons, jNil, tFmt, tDNew, rCount, rIndex, Int.reduceToNat, Int.reducePow]
    refine ite2 (fun hk => ?_) (fun _ => ?_)
    · refine ⟨⟨by decide, by decide, by decide⟩, by decide, by show 2 ≤ sizeLine; decide, fun p hp => q p _ _ ?_ ?_ hp⟩ <;> omega
    · refine ⟨by decide, by show 2 ≤ sizeLine; decide, fun p hp => q p _ _ ?_ ?_ hp⟩ <;> omega
noncomputable abbrev O_law_state (P : Program) (w : World) (K : PySem.W.Frag) (mg : Str → Option Value) (base : Heap) : Prop := ∃ f fd, Df_law_state K mg f fd ∧ FnOk P w K mg base CX0 2 f fd ["_law_script", "_law_k"] (spState K)
noncomputable abbrev s_law_take : Stmt := top 33
theorem sc_law_take : FnScope ["_law_state_here", "_law_many", "_law_found", "_law_stirred"] ["_law_state_here", "_law_many"] (defScope s_law_take) := ⟨rfl, rfl, rfl, by decide +kernel, rfl, by decide +kernel, by decide +kernel⟩
noncomputable abbrev Df_law_take (K : PySem.W.Frag) (mg : Str → Option Value) (f : Addr) (fd : FuncData) : Prop := Def K mg "_law_take" s_law_take ["_law_state_here", "_law_many"] f fd
noncomputable def spTake : Sp := fun vs H Q _ => ∃ (a : Addr) (m : Int), vs = [.ref a, .int m] ∧ (0 < m ∧ m < 10 ^ 90) ∧ StAt H a ∧ ∀ r H', 0 ≤ r → r < m → Step a H H' → Q (.int r) H'
theorem ok_law_take (D : Df_law_take K mg f fd) (T : Txt K mg t1 cl) : FnOk P w K mg base CX0 1 f fd ["_law_state_here", "_law_many"] spTake := by
  refine D.fn.ok sc_law_take (fun vs H Q E h => ?_) (fun cdv A outer s H vs Q E hr h => ?_)
  · obtain ⟨a, m, rfl, _⟩ := h
    rfl
  · obtain ⟨a, m, rfl, ⟨m0, m1⟩, ⟨x, y, hH, y0, y1⟩, q⟩ := h
    refine ⟨_, (pss_cons (ps_if (pt_cmpR op_gt (pe_ix ix_list (pv 0) pe_int (fun _ _ => rfl)) pe_int (nomark _))
 (pss_cons (ps_set (i := 2) sc_law_take.nd rfl (by first | exact Or.inl rfl | exact Or.inr rfl) (pe_op op_mod (pe_ix ix_list (pv 0) pe_int (fun _ _ => rfl)) (pv 1)))
 (pss_cons (ps_asg (pe_op op_fdivB (pe_ix ix_list (pv 0) pe_int (fun _ _ => rfl)) (pv 1)) (pg_sub (pv 0) pe_int set_list))
 (pss_one (ps_ret (pv 2)))))
 pss_nil)
 (pss_cons (ps_asg (pe_op op_mod (pe_op op_add (pe_op op_mulB (pe_ix ix_list (pv 0) pe_int (fun _ _ => rfl)) pe_int) pe_int) pe_int) (pg_sub (pv 0) pe_int set_list))
 (pss_cons (ps_set (i := 3) sc_law_take.nd rfl (by first | exact Or.inl rfl | exact Or.inr rfl) (pe_op op_mod (pe_op op_add (pe_op op_add (pe_op op_mulB (pe_ix ix_list (pv 0) pe_int (fun _ _ => rfl)) (pe_ix ix_list (pv 0) pe_int (fun _ _ => rfl))) (pe_op op_mulB pe_int (pe_ix ix_list (pv 0) pe_int (fun _ _ => rfl)))) pe_int) pe_int))
 (pss_cons (ps_set (i := 3) sc_law_take.nd rfl (by first | exact Or.inl rfl | exact Or.inr rfl) (pe_op op_mod (pe_op op_add (pe_op op_mulB (pv 3) (pv 3)) (pe_op op_mulB pe_int (pv 3))) pe_int))
 (pss_one (ps_ret (pe_op op_mod (pe_op op_fdivB (pv 3) pe_int) (pv 1)))))))), ?_⟩
    have e0 : L2.start ["_law_state_here", "_law_many", "_law_found", "_law_stirred"] [.ref a, .int m] = [some (.ref a), some (.int m), none, none] := rfl
    rw [e0]; clear e0
    simp only [tSeq, tIfS, tTest, tRet, tRetN, tNext, tDrop, tAsg, tPar, tPar3, tAug, tVar, tC, tOp, tUn, rI, rI0, rU, tB, tAnd, tOr, tNot, tAndV, tOrV, tNotV, tIf, gName, gNil, gCons, gTup, gSub, tCB, tCons, tNil, tCall, tChain, ipI, tIsN, tNotN, tBM, tyV, tTup, tLst, rAppend, rCat, scal_ii, scal_bb, scal_ss, scal_ni, scal_in, rEq, rNe, List.getElem?_cons_zero, List.getElem?_cons_succ, List.set_cons_zero, List.set_cons_succ, eq_self, and_assoc, Option.some.injEq, V.int.injEq, V.bl.injEq, V.ref.injEq, V.str.injEq, List.cons.injEq, exists_eq_left', exists_eq_left, exists_and_left, List.nil_append, List.cons_append, List.append_nil, true_and, and_true, decide_eq_true_eq, Bool.not_eq_true', decide_eq_false_iff_not, if_true, if_false, Bool.not_true, Bool.not_false, Bool.false_eq_true, reduceCtorEq, decide_true, decide_false, ite_true, ite_false, rSetL, rIxL, tRaise, jCons, jNil, tFmt, tDNew, rCount, rIndex, Int.reduceToNat, Int.reducePow]
    refine ⟨_, SqL.of hH, _, rfl, _, rfl, ?_⟩
    refine ite2 (fun hx => ?_) (fun hx => ?_)
    · refine ⟨_, SqL.of hH, _, rfl, _, rfl, m0, _, SqL.of hH, _, rfl, _, rfl, ⟨m0, by omega⟩, _, hH, _, rfl, q _ _ (Int.emod_nonneg _ (by omega)) (Int.emod_lt_of_pos _ m0) ⟨⟨_, _, upd_same, y0, y1⟩, fun b o hb e => by rw [upd_ne hb]; exact e⟩⟩
    · have e1 : 0 ≤ (y * 48271 + 29) % 2147483647 := Int.emod_nonneg _ (by omega)
      have e2 : (y * 48271 + 29) % 2147483647 < 2147483647 := Int.emod_lt_of_pos _ (by omega)
      refine ⟨_, SqL.of hH, _, rfl, _, rfl, .inr ⟨by omega, by omega⟩, by decide, _, hH, _, rfl, _, SqL.of upd_same, _, rfl, _, SqL.of upd_same, _, rfl, _, rfl, _, rfl, .inr ⟨nb_mod _ (by decide) (by decide), nb_mod _ (by decide) (by decide)⟩, _, SqL.of upd_same, _, rfl, _, rfl,
        .inr ⟨by decide, nb_mod _ (by decide) (by decide)⟩, by decide, .inr ⟨nb_mod _ (by decide) (by decide), nb_mod _ (by decide) (by decide)⟩, .inr ⟨by decide, nb_mod _ (by decide) (by decide)⟩, by decide, ⟨by decide, by decide⟩, m0,
        q _ _ (Int.emod_nonneg _ (by omega)) (Int.emod_lt_of_pos _ m0) ⟨⟨_, _, upd_same, e1, by omega⟩, fun b o hb e => by rw [upd_ne hb]; exact e⟩⟩
noncomputable abbrev O_law_take (P : Program) (w : World) (K : PySem.W.Frag) (mg : Str → Option Value) (base : Heap) : Prop := ∃ f fd, Df_law_take K mg f fd ∧ FnOk P w K mg base CX0 1 f fd ["_law_state_here", "_law_many"] (spTake)
noncomputable abbrev s_law_far : Stmt := top 36
theorem sc_law_far : FnScope ["_law_state_here", "_law_many", "_law_found", "_law_turn"] ["_law_state_here", "_law_many"] (defScope s_law_far) := ⟨rfl, rfl, rfl, by decide +kernel, rfl, by decide +kernel, by decide +kernel⟩
noncomputable abbrev Df_law_far (K : PySem.W.Frag) (mg : Str → Option Value) (f : Addr) (fd : FuncData) : Prop := Def K mg "_law_far" s_law_far ["_law_state_here", "_law_many"] f fd
noncomputable def spFar : Sp := fun vs H Q _ => ∃ (a : Addr) (m : Int), vs = [.ref a, .int m] ∧ (0 < m ∧ m < 10 ^ 90) ∧ StAt H a ∧ ∀ r H', 0 ≤ r → r < m → Step a H H' → Q (.int r) H'
theorem ok_law_far (D : Df_law_far K mg f fd) (T : Txt K mg t1 cl) (o1 : O_law_take P w K mg base) : FnOk P w K mg base CX0 2 f fd ["_law_state_here", "_law_many"] spFar := by
  obtain ⟨_, _, D_law_take, G_law_take⟩ := o1
  refine D.fn.ok sc_law_far (fun vs H Q E h => ?_) (fun cdv A outer s H vs Q E hr h => ?_)
  · obtain ⟨a, m, rfl, _⟩ := h
    rfl
  · obtain ⟨a, m, rfl, ⟨m0, m1⟩, hst, q⟩ := h
    refine ⟨_, (pss_cons (ps_set (i := 2) sc_law_far.nd rfl (by first | exact Or.inl rfl | exact Or.inr rfl) pe_int)
 (pss_cons (ps_for PassesOwn.never rfl (pi_range1 rfl T.no_range (pa_cons pe_int pa_nil)) (pg_name (i := 3) sc_law_far.nd rfl (by first | exact Or.inl rfl | exact Or.inr rfl))
 (pss_one (ps_set (i := 2) sc_law_far.nd rfl (by first | exact Or.inl rfl | exact Or.inr rfl) (pe_op op_add (pe_op op_mulB (pv 2) pe_int) (pe_call (G_law_take.mono (by decide)) hr rfl D_law_take.mgx D_law_take.fn.kp D_law_take.bd .nil pass0 (pa_cons (pv 0) (pa_cons pe_int pa_nil)))))))
 (pss_one (ps_ret (pe_op op_mod (pv 2) (pv 1)))))), ?_⟩
    have e0 : L2.start ["_law_state_here", "_law_many", "_law_found", "_law_turn"] [.ref a, .int m] = [some (.ref a), some (.int m), none, none] := rfl
    rw [e0]; clear e0
    simp only [tSeq, tIfS, tTest, tRet, tRetN, tNext, tDrop, tAsg, tPar, tPar3, tAug, tVar, tC, tOp, tUn, rI, rI0, rU, tB, tAnd, tOr, tNot, tAndV, tOrV, tNotV, tIf, gName, gNil, gCons, gTup, gSub, tCB, tCons, tNil, tCall, tChain, ipI, tIsN, tNotN, tBM, tyV, tTup, tLst, rAppend, rCat, scal_ii, scal_bb, scal_ss, scal_ni, scal_in, rEq, rNe, List.getElem?_cons_zero, List.getElem?_cons_succ, List.set_cons_zero, List.set_cons_succ, eq_self, and_assoc, Option.some.injEq, V.int.injEq, V.bl.injEq, V.ref.injEq, V.str.injEq, List.cons.injEq, exists_eq_left', exists_eq_left, exists_and_left, List.nil_append, List.cons_append, List.append_nil, true_and, and_true, decide_eq_true_eq, Bool.not_eq_true', decide_eq_false_iff_not, if_true, if_false, Bool.not_true, Bool.not_false, Bool.false_eq_true, reduceCtorEq, decide_true, decide_false, ite_true, ite_false, rSetL, rIxL, tRaise, jCons, jNil, tFmt, tDNew, rCount, rIndex, Int.reduceToNat, Int.reducePow]
    refine ⟨4, rfl, by decide, by decide, for_range (n := 4) (fun i σ H' => Step a H H' ∧ ∃ r t, σ = [some (.ref a), some (.int m), some (.int r), t] ∧ r.natAbs < 10 ^ (10 * i) ∧ 0 ≤ r) ⟨.refl hst, 0, none, rfl, by decide, by decide⟩ ?_ ?_⟩
    · rintro i σ H' hi ⟨S, r, t, rfl, hb, h0⟩
      simp only [tSeq, tIfS, tTest, tRet, tRetN, tNext, tDrop, tAsg, tPar, tPar3, tAug, tVar, tC, tOp, tUn, rI, rI0, rU, tB, tAnd, tOr, tNot, tAndV, tOrV, tNotV, tIf, gName, gNil, gCons, gTup, gSub, tCB, tCons, tNil, tCall, tChain, ipI, tIsN, tNotN, tBM, tyV, tTup, tLst, rAppend, rCat, scal_ii, scal_bb, scal_ss, scal_ni, scal_in, rEq, rNe, List.getElem?_cons_zero, List.getElem?_cons_succ, List.set_cons_zero, List.set_cons_succ, eq_self, and_assoc, Option.some.injEq, V.int.injEq, V.bl.injEq, V.ref.injEq, V.str.injEq, List.cons.injEq, exists_eq_left', exists_eq_left, exists_and_left, List.nil_append, List.cons_append, List.append_nil, true_and, and_true, decide_eq_true_eq, Bool.not_eq_true', decide_eq_false_iff_not, if_true, if_false, Bool.not_true, Bool.not_false, Bool.false_eq_true, reduceCtorEq, decide_true, decide_false, ite_true, ite_false, rSetL, rIxL, tRaise, jCons, jNil, tFmt, tDNew, rCount, rIndex, Int.reduceToNat, Int.reducePow]
      refine ⟨.inl (.inr ⟨by decide, by decide⟩), a, _, rfl, ⟨by decide, by decide⟩, S.st, fun r2 H2 r0 r1 S2 => ?_⟩
      simp only [tSeq, tIfS, tTest, tRet, tRetN, tNext, tDrop, tAsg, tPar, tPar3, tAug, tVar, tC, tOp, tUn, rI, rI0, rU, tB, tAnd, tOr, tNot, tAndV, tOrV, tNotV, tIf, gName, gNil, gCons, gTup, gSub, tCB, tCons, tNil, tCall, tChain, ipI, tIsN, tNotN, tBM, tyV, tTup, tLst, rAppend, rCat, scal_ii, scal_bb, scal_ss, scal_ni, scal_in, rEq, rNe, List.getElem?_cons_zero, List.getElem?_cons_succ, List.set_cons_zero, List.set_cons_succ, eq_self, and_assoc, Option.some.injEq, V.int.injEq, V.bl.injEq, V.ref.injEq, V.str.injEq, List.cons.injEq, exists_eq_left', exists_eq_left, exists_and_left, List.nil_append, List.cons_append, List.append_nil, true_and, and_true, decide_eq_true_eq, Bool.not_eq_true', decide_eq_false_iff_not, if_true, if_false, Bool.not_true, Bool.not_false, Bool.false_eq_true, reduceCtorEq, decide_true, decide_false, ite_true, ite_false, rSetL, rIxL, tRaise, jCons, jNil, tFmt, tDNew, rCount, rIndex, Int.reduceToNat, Int.reducePow]
      refine ⟨S.trans S2, ?_, by omega⟩
      have : i = 0 ∨ i = 1 ∨ i = 2 ∨ i = 3 := by omega
      rcases this with rfl | rfl | rfl | rfl <;> simp only [Nat.mul_zero, Nat.mul_one, Nat.reduceMul, Nat.reduceAdd] at hb ⊢ <;> omega
    · rintro σ H' ⟨S, r, t, rfl, hb, h0⟩
      simp only [tSeq, tIfS, tTest, tRet, tRetN, tNext, tDrop, tAsg, tPar, tPar3, tAug, tVar, tC, tOp, tUn, rI, rI0, rU, tB, tAnd, tOr, tNot, tAndV, tOrV, tNotV, tIf, gName, gNil, gCons, gTup, gSub, tCB, tCons, tNil, tCall, tChain, ipI, tIsN, tNotN, tBM, tyV, tTup, tLst, rAppend, rCat, scal_ii, scal_bb, scal_ss, scal_ni, scal_in, rEq, rNe, List.getElem?_cons_zero, List.getElem?_cons_succ, List.set_cons_zero, List.set_cons_succ, eq_self, and_assoc, Option.some.injEq, V.int.injEq, V.bl.injEq, V.ref.injEq, V.str.injEq, List.cons.injEq, exists_eq_left', exists_eq_left, exists_and_left, List.nil_append, List.cons_append, List.append_nil, true_and, and_true, decide_eq_true_eq, Bool.not_eq_true', decide_eq_false_iff_not, if_true, if_false, Bool.not_true, Bool.not_false, Bool.false_eq_true, reduceCtorEq, decide_true, decide_false, ite_true, ite_false, rSetL, rIxL, tRaise, jCons, jNil, tFmt, tDNew, rCount, rIndex, Int.reduceToNat, Int.reducePow]
      exact ⟨m0, q _ _ (Int.emod_nonneg _ (by omega)) (Int.emod_lt_of_pos _ m0) S⟩
noncomputable abbrev O_law_far (P : Program) (w : World) (K : PySem.W.Frag) (mg : Str → Option Value) (base : Heap) : Prop := ∃ f fd, Df_law_far K mg f fd ∧ FnOk P w K mg base CX0 2 f fd ["_law_state_here", "_law_many"] (spFar)
noncomputable abbrev s_law_number : Stmt := top 37
theorem sc_law_number : FnScope ["_law_state_here", "_law_way", "_law_some"] ["_law_state_here"] (defScope s_law_number) := ⟨rfl, rfl, rfl, by decide +kernel, rfl, by decide +kernel, by decide +kernel⟩
noncomputable abbrev Df_law_number (K : PySem.W.Frag) (mg : Str → Option Value) (f : Addr) (fd : FuncData) : Prop := Def K mg "_law_number" s_law_number ["_law_state_here"] f fd
noncomputable def spNumber (lo hi : Int) : Sp := fun vs H Q _ => ∃ (a : Addr), vs = [.ref a] ∧ StAt H a ∧ ∀ r H', lo ≤ r → r ≤ hi → Step a H H' → Q (.int r) H'
theorem ok_law_number (D : Df_law_number K mg f fd) (T : Txt K mg t1 cl) (o1 : O_law_take P w K mg base) (o2 : O_law_far P w K mg base) : FnOk P w K mg base CX0 3 f fd ["_law_state_here"] (spNumber 1 (10 ^ 30)) := by
  obtain ⟨_, _, D_law_take, G_law_take⟩ := o1
  obtain ⟨_, _, D_law_far, G_law_far⟩ := o2
  refine D.fn.ok sc_law_number (fun vs H Q E h => ?_) (fun cdv A outer s H vs Q E hr h => ?_)
  · obtain ⟨a, rfl, _⟩ := h
    rfl
  · obtain ⟨a, rfl, hst, q⟩ := h
    refine ⟨_, (pss_cons (ps_set (i := 1) sc_law_number.nd rfl (by first | exact Or.inl rfl | exact Or.inr rfl) (pe_call (G_law_take.mono (by decide)) hr rfl D_law_take.mgx D_law_take.fn.kp D_law_take.bd .nil pass0 (pa_cons (pv 0) (pa_cons pe_int pa_nil))))
 (pss_cons (ps_set (i := 2) sc_law_number.nd rfl (by first | exact Or.inl rfl | exact Or.inr rfl) (pe_lst (pa_cons (pe_op op_add pe_int (pe_call (G_law_take.mono (by decide)) hr rfl D_law_take.mgx D_law_take.fn.kp D_law_take.bd .nil pass0 (pa_cons (pv 0) (pa_cons pe_int pa_nil)))) (pa_cons (pe_op op_add pe_int (pe_call (G_law_take.mono (by decide)) hr rfl D_law_take.mgx D_law_take.fn.kp D_law_take.bd .nil pass0 (pa_cons (pv 0) (pa_cons (pe_op op_pow pe_int pe_int) pa_nil)))) (pa_cons (pe_op op_add pe_int (pe_call (G_law_far.mono (by decide)) hr rfl D_law_far.mgx D_law_far.fn.kp D_law_far.bd .nil pass0 (pa_cons (pv 0) (pa_cons (pe_op op_pow pe_int pe_int) pa_nil)))) pa_nil)))))
 (pss_one (ps_ret (pe_ix ix_list (pe_op op_cat (pv 2) (pe_lst (pa_cons pe_int (pa_cons (pe_op op_pow pe_int pe_int) (pa_cons (pe_op op_add pe_int (pe_call (G_law_far.mono (by decide)) hr rfl D_law_far.mgx D_law_far.fn.kp D_law_far.bd .nil pass0 (pa_cons (pv 0) (pa_cons (pe_op op_pow pe_int pe_int) pa_nil)))) pa_nil))))) (pv 1) (fun _ _ => rfl)))))), ?_⟩
    have e0 : L2.start ["_law_state_here", "_law_way", "_law_some"] [.ref a] = [some (.ref a), none, none] := rfl
    rw [e0]; clear e0
    simp only [tSeq, tIfS, tTest, tRet, tRetN, tNext, tDrop, tAsg, tPar, tPar3, tAug, tVar, tC, tOp, tUn, rI, rI0, rU, tB, tAnd, tOr, tNot, tAndV, tOrV, tNotV, tIf, gName, gNil, gCons, gTup, gSub, tCB, tCons, tNil, tCall, tChain, ipI, tIsN, tNotN, tBM, tyV, tTup, tLst, rAppend, rCat, scal_ii, scal_bb, scal_ss, scal_ni, scal_in, rEq, rNe, List.getElem?_cons_zero, List.getElem?_cons_succ, List.set_cons_zero, List.set_cons_succ, eq_self, and_assoc, Option.some.injEq, V.int.injEq, V.bl.injEq, V.ref.injEq, V.str.injEq, List.cons.injEq, exists_eq_left', exists_eq_left, exists_and_left, List.nil_append, List.cons_append, List.append_nil, true_and, and_true, decide_eq_true_eq, Bool.not_eq_true', decide_eq_false_iff_not, if_true, if_false, Bool.not_true, Bool.not_false, Bool.false_eq_true, reduceCtorEq, decide_true, decide_false, ite_true, ite_false, rSetL, rIxL, tRaise, jCons, jNil, tFmt, tDNew, rCount, rIndex, Int.reduceToNat, Int.reducePow]
    refine ⟨a, _, rfl, ⟨by decide, by decide⟩, hst, fun w0 H1 w1 w2 S1 => ?_⟩
    simp only [tSeq, tIfS, tTest, tRet, tRetN, tNext, tDrop, tAsg, tPar, tPar3, tAug, tVar, tC, tOp, tUn, rI, rI0, rU, tB, tAnd, tOr, tNot, tAndV, tOrV, tNotV, tIf, gName, gNil, gCons, gTup, gSub, tCB, tCons, tNil, tCall, tChain, ipI, tIsN, tNotN, tBM, tyV, tTup, tLst, rAppend, rCat, scal_ii, scal_bb, scal_ss, scal_ni, scal_in, rEq, rNe, List.getElem?_cons_zero, List.getElem?_cons_succ, List.set_cons_zero, List.set_cons_succ, eq_self, and_assoc, Option.some.injEq, V.int.injEq, V.bl.injEq, V.ref.injEq, V.str.injEq, List.cons.injEq, exists_eq_left', exists_eq_left, exists_and_left, List.nil_append, List.cons_append, List.append_nil, true_and, and_true, decide_eq_true_eq, Bool.not_eq_true', decide_eq_false_iff_not, if_true, if_false, Bool.not_true, Bool.not_false, Bool.false_eq_true, reduceCtorEq, decide_true, decide_false, ite_true, ite_false, rSetL, rIxL, tRaise, jCons, jNil, tFmt, tDNew, rCount, rIndex, Int.reduceToNat, Int.reducePow]
    refine ⟨a, _, rfl, ⟨by decide, by decide⟩, S1.st, fun x1 H2 a1 b1 S2 => ?_⟩
    simp only [tSeq, tIfS, tTest, tRet, tRetN, tNext, tDrop, tAsg, tPar, tPar3, tAug, tVar, tC, tOp, tUn, rI, rI0, rU, tB, tAnd, tOr, tNot, tAndV, tOrV, tNotV, tIf, gName, gNil, gCons, gTup, gSub, tCB, tCons, tNil, tCall, tChain, ipI, tIsN, tNotN, tBM, tyV, tTup, tLst, rAppend, rCat, scal_ii, scal_bb, scal_ss, scal_ni, scal_in, rEq, rNe, List.getElem?_cons_zero, List.getElem?_cons_succ, List.set_cons_zero, List.set_cons_succ, eq_self, and_assoc, Option.some.injEq, V.int.injEq, V.bl.injEq, V.ref.injEq, V.str.injEq, List.cons.injEq, exists_eq_left', exists_eq_left, exists_and_left, List.nil_append, List.cons_append, List.append_nil, true_and, and_true, decide_eq_true_eq, Bool.not_eq_true', decide_eq_false_iff_not, if_true, if_false, Bool.not_true, Bool.not_false, Bool.false_eq_true, reduceCtorEq, decide_true, decide_false, ite_true, ite_false, rSetL, rIxL, tRaise, jCons, jNil, tFmt, tDNew, rCount, rIndex, Int.reduceToNat, Int.reducePow]
    refine ⟨⟨by decide, by decide, by decide⟩, a, _, rfl, ⟨by decide, by decide⟩, S2.st, fun x2 H3 a2 b2 S3 => ?_⟩
    simp only [tSeq, tIfS, tTest, tRet, tRetN, tNext, tDrop, tAsg, tPar, tPar3, tAug, tVar, tC, tOp, tUn, rI, rI0, rU, tB, tAnd, tOr, tNot, tAndV, tOrV, tNotV, tIf, gName, gNil, gCons, gTup, gSub, tCB, tCons, tNil, tCall, tChain, ipI, tIsN, tNotN, tBM, tyV, tTup, tLst, rAppend, rCat, scal_ii, scal_bb, scal_ss, scal_ni, scal_in, rEq, rNe, List.getElem?_cons_zero, List.getElem?_cons_succ, List.set_cons_zero, List.set_cons_succ, eq_self, and_assoc, Option.some.injEq, V.int.injEq, V.bl.injEq, V.ref.injEq, V.str.injEq, List.cons.injEq, exists_eq_left', exists_eq_left, exists_and_left, List.nil_append, List.cons_append, List.append_nil, true_and, and_true, decide_eq_true_eq, Bool.not_eq_true', decide_eq_false_iff_not, if_true, if_false, Bool.not_true, Bool.not_false, Bool.false_eq_true, reduceCtorEq, decide_true, decide_false, ite_true, ite_false, rSetL, rIxL, tRaise, jCons, jNil, tFmt, tDNew, rCount, rIndex, Int.reduceToNat, Int.reducePow]
    refine ⟨⟨by decide, by decide, by decide⟩, a, _, rfl, ⟨by decide, by decide⟩, S3.st, fun x3 H4 a3 b3 S4 => ?_⟩
    simp only [tSeq, tIfS, tTest, tRet, tRetN, tNext, tDrop, tAsg, tPar, tPar3, tAug, tVar, tC, tOp, tUn, rI, rI0, rU, tB, tAnd, tOr, tNot, tAndV, tOrV, tNotV, tIf, gName, gNil, gCons, gTup, gSub, tCB, tCons, tNil, tCall, tChain, ipI, tIsN, tNotN, tBM, tyV, tTup, tLst, rAppend, rCat, scal_ii, scal_bb, scal_ss, scal_ni, scal_in, rEq, rNe, List.getElem?_cons_zero, List.getElem?_cons_succ, List.set_cons_zero, List.set_cons_succ, eq_self, and_assoc, Option.some.injEq, V.int.injEq, V.bl.injEq, V.ref.injEq, V.str.injEq, List.cons.injEq, exists_eq_left', exists_eq_left, exists_and_left, List.nil_append, List.cons_append, List.append_nil, true_and, and_true, decide_eq_true_eq, Bool.not_eq_true', decide_eq_false_iff_not, if_true, if_false, Bool.not_true, Bool.not_false, Bool.false_eq_true, reduceCtorEq, decide_true, decide_false, ite_true, ite_false, rSetL, rIxL, tRaise, jCons, jNil, tFmt, tDNew, rCount, rIndex, Int.reduceToNat, Int.reducePow]
    refine ⟨by show 3 ≤ sizeLine; decide, fun p hp => ?_⟩
    refine ⟨⟨by decide, by decide, by decide⟩, ⟨by decide, by decide, by decide⟩, a, _, rfl, ⟨by decide, by decide⟩, S4.st.upd hp, fun x4 H5 a4 b4 S5 => ?_⟩
    simp only [tSeq, tIfS, tTest, tRet, tRetN, tNext, tDrop, tAsg, tPar, tPar3, tAug, tVar, tC, tOp, tUn, rI, rI0, rU, tB, tAnd, tOr, tNot, tAndV, tOrV, tNotV, tIf, gName, gNil, gCons, gTup, gSub, tCB, tCons, tNil, tCall, tChain, ipI, tIsN, tNotN, tBM, tyV, tTup, tLst, rAppend, rCat, scal_ii, scal_bb, scal_ss, scal_ni, scal_in, rEq, rNe, List.getElem?_cons_zero, List.getElem?_cons_succ, List.set_cons_zero, List.set_cons_succ, eq_self, and_assoc, Option.some.injEq, V.int.injEq, V.bl.injEq, V.ref.injEq, V.str.injEq, List.cons.injEq, exists_eq_left', exists_eq_left, exists_and_left, List.nil_append, List.cons_append, List.append_nil, true_and, and_true, decide_eq_true_eq, Bool.not_eq_true', decide_eq_false_iff_not, if_true, if_false, Bool.not_true, Bool.not_false, Bool.false_eq_true, reduceCtorEq, decide_true, decide_false, ite_true, ite_false, rSetL, rIxL, tRaise, jCons, jNil, tFmt, tDNew, rCount, rIndex, Int.reduceToNat, Int.reducePow]
    have ep : H5 p = some (.lst [.int (1 + x1), .int (1 + x2), .int (1 + x3)]) := S5.but p _ (by
      obtain ⟨_, _, e, _⟩ := S4.st
      exact (ne_of_none e hp).symm) upd_same
    refine ⟨by show 3 ≤ sizeLine; decide, fun p2 hp2 => ?_⟩
    have S6 := (((S1.trans (S2.trans (S3.trans S4))).new hp).trans S5).new (o := .lst [V.int 1, V.int 1000000000000000000000000000000, V.int (1 + x4)]) hp2
    refine ⟨_, by rw [upd_ne (ne_of_none ep hp2)]; exact ep, _, upd_same, by show 6 ≤ sizeLine; decide, fun p3 hp3 => ?_⟩
    have hw : w0 = 0 ∨ w0 = 1 ∨ w0 = 2 ∨ w0 = 3 ∨ w0 = 4 ∨ w0 = 5 := by omega
    rcases hw with rfl | rfl | rfl | rfl | rfl | rfl <;> exact ⟨_, SqL.of upd_same, _, rfl, q _ _ (by omega) (by omega) (S6.new hp3)⟩
noncomputable abbrev O_law_number (P : Program) (w : World) (K : PySem.W.Frag) (mg : Str → Option Value) (base : Heap) : Prop := ∃ f fd, Df_law_number K mg f fd ∧ FnOk P w K mg base CX0 3 f fd ["_law_state_here"] (spNumber 1 (10 ^ 30))
noncomputable abbrev s_law_far_number : Stmt := top 38
theorem sc_law_far_number : FnScope ["_law_state_here", "_law_number_here"] ["_law_state_here"] (defScope s_law_far_number) := ⟨rfl, rfl, rfl, by decide +kernel, rfl, by decide +kernel, by decide +kernel⟩
noncomputable abbrev Df_law_far_number (K : PySem.W.Frag) (mg : Str → Option Value) (f : Addr) (fd : FuncData) : Prop := Def K mg "_law_far_number" s_law_far_number ["_law_state_here"] f fd
theorem ok_law_far_number (D : Df_law_far_number K mg f fd) (T : Txt K mg t1 cl) (o1 : O_law_take P w K mg base) (o2 : O_law_number P w K mg base) : FnOk P w K mg base CX0 4 f fd ["_law_state_here"] (spNumber (-(10 ^ 30)) (10 ^ 30)) := by
  obtain ⟨_, _, D_law_take, G_law_take⟩ := o1
  obtain ⟨_, _, D_law_number, G_law_number⟩ := o2
  refine D.fn.ok sc_law_far_number (fun vs H Q E h => ?_) (fun cdv A outer s H vs Q E hr h => ?_)
  · obtain ⟨a, rfl, _⟩ := h
    rfl
  · obtain ⟨a, rfl, hst, q⟩ := h
    refine ⟨_, (pss_cons (ps_set (i := 1) sc_law_far_number.nd rfl (by first | exact Or.inl rfl | exact Or.inr rfl) (pe_call (G_law_number.mono (by decide)) hr rfl D_law_number.mgx D_law_number.fn.kp D_law_number.bd .nil pass0 (pa_cons (pv 0) pa_nil)))
 (pss_one (ps_ret (pe_ix ix_list (pe_lst (pa_cons (pv 1) (pa_cons (pe_op op_sub pe_int (pv 1)) (pa_cons pe_int (pa_cons (pe_op op_sub (pv 1) pe_int) pa_nil))))) (pe_call (G_law_take.mono (by decide)) hr rfl D_law_take.mgx D_law_take.fn.kp D_law_take.bd .nil pass0 (pa_cons (pv 0) (pa_cons pe_int pa_nil))) (fun _ _ => rfl))))), ?_⟩
    have e0 : L2.start ["_law_state_here", "_law_number_here"] [.ref a] = [some (.ref a), none] := rfl
    rw [e0]; clear e0
    simp only [tSeq, tIfS, tTest, tRet, tRetN, tNext, tDrop, tAsg, tPar, tPar3, tAug, tVar, tC, tOp, tUn, rI, rI0, rU, tB, tAnd, tOr, tNot, tAndV, tOrV, tNotV, tIf, gName, gNil, gCons, gTup, gSub, tCB, tCons, tNil, tCall, tChain, ipI, tIsN, tNotN, tBM, tyV, tTup, tLst, rAppend, rCat, scal_ii, scal_bb, scal_ss, scal_ni, scal_in, rEq, rNe, List.getElem?_cons_zero, List.getElem?_cons_succ, List.set_cons_zero, List.set_cons_succ, eq_self, and_assoc, Option.some.injEq, V.int.injEq, V.bl.injEq, V.ref.injEq, V.str.injEq, List.cons.injEq, exists_eq_left', exists_eq_left, exists_and_left, List.nil_append, List.cons_append, List.append_nil, true_and, and_true, decide_eq_true_eq, Bool.not_eq_true', decide_eq_false_iff_not, if_true, if_false, Bool.not_true, Bool.not_false, Bool.false_eq_true, reduceCtorEq, decide_true, decide_false, ite_true, ite_false, rSetL, rIxL, tRaise, jCons, jNil, tFmt, tDNew, rCount, rIndex, Int.reduceToNat, Int.reducePow]
    refine ⟨a, rfl, hst, fun r H1 r1 r2 S1 => ?_⟩
    simp only [tSeq, tIfS, tTest, tRet, tRetN, tNext, tDrop, tAsg, tPar, tPar3, tAug, tVar, tC, tOp, tUn, rI, rI0, rU, tB, tAnd, tOr, tNot, tAndV, tOrV, tNotV, tIf, gName, gNil, gCons, gTup, gSub, tCB, tCons, tNil, tCall, tChain, ipI, tIsN, tNotN, tBM, tyV, tTup, tLst, rAppend, rCat, scal_ii, scal_bb, scal_ss, scal_ni, scal_in, rEq, rNe, List.getElem?_cons_zero, List.getElem?_cons_succ, List.set_cons_zero, List.set_cons_succ, eq_self, and_assoc, Option.some.injEq, V.int.injEq, V.bl.injEq, V.ref.injEq, V.str.injEq, List.cons.injEq, exists_eq_left', exists_eq_left, exists_and_left, List.nil_append, List.cons_append, List.append_nil, true_and, and_true, decide_eq_true_eq, Bool.not_eq_true', decide_eq_false_iff_not, if_true, if_false, Bool.not_true, Bool.not_false, Bool.false_eq_true, reduceCtorEq, decide_true, decide_false, ite_true, ite_false, rSetL, rIxL, tRaise, jCons, jNil, tFmt, tDNew, rCount, rIndex, Int.reduceToNat, Int.reducePow]
    refine ⟨by show 4 ≤ sizeLine; decide, fun p hp => ?_⟩
    refine ⟨a, _, rfl, ⟨by decide, by decide⟩, S1.st.upd hp, fun w0 H2 w1 w2 S2 => ?_⟩
    have ep := S2.but p _ (by
      obtain ⟨_, _, e, _⟩ := S1.st
      exact (ne_of_none e hp).symm) upd_same
    have S3 := (S1.new hp).trans S2
    have hw : w0 = 0 ∨ w0 = 1 ∨ w0 = 2 ∨ w0 = 3 := by omega
    simp only [tSeq, tIfS, tTest, tRet, tRetN, tNext, tDrop, tAsg, tPar, tPar3, tAug, tVar, tC, tOp, tUn, rI, rI0, rU, tB, tAnd, tOr, tNot, tAndV, tOrV, tNotV, tIf, gName, gNil, gCons, gTup, gSub, tCB, tCons, tNil, tCall, tChain, ipI, tIsN, tNotN, tBM, tyV, tTup, tLst, rAppend, rCat, scal_ii, scal_bb, scal_ss, scal_ni, scal_in, rEq, rNe, List.getElem?_cons_zero, List.getElem?_cons_succ, List.set_cons_zero, List.set_cons_succ, eq_self, and_assoc, Option.some.injEq, V.int.injEq, V.bl.injEq, V.ref.injEq, V.str.injEq, List.cons.injEq, exists_eq_left', exists_eq_left, exists_and_left, List.nil_append, List.cons_append, List.append_nil, true_and, and_true, decide_eq_true_eq, Bool.not_eq_true', decide_eq_false_iff_not, if_true, if_false, Bool.not_true, Bool.not_false, Bool.false_eq_true, reduceCtorEq, decide_true, decide_false, ite_true, ite_false, rSetL, rIxL, tRaise, jCons, jNil, tFmt, tDNew, rCount, rIndex, Int.reduceToNat, Int.reducePow]
    rcases hw with rfl | rfl | rfl | rfl <;> exact ⟨_, SqL.of ep, _, rfl, q _ _ (by omega) (by omega) S3⟩
noncomputable abbrev O_law_far_number (P : Program) (w : World) (K : PySem.W.Frag) (mg : Str → Option Value) (base : Heap) : Prop := ∃ f fd, Df_law_far_number K mg f fd ∧ FnOk P w K mg base CX0 4 f fd ["_law_state_here"] (spNumber (-(10 ^ 30)) (10 ^ 30))
theorem updupd {H : Hp} {D : Addr} {o u : HO} : upd (upd H D o) D u = upd H D u := by
  funext c
  by_cases z : c = D
  · subst z; rw [upd_same, upd_same]
  · rw [upd_ne z, upd_ne z, upd_ne z]
noncomputable abbrev s_law_same : Stmt := top 34
theorem sc_law_same : FnScope ["_law_found", "_law_due"] ["_law_found", "_law_due"] (defScope s_law_same) := ⟨rfl, rfl, rfl, by decide +kernel, rfl, by decide +kernel, by decide +kernel⟩
noncomputable abbrev Df_law_same (K : PySem.W.Frag) (mg : Str → Option Value) (f : Addr) (fd : FuncData) : Prop := Def K mg "_law_same" s_law_same ["_law_found", "_law_due"] f fd
noncomputable def spSame0 : Sp := fun vs H Q _ => ∃ (x : V), vs = [x, x] ∧ ((∃ i, x = .int i) ∨ ∃ b, x = .bl b) ∧ ∀ H', Same H H' → Q (.bl true) H'
noncomputable def spSameS (d : Nat) : (K : PySem.W.Frag) → Sp
  | K => match d with
    | 0 => spSame0
    | d + 1 => fun vs H Q _ => ∃ (p q : Addr) (xs ys : List V), vs = [.ref p, .ref q] ∧ SqT K H p xs ∧ SqT K H q ys ∧ xs.length = ys.length ∧ xs.length < 1000 ∧ (∀ (i : Nat) (x y : V) (H' : Hp) (Q' : VK), xs[i]? = some x → ys[i]? = some y → Same H H' → (∀ H'', Same H' H'' → Q' (.bl true) H'') → spSameS d K [x, y] H' Q' E0) ∧ ∀ H', Same H H' → Q (.bl true) H'
theorem spSame_len (K : PySem.W.Frag) (d : Nat) {vs : List V} {H : Hp} {Q : VK} {E : XK} (h : spSameS d K vs H Q E) : vs.length = 2 := by
  cases d with
  | zero => obtain ⟨x, rfl, _⟩ := (show ∃ x, vs = [x, x] ∧ _ from h); rfl
  | succ d => obtain ⟨p, q, xs, ys, rfl, _⟩ := (show ∃ (p q : Addr) (xs ys : List V), vs = [.ref p, .ref q] ∧ _ from h); rfl
theorem ok_law_same0 (D : Df_law_same K mg f fd) (T : Txt K mg t1 cl) : FnOk P w K mg base CX0 1 f fd ["_law_found", "_law_due"] (spSameS 0 K) := by
  refine D.fn.ok sc_law_same (fun vs H Q E h => ?_) (fun cdv A outer s H vs Q E hr h => ?_)
  · exact spSame_len K 0 h
  · obtain ⟨x, rfl, hx, k⟩ := (show ∃ (x : V), vs = [x, x] ∧ ((∃ i, x = .int i) ∨ ∃ b, x = .bl b) ∧ ∀ H', Same H H' → Q (.bl true) H' from h)
    refine ⟨_, (pss_cons (ps_if (pt_val (pe_callB call_isinst2 (by rfl) T.no_isinstance PyProof.Rows.boot_isinstance (pa_cons (pv 1) (pa_cons (pe_tup (pa_cons (pe_bltn (v := .ty "tuple") rfl T.no_tuple PyProof.Rows.boot_tuple rfl) (pa_cons (pe_bltn (v := .ty "list") rfl T.no_list PyProof.Rows.boot_list rfl) pa_nil))) pa_nil))))
 pss_no
 pss_nil)
 (pss_one (ps_ret (pe_and (pe_cmpR op_eq (pv 0) (pv 1) (nomark _)) (pe_one (pe_cmpR op_eq (pe_callB call_isinst (by rfl) T.no_isinstance PyProof.Rows.boot_isinstance (pa_cons (pv 0) (pa_cons (pe_bltn (v := .ty "bool") rfl T.no_bool PyProof.Rows.boot_bool rfl) pa_nil))) (pe_callB call_isinst (by rfl) T.no_isinstance PyProof.Rows.boot_isinstance (pa_cons (pv 1) (pa_cons (pe_bltn (v := .ty "bool") rfl T.no_bool PyProof.Rows.boot_bool rfl) pa_nil))) (nomark _))))))), ?_⟩
    have e0 : L2.start ["_law_found", "_law_due"] [x, x] = [some (x), some (x)] := rfl
    rw [e0]; clear e0
    rcases hx with ⟨i, rfl⟩ | ⟨i, rfl⟩
    · simp only [tSeq, tIfS, tTest, tRet, tRetN, tNext, tDrop, tAsg, tPar, tPar3, tAug, tVar, tC, tOp, tUn, rI, rI0, rU, tB, tAnd, tOr, tNot, tAndV, tOrV, tNotV, tIf, gName, gNil, gCons, gTup, gSub, tCB, tCons, tNil, tCall, tChain, ipI, tIsN, tNotN, tBM, tyV, tTup, tLst, rAppend, rCat, scal_ii, scal_bb, scal_ss, scal_ni, scal_in, rEq, rNe, List.getElem?_cons_zero, List.getElem?_cons_succ, List.set_cons_zero, List.set_cons_succ, eq_self, and_assoc, Option.some.injEq, V.int.injEq, V.bl.injEq, V.ref.injEq, V.str.injEq, List.cons.injEq, exists_eq_left', exists_eq_left, exists_and_left, List.nil_append, List.cons_append, List.append_nil, true_and, and_true, decide_eq_true_eq, Bool.not_eq_true', decide_eq_false_iff_not, if_true, if_false, Bool.not_true, Bool.not_false, Bool.false_eq_true, reduceCtorEq, decide_true, decide_false, ite_true, ite_false, rSetL, rIxL, tRaise, jCons, jNil, tFmt, tDNew, rCount, rIndex, Int.reduceToNat, Int.reducePow]
      refine ⟨by show 2 ≤ sizeLine; decide, fun p hp => ?_⟩
      refine isi2 (.int _) upd_same ⟨_, rfl, iteF ?_⟩
      refine isi (.int _) (isi (.int _) ?_)
      refine ⟨rfl, ?_⟩
      rw [decide_eq_true rfl]
      exact k _ (fun b o e => by rw [upd_ne (ne_of_none e hp)]; exact e)
    · simp only [tSeq, tIfS, tTest, tRet, tRetN, tNext, tDrop, tAsg, tPar, tPar3, tAug, tVar, tC, tOp, tUn, rI, rI0, rU, tB, tAnd, tOr, tNot, tAndV, tOrV, tNotV, tIf, gName, gNil, gCons, gTup, gSub, tCB, tCons, tNil, tCall, tChain, ipI, tIsN, tNotN, tBM, tyV, tTup, tLst, rAppend, rCat, scal_ii, scal_bb, scal_ss, scal_ni, scal_in, rEq, rNe, List.getElem?_cons_zero, List.getElem?_cons_succ, List.set_cons_zero, List.set_cons_succ, eq_self, and_assoc, Option.some.injEq, V.int.injEq, V.bl.injEq, V.ref.injEq, V.str.injEq, List.cons.injEq, exists_eq_left', exists_eq_left, exists_and_left, List.nil_append, List.cons_append, List.append_nil, true_and, and_true, decide_eq_true_eq, Bool.not_eq_true', decide_eq_false_iff_not, if_true, if_false, Bool.not_true, Bool.not_false, Bool.false_eq_true, reduceCtorEq, decide_true, decide_false, ite_true, ite_false, rSetL, rIxL, tRaise, jCons, jNil, tFmt, tDNew, rCount, rIndex, Int.reduceToNat, Int.reducePow]
      refine ⟨by show 2 ≤ sizeLine; decide, fun p hp => ?_⟩
      refine isi2 (.bl _) upd_same ⟨_, rfl, iteF ?_⟩
      refine isi (.bl _) (isi (.bl _) ?_)
      refine ⟨rfl, ?_⟩
      rw [decide_eq_true rfl]
      exact k _ (fun b o e => by rw [upd_ne (ne_of_none e hp)]; exact e)
end
end PP
set_option Elab.async false
set_option linter.all false
set_option maxRecDepth 100000
set_option maxHeartbeats 4000000
namespace PP
open PySem L2 MM
section
variable {P : Program} {w : World} {K : PySem.W.Frag} {mg : Str → Option Value} {base : Heap} {t1 : Tok} {cl : Cl} {f : Addr} {fd : FuncData}
noncomputable abbrev s_law_bits : Stmt := top 40
theorem sc_law_bits : FnScope ["_law_often", "_law_found"] ["_law_often"] (defScope s_law_bits) := ⟨rfl, rfl, rfl, by decide +kernel, rfl, by decide +kernel, by decide +kernel⟩
noncomputable abbrev Df_law_bits (K : PySem.W.Frag) (mg : Str → Option Value) (f : Addr) (fd : FuncData) : Prop := Def K mg "_law_bits" s_law_bits ["_law_often"] f fd
noncomputable def spBits : Sp := fun vs H Q _ => ∃ (o : Int), vs = [.int o] ∧ (0 ≤ o ∧ o ≤ 10 ^ 30) ∧ ∀ bs p H', valL bs = o → (∀ b ∈ bs, b = 0 ∨ b = 1) → bs.length ≤ 100 → Same H H' → H' p = some (.lst (bs.reverse.map V.int)) → Q (.ref p) H'
theorem ok_law_bits (D : Df_law_bits K mg f fd) (T : Txt K mg t1 cl) : FnOk P w K mg base CX0 1 f fd ["_law_often"] spBits := by
  refine D.fn.ok sc_law_bits (fun vs H Q E h => ?_) (fun cdv A outer s H vs Q E hr h => ?_)
  · obtain ⟨o, rfl, _⟩ := h
    rfl
  · obtain ⟨o, rfl, hb, k⟩ := h
    refine ⟨_, (pss_cons (ps_set (i := 1) sc_law_bits.nd rfl (by first | exact Or.inl rfl | exact Or.inr rfl) (pe_lst pa_nil))
 (pss_cons (ps_while PassesOwn.never (pt_cmpR op_gt (pv 0) pe_int (nomark _))
 (pss_cons (ps_expr (pe_bm PySem.F.plainAttrs_list PySem.F.slot_list_append PySem.F.type_list_append mt_append (pv 1) (pa_cons (pe_op op_mod (pv 0) pe_int) pa_nil)))
 (pss_one (ps_set (i := 0) sc_law_bits.nd rfl (by first | exact Or.inl rfl | exact Or.inr rfl) (pe_op op_fdivB (pv 0) pe_int)))))
 (pss_one (ps_ret (pe_rev (pv 1)))))), ?_⟩
    have e0 : L2.start ["_law_often", "_law_found"] [.int o] = [some (.int o), none] := rfl
    rw [e0]; clear e0
    simp only [tSeq, tIfS, tTest, tRet, tRetN, tNext, tDrop, tAsg, tPar, tPar3, tAug, tVar, tC, tOp, tUn, rI, rI0, rU, tB, tAnd, tOr, tNot, tAndV, tOrV, tNotV, tIf, gName, gNil, gCons, gTup, gSub, tCB, tCons, tNil, tCall, tChain, ipI, tIsN, tNotN, tBM, tyV, tTup, tLst, rAppend, rCat, scal_ii, scal_bb, scal_ss, scal_ni, scal_in, rEq, rNe, List.getElem?_cons_zero, List.getElem?_cons_succ, List.set_cons_zero, List.set_cons_succ, eq_self, and_assoc, Option.some.injEq, V.int.injEq, V.bl.injEq, V.ref.injEq, V.str.injEq, List.cons.injEq, exists_eq_left', exists_eq_left, exists_and_left, List.nil_append, List.cons_append, List.append_nil, true_and, and_true, decide_eq_true_eq, Bool.not_eq_true', decide_eq_false_iff_not, if_true, if_false, Bool.not_true, Bool.not_false, Bool.false_eq_true, reduceCtorEq, decide_true, decide_false, ite_true, ite_false, rSetL, rIxL, tRaise, jCons, jNil, tFmt, tDNew, rCount, rIndex, Int.reduceToNat, Int.reducePow]
    refine ⟨Nat.zero_le _, fun p hp => ?_⟩
    obtain ⟨W, hW⟩ : ∃ W : Nat → St → Hp → Prop, ∀ m σ H', W m σ H' ↔ ∃ l bs, m = l.toNat ∧ σ = [some (.int l), some (.ref p)] ∧ BitInv o l bs ∧ bs.length ≤ 100 ∧ H' = upd H p (.lst (bs.map V.int)) := ⟨_, fun _ _ _ => Iff.rfl⟩
    refine ⟨W, ⟨_, (hW _ _ _).mpr ⟨o, [], rfl, rfl, bit_start hb.1, Nat.zero_le _, rfl⟩⟩, ?_⟩
    intro m σ H' hw
    obtain ⟨l, bs, rfl, rfl, I, bl, rfl⟩ := (hW _ _ _).mp hw
    clear hw
    have l0 := I.l0
    simp only [tSeq, tIfS, tTest, tRet, tRetN, tNext, tDrop, tAsg, tPar, tPar3, tAug, tVar, tC, tOp, tUn, rI, rI0, rU, tB, tAnd, tOr, tNot, tAndV, tOrV, tNotV, tIf, gName, gNil, gCons, gTup, gSub, tCB, tCons, tNil, tCall, tChain, ipI, tIsN, tNotN, tBM, tyV, tTup, tLst, rAppend, rCat, scal_ii, scal_bb, scal_ss, scal_ni, scal_in, rEq, rNe, List.getElem?_cons_zero, List.getElem?_cons_succ, List.set_cons_zero, List.set_cons_succ, eq_self, and_assoc, Option.some.injEq, V.int.injEq, V.bl.injEq, V.ref.injEq, V.str.injEq, List.cons.injEq, exists_eq_left', exists_eq_left, exists_and_left, List.nil_append, List.cons_append, List.append_nil, true_and, and_true, decide_eq_true_eq, Bool.not_eq_true', decide_eq_false_iff_not, if_true, if_false, Bool.not_true, Bool.not_false, Bool.false_eq_true, reduceCtorEq, decide_true, decide_false, ite_true, ite_false, rSetL, rIxL, tRaise, jCons, jNil, tFmt, tDNew, rCount, rIndex, Int.reduceToNat, Int.reducePow]
    refine ite2 (fun hl => ?_) (fun hl => ?_)
    · have hlen := bit_len I hl hb.2
      refine ⟨fun σ' H2 => ∃ m', m' < l.toNat ∧ W m' σ' H2, fun _ _ h => h, ?_⟩
      refine ⟨.inl ⟨_, SqL.of upd_same⟩, by decide, _, upd_same, small1000 (by rw [List.length_map]; omega), ⟨by decide, by decide⟩, _, by omega, (hW _ _ _).mpr ⟨l / 2, bs ++ [l % 2], rfl, rfl, bit_turn I, by rw [List.length_append, List.length_singleton]; omega, ?_⟩⟩
      rw [updupd, List.map_append]
      rfl
    · simp only [tSeq, tIfS, tTest, tRet, tRetN, tNext, tDrop, tAsg, tPar, tPar3, tAug, tVar, tC, tOp, tUn, rI, rI0, rU, tB, tAnd, tOr, tNot, tAndV, tOrV, tNotV, tIf, gName, gNil, gCons, gTup, gSub, tCB, tCons, tNil, tCall, tChain, ipI, tIsN, tNotN, tBM, tyV, tTup, tLst, rAppend, rCat, scal_ii, scal_bb, scal_ss, scal_ni, scal_in, rEq, rNe, List.getElem?_cons_zero, List.getElem?_cons_succ, List.set_cons_zero, List.set_cons_succ, eq_self, and_assoc, Option.some.injEq, V.int.injEq, V.bl.injEq, V.ref.injEq, V.str.injEq, List.cons.injEq, exists_eq_left', exists_eq_left, exists_and_left, List.nil_append, List.cons_append, List.append_nil, true_and, and_true, decide_eq_true_eq, Bool.not_eq_true', decide_eq_false_iff_not, if_true, if_false, Bool.not_true, Bool.not_false, Bool.false_eq_true, reduceCtorEq, decide_true, decide_false, ite_true, ite_false, rSetL, rIxL, tRaise, jCons, jNil, tFmt, tDNew, rCount, rIndex, Int.reduceToNat, Int.reducePow, tRev]
      refine ⟨_, SqL.of upd_same, fun q hq => ?_⟩
      have hl0 : l = 0 := by omega
      subst hl0
      rw [← List.map_reverse]
      refine k bs q _ (bit_end I) I.bit bl (fun b u e => ?_) upd_same
      rw [upd_ne (ne_of_none (keep e hp) hq)]
      exact keep e hp
noncomputable abbrev O_law_bits (P : Program) (w : World) (K : PySem.W.Frag) (mg : Str → Option Value) (base : Heap) : Prop := ∃ f fd, Df_law_bits K mg f fd ∧ FnOk P w K mg base CX0 1 f fd ["_law_often"] (spBits)
noncomputable abbrev s_law_pair_by : Stmt := top 41
theorem sc_law_pair_by : FnScope ["_law_one", "_law_other", "_law_d", "_law_n", "_law_first"] ["_law_one", "_law_other", "_law_d", "_law_n"] (defScope s_law_pair_by) := ⟨rfl, rfl, rfl, by decide +kernel, rfl, by decide +kernel, by decide +kernel⟩
noncomputable abbrev Df_law_pair_by (K : PySem.W.Frag) (mg : Str → Option Value) (f : Addr) (fd : FuncData) : Prop := Def K mg "_law_pair_by" s_law_pair_by ["_law_one", "_law_other", "_law_d", "_law_n"] f fd
theorem ok_law_pair_by (D : Df_law_pair_by K mg f fd) (T : Txt K mg t1 cl) : FnOk P w K mg base CX0 1 f fd ["_law_one", "_law_other", "_law_d", "_law_n"] (spProd K) := by
  refine D.fn.ok sc_law_pair_by (fun vs H Q E h => ?_) (fun cdv A outer s H vs Q E hr h => ?_)
  · obtain ⟨p, q, A, B, d, n, rfl, _⟩ := h
    rfl
  · obtain ⟨p, q, A, B, d, n, rfl, hp, hq, ⟨sa, sb, hd, hn, hn2⟩, k⟩ := h
    refine ⟨_, (pss_cons (ps_set (i := 4) sc_law_pair_by.nd rfl (by first | exact Or.inl rfl | exact Or.inr rfl) (pe_op op_add (pe_op op_mulB (pe_ix ix_tup (pv 0) pe_int (fun _ _ => rfl)) (pe_ix ix_tup (pv 1) pe_int (fun _ _ => rfl))) (pe_op op_mulB (pe_op op_mulB (pv 2) (pe_ix ix_tup (pv 0) pe_int (fun _ _ => rfl))) (pe_ix ix_tup (pv 1) pe_int (fun _ _ => rfl)))))
 (pss_one (ps_ret (pe_tup (pa_cons (pe_op op_mod (pv 4) (pv 3)) (pa_cons (pe_op op_mod (pe_op op_add (pe_op op_mulB (pe_ix ix_tup (pv 0) pe_int (fun _ _ => rfl)) (pe_ix ix_tup (pv 1) pe_int (fun _ _ => rfl))) (pe_op op_mulB (pe_ix ix_tup (pv 0) pe_int (fun _ _ => rfl)) (pe_ix ix_tup (pv 1) pe_int (fun _ _ => rfl)))) (pv 3)) pa_nil)))))), ?_⟩
    have e0 : L2.start ["_law_one", "_law_other", "_law_d", "_law_n", "_law_first"] [.ref p, .ref q, .int d, .int n] = [some (.ref p), some (.ref q), some (.int d), some (.int n), none] := rfl
    rw [e0]; clear e0
    simp only [tSeq, tIfS, tTest, tRet, tRetN, tNext, tDrop, tAsg, tPar, tPar3, tAug, tVar, tC, tOp, tUn, rI, rI0, rU, tB, tAnd, tOr, tNot, tAndV, tOrV, tNotV, tIf, gName, gNil, gCons, gTup, gSub, tCB, tCons, tNil, tCall, tChain, ipI, tIsN, tNotN, tBM, tyV, tTup, tLst, rAppend, rCat, scal_ii, scal_bb, scal_ss, scal_ni, scal_in, rEq, rNe, List.getElem?_cons_zero, List.getElem?_cons_succ, List.set_cons_zero, List.set_cons_succ, eq_self, and_assoc, Option.some.injEq, V.int.injEq, V.bl.injEq, V.ref.injEq, V.str.injEq, List.cons.injEq, exists_eq_left', exists_eq_left, exists_and_left, List.nil_append, List.cons_append, List.append_nil, true_and, and_true, decide_eq_true_eq, Bool.not_eq_true', decide_eq_false_iff_not, if_true, if_false, Bool.not_true, Bool.not_false, Bool.false_eq_true, reduceCtorEq, decide_true, decide_false, ite_true, ite_false, rSetL, rIxL, tRaise, jCons, jNil, tFmt, tDNew, rCount, rIndex, Int.reduceToNat, Int.reducePow, rIxT]
    exact ⟨_, hp, _, rfl, _, hq, _, rfl, _, rfl, _, rfl, .inr ⟨ten100 sa.a, ten100 sb.a⟩, _, hp, _, rfl, _, rfl, .inr ⟨ten100 hd, ten100 sa.b⟩, _, hq, _, rfl, _, rfl, .inr ⟨nb_mul hd sa.b (by decide), ten100 sb.b⟩, hn, _, hp, _, rfl, _, hq, _, rfl, _, rfl, _, rfl, .inr ⟨ten100 sa.a, ten100 sb.b⟩, _, hp, _, rfl, _, hq, _, rfl, _, rfl, _, rfl, .inr ⟨ten100 sa.b, ten100 sb.a⟩, hn, by show 2 ≤ sizeLine; decide, fun r hr' => k r hr'⟩
noncomputable abbrev O_law_pair_by (P : Program) (w : World) (K : PySem.W.Frag) (mg : Str → Option Value) (base : Heap) : Prop := ∃ f fd, Df_law_pair_by K mg f fd ∧ FnOk P w K mg base CX0 1 f fd ["_law_one", "_law_other", "_law_d", "_law_n"] (spProd K)
noncomputable abbrev s_law_pair_power : Stmt := top 42
theorem sc_law_pair_power : FnScope ["_law_pair", "_law_often", "_law_d", "_law_n", "_law_found", "_law_bit"] ["_law_pair", "_law_often", "_law_d", "_law_n"] (defScope s_law_pair_power) := ⟨rfl, rfl, rfl, by decide +kernel, rfl, by decide +kernel, by decide +kernel⟩
noncomputable abbrev Df_law_pair_power (K : PySem.W.Frag) (mg : Str → Option Value) (f : Addr) (fd : FuncData) : Prop := Def K mg "_law_pair_power" s_law_pair_power ["_law_pair", "_law_often", "_law_d", "_law_n"] f fd
theorem ok_law_pair_power (D : Df_law_pair_power K mg f fd) (T : Txt K mg t1 cl) (o1 : O_law_bits P w K mg base) (o2 : O_law_pair_by P w K mg base) : FnOk P w K mg base CX0 2 f fd ["_law_pair", "_law_often", "_law_d", "_law_n"] (spPP K) := by
  obtain ⟨_, _, D_law_bits, G_law_bits⟩ := o1
  obtain ⟨_, _, D_law_pair_by, G_law_pair_by⟩ := o2
  refine D.fn.ok sc_law_pair_power (fun vs H Q E h => ?_) (fun cdv A outer s H vs Q E hr h => ?_)
  · obtain ⟨p, A, o, d, n, rfl, _⟩ := h
    rfl
  · obtain ⟨p, A, o, d, n, rfl, hp, ⟨sa, ho, ho2, hd, hn, hn2⟩, k⟩ := h
    refine ⟨_, (pss_cons (ps_set (i := 4) sc_law_pair_power.nd rfl (by first | exact Or.inl rfl | exact Or.inr rfl) (pe_tup (pa_cons (pe_op op_mod pe_int (pv 3)) (pa_cons pe_int pa_nil))))
 (pss_cons (ps_for PassesOwn.never rfl (pi_list (pe_call (G_law_bits.mono (by decide)) hr rfl D_law_bits.mgx D_law_bits.fn.kp D_law_bits.bd .nil pass0 (pa_cons (pv 1) pa_nil))) (pg_name (i := 5) sc_law_pair_power.nd rfl (by first | exact Or.inl rfl | exact Or.inr rfl))
 (pss_cons (ps_set (i := 4) sc_law_pair_power.nd rfl (by first | exact Or.inl rfl | exact Or.inr rfl) (pe_call (G_law_pair_by.mono (by decide)) hr rfl D_law_pair_by.mgx D_law_pair_by.fn.kp D_law_pair_by.bd .nil pass0 (pa_cons (pv 4) (pa_cons (pv 4) (pa_cons (pv 2) (pa_cons (pv 3) pa_nil))))))
 (pss_one (ps_if (pt_cmpR op_eq (pv 5) pe_int (nomark _))
 (pss_one (ps_set (i := 4) sc_law_pair_power.nd rfl (by first | exact Or.inl rfl | exact Or.inr rfl) (pe_call (G_law_pair_by.mono (by decide)) hr rfl D_law_pair_by.mgx D_law_pair_by.fn.kp D_law_pair_by.bd .nil pass0 (pa_cons (pv 4) (pa_cons (pv 0) (pa_cons (pv 2) (pa_cons (pv 3) pa_nil)))))))
 pss_nil))))
 (pss_one (ps_ret (pv 4))))), ?_⟩
    have e0 : L2.start ["_law_pair", "_law_often", "_law_d", "_law_n", "_law_found", "_law_bit"] [.ref p, .int o, .int d, .int n] = [some (.ref p), some (.int o), some (.int d), some (.int n), none, none] := rfl
    rw [e0]; clear e0
    simp only [tSeq, tIfS, tTest, tRet, tRetN, tNext, tDrop, tAsg, tPar, tPar3, tAug, tVar, tC, tOp, tUn, rI, rI0, rU, tB, tAnd, tOr, tNot, tAndV, tOrV, tNotV, tIf, gName, gNil, gCons, gTup, gSub, tCB, tCons, tNil, tCall, tChain, ipI, tIsN, tNotN, tBM, tyV, tTup, tLst, rAppend, rCat, scal_ii, scal_bb, scal_ss, scal_ni, scal_in, rEq, rNe, List.getElem?_cons_zero, List.getElem?_cons_succ, List.set_cons_zero, List.set_cons_succ, eq_self, and_assoc, Option.some.injEq, V.int.injEq, V.bl.injEq, V.ref.injEq, V.str.injEq, List.cons.injEq, exists_eq_left', exists_eq_left, exists_and_left, List.nil_append, List.cons_append, List.append_nil, true_and, and_true, decide_eq_true_eq, Bool.not_eq_true', decide_eq_false_iff_not, if_true, if_false, Bool.not_true, Bool.not_false, Bool.false_eq_true, reduceCtorEq, decide_true, decide_false, ite_true, ite_false, rSetL, rIxL, tRaise, jCons, jNil, tFmt, tDNew, rCount, rIndex, Int.reduceToNat, Int.reducePow]
    refine ⟨hn, by show 2 ≤ sizeLine; decide, fun p1 hp1 => ?_⟩
    have s1 : Same H (upd H p1 (.tup [V.int (1 % n), V.int 0])) := fun b o e => keep e hp1
    have e1 : (upd H p1 (.tup [V.int (1 % n), V.int 0])) p1 = some (.tup (prV (1 % n, 0))) := upd_same
    generalize upd H p1 (.tup [V.int (1 % n), V.int 0]) = H1 at s1 e1 ⊢
    refine ⟨_, rfl, o, rfl, ⟨ho, ho2⟩, fun bs q H2 hv hbit hlen S2 hq => ?_⟩
    obtain ⟨W, hW⟩ : ∃ W : Nat → St → Hp → Prop, ∀ j σ H', W j σ H' ↔ Same H H' ∧ Same H2 H' ∧ ∃ pf v, σ = [some (.ref p), some (.int o), some (.int d), some (.int n), some (.ref pf), v] ∧ H' pf = some (.tup (prV (rp n (pw d A (valL (bs.drop (bs.length - j))).toNat)))) := ⟨_, fun _ _ _ => Iff.rfl⟩
    refine ⟨q, rfl, ⟨_, SqL.of hq⟩, for_list (xs := bs.reverse.map V.int) W ((hW _ _ _).mpr ⟨s1.trans S2, fun _ _ e => e, p1, none, rfl, ?_⟩) (fun _ _ _ _ h => SqL.of (((hW _ _ _).mp h).2.1 _ _ hq)) ?_ ?_⟩
    · rw [Nat.sub_zero, List.drop_length]
      rw [one_rp hn] at e1
      exact S2 _ _ e1
    · intro j x σ H' hx hw
      obtain ⟨sm, sm2, pf, v, rfl, ef⟩ := (hW _ _ _).mp hw
      rw [List.getElem?_map] at hx
      obtain ⟨c, hcx⟩ : ∃ c, bs.reverse[j]? = some c := by
        cases e : bs.reverse[j]? with
        | none => rw [e] at hx; cases hx
        | some c => exact ⟨c, rfl⟩
      rw [hcx] at hx
      cases hx
      obtain ⟨hc, hdr⟩ := rev_at hcx
      have hv0 := valL_nonneg (fun y hy => hbit y (List.mem_of_mem_drop (i := bs.length - j) hy))
      have cb := hbit c hc
      simp only [tSeq, tIfS, tTest, tRet, tRetN, tNext, tDrop, tAsg, tPar, tPar3, tAug, tVar, tC, tOp, tUn, rI, rI0, rU, tB, tAnd, tOr, tNot, tAndV, tOrV, tNotV, tIf, gName, gNil, gCons, gTup, gSub, tCB, tCons, tNil, tCall, tChain, ipI, tIsN, tNotN, tBM, tyV, tTup, tLst, rAppend, rCat, scal_ii, scal_bb, scal_ss, scal_ni, scal_in, rEq, rNe, List.getElem?_cons_zero, List.getElem?_cons_succ, List.set_cons_zero, List.set_cons_succ, eq_self, and_assoc, Option.some.injEq, V.int.injEq, V.bl.injEq, V.ref.injEq, V.str.injEq, List.cons.injEq, exists_eq_left', exists_eq_left, exists_and_left, List.nil_append, List.cons_append, List.append_nil, true_and, and_true, decide_eq_true_eq, Bool.not_eq_true', decide_eq_false_iff_not, if_true, if_false, Bool.not_true, Bool.not_false, Bool.false_eq_true, reduceCtorEq, decide_true, decide_false, ite_true, ite_false, rSetL, rIxL, tRaise, jCons, jNil, tFmt, tDNew, rCount, rIndex, Int.reduceToNat, Int.reducePow]
      refine ⟨pf, pf, _, _, d, n, rfl, SqT.of ef, SqT.of ef, ⟨Sm.rp hn hn2 _, Sm.rp hn hn2 _, hd, hn, hn2⟩, fun r1 hr1 => ?_⟩
      simp only [tSeq, tIfS, tTest, tRet, tRetN, tNext, tDrop, tAsg, tPar, tPar3, tAug, tVar, tC, tOp, tUn, rI, rI0, rU, tB, tAnd, tOr, tNot, tAndV, tOrV, tNotV, tIf, gName, gNil, gCons, gTup, gSub, tCB, tCons, tNil, tCall, tChain, ipI, tIsN, tNotN, tBM, tyV, tTup, tLst, rAppend, rCat, scal_ii, scal_bb, scal_ss, scal_ni, scal_in, rEq, rNe, List.getElem?_cons_zero, List.getElem?_cons_succ, List.set_cons_zero, List.set_cons_succ, eq_self, and_assoc, Option.some.injEq, V.int.injEq, V.bl.injEq, V.ref.injEq, V.str.injEq, List.cons.injEq, exists_eq_left', exists_eq_left, exists_and_left, List.nil_append, List.cons_append, List.append_nil, true_and, and_true, decide_eq_true_eq, Bool.not_eq_true', decide_eq_false_iff_not, if_true, if_false, Bool.not_true, Bool.not_false, Bool.false_eq_true, reduceCtorEq, decide_true, decide_false, ite_true, ite_false, rSetL, rIxL, tRaise, jCons, jNil, tFmt, tDNew, rCount, rIndex, Int.reduceToNat, Int.reducePow]
      refine ite2 (fun h1 => ?_) (fun h1 => ?_)
      · subst h1
        have hp' := keep (u := .tup (prV (rp n (pm d (rp n (pw d A (valL (bs.drop (bs.length - j))).toNat)) (rp n (pw d A (valL (bs.drop (bs.length - j))).toNat)))))) (sm _ _ hp) hr1
        refine ⟨r1, p, _, A, d, n, rfl, SqT.of upd_same, SqT.of hp', ⟨Sm.rp hn hn2 _, sa, hd, hn, hn2⟩, fun r2 hr2 => ?_⟩
        refine (hW _ _ _).mpr ⟨fun b o e => keep (keep (sm _ _ e) hr1) hr2, fun b o e => keep (keep (sm2 _ _ e) hr1) hr2, r2, _, rfl, ?_⟩
        rw [upd_same, hdr, ← pw_bit1 hv0]
      · have c0 : c = 0 := by omega
        subst c0
        refine (hW _ _ _).mpr ⟨fun b o e => keep (sm _ _ e) hr1, fun b o e => keep (sm2 _ _ e) hr1, r1, _, rfl, ?_⟩
        rw [upd_same, hdr, ← pw_bit0 hv0]
    · intro σ H' hw
      obtain ⟨sm, sm2, pf, v, rfl, ef⟩ := (hW _ _ _).mp hw
      simp only [tSeq, tIfS, tTest, tRet, tRetN, tNext, tDrop, tAsg, tPar, tPar3, tAug, tVar, tC, tOp, tUn, rI, rI0, rU, tB, tAnd, tOr, tNot, tAndV, tOrV, tNotV, tIf, gName, gNil, gCons, gTup, gSub, tCB, tCons, tNil, tCall, tChain, ipI, tIsN, tNotN, tBM, tyV, tTup, tLst, rAppend, rCat, scal_ii, scal_bb, scal_ss, scal_ni, scal_in, rEq, rNe, List.getElem?_cons_zero, List.getElem?_cons_succ, List.set_cons_zero, List.set_cons_succ, eq_self, and_assoc, Option.some.injEq, V.int.injEq, V.bl.injEq, V.ref.injEq, V.str.injEq, List.cons.injEq, exists_eq_left', exists_eq_left, exists_and_left, List.nil_append, List.cons_append, List.append_nil, true_and, and_true, decide_eq_true_eq, Bool.not_eq_true', decide_eq_false_iff_not, if_true, if_false, Bool.not_true, Bool.not_false, Bool.false_eq_true, reduceCtorEq, decide_true, decide_false, ite_true, ite_false, rSetL, rIxL, tRaise, jCons, jNil, tFmt, tDNew, rCount, rIndex, Int.reduceToNat, Int.reducePow]
      have e : bs.length - (bs.reverse.map V.int).length = 0 := by rw [List.length_map, List.length_reverse]; omega
      rw [e, List.drop_zero, hv] at ef
      exact k _ _ sm ef
noncomputable abbrev O_law_pair_power (P : Program) (w : World) (K : PySem.W.Frag) (mg : Str → Option Value) (base : Heap) : Prop := ∃ f fd, Df_law_pair_power K mg f fd ∧ FnOk P w K mg base CX0 2 f fd ["_law_pair", "_law_often", "_law_d", "_law_n"] (spPP K)
noncomputable def Tyd (K : PySem.W.Frag) (a : Addr) (H : Hp) (v : V) : Prop := (∃ n, TyOf K H v (.type n)) ∧ ∀ p, v = .ref p → p ≠ a
theorem Tyd.step {a : Addr} {H H' : Hp} {v : V} (h : Tyd K a H v) (s : But a H H') : Tyd K a H' v := by
  obtain ⟨⟨n, ty⟩, ne⟩ := h
  refine ⟨⟨n, ?_⟩, ne⟩
  cases ty with
  | non => exact .non
  | bl x => exact .bl x
  | int i => exact .int i
  | str x => exact .str x
  | flt x => exact .flt x
  | lst e => exact .lst (s _ _ (ne _ rfl) e)
  | frz e => exact .frz (s _ _ (ne _ rfl) e)
  | tup e => exact .tup (s _ _ (ne _ rfl) e)
  | dK e => exact .dK (s _ _ (ne _ rfl) e)
  | dT e => exact .dT (s _ _ (ne _ rfl) e)
noncomputable abbrev s_law_none : Stmt := top 39
theorem sc_law_none : FnScope ["_law_state_here", "_law_low", "_law_high", "_law_some"] ["_law_state_here", "_law_low", "_law_high"] (defScope s_law_none) := ⟨rfl, rfl, rfl, by decide +kernel, rfl, by decide +kernel, by decide +kernel⟩
noncomputable abbrev Df_law_none (K : PySem.W.Frag) (mg : Str → Option Value) (f : Addr) (fd : FuncData) : Prop := Def K mg "_law_none" s_law_none ["_law_state_here", "_law_low", "_law_high"] f fd
noncomputable def spNone (K : PySem.W.Frag) : Sp := fun vs H Q _ => ∃ (a : Addr) (lo hi : Int), vs = [.ref a, .int lo, .int hi] ∧ (-(10 ^ 40) ≤ lo ∧ lo ≤ hi ∧ hi ≤ 10 ^ 40) ∧ StAt H a ∧ ∀ v H', Step a H H' → Tyd K a H' v → isBet v lo hi = false → Q v H'
theorem ok_law_none (D : Df_law_none K mg f fd) (T : Txt K mg t1 cl) (o1 : O_law_take P w K mg base) : FnOk P w K mg base CX0 2 f fd ["_law_state_here", "_law_low", "_law_high"] (spNone K) := by
  obtain ⟨_, _, D_law_take, G_law_take⟩ := o1
  refine D.fn.ok sc_law_none (fun vs H Q E h => ?_) (fun cdv A outer s H vs Q E hr h => ?_)
  · obtain ⟨a, lo, hi, rfl, _⟩ := h
    rfl
  · obtain ⟨a, lo, hi, rfl, ⟨b1, b2, b3⟩, hst, k⟩ := h
    refine ⟨_, (pss_cons (ps_set (i := 3) sc_law_none.nd rfl (by first | exact Or.inl rfl | exact Or.inr rfl) (pe_lst (pa_cons (pe_op op_sub (pv 1) pe_int) (pa_cons (pe_op op_add (pv 2) pe_int) (pa_cons pe_bl (pa_cons pe_bl (pa_cons pe_non (pa_cons (pe_callTy call_str_int (by rfl) T.no_str PyProof.Rows.boot_str (pa_cons (pv 1) pa_nil)) (pa_cons (pe_tup (pa_cons (pv 1) pa_nil)) (pa_cons (pe_lst (pa_cons (pv 2) pa_nil)) (pa_cons (pe_op op_pow pe_int pe_int) (pa_cons (pe_op op_sub pe_int (pe_op op_pow pe_int pe_int)) (pa_cons pe_dnew (pa_cons pe_str pa_nil))))))))))))))
 (pss_one (ps_ret (pe_ix ix_list (pv 3) (pe_call (G_law_take.mono (by decide)) hr rfl D_law_take.mgx D_law_take.fn.kp D_law_take.bd .nil pass0 (pa_cons (pv 0) (pa_cons pe_int pa_nil))) (fun _ _ => rfl))))), ?_⟩
    have e0 : L2.start ["_law_state_here", "_law_low", "_law_high", "_law_some"] [.ref a, .int lo, .int hi] = [some (.ref a), some (.int lo), some (.int hi), none] := rfl
    rw [e0]; clear e0
    simp only [tSeq, tIfS, tTest, tRet, tRetN, tNext, tDrop, tAsg, tPar, tPar3, tAug, tVar, tC, tOp, tUn, rI, rI0, rU, tB, tAnd, tOr, tNot, tAndV, tOrV, tNotV, tIf, gName, gNil, gCons, gTup, gSub, tCB, tCons, tNil, tCall, tChain, ipI, tIsN, tNotN, tBM, tyV, tTup, tLst, rAppend, rCat, scal_ii, scal_bb, scal_ss, scal_ni, scal_in, rEq, rNe, List.getElem?_cons_zero, List.getElem?_cons_succ, List.set_cons_zero, List.set_cons_succ, eq_self, and_assoc, Option.some.injEq, V.int.injEq, V.bl.injEq, V.ref.injEq, V.str.injEq, List.cons.injEq, exists_eq_left', exists_eq_left, exists_and_left, List.nil_append, List.cons_append, List.append_nil, true_and, and_true, decide_eq_true_eq, Bool.not_eq_true', decide_eq_false_iff_not, if_true, if_false, Bool.not_true, Bool.not_false, Bool.false_eq_true, reduceCtorEq, decide_true, decide_false, ite_true, ite_false, rSetL, rIxL, tRaise, jCons, jNil, tFmt, tDNew, rCount, rIndex, Int.reduceToNat, Int.reducePow]
    refine ⟨Nat.lt_trans (log2_small (by omega)) (by decide), by show 1 ≤ sizeLine; decide, fun p hp => ⟨by show 1 ≤ sizeLine; decide, fun p1 hp1 => ⟨⟨by decide, by decide, by decide⟩, ⟨by decide, by decide, by decide⟩, fun p2 hp2 => ⟨by show 12 ≤ sizeLine; decide, fun p3 hp3 => ⟨a, _, rfl, ⟨by decide, by decide⟩, (((hst.upd hp).upd hp1).upd hp2).upd hp3, fun r H2 r0 r1 S2 => ?_⟩⟩⟩⟩⟩
    have S := ((((Step.refl hst).new hp).new hp1).new hp2).new hp3 |>.trans S2
    obtain ⟨x, y, ha, _⟩ := hst
    have n0 : p ≠ a := (ne_of_none ha hp).symm
    have n1 : p1 ≠ a := (ne_of_none (keep ha hp) hp1).symm
    have n2 : p2 ≠ a := (ne_of_none (keep (keep ha hp) hp1) hp2).symm
    have n3 : p3 ≠ a := (ne_of_none (keep (keep (keep ha hp) hp1) hp2) hp3).symm
    have g0 := S2.but p _ n0 (keep (keep (keep upd_same hp1) hp2) hp3)
    have g1 := S2.but p1 _ n1 (keep (keep upd_same hp2) hp3)
    have g2 := S2.but p2 _ n2 (keep upd_same hp3)
    have g3 := S2.but p3 _ n3 upd_same
    refine ⟨_, r, rfl, SqL.of g3, ?_⟩
    have hr' : r = 0 ∨ r = 1 ∨ r = 2 ∨ r = 3 ∨ r = 4 ∨ r = 5 ∨ r = 6 ∨ r = 7 ∨ r = 8 ∨ r = 9 ∨ r = 10 ∨ r = 11 := by omega
    have si : ∀ i : Int, Tyd K a H2 (.int i) := fun i => ⟨⟨_, .int _⟩, fun p e => nomatch e⟩
    rcases hr' with rfl | rfl | rfl | rfl | rfl | rfl | rfl | rfl | rfl | rfl | rfl | rfl
    · exact ⟨_, rfl, k _ _ S (si _) (by rw [isBet, decide_eq_false (by omega)]; rfl)⟩
    · exact ⟨_, rfl, k _ _ S (si _) (by rw [isBet, decide_eq_false (show ¬ hi + 1 ≤ hi by omega), Bool.and_false])⟩
    · exact ⟨_, rfl, k _ _ S ⟨⟨_, .bl _⟩, fun p e => nomatch e⟩ rfl⟩
    · exact ⟨_, rfl, k _ _ S ⟨⟨_, .bl _⟩, fun p e => nomatch e⟩ rfl⟩
    · exact ⟨_, rfl, k _ _ S ⟨⟨_, .non⟩, fun p e => nomatch e⟩ rfl⟩
    · exact ⟨_, rfl, k _ _ S ⟨⟨_, .str _⟩, fun p e => nomatch e⟩ rfl⟩
    · exact ⟨_, rfl, k _ _ S ⟨⟨_, .tup g0⟩, fun p e => by cases e; exact n0⟩ rfl⟩
    · exact ⟨_, rfl, k _ _ S ⟨⟨_, .lst g1⟩, fun p e => by cases e; exact n1⟩ rfl⟩
    · exact ⟨_, rfl, k _ _ S (si _) (by rw [isBet, decide_eq_false (show ¬ (100000000000000000000000000000000000000000000000000000000000 : Int) ≤ hi by omega), Bool.and_false])⟩
    · exact ⟨_, rfl, k _ _ S (si _) (by rw [isBet, decide_eq_false (by omega)]; rfl)⟩
    · exact ⟨_, rfl, k _ _ S ⟨⟨_, .dK g2⟩, fun p e => by cases e; exact n2⟩ rfl⟩
    · exact ⟨_, rfl, k _ _ S ⟨⟨_, .str _⟩, fun p e => nomatch e⟩ rfl⟩
noncomputable abbrev O_law_none (P : Program) (w : World) (K : PySem.W.Frag) (mg : Str → Option Value) (base : Heap) : Prop := ∃ f fd, Df_law_none K mg f fd ∧ FnOk P w K mg base CX0 2 f fd ["_law_state_here", "_law_low", "_law_high"] (spNone K)
noncomputable def FtOk (H : Hp) (F : List (Addr × HO)) : Prop := ∀ f ∈ F, H f.1 = some f.2
structure Ft (K : PySem.W.Frag) (d : Dt) (v : V) (F : List (Addr × HO)) : Prop where
  pq : ∀ H, FtOk H F → PQ K H v false
  rep : ∀ H, FtOk H F → Rep K H d v
  ok : okD d = true
  sc : isScB d = false
  len : lenD d ≤ 1000000
  dep : dep d ≤ 100
  ntb : ∀ f ∈ F, ∀ ps, f.2 ≠ .tbl ps
noncomputable def Bad (K : PySem.W.Frag) (a : Addr) (H : Hp) (v : V) : Prop := ∃ d F, Ft K d v F ∧ FtOk H F ∧ ∀ f ∈ F, f.1 ≠ a
structure Odd (K : PySem.W.Frag) (d : Dt) (v : V) (F : List (Addr × HO)) : Prop where
  ty : ∀ H, FtOk H F → ∃ n, TyOf K H v (.type n)
  rep : ∀ H, FtOk H F → Rep K H d v
  far : farB v = false
  ok : okD d = true
  len : lenD d ≤ 20000
  dep : dep d ≤ 50
  ntb : ∀ f ∈ F, ∀ ps, f.2 ≠ .tbl ps
theorem ftok_cons {H : Hp} {p : Addr} {o : HO} {F : List (Addr × HO)} (h : FtOk H ((p, o) :: F)) : H p = some o ∧ FtOk H F := ⟨h (p, o) List.mem_cons_self, fun f hf => h f (List.mem_cons_of_mem _ hf)⟩
theorem ftok_mk {H : Hp} {p : Addr} {o : HO} {F : List (Addr × HO)} (h : H p = some o) (g : FtOk H F) : FtOk H ((p, o) :: F) := by
  intro f hf
  rcases List.mem_cons.mp hf with rfl | hf
  · exact h
  · exact g f hf
theorem repL_two {H : Hp} {d e : Dt} {u v : V} (h : Rep K H d u) (g : Rep K H e v) : RepL K H [d, e] [u, v] := ⟨u, [v], rfl, h, v, [], rfl, g, rfl⟩
theorem ft_fst {d : Dt} {v : V} {F : List (Addr × HO)} {t : Addr} {y : Int} (O : Odd K d v F) (hy : y.natAbs < 10 ^ 31) : Ft K (.tup [d, .int y]) (.ref t) ((t, .tup [v, .int y]) :: F) where
  pq H h := by
    obtain ⟨h1, h2⟩ := ftok_cons h
    obtain ⟨n, ty⟩ := O.ty H h2
    exact .fst h1 ty O.far
  rep H h := by
    obtain ⟨h1, h2⟩ := ftok_cons h
    exact ⟨t, _, rfl, SqT.of h1, repL_two (O.rep H h2) rfl⟩
  ok := by
    show (okD d && (decide (y.natAbs < 10 ^ 100) && true)) = true
    rw [O.ok, decide_eq_true (ten100 hy)]; rfl
  sc := rfl
  len := by
    have := O.len
    show lenD d + 2 + (101 + 2 + 0) + 3 ≤ 1000000
    omega
  dep := by
    have := O.dep
    show max (L2.dep d) (max 0 0) + 1 ≤ 100
    omega
  ntb f hf ps := by
    rcases List.mem_cons.mp hf with rfl | hf
    · exact fun z => nomatch z
    · exact O.ntb f hf ps
theorem ft_snd {d : Dt} {v : V} {F : List (Addr × HO)} {t : Addr} {y : Int} (O : Odd K d v F) (h0 : -(10 ^ 30) ≤ y) (h1 : y ≤ 10 ^ 30) : Ft K (.tup [.int y, d]) (.ref t) ((t, .tup [.int y, v]) :: F) where
  pq H h := by
    obtain ⟨e1, e2⟩ := ftok_cons h
    obtain ⟨n, ty⟩ := O.ty H e2
    exact .snd e1 (.int _) ty (isBet_of (by omega) (by omega)) O.far
  rep H h := by
    obtain ⟨e1, e2⟩ := ftok_cons h
    exact ⟨t, _, rfl, SqT.of e1, repL_two rfl (O.rep H e2)⟩
  ok := by
    show (decide (y.natAbs < 10 ^ 100) && (okD d && true)) = true
    rw [O.ok, decide_eq_true (by omega)]; rfl
  sc := rfl
  len := by
    have := O.len
    show 101 + 2 + (lenD d + 2 + 0) + 3 ≤ 1000000
    omega
  dep := by
    have := O.dep
    show max 0 (max (L2.dep d) 0) + 1 ≤ 100
    omega
  ntb f hf ps := by
    rcases List.mem_cons.mp hf with rfl | hf
    · exact fun z => nomatch z
    · exact O.ntb f hf ps
theorem nil_ok (H : Hp) : FtOk H [] := fun _ h => nomatch h
theorem odd_bl (b : Bool) : Odd K (.bl b) (.bl b) [] := ⟨fun _ _ => ⟨_, .bl _⟩, fun _ _ => rfl, rfl, rfl, by show 5 ≤ 20000; decide, by show 0 ≤ 50; decide, fun _ h => nomatch h⟩
theorem odd_non : Odd K .non .non [] := ⟨fun _ _ => ⟨_, .non⟩, fun _ _ => rfl, rfl, rfl, by show 4 ≤ 20000; decide, by show 0 ≤ 50; decide, fun _ h => nomatch h⟩
theorem odd_int {i : Int} (h : i.natAbs < 10 ^ 31) (hf : farB (.int i) = false) : Odd K (.int i) (.int i) [] := ⟨fun _ _ => ⟨_, .int _⟩, fun _ _ => rfl, hf, decide_eq_true (ten100 h), by show 101 ≤ 20000; decide, by show 0 ≤ 50; decide, fun _ h => nomatch h⟩
theorem odd_str {i : Int} (h : i.natAbs < 10 ^ 31) : Odd K (.str (toString i)) (.str (toString i)) [] := by
  refine ⟨fun _ _ => ⟨_, .str _⟩, fun _ _ => rfl, rfl, okD_str i, ?_, by show 0 ≤ 50; decide, fun _ h => nomatch h⟩
  have := toStr_len (ten100 h)
  show 10 * (toString i : Str).length + 2 ≤ 20000
  omega
theorem odd_tup {i : Int} {t : Addr} (h : i.natAbs < 10 ^ 31) : Odd K (.tup [.int i]) (.ref t) [(t, .tup [.int i])] := by
  refine ⟨fun H g => ⟨_, .tup (ftok_cons g).1⟩, fun H g => ⟨t, _, rfl, SqT.of (ftok_cons g).1, _, _, rfl, rfl, rfl⟩, rfl, ?_, by show 101 + 2 + 0 + 3 ≤ 20000; decide, by show max 0 0 + 1 ≤ 50; decide, fun f hf ps => ?_⟩
  · show (decide (i.natAbs < 10 ^ 100) && true) = true
    rw [decide_eq_true (ten100 h)]; rfl
  · rcases List.mem_cons.mp hf with rfl | hf
    · exact fun z => nomatch z
    · exact nomatch hf
theorem ft_one {H : Hp} {p : Addr} {o : HO} (h : H p = some o) : FtOk H [(p, o)] := ftok_mk h (nil_ok _)
theorem ft_na {a p : Addr} {o : HO} (h : p ≠ a) : ∀ f ∈ [(p, o)], f.1 ≠ a := fun f hf => by
  rcases List.mem_cons.mp hf with rfl | hf
  · exact h
  · exact nomatch hf
theorem ft_nt {p : Addr} {o : HO} (h : ∀ ps, o ≠ .tbl ps) : ∀ f ∈ [(p, o)], ∀ ps, f.2 ≠ .tbl ps := fun f hf ps => by
  rcases List.mem_cons.mp hf with rfl | hf
  · exact h ps
  · exact nomatch hf
theorem ok_i {i : Int} (h : i.natAbs < 10 ^ 31) : okD (.int i) = true := decide_eq_true (ten100 h)
theorem ft_lst {A : PZ} {l : Addr} (fa : Fr A) : Ft K (.lst [.int A.1, .int A.2]) (.ref l) [(l, .lst (prV A))] where
  pq H h := .ty (.lst (ftok_cons h).1) (by decide)
  rep H h := ⟨l, _, rfl, SqL.of (ftok_cons h).1, repL_two rfl rfl⟩
  ok := by show (okD _ && (okD _ && true)) = true; rw [ok_i fa.sm.a, ok_i fa.sm.b]; rfl
  sc := rfl
  len := by show 101 + 2 + (101 + 2 + 0) + 3 ≤ 1000000; decide
  dep := by show max 0 (max 0 0) + 1 ≤ 100; decide
  ntb := ft_nt fun _ z => nomatch z
theorem ft_tup1 {A : PZ} {l : Addr} (fa : Fr A) : Ft K (.tup [.int A.1]) (.ref l) [(l, .tup [.int A.1])] where
  pq H h := .len (ftok_cons h).1 (by show 1 ≠ 2; decide)
  rep H h := ⟨l, _, rfl, SqT.of (ftok_cons h).1, _, _, rfl, rfl, rfl⟩
  ok := by show (okD _ && true) = true; rw [ok_i fa.sm.a]; rfl
  sc := rfl
  len := by show (101 + 2 + 0) + 3 ≤ 1000000; decide
  dep := by show (max 0 0) + 1 ≤ 100; decide
  ntb := ft_nt fun _ z => nomatch z
theorem ft_tup3 {A : PZ} {l : Addr} (fa : Fr A) : Ft K (.tup [.int A.1, .int A.2, .int 0]) (.ref l) [(l, .tup [.int A.1, .int A.2, .int 0])] where
  pq H h := .len (ftok_cons h).1 (by show 3 ≠ 2; decide)
  rep H h := ⟨l, _, rfl, SqT.of (ftok_cons h).1, _, _, rfl, rfl, _, _, rfl, rfl, _, _, rfl, rfl, rfl⟩
  ok := by show (okD _ && (okD _ && (okD _ && true))) = true; rw [ok_i fa.sm.a, ok_i fa.sm.b, ok_i (by decide)]; rfl
  sc := rfl
  len := by show 101 + 2 + (101 + 2 + (101 + 2 + 0)) + 3 ≤ 1000000; decide
  dep := by show max 0 (max 0 (max 0 0)) + 1 ≤ 100; decide
  ntb := ft_nt fun _ z => nomatch z
theorem ft_non : Ft K .non .non [] where
  pq H h := .ty .non (by decide)
  rep H h := rfl
  ok := rfl
  sc := rfl
  len := by show 4 ≤ 1000000; decide
  dep := by show 0 ≤ 100; decide
  ntb := fun _ h => nomatch h
theorem ft_in {A : PZ} {l p : Addr} (fa : Fr A) : Ft K (.tup [.tup [.int A.1, .int A.2]]) (.ref l) [(l, .tup [.ref p]), (p, .tup (prV A))] where
  pq H h := .len (ftok_cons h).1 (by show 1 ≠ 2; decide)
  rep H h := ⟨l, _, rfl, SqT.of (ftok_cons h).1, _, _, rfl, ⟨p, _, rfl, SqT.of (ftok_cons (ftok_cons h).2).1, repL_two rfl rfl⟩, rfl⟩
  ok := by show ((okD _ && (okD _ && true)) && true) = true; rw [ok_i fa.sm.a, ok_i fa.sm.b]; rfl
  sc := rfl
  len := by show (101 + 2 + (101 + 2 + 0) + 3) + 2 + 0 + 3 ≤ 1000000; decide
  dep := by show max (max 0 (max 0 0) + 1) 0 + 1 ≤ 100; decide
  ntb := fun f hf ps => by
    rcases List.mem_cons.mp hf with rfl | hf
    · exact fun z => nomatch z
    · exact ft_nt (p := p) (o := .tup (prV A)) (fun _ z => nomatch z) f hf ps
theorem ft_nil {l : Addr} : Ft K (.tup []) (.ref l) [(l, .tup [])] where
  pq H h := .len (ftok_cons h).1 (by show 0 ≠ 2; decide)
  rep H h := ⟨l, _, rfl, SqT.of (ftok_cons h).1, rfl⟩
  ok := rfl
  sc := rfl
  len := by show 0 + 3 ≤ 1000000; decide
  dep := by show 0 + 1 ≤ 100; decide
  ntb := ft_nt fun _ z => nomatch z
theorem Step.same {a : Addr} {H H1 H2 : Hp} (x : Step a H H1) (y : Same H1 H2) : Step a H H2 := by
  obtain ⟨u, v, e, r⟩ := x.st
  exact ⟨⟨u, v, y a _ e, r⟩, fun b o hb e => y b o (x.but b o hb e)⟩
noncomputable abbrev s_law_no_pair : Stmt := top 43
theorem sc_law_no_pair : FnScope ["_law_state_here", "_law_pair", "_law_way", "_law_by", "_law_at", "_law_odd", "_law_bent"] ["_law_state_here", "_law_pair"] (defScope s_law_no_pair) := ⟨rfl, rfl, rfl, by decide +kernel, rfl, by decide +kernel, by decide +kernel⟩
noncomputable abbrev Df_law_no_pair (K : PySem.W.Frag) (mg : Str → Option Value) (f : Addr) (fd : FuncData) : Prop := Def K mg "_law_no_pair" s_law_no_pair ["_law_state_here", "_law_pair"] f fd
noncomputable def spNoPair (K : PySem.W.Frag) : Sp := fun vs H Q _ => ∃ (a p : Addr) (A : PZ), vs = [.ref a, .ref p] ∧ StAt H a ∧ H p = some (.tup (prV A)) ∧ p ≠ a ∧ Fr A ∧ ∀ v H', Step a H H' → Bad K a H' v → Q v H'
theorem ok_law_no_pair (D : Df_law_no_pair K mg f fd) (T : Txt K mg t1 cl) (o1 : O_law_take P w K mg base) : FnOk P w K mg base CX0 2 f fd ["_law_state_here", "_law_pair"] (spNoPair K) := by
  obtain ⟨_, _, D_law_take, G_law_take⟩ := o1
  refine D.fn.ok sc_law_no_pair (fun vs H Q E h => ?_) (fun cdv A outer s H vs Q E hr h => ?_)
  · obtain ⟨a, p, A, rfl, _⟩ := h
    rfl
  · obtain ⟨a, p, A, rfl, hst, hp, hpa, fa, k⟩ := h
    refine ⟨_, (pss_cons (ps_par3 (i := 2) (j := 3) (l := 4) rfl sc_law_no_pair.nd rfl rfl rfl (by decide) (by decide) (by decide) rfl rfl rfl (pa_cons (pe_call (G_law_take.mono (by decide)) hr rfl D_law_take.mgx D_law_take.fn.kp D_law_take.bd .nil pass0 (pa_cons (pv 0) (pa_cons pe_int pa_nil))) (pa_cons (pe_call (G_law_take.mono (by decide)) hr rfl D_law_take.mgx D_law_take.fn.kp D_law_take.bd .nil pass0 (pa_cons (pv 0) (pa_cons pe_int pa_nil))) (pa_cons (pe_call (G_law_take.mono (by decide)) hr rfl D_law_take.mgx D_law_take.fn.kp D_law_take.bd .nil pass0 (pa_cons (pv 0) (pa_cons pe_int pa_nil))) pa_nil))) (by first | rfl | with_unfolding_all rfl))
 (pss_cons (ps_set (i := 5) sc_law_no_pair.nd rfl (by first | exact Or.inl rfl | exact Or.inr rfl) (pe_ix ix_list (pe_lst (pa_cons pe_bl (pa_cons pe_non (pa_cons (pe_callTy call_str_int (by rfl) T.no_str PyProof.Rows.boot_str (pa_cons (pe_ix ix_tup (pv 1) (pv 4) (fun _ _ => rfl)) pa_nil)) (pa_cons (pe_tup (pa_cons (pe_ix ix_tup (pv 1) (pv 4) (fun _ _ => rfl)) pa_nil)) (pa_cons (pe_op op_add (pe_op op_pow pe_int pe_int) pe_int) (pa_cons (pe_op op_sub (pe_op op_sub pe_int (pe_op op_pow pe_int pe_int)) pe_int) (pa_cons pe_bl pa_nil)))))))) (pv 3) (fun _ _ => rfl)))
 (pss_cons (ps_set (i := 6) sc_law_no_pair.nd rfl (by first | exact Or.inl rfl | exact Or.inr rfl) (pe_ifExp (pt_cmpR op_eq (pv 4) pe_int (nomark _)) (pe_tup (pa_cons (pv 5) (pa_cons (pe_ix ix_tup (pv 1) pe_int (fun _ _ => rfl)) pa_nil))) (pe_tup (pa_cons (pe_ix ix_tup (pv 1) pe_int (fun _ _ => rfl)) (pa_cons (pv 5) pa_nil)))))
 (pss_one (ps_ret (pe_ix ix_list (pe_lst (pa_cons (pv 6) (pa_cons (pv 6) (pa_cons (pv 6) (pa_cons (pe_callTy call_list_of (by rfl) T.no_list PyProof.Rows.boot_list (pa_cons (pv 1) pa_nil)) (pa_cons (pe_slice sl_tup (pv 1) po_none (po_some pe_int)) (pa_cons (pe_op op_catT (pv 1) (pe_tup (pa_cons pe_int pa_nil))) (pa_cons pe_non (pa_cons (pe_tup (pa_cons (pv 1) pa_nil)) (pa_cons (pe_tup pa_nil) pa_nil)))))))))) (pv 2) (fun _ _ => rfl))))))), ?_⟩
    have e0 : L2.start ["_law_state_here", "_law_pair", "_law_way", "_law_by", "_law_at", "_law_odd", "_law_bent"] [.ref a, .ref p] = [some (.ref a), some (.ref p), none, none, none, none, none] := rfl
    rw [e0]; clear e0
    simp only [tSeq, tIfS, tTest, tRet, tRetN, tNext, tDrop, tAsg, tPar, tPar3, tAug, tVar, tC, tOp, tUn, rI, rI0, rU, tB, tAnd, tOr, tNot, tAndV, tOrV, tNotV, tIf, gName, gNil, gCons, gTup, gSub, tCB, tCons, tNil, tCall, tChain, ipI, tIsN, tNotN, tBM, tyV, tTup, tLst, rAppend, rCat, scal_ii, scal_bb, scal_ss, scal_ni, scal_in, rEq, rNe, List.getElem?_cons_zero, List.getElem?_cons_succ, List.set_cons_zero, List.set_cons_succ, eq_self, and_assoc, Option.some.injEq, V.int.injEq, V.bl.injEq, V.ref.injEq, V.str.injEq, List.cons.injEq, exists_eq_left', exists_eq_left, exists_and_left, List.nil_append, List.cons_append, List.append_nil, true_and, and_true, decide_eq_true_eq, Bool.not_eq_true', decide_eq_false_iff_not, if_true, if_false, Bool.not_true, Bool.not_false, Bool.false_eq_true, reduceCtorEq, decide_true, decide_false, ite_true, ite_false, rSetL, rIxL, tRaise, jCons, jNil, tFmt, tDNew, rCount, rIndex, Int.reduceToNat, Int.reducePow, rIxT, tSl, tNoPart, tPart, rSlT, rCatT]
    refine ⟨a, _, rfl, ⟨by decide, by decide⟩, hst, fun way H1 w0 w1 S1 => ?_⟩
    simp only [tSeq, tIfS, tTest, tRet, tRetN, tNext, tDrop, tAsg, tPar, tPar3, tAug, tVar, tC, tOp, tUn, rI, rI0, rU, tB, tAnd, tOr, tNot, tAndV, tOrV, tNotV, tIf, gName, gNil, gCons, gTup, gSub, tCB, tCons, tNil, tCall, tChain, ipI, tIsN, tNotN, tBM, tyV, tTup, tLst, rAppend, rCat, scal_ii, scal_bb, scal_ss, scal_ni, scal_in, rEq, rNe, List.getElem?_cons_zero, List.getElem?_cons_succ, List.set_cons_zero, List.set_cons_succ, eq_self, and_assoc, Option.some.injEq, V.int.injEq, V.bl.injEq, V.ref.injEq, V.str.injEq, List.cons.injEq, exists_eq_left', exists_eq_left, exists_and_left, List.nil_append, List.cons_append, List.append_nil, true_and, and_true, decide_eq_true_eq, Bool.not_eq_true', decide_eq_false_iff_not, if_true, if_false, Bool.not_true, Bool.not_false, Bool.false_eq_true, reduceCtorEq, decide_true, decide_false, ite_true, ite_false, rSetL, rIxL, tRaise, jCons, jNil, tFmt, tDNew, rCount, rIndex, Int.reduceToNat, Int.reducePow, rIxT]
    refine ⟨a, _, rfl, ⟨by decide, by decide⟩, S1.st, fun by' H2 y0 y1 S2 => ?_⟩
    simp only [tSeq, tIfS, tTest, tRet, tRetN, tNext, tDrop, tAsg, tPar, tPar3, tAug, tVar, tC, tOp, tUn, rI, rI0, rU, tB, tAnd, tOr, tNot, tAndV, tOrV, tNotV, tIf, gName, gNil, gCons, gTup, gSub, tCB, tCons, tNil, tCall, tChain, ipI, tIsN, tNotN, tBM, tyV, tTup, tLst, rAppend, rCat, scal_ii, scal_bb, scal_ss, scal_ni, scal_in, rEq, rNe, List.getElem?_cons_zero, List.getElem?_cons_succ, List.set_cons_zero, List.set_cons_succ, eq_self, and_assoc, Option.some.injEq, V.int.injEq, V.bl.injEq, V.ref.injEq, V.str.injEq, List.cons.injEq, exists_eq_left', exists_eq_left, exists_and_left, List.nil_append, List.cons_append, List.append_nil, true_and, and_true, decide_eq_true_eq, Bool.not_eq_true', decide_eq_false_iff_not, if_true, if_false, Bool.not_true, Bool.not_false, Bool.false_eq_true, reduceCtorEq, decide_true, decide_false, ite_true, ite_false, rSetL, rIxL, tRaise, jCons, jNil, tFmt, tDNew, rCount, rIndex, Int.reduceToNat, Int.reducePow, rIxT]
    refine ⟨a, _, rfl, ⟨by decide, by decide⟩, S2.st, fun at' H3 a0 a1 S3 => ?_⟩
    simp only [tSeq, tIfS, tTest, tRet, tRetN, tNext, tDrop, tAsg, tPar, tPar3, tAug, tVar, tC, tOp, tUn, rI, rI0, rU, tB, tAnd, tOr, tNot, tAndV, tOrV, tNotV, tIf, gName, gNil, gCons, gTup, gSub, tCB, tCons, tNil, tCall, tChain, ipI, tIsN, tNotN, tBM, tyV, tTup, tLst, rAppend, rCat, scal_ii, scal_bb, scal_ss, scal_ni, scal_in, rEq, rNe, List.getElem?_cons_zero, List.getElem?_cons_succ, List.set_cons_zero, List.set_cons_succ, eq_self, and_assoc, Option.some.injEq, V.int.injEq, V.bl.injEq, V.ref.injEq, V.str.injEq, List.cons.injEq, exists_eq_left', exists_eq_left, exists_and_left, List.nil_append, List.cons_append, List.append_nil, true_and, and_true, decide_eq_true_eq, Bool.not_eq_true', decide_eq_false_iff_not, if_true, if_false, Bool.not_true, Bool.not_false, Bool.false_eq_true, reduceCtorEq, decide_true, decide_false, ite_true, ite_false, rSetL, rIxL, tRaise, jCons, jNil, tFmt, tDNew, rCount, rIndex, Int.reduceToNat, Int.reducePow, rIxT]
    have S := S1.trans (S2.trans S3)
    have hp3 := S.but p _ hpa hp
    clear S1 S2 S3
    obtain ⟨c, hc, hcb⟩ : ∃ c : Int, atI (prV A) at' = some (.int c) ∧ c.natAbs < 10 ^ 31 := by
      have : at' = 0 ∨ at' = 1 := by omega
      rcases this with rfl | rfl
      · exact ⟨_, rfl, fa.sm.a⟩
      · exact ⟨_, rfl, fa.sm.b⟩
    refine ⟨_, SqT.of hp3, _, hc, _, rfl, Nat.lt_trans (log2_small (ten100 hcb)) (by decide), _, SqT.of hp3, _, hc, by show 1 ≤ sizeLine; decide, fun p1 h1 => ⟨⟨by decide, by decide, by decide⟩, ⟨by decide, by decide, by decide⟩, by show 7 ≤ sizeLine; decide, fun p2 h2 => ?_⟩⟩
    obtain ⟨xa, ya, ha3, _⟩ := S.st
    have n1 : p1 ≠ a := (ne_of_none ha3 h1).symm
    have e1 := keep (u := .lst [V.bl true, V.non, V.str (Str.ofString (toString c)), V.ref p1, V.int (1000000000000000000000000000000 + 1), V.int (0 - 1000000000000000000000000000000 - 1), V.bl false]) (upd_same (H := H3) (a := p1) (o := .tup [.int c])) h2
    have e2 : (upd (upd H3 p1 (.tup [.int c])) p2 (.lst [V.bl true, V.non, V.str (Str.ofString (toString c)), V.ref p1, V.int (1000000000000000000000000000000 + 1), V.int (0 - 1000000000000000000000000000000 - 1), V.bl false])) p2 = some (.lst [V.bl true, V.non, V.str (Str.ofString (toString c)), V.ref p1, V.int (1000000000000000000000000000000 + 1), V.int (0 - 1000000000000000000000000000000 - 1), V.bl false]) := upd_same
    have sm5 : Same H3 (upd (upd H3 p1 (.tup [.int c])) p2 (.lst [V.bl true, V.non, V.str (Str.ofString (toString c)), V.ref p1, V.int (1000000000000000000000000000000 + 1), V.int (0 - 1000000000000000000000000000000 - 1), V.bl false])) := fun b o e => keep (keep e h1) h2
    generalize (upd (upd H3 p1 (.tup [.int c])) p2 (.lst [V.bl true, V.non, V.str (Str.ofString (toString c)), V.ref p1, V.int (1000000000000000000000000000000 + 1), V.int (0 - 1000000000000000000000000000000 - 1), V.bl false])) = H5 at e1 e2 sm5 ⊢
    obtain ⟨v, dO, FO, hv, O, fo, fna⟩ : ∃ v dO FO, atI [V.bl true, V.non, V.str (Str.ofString (toString c)), V.ref p1, V.int (1000000000000000000000000000000 + 1), V.int (0 - 1000000000000000000000000000000 - 1), V.bl false] by' = some v ∧ Odd K dO v FO ∧ FtOk H5 FO ∧ ∀ f ∈ FO, f.1 ≠ a := by
      have : by' = 0 ∨ by' = 1 ∨ by' = 2 ∨ by' = 3 ∨ by' = 4 ∨ by' = 5 ∨ by' = 6 := by omega
      rcases this with rfl | rfl | rfl | rfl | rfl | rfl | rfl
      · exact ⟨_, _, _, rfl, odd_bl true, nil_ok _, fun _ h => nomatch h⟩
      · exact ⟨_, _, _, rfl, odd_non, nil_ok _, fun _ h => nomatch h⟩
      · exact ⟨_, _, _, rfl, odd_str hcb, nil_ok _, fun _ h => nomatch h⟩
      · refine ⟨_, _, _, rfl, odd_tup hcb, ftok_mk e1 (nil_ok _), fun f hf => ?_⟩
        rcases List.mem_cons.mp hf with rfl | hf
        · exact n1
        · exact nomatch hf
      · exact ⟨_, _, _, rfl, odd_int (by decide) (by decide), nil_ok _, fun _ h => nomatch h⟩
      · exact ⟨_, _, _, rfl, odd_int (by decide) (by decide), nil_ok _, fun _ h => nomatch h⟩
      · exact ⟨_, _, _, rfl, odd_bl false, nil_ok _, fun _ h => nomatch h⟩
    refine ⟨_, SqL.of e2, v, hv, ?_⟩
    have hp5 := sm5 _ _ hp3
    have ha5 := sm5 _ _ ha3
    refine ite2 (fun h => ?_) (fun h => ?_)
    · refine ⟨_, SqT.of hp5, _, rfl, by show 2 ≤ sizeLine; decide, fun t ht => ?_⟩
      have FT := ft_fst (K := K) (t := t) O fa.sm.b
      have ok6 : FtOk (upd H5 t (.tup [v, .int A.2])) ((t, .tup [v, .int A.2]) :: FO) := ftok_mk upd_same fun f hf => keep (fo f hf) ht
      have na6 : ∀ f ∈ (t, HO.tup [v, .int A.2]) :: FO, f.1 ≠ a := fun f hf => by
        rcases List.mem_cons.mp hf with rfl | hf
        · exact (ne_of_none ha5 ht).symm
        · exact fna f hf
      have sm6 : Same H5 (upd H5 t (.tup [v, .int A.2])) := fun b o e => keep e ht
      generalize upd H5 t (.tup [v, .int A.2]) = H6 at ok6 sm6 ⊢
      have smT : Same H3 H6 := sm5.trans sm6
      have hp6 := smT _ _ hp3
      have ha6 := smT _ _ ha3
      refine ⟨_, .inr (SqT.of hp6), fun l hl => ?_⟩
      have s7 : Same H6 (upd H6 l (.lst (prV A))) := fun b o e => keep (e) hl
      have x7 : (upd H6 l (.lst (prV A))) l = some (.lst (prV A)) := upd_same
      have n7 : l ≠ a := (ne_of_none (ha6) hl).symm
      have z7 : Same H6 (upd H6 l (.lst (prV A))) := fun b o e => keep e hl
      generalize upd H6 l (.lst (prV A)) = H7 at s7 x7 z7 ⊢
      refine ⟨_, SqT.of (s7 _ _ hp6), by show ¬ (HT.sIx 2 0 none = 0 ∧ HT.sIx 2 2 (some 1) = 2); decide, fun q1 hq1 => ?_⟩
      rw [show cutV (prV A) none (some 1) = [.int A.1] from rfl]
      have s8 : Same H6 (upd H7 q1 (.tup [.int A.1])) := fun b o e => keep (s7 _ _ e) hq1
      have x8 : (upd H7 q1 (.tup [.int A.1])) q1 = some (.tup [.int A.1]) := upd_same
      have n8 : q1 ≠ a := (ne_of_none (s7 _ _ ha6) hq1).symm
      have z8 : Same H7 (upd H7 q1 (.tup [.int A.1])) := fun b o e => keep e hq1
      generalize upd H7 q1 (.tup [.int A.1]) = H8 at s8 x8 z8 ⊢
      refine ⟨by show 1 ≤ sizeLine; decide, fun q2 hq2 => ?_⟩
      have s9 : Same H6 (upd H8 q2 (.tup [.int 0])) := fun b o e => keep (s8 _ _ e) hq2
      have x9 : (upd H8 q2 (.tup [.int 0])) q2 = some (.tup [.int 0]) := upd_same
      have n9 : q2 ≠ a := (ne_of_none (s8 _ _ ha6) hq2).symm
      have z9 : Same H8 (upd H8 q2 (.tup [.int 0])) := fun b o e => keep e hq2
      generalize upd H8 q2 (.tup [.int 0]) = H9 at s9 x9 z9 ⊢
      refine ⟨_, SqT.of (s9 _ _ hp6), _, SqT.of x9, (fun z => nomatch z), by show 3 ≤ sizeLine; decide, (fun z => nomatch z), fun _ q3 hq3 => ?_⟩
      rw [show prV A ++ [.int 0] = [.int A.1, .int A.2, .int 0] from rfl]
      have s10 : Same H6 (upd H9 q3 (.tup [.int A.1, .int A.2, .int 0])) := fun b o e => keep (s9 _ _ e) hq3
      have x10 : (upd H9 q3 (.tup [.int A.1, .int A.2, .int 0])) q3 = some (.tup [.int A.1, .int A.2, .int 0]) := upd_same
      have n10 : q3 ≠ a := (ne_of_none (s9 _ _ ha6) hq3).symm
      have z10 : Same H9 (upd H9 q3 (.tup [.int A.1, .int A.2, .int 0])) := fun b o e => keep e hq3
      generalize upd H9 q3 (.tup [.int A.1, .int A.2, .int 0]) = H10 at s10 x10 z10 ⊢
      refine ⟨by show 1 ≤ sizeLine; decide, fun q4 hq4 => ?_⟩
      have s11 : Same H6 (upd H10 q4 (.tup [.ref p])) := fun b o e => keep (s10 _ _ e) hq4
      have x11 : (upd H10 q4 (.tup [.ref p])) q4 = some (.tup [.ref p]) := upd_same
      have n11 : q4 ≠ a := (ne_of_none (s10 _ _ ha6) hq4).symm
      have z11 : Same H10 (upd H10 q4 (.tup [.ref p])) := fun b o e => keep e hq4
      generalize upd H10 q4 (.tup [.ref p]) = H11 at s11 x11 z11 ⊢
      refine ⟨by show 0 ≤ sizeLine; decide, fun q5 hq5 => ?_⟩
      have s12 : Same H6 (upd H11 q5 (.tup [])) := fun b o e => keep (s11 _ _ e) hq5
      have x12 : (upd H11 q5 (.tup [])) q5 = some (.tup []) := upd_same
      have n12 : q5 ≠ a := (ne_of_none (s11 _ _ ha6) hq5).symm
      have z12 : Same H11 (upd H11 q5 (.tup [])) := fun b o e => keep e hq5
      generalize upd H11 q5 (.tup []) = H12 at s12 x12 z12 ⊢
      refine ⟨by show 9 ≤ sizeLine; decide, fun q6 hq6 => ?_⟩
      have s13 : Same H6 (upd H12 q6 (.lst [V.ref t, V.ref t, V.ref t, V.ref l, V.ref q1, V.ref q3, V.non, V.ref q4, V.ref q5])) := fun b o e => keep (s12 _ _ e) hq6
      have x13 : (upd H12 q6 (.lst [V.ref t, V.ref t, V.ref t, V.ref l, V.ref q1, V.ref q3, V.non, V.ref q4, V.ref q5])) q6 = some (.lst [V.ref t, V.ref t, V.ref t, V.ref l, V.ref q1, V.ref q3, V.non, V.ref q4, V.ref q5]) := upd_same
      have n13 : q6 ≠ a := (ne_of_none (s12 _ _ ha6) hq6).symm
      have z13 : Same H12 (upd H12 q6 (.lst [V.ref t, V.ref t, V.ref t, V.ref l, V.ref q1, V.ref q3, V.non, V.ref q4, V.ref q5])) := fun b o e => keep e hq6
      generalize upd H12 q6 (.lst [V.ref t, V.ref t, V.ref t, V.ref l, V.ref q1, V.ref q3, V.non, V.ref q4, V.ref q5]) = H13 at s13 x13 z13 ⊢
      have SF : Step a H H13 := S.same (smT.trans s13)
      have y7 := z13 _ _ (z12 _ _ (z11 _ _ (z10 _ _ (z9 _ _ (z8 _ _ x7)))))
      have y8 := z13 _ _ (z12 _ _ (z11 _ _ (z10 _ _ (z9 _ _ x8))))
      have y10 := z13 _ _ (z12 _ _ (z11 _ _ x10))
      have y11 := z13 _ _ (z12 _ _ x11)
      have y12 := z13 _ _ x12
      have yp := s13 _ _ hp6
      have bent : Bad K a H13 (.ref t) := ⟨_, _, FT, fun f hf => s13 _ _ (ok6 f hf), na6⟩
      refine ⟨_, SqL.of x13, ?_⟩
      have : way = 0 ∨ way = 1 ∨ way = 2 ∨ way = 3 ∨ way = 4 ∨ way = 5 ∨ way = 6 ∨ way = 7 ∨ way = 8 := by omega
      rcases this with rfl | rfl | rfl | rfl | rfl | rfl | rfl | rfl | rfl
      · exact ⟨_, rfl, k _ _ SF bent⟩
      · exact ⟨_, rfl, k _ _ SF bent⟩
      · exact ⟨_, rfl, k _ _ SF bent⟩
      · exact ⟨_, rfl, k _ _ SF ⟨_, _, ft_lst fa, ft_one y7, ft_na n7⟩⟩
      · exact ⟨_, rfl, k _ _ SF ⟨_, _, ft_tup1 fa, ft_one y8, ft_na n8⟩⟩
      · exact ⟨_, rfl, k _ _ SF ⟨_, _, ft_tup3 fa, ft_one y10, ft_na n10⟩⟩
      · exact ⟨_, rfl, k _ _ SF ⟨_, _, ft_non, nil_ok _, fun _ h => nomatch h⟩⟩
      · refine ⟨_, rfl, k _ _ SF ⟨_, _, ft_in fa, ftok_mk y11 (ft_one yp), fun f hf => ?_⟩⟩
        rcases List.mem_cons.mp hf with rfl | hf
        · exact n11
        · exact ft_na hpa f hf
      · exact ⟨_, rfl, k _ _ SF ⟨_, _, ft_nil, ft_one y12, ft_na n12⟩⟩
    · refine ⟨_, SqT.of hp5, _, rfl, by show 2 ≤ sizeLine; decide, fun t ht => ?_⟩
      have FT := ft_snd (K := K) (t := t) O fa.a0 fa.a1
      have ok6 : FtOk (upd H5 t (.tup [.int A.1, v])) ((t, .tup [.int A.1, v]) :: FO) := ftok_mk upd_same fun f hf => keep (fo f hf) ht
      have na6 : ∀ f ∈ (t, HO.tup [.int A.1, v]) :: FO, f.1 ≠ a := fun f hf => by
        rcases List.mem_cons.mp hf with rfl | hf
        · exact (ne_of_none ha5 ht).symm
        · exact fna f hf
      have sm6 : Same H5 (upd H5 t (.tup [.int A.1, v])) := fun b o e => keep e ht
      generalize upd H5 t (.tup [.int A.1, v]) = H6 at ok6 sm6 ⊢
      have smT : Same H3 H6 := sm5.trans sm6
      have hp6 := smT _ _ hp3
      have ha6 := smT _ _ ha3
      refine ⟨_, .inr (SqT.of hp6), fun l hl => ?_⟩
      have s7 : Same H6 (upd H6 l (.lst (prV A))) := fun b o e => keep (e) hl
      have x7 : (upd H6 l (.lst (prV A))) l = some (.lst (prV A)) := upd_same
      have n7 : l ≠ a := (ne_of_none (ha6) hl).symm
      have z7 : Same H6 (upd H6 l (.lst (prV A))) := fun b o e => keep e hl
      generalize upd H6 l (.lst (prV A)) = H7 at s7 x7 z7 ⊢
      refine ⟨_, SqT.of (s7 _ _ hp6), by show ¬ (HT.sIx 2 0 none = 0 ∧ HT.sIx 2 2 (some 1) = 2); decide, fun q1 hq1 => ?_⟩
      rw [show cutV (prV A) none (some 1) = [.int A.1] from rfl]
      have s8 : Same H6 (upd H7 q1 (.tup [.int A.1])) := fun b o e => keep (s7 _ _ e) hq1
      have x8 : (upd H7 q1 (.tup [.int A.1])) q1 = some (.tup [.int A.1]) := upd_same
      have n8 : q1 ≠ a := (ne_of_none (s7 _ _ ha6) hq1).symm
      have z8 : Same H7 (upd H7 q1 (.tup [.int A.1])) := fun b o e => keep e hq1
      generalize upd H7 q1 (.tup [.int A.1]) = H8 at s8 x8 z8 ⊢
      refine ⟨by show 1 ≤ sizeLine; decide, fun q2 hq2 => ?_⟩
      have s9 : Same H6 (upd H8 q2 (.tup [.int 0])) := fun b o e => keep (s8 _ _ e) hq2
      have x9 : (upd H8 q2 (.tup [.int 0])) q2 = some (.tup [.int 0]) := upd_same
      have n9 : q2 ≠ a := (ne_of_none (s8 _ _ ha6) hq2).symm
      have z9 : Same H8 (upd H8 q2 (.tup [.int 0])) := fun b o e => keep e hq2
      generalize upd H8 q2 (.tup [.int 0]) = H9 at s9 x9 z9 ⊢
      refine ⟨_, SqT.of (s9 _ _ hp6), _, SqT.of x9, (fun z => nomatch z), by show 3 ≤ sizeLine; decide, (fun z => nomatch z), fun _ q3 hq3 => ?_⟩
      rw [show prV A ++ [.int 0] = [.int A.1, .int A.2, .int 0] from rfl]
      have s10 : Same H6 (upd H9 q3 (.tup [.int A.1, .int A.2, .int 0])) := fun b o e => keep (s9 _ _ e) hq3
      have x10 : (upd H9 q3 (.tup [.int A.1, .int A.2, .int 0])) q3 = some (.tup [.int A.1, .int A.2, .int 0]) := upd_same
      have n10 : q3 ≠ a := (ne_of_none (s9 _ _ ha6) hq3).symm
      have z10 : Same H9 (upd H9 q3 (.tup [.int A.1, .int A.2, .int 0])) := fun b o e => keep e hq3
      generalize upd H9 q3 (.tup [.int A.1, .int A.2, .int 0]) = H10 at s10 x10 z10 ⊢
      refine ⟨by show 1 ≤ sizeLine; decide, fun q4 hq4 => ?_⟩
      have s11 : Same H6 (upd H10 q4 (.tup [.ref p])) := fun b o e => keep (s10 _ _ e) hq4
      have x11 : (upd H10 q4 (.tup [.ref p])) q4 = some (.tup [.ref p]) := upd_same
      have n11 : q4 ≠ a := (ne_of_none (s10 _ _ ha6) hq4).symm
      have z11 : Same H10 (upd H10 q4 (.tup [.ref p])) := fun b o e => keep e hq4
      generalize upd H10 q4 (.tup [.ref p]) = H11 at s11 x11 z11 ⊢
      refine ⟨by show 0 ≤ sizeLine; decide, fun q5 hq5 => ?_⟩
      have s12 : Same H6 (upd H11 q5 (.tup [])) := fun b o e => keep (s11 _ _ e) hq5
      have x12 : (upd H11 q5 (.tup [])) q5 = some (.tup []) := upd_same
      have n12 : q5 ≠ a := (ne_of_none (s11 _ _ ha6) hq5).symm
      have z12 : Same H11 (upd H11 q5 (.tup [])) := fun b o e => keep e hq5
      generalize upd H11 q5 (.tup []) = H12 at s12 x12 z12 ⊢
      refine ⟨by show 9 ≤ sizeLine; decide, fun q6 hq6 => ?_⟩
      have s13 : Same H6 (upd H12 q6 (.lst [V.ref t, V.ref t, V.ref t, V.ref l, V.ref q1, V.ref q3, V.non, V.ref q4, V.ref q5])) := fun b o e => keep (s12 _ _ e) hq6
      have x13 : (upd H12 q6 (.lst [V.ref t, V.ref t, V.ref t, V.ref l, V.ref q1, V.ref q3, V.non, V.ref q4, V.ref q5])) q6 = some (.lst [V.ref t, V.ref t, V.ref t, V.ref l, V.ref q1, V.ref q3, V.non, V.ref q4, V.ref q5]) := upd_same
      have n13 : q6 ≠ a := (ne_of_none (s12 _ _ ha6) hq6).symm
      have z13 : Same H12 (upd H12 q6 (.lst [V.ref t, V.ref t, V.ref t, V.ref l, V.ref q1, V.ref q3, V.non, V.ref q4, V.ref q5])) := fun b o e => keep e hq6
      generalize upd H12 q6 (.lst [V.ref t, V.ref t, V.ref t, V.ref l, V.ref q1, V.ref q3, V.non, V.ref q4, V.ref q5]) = H13 at s13 x13 z13 ⊢
      have SF : Step a H H13 := S.same (smT.trans s13)
      have y7 := z13 _ _ (z12 _ _ (z11 _ _ (z10 _ _ (z9 _ _ (z8 _ _ x7)))))
      have y8 := z13 _ _ (z12 _ _ (z11 _ _ (z10 _ _ (z9 _ _ x8))))
      have y10 := z13 _ _ (z12 _ _ (z11 _ _ x10))
      have y11 := z13 _ _ (z12 _ _ x11)
      have y12 := z13 _ _ x12
      have yp := s13 _ _ hp6
      have bent : Bad K a H13 (.ref t) := ⟨_, _, FT, fun f hf => s13 _ _ (ok6 f hf), na6⟩
      refine ⟨_, SqL.of x13, ?_⟩
      have : way = 0 ∨ way = 1 ∨ way = 2 ∨ way = 3 ∨ way = 4 ∨ way = 5 ∨ way = 6 ∨ way = 7 ∨ way = 8 := by omega
      rcases this with rfl | rfl | rfl | rfl | rfl | rfl | rfl | rfl | rfl
      · exact ⟨_, rfl, k _ _ SF bent⟩
      · exact ⟨_, rfl, k _ _ SF bent⟩
      · exact ⟨_, rfl, k _ _ SF bent⟩
      · exact ⟨_, rfl, k _ _ SF ⟨_, _, ft_lst fa, ft_one y7, ft_na n7⟩⟩
      · exact ⟨_, rfl, k _ _ SF ⟨_, _, ft_tup1 fa, ft_one y8, ft_na n8⟩⟩
      · exact ⟨_, rfl, k _ _ SF ⟨_, _, ft_tup3 fa, ft_one y10, ft_na n10⟩⟩
      · exact ⟨_, rfl, k _ _ SF ⟨_, _, ft_non, nil_ok _, fun _ h => nomatch h⟩⟩
      · refine ⟨_, rfl, k _ _ SF ⟨_, _, ft_in fa, ftok_mk y11 (ft_one yp), fun f hf => ?_⟩⟩
        rcases List.mem_cons.mp hf with rfl | hf
        · exact n11
        · exact ft_na hpa f hf
      · exact ⟨_, rfl, k _ _ SF ⟨_, _, ft_nil, ft_one y12, ft_na n12⟩⟩
noncomputable abbrev O_law_no_pair (P : Program) (w : World) (K : PySem.W.Frag) (mg : Str → Option Value) (base : Heap) : Prop := ∃ f fd, Df_law_no_pair K mg f fd ∧ FnOk P w K mg base CX0 2 f fd ["_law_state_here", "_law_pair"] (spNoPair K)
end
end PP
set_option Elab.async false
set_option linter.all false
set_option maxRecDepth 100000
set_option maxHeartbeats 4000000
namespace PP
open PySem L2 MM
section
variable {P : Program} {w : World} {K : PySem.W.Frag} {mg : Str → Option Value} {base : Heap} {t1 : Tok} {cl : Cl} {f : Addr} {fd : FuncData}
theorem Same.sqT {H H' : Hp} {a : Addr} {xs : List V} (s : Same H H') (h : SqT K H a xs) : SqT K H' a xs := s.tk.sq h
theorem comp_zip {g : TG} {tt : TT} {te : TE} {Q : VK} {D' : Addr} {σ : St} {H : Hp} {t1 t2 : Addr} {xs ys : List V} (Pv : Nat → St → Hp → Prop) (h0 : Pv 0 σ H) (hl : ∀ i σ H, i ≤ xs.length → Pv i σ H → SqT K H t1 xs ∧ SqT K H t2 ys) (hlen : xs.length = ys.length)
    (hs : ∀ i x y σ H a, xs[i]? = some x → ys[i]? = some y → Pv i σ H → H a = none → CT g tt te D' (Pv (i + 1)) (.ref a) σ (upd H a (.tup [x, y]))) (hd : ∀ σ H, Pv xs.length σ H → Q (.ref D') H) : CW (Itz K t1 t2) g tt te D' Q σ H := by
  refine ⟨fun i m σ H => m = xs.length - i ∧ i ≤ xs.length ∧ Pv i σ H, ⟨xs.length, by simp, Nat.zero_le _, h0⟩, ?_⟩
  rintro i m σ H ⟨rfl, hi, p⟩
  obtain ⟨q1, q2⟩ := hl i σ H hi p
  by_cases hlt : i < xs.length
  · have hlt2 : i < ys.length := by omega
    refine .inr ⟨⟨xs, ys, xs[i], ys[i], q1, q2, by simp [hlt], by simp [hlt2]⟩, Pv (i + 1), fun σ' H' p' => ⟨xs.length - (i + 1), by omega, rfl, hlt, p'⟩, fun v H' y => ?_⟩
    obtain ⟨x, z, a, ha, rfl, rfl, hx, hz⟩ := y
    exact hs i x z σ H a (hx xs q1) (hz ys q2) p ha
  · have e : i = xs.length := by omega
    subst e
    exact .inl ⟨⟨xs, ys, q1, q2, .inl (Nat.le_refl _)⟩, hd σ H p⟩
theorem ok_law_same1 (D : Df_law_same K mg f fd) (T : Txt K mg t1 cl) (F : ∀ b, FnOk P w K mg b CX0 1 f fd ["_law_found", "_law_due"] (spSameS 0 K)) : FnOk P w K mg base CX0 (1 + 1) f fd ["_law_found", "_law_due"] (spSameS (0 + 1) K) := by
  have D_law_same := D
  have B_law_same := F
  refine D.fn.ok sc_law_same (fun vs H Q E h => ?_) (fun cdv A outer s H vs Q E hr h => ?_)
  · exact spSame_len K (0 + 1) h
  · obtain ⟨p, q, xs, ys, rfl, hp, hq, hlen, hsz, hall, k⟩ := (show ∃ (p q : Addr) (xs ys : List V), vs = [.ref p, .ref q] ∧ SqT K H p xs ∧ SqT K H q ys ∧ xs.length = ys.length ∧ xs.length < 1000 ∧ (∀ (i : Nat) (x y : V) (H' : Hp) (Q' : VK), xs[i]? = some x → ys[i]? = some y → Same H H' → (∀ H'', Same H' H'' → Q' (.bl true) H'') → spSameS 0 K [x, y] H' Q' E0) ∧ ∀ H', Same H H' → Q (.bl true) H' from h)
    refine ⟨_, (pss_cons (ps_if (pt_val (pe_callB call_isinstS2 (by rfl) T.no_isinstance PyProof.Rows.boot_isinstance (pa_cons (pv 1) (pa_cons (pe_tup (pa_cons (pe_bltn (v := .ty "tuple") rfl T.no_tuple PyProof.Rows.boot_tuple rfl) (pa_cons (pe_bltn (v := .ty "list") rfl T.no_list PyProof.Rows.boot_list rfl) pa_nil))) pa_nil))))
 (pss_cons (ps_if (PW.pt (pw_or (pt_cmpR op_ne (pe_callB call_isinstS (by rfl) T.no_isinstance PyProof.Rows.boot_isinstance (pa_cons (pv 0) (pa_cons (pe_bltn (v := .ty "tuple") rfl T.no_tuple PyProof.Rows.boot_tuple rfl) pa_nil))) (pe_callB call_isinstS (by rfl) T.no_isinstance PyProof.Rows.boot_isinstance (pa_cons (pv 1) (pa_cons (pe_bltn (v := .ty "tuple") rfl T.no_tuple PyProof.Rows.boot_tuple rfl) pa_nil))) (nomark _)) (pw_or1 (pt_cmpR op_ne (pe_callB call_isinstS (by rfl) T.no_isinstance PyProof.Rows.boot_isinstance (pa_cons (pv 0) (pa_cons (pe_bltn (v := .ty "list") rfl T.no_list PyProof.Rows.boot_list rfl) pa_nil))) (pe_callB call_isinstS (by rfl) T.no_isinstance PyProof.Rows.boot_isinstance (pa_cons (pv 1) (pa_cons (pe_bltn (v := .ty "list") rfl T.no_list PyProof.Rows.boot_list rfl) pa_nil))) (nomark _)))))
 (pss_one (ps_ret pe_bl))
 pss_nil)
 (pss_cons (ps_if (pt_cmpR op_ne (pe_callB call_len_seq (by rfl) T.no_len PySem.boot_len (pa_cons (pv 0) pa_nil)) (pe_callB call_len_seq (by rfl) T.no_len PySem.boot_len (pa_cons (pv 1) pa_nil)) (nomark _))
 (pss_one (ps_ret pe_bl))
 pss_nil)
 (pss_one (ps_ret (pe_callB (call_all rfl) (by rfl) T.no_all PyProof.Rows.boot_all (pa_cons (pe_compD (N := ["_law_one", "_law_other"]) (js := [none, none]) (by rfl) rfl (fun _ => rfl) (pi_zip rfl T.no_zip (pa_cons (pv 0) (pa_cons (pv 1) pa_nil))) (by intro b _ _ _ _; exact (pg_tupK (K := K) (n := 2) rfl rfl (pgs_cons (pg_name (i := 0) (show List.Nodup (["_law_one", "_law_other"] : List Str) by decide) rfl (by first | exact Or.inl rfl | exact Or.inr rfl)) (pgs_cons (pg_name (i := 1) (show List.Nodup (["_law_one", "_law_other"] : List Str) by decide) rfl (by first | exact Or.inl rfl | exact Or.inr rfl)) pgs_nil)))) (by intro b _ _ _ _; exact pifs_nil) (by intro b _ _ _ _; exact (pe_call ((B_law_same b).mono (by decide)) hr rfl D_law_same.mgx D_law_same.fn.kp D_law_same.bd .nil pass0 (pa_cons (pv 0) (pa_cons (pv 1) pa_nil))))) pa_nil))))))
 pss_nil)
 (pss_one (ps_ret (pe_and (pe_cmpR op_eq (pv 0) (pv 1) (nomark _)) (pe_one (pe_cmpR op_eq (pe_callB call_isinst (by rfl) T.no_isinstance PyProof.Rows.boot_isinstance (pa_cons (pv 0) (pa_cons (pe_bltn (v := .ty "bool") rfl T.no_bool PyProof.Rows.boot_bool rfl) pa_nil))) (pe_callB call_isinst (by rfl) T.no_isinstance PyProof.Rows.boot_isinstance (pa_cons (pv 1) (pa_cons (pe_bltn (v := .ty "bool") rfl T.no_bool PyProof.Rows.boot_bool rfl) pa_nil))) (nomark _))))))), ?_⟩
    have e0 : L2.start ["_law_found", "_law_due"] [.ref p, .ref q] = [some (.ref p), some (.ref q)] := rfl
    rw [e0]; clear e0
    simp only [tSeq, tIfS, tTest, tRet, tRetN, tNext, tDrop, tAsg, tPar, tPar3, tAug, tVar, tC, tOp, tUn, rI, rI0, rU, tB, tAnd, tOr, tNot, tAndV, tOrV, tNotV, tIf, gName, gNil, gCons, gTup, gSub, tCB, tCons, tNil, tCall, tChain, ipI, tIsN, tNotN, tBM, tyV, tTup, tLst, rAppend, rCat, scal_ii, scal_bb, scal_ss, scal_ni, scal_in, rEq, rNe, List.getElem?_cons_zero, List.getElem?_cons_succ, List.set_cons_zero, List.set_cons_succ, eq_self, and_assoc, Option.some.injEq, V.int.injEq, V.bl.injEq, V.ref.injEq, V.str.injEq, List.cons.injEq, exists_eq_left', exists_eq_left, exists_and_left, List.nil_append, List.cons_append, List.append_nil, true_and, and_true, decide_eq_true_eq, Bool.not_eq_true', decide_eq_false_iff_not, if_true, if_false, Bool.not_true, Bool.not_false, Bool.false_eq_true, reduceCtorEq, decide_true, decide_false, ite_true, ite_false, rSetL, rIxL, tRaise, jCons, jNil, tFmt, tDNew, rCount, rIndex, Int.reduceToNat, Int.reducePow]
    refine ⟨by show 2 ≤ sizeLine; decide, fun a ha => ?_⟩
    have s1 : Same H (upd H a (.tup [.ty "tuple", .ty "list"])) := fun b o e => keep e ha
    have hp1 := Same.sqT s1 hp
    have hq1 := Same.sqT s1 hq
    refine ⟨q, ys, a, "tuple", "list", rfl, hq1, upd_same, by decide, by decide, _, rfl, iteT ?_⟩
    generalize upd H a (.tup [.ty "tuple", .ty "list"]) = H1 at s1 hp1 hq1 ⊢
    refine ⟨p, xs, "tuple", rfl, hp1, by decide, q, ys, "tuple", rfl, hq1, by decide, ?_⟩
    refine ⟨rfl, ?_⟩
    rw [if_neg (fun h => h rfl)]
    refine ⟨p, xs, "list", rfl, hp1, by decide, q, ys, "list", rfl, hq1, by decide, rfl, ?_⟩
    rw [if_neg (fun h => h rfl)]
    refine ⟨xs, .inr hp1, ys, .inr hq1, ?_⟩
    rw [if_neg (fun h => h (by rw [hlen]))]
    refine tCompC_of ?_
    refine ⟨_, rfl, _, rfl, p, q, xs, ys, rfl, hp1, hq1, fun b D' hc hD => ?_⟩
    obtain ⟨Pv, hPv⟩ : ∃ Pv : Nat → St → Hp → Prop, ∀ i σ H2, Pv i σ H2 ↔ (∃ v1 v2, σ = [v1, v2]) ∧ Same H1 H2 ∧ H2 D' = some (.lst (List.replicate i (.bl true))) := ⟨_, fun _ _ _ => Iff.rfl⟩
    refine comp_zip (xs := xs) (ys := ys) Pv ((hPv _ _ _).mpr ⟨⟨_, _, rfl⟩, fun b o e => keep e hD, upd_same⟩) (fun i σ H2 hi h => ?_) hlen ?_ ?_
    · obtain ⟨_, sm, _⟩ := (hPv _ _ _).mp h
      exact ⟨Same.sqT sm hp1, Same.sqT sm hq1⟩
    · intro i x y σ H2 c hx hy h hc'
      obtain ⟨⟨v1, v2, rfl⟩, sm, hDl⟩ := (hPv _ _ _).mp h
      simp only [tSeq, tIfS, tTest, tRet, tRetN, tNext, tDrop, tAsg, tPar, tPar3, tAug, tVar, tC, tOp, tUn, rI, rI0, rU, tB, tAnd, tOr, tNot, tAndV, tOrV, tNotV, tIf, gName, gNil, gCons, gTup, gSub, tCB, tCons, tNil, tCall, tChain, ipI, tIsN, tNotN, tBM, tyV, tTup, tLst, rAppend, rCat, scal_ii, scal_bb, scal_ss, scal_ni, scal_in, rEq, rNe, List.getElem?_cons_zero, List.getElem?_cons_succ, List.set_cons_zero, List.set_cons_succ, eq_self, and_assoc, Option.some.injEq, V.int.injEq, V.bl.injEq, V.ref.injEq, V.str.injEq, List.cons.injEq, exists_eq_left', exists_eq_left, exists_and_left, List.nil_append, List.cons_append, List.append_nil, true_and, and_true, decide_eq_true_eq, Bool.not_eq_true', decide_eq_false_iff_not, if_true, if_false, Bool.not_true, Bool.not_false, Bool.false_eq_true, reduceCtorEq, decide_true, decide_false, ite_true, ite_false, rSetL, rIxL, tRaise, jCons, jNil, tFmt, tDNew, rCount, rIndex, Int.reduceToNat, Int.reducePow, CT, tYes]
      refine ⟨_, SqT.of upd_same, rfl, ?_⟩
      simp only [tSeq, tIfS, tTest, tRet, tRetN, tNext, tDrop, tAsg, tPar, tPar3, tAug, tVar, tC, tOp, tUn, rI, rI0, rU, tB, tAnd, tOr, tNot, tAndV, tOrV, tNotV, tIf, gName, gNil, gCons, gTup, gSub, tCB, tCons, tNil, tCall, tChain, ipI, tIsN, tNotN, tBM, tyV, tTup, tLst, rAppend, rCat, scal_ii, scal_bb, scal_ss, scal_ni, scal_in, rEq, rNe, List.getElem?_cons_zero, List.getElem?_cons_succ, List.set_cons_zero, List.set_cons_succ, eq_self, and_assoc, Option.some.injEq, V.int.injEq, V.bl.injEq, V.ref.injEq, V.str.injEq, List.cons.injEq, exists_eq_left', exists_eq_left, exists_and_left, List.nil_append, List.cons_append, List.append_nil, true_and, and_true, decide_eq_true_eq, Bool.not_eq_true', decide_eq_false_iff_not, if_true, if_false, Bool.not_true, Bool.not_false, Bool.false_eq_true, reduceCtorEq, decide_true, decide_false, ite_true, ite_false, rSetL, rIxL, tRaise, jCons, jNil, tFmt, tDNew, rCount, rIndex, Int.reduceToNat, Int.reducePow]
      have sm2 : Same H2 (upd H2 c (.tup [x, y])) := fun b o e => keep e hc'
      have il : i < xs.length := (List.getElem?_eq_some_iff.mp hx).1
      refine hall i x y _ _ hx hy ((s1.trans sm).trans sm2) fun H'' s3 => ?_
      refine ⟨_, s3 _ _ (sm2 _ _ hDl), small1000 (by rw [List.length_replicate]; omega), (hPv _ _ _).mpr ⟨⟨_, _, rfl⟩, fun b o e => ?_, ?_⟩⟩
      · rw [upd_ne (ne_of_none e hD)]
        exact s3 _ _ (sm2 _ _ (sm b o e))
      · rw [upd_same, ← List.replicate_succ']
    · intro σ H2 h
      obtain ⟨⟨v1, v2, rfl⟩, sm, hDl⟩ := (hPv _ _ _).mp h
      refine ⟨D', List.replicate xs.length true, rfl, by rw [List.map_replicate]; exact hDl, ?_⟩
      have e : (List.replicate xs.length true).all id = true := by simp
      rw [e]
      exact k H2 (s1.trans sm)
end
end PP
set_option Elab.async false
set_option linter.all false
set_option maxRecDepth 100000
set_option maxHeartbeats 4000000
namespace PP
open PySem L2 MM
section
variable {P : Program} {w : World} {K : PySem.W.Frag} {mg : Str → Option Value} {base : Heap} {t1 : Tok} {cl : Cl} {f : Addr} {fd : FuncData}
structure WordC (K : PySem.W.Frag) (cl : Cl) (C : Addr) (i : Nat) : Prop where
  xc : XCls K C
  ex : PySem.W.exmOne K (.ref C) (.ref cl.pe) = some true
  ve : PySem.W.kitOne K (.ref C) (.type "ValueError") = some true
  k0 : PySem.W.kitOne K (.ref C) (.ref cl.nn) = some (decide (i = 0))
  k1 : PySem.W.kitOne K (.ref C) (.ref cl.np) = some (decide (i = 1))
  k2 : PySem.W.kitOne K (.ref C) (.ref cl.pa) = some (decide (i = 2))
  k3 : PySem.W.kitOne K (.ref C) (.ref cl.pp) = some (decide (i = 3))
  k4 : PySem.W.kitOne K (.ref C) (.ref cl.nb) = some (decide (i = 4))
  k5 : PySem.W.kitOne K (.ref C) (.ref cl.nt) = some (decide (i = 5))
  k6 : PySem.W.kitOne K (.ref C) (.ref cl.nl) = some (decide (i = 6))
  k7 : PySem.W.kitOne K (.ref C) (.ref cl.nm) = some (decide (i = 7))
  k8 : PySem.W.kitOne K (.ref C) (.ref cl.nd) = some (decide (i = 8))
  k9 : PySem.W.kitOne K (.ref C) (.ref cl.tg) = some (decide (i = 9))
noncomputable def wordOf (i : Nat) : Str := if i = 0 then "number" else "pair"
theorem small1000' {n : Nat} (h : n ≤ 1000) : n ≤ sizeLine := Nat.le_of_lt (small1000 h)
theorem two_new {H H2 : Hp} {a p1 p2 : Addr} {x o u : HO} (s : Same H H2) (e : H2 a = some x) (h1 : H2 p1 = none) (h2 : (upd H2 p1 o) p2 = none) : ∃ H3, Same H H3 ∧ H3 a = some x ∧ H3 p2 = some u ∧ H3 = upd (upd H2 p1 o) p2 u ∧ H p2 = none := by
  have st : ∀ b y, H2 b = some y → (upd (upd H2 p1 o) p2 u) b = some y := fun b y q => by
    have n1 := ne_of_none q h1
    have q1 : (upd H2 p1 o) b = some y := by rw [upd_ne n1]; exact q
    rw [upd_ne (ne_of_none q1 h2)]
    exact q1
  refine ⟨_, fun b y q => st b y (s b y q), st a x e, upd_same, rfl, ?_⟩
  cases q : H p2 with
  | none => rfl
  | some y =>
    have q2 := s p2 y q
    rw [upd_ne (ne_of_none q2 h1), q2] at h2
    cases h2
noncomputable abbrev s_law_word : Stmt := top 35
theorem sc_law_word : FnScope ["_law_call", "_law_error", "e", "_law_marks", "_law_words"] ["_law_call"] (defScope s_law_word) := ⟨rfl, rfl, rfl, by decide +kernel, rfl, by decide +kernel, by decide +kernel⟩
noncomputable abbrev Df_law_word (K : PySem.W.Frag) (mg : Str → Option Value) (f : Addr) (fd : FuncData) : Prop := Def K mg "_law_word" s_law_word ["_law_call"] f fd
noncomputable def spWord (P : Program) (w : World) (K : PySem.W.Frag) (mg : Str → Option Value) (cl : Cl) (b : Heap) : Sp := fun vs H Q _ => ∃ (fl : Addr) (fdl : FuncData) (spL : Sp) (C : Addr) (i : Nat), vs = [.ref fl] ∧ H fl = some (LamO fl fdl) ∧ FnOk P w K mg b (CXE P w) 7 fl fdl [] spL ∧ Binds K fdl [] [] ∧ WordC K cl C i ∧ (i = 0 ∨ i = 2) ∧
  (∀ R : XK, R (.ref C) none H → spL [] H (fun _ _ => False) R) ∧ ∀ H'', Same H H'' → Q (.str (wordOf i)) H''
theorem isiX {K : PySem.W.Frag} {H : Hp} {a C : Addr} {c : V} {u : Value} {b : Bool} {Q : VK} (ha : H a = some (excH a (.ref C))) (xc : XCls K C) (ec : clsV c = some u) (hk : PySem.W.kitOne K (.ref C) u = some b) (q : Q (.bl b) H) : rIsiX K [.ref a, c] H Q := ⟨a, C, c, u, b, rfl, ha, xc, ec, hk, q⟩
theorem ok_law_word (D : Df_law_word K mg f fd) (T : Txt K mg t1 cl) : FnOk P w K mg base CX0 8 f fd ["_law_call"] (spWord P w K mg cl base) := by
  refine D.fn.ok sc_law_word (fun vs H Q E h => ?_) (fun cdv A outer s H vs Q E hr h => ?_)
  · obtain ⟨fl, fdl, spL, C, i, rfl, _⟩ := h
    rfl
  · obtain ⟨fl, fdl, spL, C, i, rfl, hfl, F, hB, W, hi, kE, k⟩ := h
    refine ⟨_, (pss_cons (ps_set (i := 1) sc_law_word.nd rfl (by first | exact Or.inl rfl | exact Or.inr rfl) pe_non)
 (pss_cons (ps_tryX (ie := 2) sc_law_word.nd rfl rfl rfl rfl rfl rfl rfl T.mg_PrimeError (px_call0 (i := 0) rfl (Or.inl rfl) hr) (fun v => (pss_one (ps_set (i := 1) sc_law_word.nd rfl (by first | exact Or.inl rfl | exact Or.inr rfl) (pv 2)))))
 (pss_cons (ps_if (pt_cmp (pc_isN (pv 1)))
 (pss_one (ps_ret pe_non))
 pss_nil)
 (pss_cons (ps_set (i := 3) sc_law_word.nd rfl (by first | exact Or.inl rfl | exact Or.inr rfl) (pe_lst (pa_cons (pe_callB call_isinstX (by rfl) T.no_isinstance PyProof.Rows.boot_isinstance (pa_cons (pv 1) (pa_cons (pe_glob (v := .ref _) rfl T.mg_NoNumber rfl) pa_nil))) (pa_cons (pe_callB call_isinstX (by rfl) T.no_isinstance PyProof.Rows.boot_isinstance (pa_cons (pv 1) (pa_cons (pe_glob (v := .ref _) rfl T.mg_NoPrime rfl) pa_nil))) (pa_cons (pe_callB call_isinstX (by rfl) T.no_isinstance PyProof.Rows.boot_isinstance (pa_cons (pv 1) (pa_cons (pe_glob (v := .ref _) rfl T.mg_NoPair rfl) pa_nil))) pa_nil)))))
 (pss_cons (ps_set (i := 3) sc_law_word.nd rfl (by first | exact Or.inl rfl | exact Or.inr rfl) (pe_op op_cat (pv 3) (pe_lst (pa_cons (pe_callB call_isinstX (by rfl) T.no_isinstance PyProof.Rows.boot_isinstance (pa_cons (pv 1) (pa_cons (pe_glob (v := .ref _) rfl T.mg_NoPaper rfl) pa_nil))) (pa_cons (pe_callB call_isinstX (by rfl) T.no_isinstance PyProof.Rows.boot_isinstance (pa_cons (pv 1) (pa_cons (pe_glob (v := .ref _) rfl T.mg_NoBases rfl) pa_nil))) (pa_cons (pe_callB call_isinstX (by rfl) T.no_isinstance PyProof.Rows.boot_isinstance (pa_cons (pv 1) (pa_cons (pe_glob (v := .ref _) rfl T.mg_NoText rfl) pa_nil))) pa_nil))))))
 (pss_cons (ps_set (i := 3) sc_law_word.nd rfl (by first | exact Or.inl rfl | exact Or.inr rfl) (pe_op op_cat (pv 3) (pe_lst (pa_cons (pe_callB call_isinstX (by rfl) T.no_isinstance PyProof.Rows.boot_isinstance (pa_cons (pv 1) (pa_cons (pe_glob (v := .ref _) rfl T.mg_NoLine rfl) pa_nil))) (pa_cons (pe_callB call_isinstX (by rfl) T.no_isinstance PyProof.Rows.boot_isinstance (pa_cons (pv 1) (pa_cons (pe_glob (v := .ref _) rfl T.mg_NoName rfl) pa_nil))) (pa_cons (pe_callB call_isinstX (by rfl) T.no_isinstance PyProof.Rows.boot_isinstance (pa_cons (pv 1) (pa_cons (pe_glob (v := .ref _) rfl T.mg_NoDeed rfl) pa_nil))) pa_nil))))))
 (pss_cons (ps_expr (pe_bm PySem.F.plainAttrs_list PySem.F.slot_list_append PySem.F.type_list_append mt_append (pv 3) (pa_cons (pe_callB call_isinstX (by rfl) T.no_isinstance PyProof.Rows.boot_isinstance (pa_cons (pv 1) (pa_cons (pe_glob (v := .ref _) rfl T.mg_TooGreat rfl) pa_nil))) pa_nil)))
 (pss_cons (ps_if (PW.pt (pw_or (pt_not (pt_val (pe_callB call_isinstX (by rfl) T.no_isinstance PyProof.Rows.boot_isinstance (pa_cons (pv 1) (pa_cons (pe_bltn (v := .ty "ValueError") rfl T.no_ValueError PyProof.Rows.Boot.«ValueError» rfl) pa_nil))))) (pw_or1 (pt_cmpR op_ne (pe_bm PySem.F.plainAttrs_list PySem.F.slot_list_count PySem.F.type_list_count mt_count (pv 3) (pa_cons pe_bl pa_nil)) pe_int (nomark _)))))
 (pss_one (ps_ret pe_str))
 pss_nil)
 (pss_cons (ps_set (i := 4) sc_law_word.nd rfl (by first | exact Or.inl rfl | exact Or.inr rfl) (pe_lst (pa_cons pe_str (pa_cons pe_str (pa_cons pe_str (pa_cons pe_str (pa_cons pe_str (pa_cons pe_str (pa_cons pe_str (pa_cons pe_str (pa_cons pe_str pa_nil)))))))))))
 (pss_one (ps_ret (pe_ifExp (pt_val (pe_ix ix_list (pv 3) pe_int (fun _ _ => rfl))) pe_no (pe_ix ix_list (pv 4) (pe_bm PySem.F.plainAttrs_list PySem.F.slot_list_index PySem.F.type_list_index mt_index (pv 3) (pa_cons pe_bl pa_nil)) (fun _ _ => rfl)))))))))))))), ?_⟩
    have e0 : L2.start ["_law_call", "_law_error", "e", "_law_marks", "_law_words"] [.ref fl] = [some (.ref fl), none, none, none, none] := rfl
    rw [e0]; clear e0
    simp only [tSeq, tIfS, tTest, tRet, tRetN, tNext, tDrop, tAsg, tPar, tPar3, tAug, tVar, tC, tOp, tUn, rI, rI0, rU, tB, tAnd, tOr, tNot, tAndV, tOrV, tNotV, tIf, gName, gNil, gCons, gTup, gSub, tCB, tCons, tNil, tCall, tChain, ipI, tIsN, tNotN, tBM, tyV, tTup, tLst, rAppend, rCat, scal_ii, scal_bb, scal_ss, scal_ni, scal_in, rEq, rNe, List.getElem?_cons_zero, List.getElem?_cons_succ, List.set_cons_zero, List.set_cons_succ, eq_self, and_assoc, Option.some.injEq, V.int.injEq, V.bl.injEq, V.ref.injEq, V.str.injEq, List.cons.injEq, exists_eq_left', exists_eq_left, exists_and_left, List.nil_append, List.cons_append, List.append_nil, true_and, and_true, decide_eq_true_eq, Bool.not_eq_true', decide_eq_false_iff_not, if_true, if_false, Bool.not_true, Bool.not_false, Bool.false_eq_true, reduceCtorEq, decide_true, decide_false, ite_true, ite_false, rSetL, rIxL, tRaise, jCons, jNil, tFmt, tDNew, rCount, rIndex, Int.reduceToNat, Int.reducePow, tTryX, xCall0]
    refine ⟨fdl, hfl, spL, F, hB, kE _ ⟨W.ex, fun a ha => ?_⟩⟩
    have s1 : Same H (upd H a (excH a (.ref C))) := fun b o e => by rw [upd_ne (ne_of_none e ha)]; exact e
    have e1 : (upd H a (excH a (.ref C))) a = some (excH a (.ref C)) := upd_same
    generalize upd H a (excH a (.ref C)) = H1 at s1 e1 ⊢
    refine isiX e1 W.xc rfl W.k0 (isiX e1 W.xc rfl W.k1 (isiX e1 W.xc rfl W.k2 ⟨by show 3 ≤ sizeLine; decide, fun p hp => ?_⟩))
    obtain ⟨l1, hl1⟩ : ∃ l1, l1 = [decide (i = 0), decide (i = 1), decide (i = 2)] := ⟨_, rfl⟩
    have m2 : (upd H1 p (.lst (l1.map V.bl))) p = some (.lst (l1.map V.bl)) := upd_same
    rw [show [V.bl (decide (i = 0)), V.bl (decide (i = 1)), V.bl (decide (i = 2))] = l1.map V.bl by rw [hl1]; rfl]
    have s2 : Same H (upd H1 p (.lst (l1.map V.bl))) := fun b o e => by rw [upd_ne (ne_of_none (s1 b o e) hp)]; exact s1 b o e
    have e2 : (upd H1 p (.lst (l1.map V.bl))) a = some (excH a (.ref C)) := by rw [upd_ne (ne_of_none e1 hp)]; exact e1
    generalize upd H1 p (.lst (l1.map V.bl)) = H2 at s2 e2 m2 ⊢
    refine isiX e2 W.xc rfl W.k3 (isiX e2 W.xc rfl W.k4 (isiX e2 W.xc rfl W.k5 ⟨by show 3 ≤ sizeLine; decide, fun p1 hp1 => ?_⟩))
    have np1 : p ≠ p1 := ne_of_none m2 hp1
    refine ⟨_, by rw [upd_ne np1]; exact m2, _, upd_same, small1000' (by rw [hl1]; show 6 ≤ 1000; decide), fun p2 hp2 => ?_⟩
    obtain ⟨l2, hl2⟩ : ∃ l2, l2 = l1 ++ [decide (i = 3), decide (i = 4), decide (i = 5)] := ⟨_, rfl⟩
    rw [show l1.map V.bl ++ [V.bl (decide (i = 3)), V.bl (decide (i = 4)), V.bl (decide (i = 5))] = l2.map V.bl by rw [hl2, List.map_append]; rfl]
    obtain ⟨H3, s3, e3, m3, hH3, _⟩ := two_new (o := .lst [V.bl (decide (i = 3)), V.bl (decide (i = 4)), V.bl (decide (i = 5))]) (u := .lst (l2.map V.bl)) s2 e2 hp1 hp2
    rw [← hH3]
    clear hH3
    refine isiX e3 W.xc rfl W.k6 (isiX e3 W.xc rfl W.k7 (isiX e3 W.xc rfl W.k8 ⟨by show 3 ≤ sizeLine; decide, fun p3 hp3 => ?_⟩))
    have np3 : p2 ≠ p3 := ne_of_none m3 hp3
    refine ⟨_, by rw [upd_ne np3]; exact m3, _, upd_same, small1000' (by rw [hl2, hl1]; show 9 ≤ 1000; decide), fun p4 hp4 => ?_⟩
    obtain ⟨l3, hl3⟩ : ∃ l3, l3 = l2 ++ [decide (i = 6), decide (i = 7), decide (i = 8)] := ⟨_, rfl⟩
    rw [show l2.map V.bl ++ [V.bl (decide (i = 6)), V.bl (decide (i = 7)), V.bl (decide (i = 8))] = l3.map V.bl by rw [hl3, List.map_append]; rfl]
    obtain ⟨H4, s4, e4, m4, hH4, f4⟩ := two_new (o := .lst [V.bl (decide (i = 6)), V.bl (decide (i = 7)), V.bl (decide (i = 8))]) (u := .lst (l3.map V.bl)) s3 e3 hp3 hp4
    rw [← hH4]
    clear hH4
    have na4 : a ≠ p4 := fun z => by
      rw [z, m4] at e4
      exact nomatch Option.some.inj e4
    refine ⟨.inl ⟨_, SqL.of m4⟩, isiX e4 W.xc rfl W.k9 ⟨_, m4, small1000 (by rw [hl3, hl2, hl1]; show 9 ≤ 1000; decide), ?_⟩⟩
    obtain ⟨l4, hl4⟩ : ∃ l4, l4 = l3 ++ [decide (i = 9)] := ⟨_, rfl⟩
    rw [show l3.map V.bl ++ [V.bl (decide (i = 9))] = l4.map V.bl by rw [hl4, List.map_append]; rfl]
    have m5 : (upd H4 p4 (.lst (l4.map V.bl))) p4 = some (.lst (l4.map V.bl)) := upd_same
    have e5 : (upd H4 p4 (.lst (l4.map V.bl))) a = some (excH a (.ref C)) := by rw [upd_ne na4]; exact e4
    have s5 : Same H (upd H4 p4 (.lst (l4.map V.bl))) := fun b o q => by rw [upd_ne (ne_of_none q f4)]; exact s4 b o q
    generalize upd H4 p4 (.lst (l4.map V.bl)) = H5 at m5 e5 s5 ⊢
    refine isiX e5 W.xc rfl W.ve ⟨_, rfl, ?_⟩
    rw [if_neg (by decide)]
    have el4 : l4 = [decide (i = 0), decide (i = 1), decide (i = 2), decide (i = 3), decide (i = 4), decide (i = 5), decide (i = 6), decide (i = 7), decide (i = 8), decide (i = 9)] := by rw [hl4, hl3, hl2, hl1]; rfl
    refine ⟨.inl ⟨_, SqL.of m5⟩, l4, m5, ?_⟩
    have ct : (l4.countP id : Nat) = 1 := by rw [el4]; rcases hi with rfl | rfl <;> rfl
    rw [ct]
    rw [if_neg (fun h => h rfl)]
    refine ⟨by show 9 ≤ sizeLine; decide, fun p6 hp6 => ?_⟩
    have n6 : p4 ≠ p6 := ne_of_none m5 hp6
    obtain ⟨H6, hH6⟩ : ∃ H6, H6 = upd H5 p6 (.lst [V.str (Str.ofString "number"), V.str (Str.ofString "prime"), V.str (Str.ofString "pair"), V.str (Str.ofString "paper"), V.str (Str.ofString "bases"), V.str (Str.ofString "text"), V.str (Str.ofString "line"), V.str (Str.ofString "name"), V.str (Str.ofString "deed")]) := ⟨_, rfl⟩
    have m6 : H6 p4 = some (.lst (l4.map V.bl)) := by rw [hH6, upd_ne n6]; exact m5
    have w6 : H6 p6 = some (.lst [V.str (Str.ofString "number"), V.str (Str.ofString "prime"), V.str (Str.ofString "pair"), V.str (Str.ofString "paper"), V.str (Str.ofString "bases"), V.str (Str.ofString "text"), V.str (Str.ofString "line"), V.str (Str.ofString "name"), V.str (Str.ofString "deed")]) := by rw [hH6]; exact upd_same
    have s6 : Same H H6 := fun b o q => by rw [hH6, upd_ne (ne_of_none (s5 b o q) hp6)]; exact s5 b o q
    rw [← hH6]
    clear hH6
    refine ⟨_, SqL.of m6, V.bl (decide (i = 9)), by rw [el4]; rfl, _, rfl, ?_⟩
    rw [if_neg (by rcases hi with rfl | rfl <;> decide)]
    refine ⟨.inl ⟨_, SqL.of m6⟩, ?_⟩
    refine ⟨l4, m6, i, ?_, ?_, ?_, _, SqL.of w6, V.str (wordOf i), ?_, k H6 s6⟩
    · rw [el4]; rcases hi with rfl | rfl <;> rfl
    · intro m hm
      rw [el4]
      rcases hi with rfl | rfl
      · omega
      · have : m = 0 ∨ m = 1 := by omega
        rcases this with rfl | rfl <;> rfl
    · omega
    · rcases hi with rfl | rfl <;> rfl
end
end PP
set_option Elab.async false
set_option linter.all false
set_option maxRecDepth 100000
set_option maxHeartbeats 4000000
namespace PP
open PySem L2 MM
section
variable {P : Program} {w : World} {K : PySem.W.Frag} {mg : Str → Option Value} {base : Heap} {t1 : Tok} {cl : Cl} {f : Addr}
theorem Step.tab {a Pt : Addr} {q : Str} {H H1 : Hp} (st : StAt H a) (x : Step a H H1) (t : TabOk H Pt q) : TabOk H1 Pt q := t.kept fun b o e n => x.but b o (fun z => by
  obtain ⟨u, v, e', _⟩ := st
  rw [z, e'] at e
  cases e
  exact n _ rfl) e
noncomputable def qL : Str := ("law" : Str) ++ ".<locals>." ++ "<lambda>"
noncomputable def KX (Pt pc : Addr) (H H' : Hp) : Prop := ∀ b o, b ≠ Pt → b ≠ pc → H b = some o → H' b = some o
theorem KX.trans {Pt pc : Addr} {H H1 H2 : Hp} (a : KX Pt pc H H1) (b : KX Pt pc H1 H2) : KX Pt pc H H2 := fun c o h1 h2 e => b c o h1 h2 (a c o h1 h2 e)
noncomputable def Ty2 (K : PySem.W.Frag) (Pt pc : Addr) (H : Hp) (v : V) : Prop := (∃ n, TyOf K H v (.type n)) ∧ ∀ p, v = .ref p → p ≠ Pt ∧ p ≠ pc
theorem TyOf.keepK {K : PySem.W.Frag} {H H' : Hp} {v : V} {n : String} (ty : TyOf K H v (.type n)) (s : ∀ p o, v = .ref p → H p = some o → H' p = some o) : TyOf K H' v (.type n) := by
  cases ty with
  | non => exact .non
  | bl x => exact .bl x
  | int i => exact .int i
  | str x => exact .str x
  | flt x => exact .flt x
  | lst e => exact .lst (s _ _ rfl e)
  | frz e => exact .frz (s _ _ rfl e)
  | tup e => exact .tup (s _ _ rfl e)
  | dK e => exact .dK (s _ _ rfl e)
  | dT e => exact .dT (s _ _ rfl e)
theorem TyOf.has {K : PySem.W.Frag} {H : Hp} {p : Addr} {n : String} (ty : TyOf K H (.ref p) (.type n)) : ∃ o, H p = some o ∧ ∀ ps, o ≠ .tbl ps := by
  cases ty with
  | lst e => exact ⟨_, e, fun _ z => nomatch z⟩
  | frz e => exact ⟨_, e, fun _ z => nomatch z⟩
  | tup e => exact ⟨_, e, fun _ z => nomatch z⟩
  | dK e => exact ⟨_, e, fun _ z => nomatch z⟩
  | dT e => exact ⟨_, e, fun _ z => nomatch z⟩
theorem Ty2.keep {Pt pc : Addr} {H H' : Hp} {v : V} (h : Ty2 K Pt pc H v) (k : KX Pt pc H H') : Ty2 K Pt pc H' v := by
  obtain ⟨⟨n, ty⟩, ne⟩ := h
  exact ⟨⟨n, TyOf.keepK ty fun p o e q => k p o (ne p e).1 (ne p e).2 q⟩, ne⟩
theorem Tyd.ty2 {a Pt pc : Addr} {q : Str} {H L : Hp} {v : V} (h : Tyd K a H v) (tb : TabOk H Pt q) (s : SameX Pt H L) (hpc : L pc = none) : Ty2 K Pt pc L v := by
  obtain ⟨⟨n, ty⟩, _⟩ := h
  have nP : ∀ p, v = .ref p → p ≠ Pt := fun p e z => by
    subst e
    obtain ⟨o, e1, e2⟩ := TyOf.has ty
    obtain ⟨ps, e3, _⟩ := tb
    rw [z, e3] at e1
    cases e1
    exact e2 _ rfl
  have ty' : TyOf K L v (.type n) := TyOf.keepK ty fun p o e q => s p o (nP p e) q
  refine ⟨⟨n, ty'⟩, fun p e => ⟨nP p e, fun z => ?_⟩⟩
  subst e
  obtain ⟨o, e1, _⟩ := TyOf.has ty'
  rw [z, hpc] at e1
  cases e1
structure Lm (Pt pc : Addr) (q : Str) (H : Hp) (fl : Addr) (fd : FuncData) (c' : Addr) : Prop where
  n1 : fl ≠ Pt
  n2 : fl ≠ pc
  n3 : c' ≠ Pt
  n4 : c' ≠ pc
  lam : H fl = some (LamO fl fd)
  cod : H c' = some (CodO c' q)
theorem Lm.keep {Pt pc : Addr} {q : Str} {H H' : Hp} {fl c' : Addr} {fd : FuncData} (h : Lm Pt pc q H fl fd c') (k : KX Pt pc H H') : Lm Pt pc q H' fl fd c' := ⟨h.n1, h.n2, h.n3, h.n4, k _ _ h.n1 h.n2 h.lam, k _ _ h.n3 h.n4 h.cod⟩
theorem Lm.of {Pt pc : Addr} {q : Str} {H : Hp} {fl c' : Addr} {fd : FuncData} (tb : TabOk H Pt q) (l : H fl = some (LamO fl fd)) (c : H c' = some (CodO c' q)) (np : fl ≠ pc) (nq : c' ≠ pc) : Lm Pt pc q H fl fd c' := by
  obtain ⟨ps, e3, _⟩ := tb
  refine ⟨fun z => ?_, np, fun z => ?_, nq, l, c⟩
  · rw [z, e3] at l; exact nomatch Option.some.inj l
  · rw [z, e3] at c; exact nomatch Option.some.inj c
theorem Lm.first {Pt pc : Addr} {q : Str} {H : Hp} {fl c' : Addr} {fd : FuncData} (tb : TabOk H Pt q) (l : H fl = some (LamO fl fd)) (c : H c' = some (CodO c' q)) (h : H pc = none) : Lm Pt pc q H fl fd c' := .of tb l c (ne_of_none l h) (ne_of_none c h)
theorem Lm.next {Pt pc : Addr} {q : Str} {H : Hp} {fl c' : Addr} {fd : FuncData} {xs : List V} (tb : TabOk H Pt q) (l : H fl = some (LamO fl fd)) (c : H c' = some (CodO c' q)) (h : H pc = some (.lst xs)) : Lm Pt pc q H fl fd c' :=
  .of tb l c (fun z => by rw [z, h] at l; exact nomatch Option.some.inj l) (fun z => by rw [z, h] at c; exact nomatch Option.some.inj c)
theorem word_of {X : Cx} {σ : St} {b : Heap} {M H' : Hp} {Pt pc fl c' C : Addr} {q qual : Str} {params : Arguments} {body : Expr} {sc : Scope} {pm ctv : Value} {i : Nat} {N : List Str} {js : List Nat} {vs : List V} {sp : Hp → VK → XK → Prop} {Q' : VK} (hc : CellsIn X σ b)
    (g : Lm Pt pc q M fl (PySem.W.kla_fn "<lambda>" qual params body sc (clOf sc X.env) pm (.ref c') ctv) c') (sm : Same M H') (W : WordC K cl C i) (hi : i = 0 ∨ i = 2) (hck : lamCk sc X.env.scope N X.N js = true) (hinj : (X.env.cells.map (·.2)).Nodup) (hhas : ∀ x, X.env.scope.names.lookup x = some .cell → ∃ c, X.env.cells.lookup x = some c)
    (hv : vs.length = js.length) (hσ : ∀ (i j : Nat) (v : V), js[i]? = some j → vs[i]? = some v → σ[j]? = some (some v)) (hp : ∀ pm cd ctv, bindArgs (PySem.W.kla_fn "<lambda>" qual params body sc (clOf sc X.env) pm cd ctv) ⟨[], []⟩ = pure [])
    (hbody : ∀ (A : Around) (outer : List Env) (s : Shared) (H : Hp) (Q : VK) (E : XK), Room 6 (A.deeper (PySem.W.envX qual sc s.heap.objs.size fl (.ref c') (clOf sc X.env))) → sp H Q E → ∃ t, PE (cxLam P w K mg b N qual sc fl (.ref c') (clOf sc X.env) A outer s H E) body t ∧ t (vs.map some) H Q)
    (hR : ∀ R : XK, R (.ref C) none H' → sp H' (fun _ _ => False) R) (hQ : ∀ H'', Same H' H'' → Q' (.str (wordOf i)) H'') (hq : qual = q) : spWord P w K mg cl b [.ref fl] H' Q' E0 := by
  subst hq
  obtain ⟨l1, l2, l3, l4⟩ := lam_facts hck hinj hhas hc hv hσ
  exact ⟨fl, _, _, C, i, rfl, sm _ _ g.lam, lam_ok l1 l2 l3 l4 hbody, lam_binds hp, W, hi, fun R h => ⟨rfl, sm _ _ g.lam, sm _ _ g.cod, hR R h⟩, hQ⟩
theorem ftok_but {a : Addr} {H H' : Hp} {F : List (Addr × HO)} (h : FtOk H F) (na : ∀ f ∈ F, f.1 ≠ a) (s : But a H H') : FtOk H' F := fun f hf => s _ _ (na f hf) (h f hf)
theorem ftok_same {H H' : Hp} {F : List (Addr × HO)} (h : FtOk H F) (s : Same H H') : FtOk H' F := fun f hf => s _ _ (h f hf)
theorem ftok_kx {Pt pc : Addr} {H H' : Hp} {F : List (Addr × HO)} (h : FtOk H F) (n1 : ∀ f ∈ F, f.1 ≠ Pt) (n2 : ∀ f ∈ F, f.1 ≠ pc) (s : KX Pt pc H H') : FtOk H' F := fun f hf => s _ _ (n1 f hf) (n2 f hf) (h f hf)
theorem ftok_npt {Pt : Addr} {q : Str} {H : Hp} {F : List (Addr × HO)} (h : FtOk H F) (nt : ∀ f ∈ F, ∀ ps, f.2 ≠ .tbl ps) (tb : TabOk H Pt q) : ∀ f ∈ F, f.1 ≠ Pt := fun f hf z => by
  obtain ⟨ps, e3, _⟩ := tb
  have := h f hf
  rw [z, e3] at this
  exact nt f hf _ (Option.some.inj this).symm
theorem ftok_npc {pc : Addr} {H : Hp} {F : List (Addr × HO)} (h : FtOk H F) (hp : H pc = none) : ∀ f ∈ F, f.1 ≠ pc := fun f hf z => by
  have := h f hf
  rw [z, hp] at this
  cases this
noncomputable abbrev s_law : Stmt := top 44
theorem sc_law : FnScope ["_law_script", "_law_k", "_law_state_here", "_law_n", "_law_d", "_law_one", "_law_other", "_law_often", "_law_bad", "_law_far_here", "_law_none_here", "_law_late", "_law_kept", "_law_calls"] ["_law_script"] (defScope s_law) := ⟨rfl, rfl, rfl, by decide +kernel, rfl, by decide +kernel, by decide +kernel⟩
noncomputable abbrev Df_law (K : PySem.W.Frag) (mg : Str → Option Value) (f : Addr) (fd : FuncData) : Prop := Def K mg "law" s_law ["_law_script"] f fd
noncomputable abbrev OB_paired (P : Program) (w : World) (K : PySem.W.Frag) (mg : Str → Option Value) (cl : Cl) : Prop := ∃ f fd, Df_paired K mg f fd ∧ ∀ b, FnOk P w K mg b (CXE P w) 6 f fd ["one", "other", "d", "n"] (spPaired K cl)
noncomputable abbrev OB_pair_raised (P : Program) (w : World) (K : PySem.W.Frag) (mg : Str → Option Value) (cl : Cl) : Prop := ∃ f fd, Df_pair_raised K mg f fd ∧ ∀ b, FnOk P w K mg b (CXE P w) 6 f fd ["pair", "often", "d", "n"] (spPRaised K cl)
noncomputable abbrev OB_norm_of (P : Program) (w : World) (K : PySem.W.Frag) (mg : Str → Option Value) (cl : Cl) : Prop := ∃ f fd, Df_norm_of K mg f fd ∧ ∀ b, FnOk P w K mg b (CXE P w) 6 f fd ["pair", "d", "n"] (spNormOf K cl)
noncomputable abbrev OB_law_word (P : Program) (w : World) (K : PySem.W.Frag) (mg : Str → Option Value) (cl : Cl) : Prop := ∃ f fd, Df_law_word K mg f fd ∧ ∀ b, FnOk P w K mg b CX0 8 f fd ["_law_call"] (spWord P w K mg cl b)
noncomputable def spLaw (K : PySem.W.Frag) (Pt : Addr) : Sp := fun vs H Q _ => ∃ (a : Addr) (ns : List Int), vs = [.ref a] ∧ SqL K H a (ns.map V.int) ∧ ns.length ≤ 63 ∧ H Pt = some (.tbl #[]) ∧ ∀ H', Q (.bl true) H'
noncomputable def spSameA (K : PySem.W.Frag) : Sp := fun vs H Q E => spSameS 0 K vs H Q E ∨ spSameS 1 K vs H Q E
theorem same_both {f : Addr} {fd : FuncData} {ps : List Str} (F0 : FnOk P w K mg base CX0 2 f fd ps (spSameS 0 K)) (F2 : FnOk P w K mg base CX0 2 f fd ps (spSameS 1 K)) : FnOk P w K mg base CX0 2 f fd ps (spSameA K) :=
  ⟨fun vs H Q E h => h.elim (F0.len vs H Q E) (F2.len vs H Q E), fun A outer s H args us vs Q E hr e hb hv h => h.elim (F0.run A outer s H args us vs Q E hr e hb hv) (F2.run A outer s H args us vs Q E hr e hb hv)⟩
noncomputable abbrev O_law_sameA (P : Program) (w : World) (K : PySem.W.Frag) (mg : Str → Option Value) (base : Heap) : Prop := ∃ f fd, Df_law_same K mg f fd ∧ FnOk P w K mg base CX0 2 f fd ["_law_found", "_law_due"] (spSameA K)
theorem same_pair {H : Hp} {p q : Addr} {A : PZ} {Q : VK} {E : XK} (hp : H p = some (.tup (prV A))) (hq : H q = some (.tup (prV A))) (k : ∀ H', Same H H' → Q (.bl true) H') : spSameA K [.ref p, .ref q] H Q E := by
  refine .inr ⟨p, q, prV A, prV A, rfl, SqT.of hp, SqT.of hq, rfl, by show 2 < 1000; decide, fun i x y H' Q' hx hy _ k' => ?_, k⟩
  rw [hx] at hy
  cases hy
  refine ⟨x, rfl, .inl ?_, k'⟩
  match i, hx with
  | 0, hx => exact ⟨_, (Option.some.inj hx).symm⟩
  | 1, hx => exact ⟨_, (Option.some.inj hx).symm⟩
theorem same_int {H : Hp} {i : Int} {Q : VK} {E : XK} (k : ∀ H', Same H H' → Q (.bl true) H') : spSameA K [.int i, .int i] H Q E := .inl ⟨_, rfl, .inl ⟨i, rfl⟩, k⟩
noncomputable def wl (i : Nat) : V := .str (wordOf (if i < 4 then 2 else 0))
theorem ok_law {c Pt : Addr} {oc kV doc pm ct : Value} {od an : Option Addr} {osl : Array (Option Value)}
    (lk : K.lookup f = some ⟨oc, od, .func (PySem.W.fnOf "law" "law" (defArgs s_law) (defBody s_law) (defScope s_law) .none kV doc pm an (.ref c) ct), osl⟩) (hcd : PySem.W.codeIn K (.ref c) "law" = true) (hd : PySem.W.CodeHd base c Pt) (bm : base.BuiltinsAt mg Pt)
    (T : Txt K mg t1 cl) (W0 : WordC K cl cl.nn 0) (W2 : WordC K cl cl.pa 2) (o1 : O_law_state P w K mg base) (o2 : O_law_take P w K mg base) (o3 : O_law_number P w K mg base) (o4 : O_law_far_number P w K mg base) (o5 : O_law_sameA P w K mg base) (o6 : O_law_far P w K mg base) (o7 : O_law_pair_by P w K mg base) (o7' : O_law_pair_power P w K mg base) (o8 : O_law_none P w K mg base) (o8' : O_law_no_pair P w K mg base)
    (o9 : OB_paired P w K mg cl) (o9' : OB_pair_raised P w K mg cl) (o10 : OB_norm_of P w K mg cl) (o11 : OB_law_word P w K mg cl) : FnOk P w K mg base CX0 10 f (PySem.W.fnOf "law" "law" (defArgs s_law) (defBody s_law) (defScope s_law) .none kV doc pm an (.ref c) ct) ["_law_script"] (spLaw K Pt) := by
  obtain ⟨_, _, D_law_state, G_law_state⟩ := o1
  obtain ⟨_, _, D_law_take, G_law_take⟩ := o2
  obtain ⟨_, _, D_law_number, G_law_number⟩ := o3
  obtain ⟨_, _, D_law_far_number, G_law_far_number⟩ := o4
  obtain ⟨_, _, D_law_same, G_law_same⟩ := o5
  obtain ⟨_, _, D_law_far, G_law_far⟩ := o6
  obtain ⟨_, _, D_law_pair_by, G_law_pair_by⟩ := o7
  obtain ⟨_, _, D_law_pair_power, G_law_pair_power⟩ := o7'
  obtain ⟨_, _, D_law_none, G_law_none⟩ := o8
  obtain ⟨_, _, D_law_no_pair, G_law_no_pair⟩ := o8'
  obtain ⟨_, _, D_paired, B_paired⟩ := o9
  obtain ⟨_, _, D_pair_raised, B_pair_raised⟩ := o9'
  obtain ⟨_, _, D_norm_of, B_norm_of⟩ := o10
  obtain ⟨_, _, D_law_word, B_law_word⟩ := o11
  have G_paired := B_paired base
  have G_pair_raised := B_pair_raised base
  have G_norm_of := B_norm_of base
  refine fn_okC lk hcd sc_law (fun vs H Q E h => ?_) (fun A outer s H vs Q E hr h => ?_)
  · obtain ⟨a, ns, rfl, _⟩ := h
    rfl
  · obtain ⟨sa, ns, rfl, hS, hlen, hT, k⟩ := h
    refine ⟨_, (pss_cons (ps_for PassesOwn.never rfl (pi_range1 rfl T.no_range (pa_cons (pe_callB (call_max2 rfl) (by rfl) T.no_max PyProof.Rows.boot_max (pa_cons pe_int (pa_cons (pe_callB (call_min2 rfl) (by rfl) T.no_min PyProof.Rows.boot_min (pa_cons (pe_callB call_len_seq (by rfl) T.no_len PySem.boot_len (pa_cons (pv 0) pa_nil)) (pa_cons pe_int pa_nil))) pa_nil))) pa_nil)) (pg_name (i := 1) sc_law.nd rfl (by first | exact Or.inl rfl | exact Or.inr rfl))
 (pss_cons (ps_set (i := 2) sc_law.nd rfl (by first | exact Or.inl rfl | exact Or.inr rfl) (pe_call (G_law_state.mono (by decide)) hr rfl D_law_state.mgx D_law_state.fn.kp D_law_state.bd .nil pass0 (pa_cons (pv 0) (pa_cons (pv 1) pa_nil))))
 (pss_cons (ps_asg (pe_tup (pa_cons (pe_call (G_law_number.mono (by decide)) hr rfl D_law_number.mgx D_law_number.fn.kp D_law_number.bd .nil pass0 (pa_cons (pv 2) pa_nil)) (pa_cons (pe_call (G_law_far_number.mono (by decide)) hr rfl D_law_far_number.mgx D_law_far_number.fn.kp D_law_far_number.bd .nil pass0 (pa_cons (pv 2) pa_nil)) pa_nil))) (pg_tup rfl (pgs_cons (pg_name (i := 3) sc_law.nd rfl (by first | exact Or.inl rfl | exact Or.inr rfl)) (pgs_cons (pg_name (i := 4) sc_law.nd rfl (by first | exact Or.inl rfl | exact Or.inr rfl)) pgs_nil))))
 (pss_cons (ps_set (i := 5) sc_law.nd rfl (by first | exact Or.inl rfl | exact Or.inr rfl) (pe_tup (pa_cons (pe_call (G_law_far_number.mono (by decide)) hr rfl D_law_far_number.mgx D_law_far_number.fn.kp D_law_far_number.bd .nil pass0 (pa_cons (pv 2) pa_nil)) (pa_cons (pe_call (G_law_far_number.mono (by decide)) hr rfl D_law_far_number.mgx D_law_far_number.fn.kp D_law_far_number.bd .nil pass0 (pa_cons (pv 2) pa_nil)) pa_nil))))
 (pss_cons (ps_set (i := 6) sc_law.nd rfl (by first | exact Or.inl rfl | exact Or.inr rfl) (pe_tup (pa_cons (pe_call (G_law_far_number.mono (by decide)) hr rfl D_law_far_number.mgx D_law_far_number.fn.kp D_law_far_number.bd .nil pass0 (pa_cons (pv 2) pa_nil)) (pa_cons (pe_call (G_law_far_number.mono (by decide)) hr rfl D_law_far_number.mgx D_law_far_number.fn.kp D_law_far_number.bd .nil pass0 (pa_cons (pv 2) pa_nil)) pa_nil))))
 (pss_cons (ps_set (i := 7) sc_law.nd rfl (by first | exact Or.inl rfl | exact Or.inr rfl) (pe_ix ix_list (pe_lst (pa_cons (pe_call (G_law_take.mono (by decide)) hr rfl D_law_take.mgx D_law_take.fn.kp D_law_take.bd .nil pass0 (pa_cons (pv 2) (pa_cons pe_int pa_nil))) (pa_cons (pe_call (G_law_far.mono (by decide)) hr rfl D_law_far.mgx D_law_far.fn.kp D_law_far.bd .nil pass0 (pa_cons (pv 2) (pa_cons (pe_op op_pow pe_int pe_int) pa_nil))) (pa_cons pe_int (pa_cons (pe_op op_pow pe_int pe_int) pa_nil))))) (pe_call (G_law_take.mono (by decide)) hr rfl D_law_take.mgx D_law_take.fn.kp D_law_take.bd .nil pass0 (pa_cons (pv 2) (pa_cons pe_int pa_nil))) (fun _ _ => rfl)))
 (pss_cons (ps_if (pt_not (pt_val (pe_call (G_law_same.mono (by decide)) hr rfl D_law_same.mgx D_law_same.fn.kp D_law_same.bd .nil pass0 (pa_cons (pe_call (G_paired.mono (by decide)) hr rfl D_paired.mgx D_paired.fn.kp D_paired.bd .nil passE0 (pa_cons (pv 5) (pa_cons (pv 6) (pa_cons (pv 4) (pa_cons (pv 3) pa_nil))))) (pa_cons (pe_call (G_law_pair_by.mono (by decide)) hr rfl D_law_pair_by.mgx D_law_pair_by.fn.kp D_law_pair_by.bd .nil pass0 (pa_cons (pv 5) (pa_cons (pv 6) (pa_cons (pv 4) (pa_cons (pv 3) pa_nil))))) pa_nil)))))
 (pss_one (ps_ret pe_bl))
 pss_nil)
 (pss_cons (ps_if (pt_not (pt_val (pe_call (G_law_same.mono (by decide)) hr rfl D_law_same.mgx D_law_same.fn.kp D_law_same.bd .nil pass0 (pa_cons (pe_call (G_pair_raised.mono (by decide)) hr rfl D_pair_raised.mgx D_pair_raised.fn.kp D_pair_raised.bd .nil passE0 (pa_cons (pv 5) (pa_cons (pv 7) (pa_cons (pv 4) (pa_cons (pv 3) pa_nil))))) (pa_cons (pe_call (G_law_pair_power.mono (by decide)) hr rfl D_law_pair_power.mgx D_law_pair_power.fn.kp D_law_pair_power.bd .nil pass0 (pa_cons (pv 5) (pa_cons (pv 7) (pa_cons (pv 4) (pa_cons (pv 3) pa_nil))))) pa_nil)))))
 (pss_one (ps_ret pe_bl))
 pss_nil)
 (pss_cons (ps_if (pt_not (pt_val (pe_call (G_law_same.mono (by decide)) hr rfl D_law_same.mgx D_law_same.fn.kp D_law_same.bd .nil pass0 (pa_cons (pe_call (G_norm_of.mono (by decide)) hr rfl D_norm_of.mgx D_norm_of.fn.kp D_norm_of.bd .nil passE0 (pa_cons (pv 5) (pa_cons (pv 4) (pa_cons (pv 3) pa_nil)))) (pa_cons (pe_op op_mod (pe_op op_sub (pe_op op_mulB (pe_ix ix_tup (pv 5) pe_int (fun _ _ => rfl)) (pe_ix ix_tup (pv 5) pe_int (fun _ _ => rfl))) (pe_op op_mulB (pe_op op_mulB (pv 4) (pe_ix ix_tup (pv 5) pe_int (fun _ _ => rfl))) (pe_ix ix_tup (pv 5) pe_int (fun _ _ => rfl)))) (pv 3)) pa_nil)))))
 (pss_one (ps_ret pe_bl))
 pss_nil)
 (pss_cons (ps_asg (pe_tup (pa_cons (pe_call (G_law_no_pair.mono (by decide)) hr rfl D_law_no_pair.mgx D_law_no_pair.fn.kp D_law_no_pair.bd .nil pass0 (pa_cons (pv 2) (pa_cons (pv 5) pa_nil))) (pa_cons (pe_call (G_law_none.mono (by decide)) hr rfl D_law_none.mgx D_law_none.fn.kp D_law_none.bd .nil pass0 (pa_cons (pv 2) (pa_cons (pe_un un_neg (pe_op op_pow pe_int pe_int)) (pa_cons (pe_op op_pow pe_int pe_int) pa_nil)))) pa_nil))) (pg_tup rfl (pgs_cons (pg_name (i := 8) sc_law.nd rfl (by first | exact Or.inl rfl | exact Or.inr rfl)) (pgs_cons (pg_name (i := 9) sc_law.nd rfl (by first | exact Or.inl rfl | exact Or.inr rfl)) pgs_nil))))
 (pss_cons (ps_asg (pe_tup (pa_cons (pe_call (G_law_none.mono (by decide)) hr rfl D_law_none.mgx D_law_none.fn.kp D_law_none.bd .nil pass0 (pa_cons (pv 2) (pa_cons pe_int (pa_cons (pe_op op_pow pe_int pe_int) pa_nil)))) (pa_cons (pe_call (G_law_none.mono (by decide)) hr rfl D_law_none.mgx D_law_none.fn.kp D_law_none.bd .nil pass0 (pa_cons (pv 2) (pa_cons pe_int (pa_cons (pe_op op_pow pe_int pe_int) pa_nil)))) pa_nil))) (pg_tup rfl (pgs_cons (pg_name (i := 10) sc_law.nd rfl (by first | exact Or.inl rfl | exact Or.inr rfl)) (pgs_cons (pg_name (i := 11) sc_law.nd rfl (by first | exact Or.inl rfl | exact Or.inr rfl)) pgs_nil))))
 (pss_cons (ps_set (i := 12) sc_law.nd rfl (by first | exact Or.inl rfl | exact Or.inr rfl) (pe_callB (call_reprD hr.gd (hu150 hr)) (by rfl) T.no_repr PyProof.Rows.boot_repr (pa_cons (pv 8) pa_nil)))
 (pss_cons (ps_set (i := 13) sc_law.nd rfl (by first | exact Or.inl rfl | exact Or.inr rfl) (pe_lst (pa_cons (pe_lamD (N := ["_law_bad", "_law_far_here", "_law_none_here"]) (js := [8, 9, 10]) ⟨rfl, hd, bm⟩ (by rfl) rfl) pa_nil)))
 (pss_cons (ps_expr (pe_bm PySem.F.plainAttrs_list PySem.F.slot_list_append PySem.F.type_list_append mt_append (pv 13) (pa_cons (pe_lamD (N := ["_law_one", "_law_bad", "_law_far_here", "_law_none_here"]) (js := [5, 8, 9, 10]) ⟨rfl, hd, bm⟩ (by rfl) rfl) pa_nil)))
 (pss_cons (ps_expr (pe_bm PySem.F.plainAttrs_list PySem.F.slot_list_append PySem.F.type_list_append mt_append (pv 13) (pa_cons (pe_lamD (N := ["_law_bad", "_law_late", "_law_far_here", "_law_none_here"]) (js := [8, 11, 9, 10]) ⟨rfl, hd, bm⟩ (by rfl) rfl) pa_nil)))
 (pss_cons (ps_expr (pe_bm PySem.F.plainAttrs_list PySem.F.slot_list_append PySem.F.type_list_append mt_append (pv 13) (pa_cons (pe_lamD (N := ["_law_bad", "_law_far_here", "_law_none_here"]) (js := [8, 9, 10]) ⟨rfl, hd, bm⟩ (by rfl) rfl) pa_nil)))
 (pss_cons (ps_expr (pe_bm PySem.F.plainAttrs_list PySem.F.slot_list_append PySem.F.type_list_append mt_append (pv 13) (pa_cons (pe_lamD (N := ["_law_one", "_law_other", "_law_far_here", "_law_n"]) (js := [5, 6, 9, 3]) ⟨rfl, hd, bm⟩ (by rfl) rfl) pa_nil)))
 (pss_cons (ps_expr (pe_bm PySem.F.plainAttrs_list PySem.F.slot_list_append PySem.F.type_list_append mt_append (pv 13) (pa_cons (pe_lamD (N := ["_law_one", "_law_other", "_law_d", "_law_none_here"]) (js := [5, 6, 4, 10]) ⟨rfl, hd, bm⟩ (by rfl) rfl) pa_nil)))
 (pss_cons (ps_expr (pe_bm PySem.F.plainAttrs_list PySem.F.slot_list_append PySem.F.type_list_append mt_append (pv 13) (pa_cons (pe_lamD (N := ["_law_one", "_law_late", "_law_d", "_law_n"]) (js := [5, 11, 4, 3]) ⟨rfl, hd, bm⟩ (by rfl) rfl) pa_nil)))
 (pss_cons (ps_expr (pe_bm PySem.F.plainAttrs_list PySem.F.slot_list_append PySem.F.type_list_append mt_append (pv 13) (pa_cons (pe_lamD (N := ["_law_one", "_law_often", "_law_far_here", "_law_n"]) (js := [5, 7, 9, 3]) ⟨rfl, hd, bm⟩ (by rfl) rfl) pa_nil)))
 (pss_cons (ps_expr (pe_bm PySem.F.plainAttrs_list PySem.F.slot_list_append PySem.F.type_list_append mt_append (pv 13) (pa_cons (pe_lamD (N := ["_law_one", "_law_often", "_law_d", "_law_none_here"]) (js := [5, 7, 4, 10]) ⟨rfl, hd, bm⟩ (by rfl) rfl) pa_nil)))
 (pss_cons (ps_expr (pe_bm PySem.F.plainAttrs_list PySem.F.slot_list_append PySem.F.type_list_append mt_append (pv 13) (pa_cons (pe_lamD (N := ["_law_one", "_law_far_here", "_law_n"]) (js := [5, 9, 3]) ⟨rfl, hd, bm⟩ (by rfl) rfl) pa_nil)))
 (pss_cons (ps_expr (pe_bm PySem.F.plainAttrs_list PySem.F.slot_list_append PySem.F.type_list_append mt_append (pv 13) (pa_cons (pe_lamD (N := ["_law_one", "_law_d", "_law_none_here"]) (js := [5, 4, 10]) ⟨rfl, hd, bm⟩ (by rfl) rfl) pa_nil)))
 (pss_one (ps_if (PW.pt (pw_or (pt_cmpR (op_neS (hu150 hr)) (pe_compD (N := ["_law_call"]) (js := [none]) (by rfl) rfl (fun _ => rfl) (pi_list (pv 13)) (by intro b _ _ _ _; exact (pg_name (i := 0) (show List.Nodup (["_law_call"] : List Str) by decide) rfl (by first | exact Or.inl rfl | exact Or.inr rfl))) (by intro b _ _ _ _; exact pifs_nil) (by intro b _ _ _ _; exact (pe_call ((B_law_word b).mono (by decide)) hr rfl D_law_word.mgx D_law_word.fn.kp D_law_word.bd .nil pass0 (pa_cons (pv 0) pa_nil)))) (pe_op op_cat (pe_op op_rep (pe_lst (pa_cons pe_str pa_nil)) pe_int) (pe_op op_rep (pe_lst (pa_cons pe_str pa_nil)) pe_int)) (nomark _)) (pw_or1 (pt_cmpR op_ne (pe_callB (call_reprD hr.gd (hu150 hr)) (by rfl) T.no_repr PyProof.Rows.boot_repr (pa_cons (pv 8) pa_nil)) (pv 12) (nomark _)))))
 (pss_one (ps_ret pe_bl))
 pss_nil)))))))))))))))))))))))))
 (pss_one (ps_ret (pe_and (pe_cmpR (op_eqS (hu150 hr)) (pe_call (G_paired.mono (by decide)) hr rfl D_paired.mgx D_paired.fn.kp D_paired.bd .nil passE0 (pa_cons (pe_tup (pa_cons pe_int (pa_cons pe_int pa_nil))) (pa_cons (pe_tup (pa_cons pe_int (pa_cons pe_int pa_nil))) (pa_cons pe_int (pa_cons pe_int pa_nil))))) (pe_tup (pa_cons pe_int (pa_cons pe_int pa_nil))) (nomark _)) (pe_one (pe_cmpR (op_eqS (hu150 hr)) (pe_call (G_pair_raised.mono (by decide)) hr rfl D_pair_raised.mgx D_pair_raised.fn.kp D_pair_raised.bd .nil passE0 (pa_cons (pe_tup (pa_cons pe_int (pa_cons pe_int pa_nil))) (pa_cons pe_int (pa_cons pe_int (pa_cons pe_int pa_nil))))) (pe_tup (pa_cons pe_int (pa_cons pe_int pa_nil))) (nomark _))))))), ?_⟩
    have e0 : L2.start ["_law_script", "_law_k", "_law_state_here", "_law_n", "_law_d", "_law_one", "_law_other", "_law_often", "_law_bad", "_law_far_here", "_law_none_here", "_law_late", "_law_kept", "_law_calls"] [.ref sa] = [some (.ref sa), none, none, none, none, none, none, none, none, none, none, none, none, none] := rfl
    rw [e0]; clear e0
    simp only [tSeq, tIfS, tTest, tRet, tRetN, tNext, tDrop, tAsg, tPar, tPar3, tAug, tVar, tC, tOp, tUn, rI, rI0, rU, tB, tAnd, tOr, tNot, tAndV, tOrV, tNotV, tIf, gName, gNil, gCons, gTup, gSub, tCB, tCons, tNil, tCall, tChain, ipI, tIsN, tNotN, tBM, tyV, tTup, tLst, rAppend, rCat, scal_ii, scal_bb, scal_ss, scal_ni, scal_in, rEq, rNe, List.getElem?_cons_zero, List.getElem?_cons_succ, List.set_cons_zero, List.set_cons_succ, eq_self, and_assoc, Option.some.injEq, V.int.injEq, V.bl.injEq, V.ref.injEq, V.str.injEq, List.cons.injEq, exists_eq_left', exists_eq_left, exists_and_left, List.nil_append, List.cons_append, List.append_nil, true_and, and_true, decide_eq_true_eq, Bool.not_eq_true', decide_eq_false_iff_not, if_true, if_false, Bool.not_true, Bool.not_false, Bool.false_eq_true, reduceCtorEq, decide_true, decide_false, ite_true, ite_false, rSetL, rIxL, tRaise, jCons, jNil, tFmt, tDNew, rCount, rIndex, Int.reduceToNat, Int.reducePow]
    obtain ⟨WI, hWI⟩ : ∃ WI : Nat → St → Hp → Prop, ∀ i σ H', WI i σ H' ↔ SameX Pt H H' ∧ TabOk H' Pt qL ∧ ∃ v1 v2 v3 v4 v5 v6 v7 v8 v9 v10 v11 v12 v13, σ = [some (.ref sa), v1, v2, v3, v4, v5, v6, v7, v8, v9, v10, v11, v12, v13] := ⟨_, fun _ _ _ => Iff.rfl⟩
    refine ⟨_, rfl, sa, rfl, _, .inl hS, _, _, rfl, _, _, rfl, _, rfl, ?_, ?_, for_range WI ((hWI _ _ _).mpr ⟨SameX.refl _ _, tabOk_new hT, none, none, none, none, none, none, none, none, none, none, none, none, none, rfl⟩) ?_ ?_⟩
    · rw [List.length_map]; repeat' split
      all_goals omega
    · rw [List.length_map]; repeat' split
      all_goals omega
    · intro i σ H1 hi hw
      obtain ⟨S, TB, v1, v2, v3, v4, v5, v6, v7, v8, v9, v10, v11, v12, v13, rfl⟩ := (hWI _ _ _).mp hw
      clear hw
      simp only [tSeq, tIfS, tTest, tRet, tRetN, tNext, tDrop, tAsg, tPar, tPar3, tAug, tVar, tC, tOp, tUn, rI, rI0, rU, tB, tAnd, tOr, tNot, tAndV, tOrV, tNotV, tIf, gName, gNil, gCons, gTup, gSub, tCB, tCons, tNil, tCall, tChain, ipI, tIsN, tNotN, tBM, tyV, tTup, tLst, rAppend, rCat, scal_ii, scal_bb, scal_ss, scal_ni, scal_in, rEq, rNe, List.getElem?_cons_zero, List.getElem?_cons_succ, List.set_cons_zero, List.set_cons_succ, eq_self, and_assoc, Option.some.injEq, V.int.injEq, V.bl.injEq, V.ref.injEq, V.str.injEq, List.cons.injEq, exists_eq_left', exists_eq_left, exists_and_left, List.nil_append, List.cons_append, List.append_nil, true_and, and_true, decide_eq_true_eq, Bool.not_eq_true', decide_eq_false_iff_not, if_true, if_false, Bool.not_true, Bool.not_false, Bool.false_eq_true, reduceCtorEq, decide_true, decide_false, ite_true, ite_false, rSetL, rIxL, tRaise, jCons, jNil, tFmt, tDNew, rCount, rIndex, Int.reduceToNat, Int.reducePow]
      refine ⟨sa, ns, _, rfl, S.seq hT hS, hlen, by omega, fun a x y y0 y1 ha => ?_⟩
      simp only [tSeq, tIfS, tTest, tRet, tRetN, tNext, tDrop, tAsg, tPar, tPar3, tAug, tVar, tC, tOp, tUn, rI, rI0, rU, tB, tAnd, tOr, tNot, tAndV, tOrV, tNotV, tIf, gName, gNil, gCons, gTup, gSub, tCB, tCons, tNil, tCall, tChain, ipI, tIsN, tNotN, tBM, tyV, tTup, tLst, rAppend, rCat, scal_ii, scal_bb, scal_ss, scal_ni, scal_in, rEq, rNe, List.getElem?_cons_zero, List.getElem?_cons_succ, List.set_cons_zero, List.set_cons_succ, eq_self, and_assoc, Option.some.injEq, V.int.injEq, V.bl.injEq, V.ref.injEq, V.str.injEq, List.cons.injEq, exists_eq_left', exists_eq_left, exists_and_left, List.nil_append, List.cons_append, List.append_nil, true_and, and_true, decide_eq_true_eq, Bool.not_eq_true', decide_eq_false_iff_not, if_true, if_false, Bool.not_true, Bool.not_false, Bool.false_eq_true, reduceCtorEq, decide_true, decide_false, ite_true, ite_false, rSetL, rIxL, tRaise, jCons, jNil, tFmt, tDNew, rCount, rIndex, Int.reduceToNat, Int.reducePow]
      have nb : ∀ b o, b ≠ Pt → H b = some o → b ≠ a := fun b o hb e => ne_of_none (S b o hb e) ha
      have S0 : SameX Pt H (upd H1 a (.lst [.int x, .int y])) := fun b o hb e => by rw [upd_ne (nb b o hb e)]; exact S b o hb e
      have TB0 : TabOk (upd H1 a (.lst [.int x, .int y])) Pt qL := TB.same fun b o e => by rw [upd_ne (ne_of_none e ha)]; exact e
      have st0 : StAt (upd H1 a (.lst [.int x, .int y])) a := ⟨x, y, upd_same, y0, y1⟩
      generalize upd H1 a (.lst [.int x, .int y]) = H2 at S0 TB0 st0 ⊢
      refine ⟨a, rfl, st0, fun n H3 n1 n2 T1 => ?_⟩
      simp only [tSeq, tIfS, tTest, tRet, tRetN, tNext, tDrop, tAsg, tPar, tPar3, tAug, tVar, tC, tOp, tUn, rI, rI0, rU, tB, tAnd, tOr, tNot, tAndV, tOrV, tNotV, tIf, gName, gNil, gCons, gTup, gSub, tCB, tCons, tNil, tCall, tChain, ipI, tIsN, tNotN, tBM, tyV, tTup, tLst, rAppend, rCat, scal_ii, scal_bb, scal_ss, scal_ni, scal_in, rEq, rNe, List.getElem?_cons_zero, List.getElem?_cons_succ, List.set_cons_zero, List.set_cons_succ, eq_self, and_assoc, Option.some.injEq, V.int.injEq, V.bl.injEq, V.ref.injEq, V.str.injEq, List.cons.injEq, exists_eq_left', exists_eq_left, exists_and_left, List.nil_append, List.cons_append, List.append_nil, true_and, and_true, decide_eq_true_eq, Bool.not_eq_true', decide_eq_false_iff_not, if_true, if_false, Bool.not_true, Bool.not_false, Bool.false_eq_true, reduceCtorEq, decide_true, decide_false, ite_true, ite_false, rSetL, rIxL, tRaise, jCons, jNil, tFmt, tDNew, rCount, rIndex, Int.reduceToNat, Int.reducePow]
      refine ⟨a, rfl, T1.st, fun d H4 d1 d2 T2 => ?_⟩
      simp only [tSeq, tIfS, tTest, tRet, tRetN, tNext, tDrop, tAsg, tPar, tPar3, tAug, tVar, tC, tOp, tUn, rI, rI0, rU, tB, tAnd, tOr, tNot, tAndV, tOrV, tNotV, tIf, gName, gNil, gCons, gTup, gSub, tCB, tCons, tNil, tCall, tChain, ipI, tIsN, tNotN, tBM, tyV, tTup, tLst, rAppend, rCat, scal_ii, scal_bb, scal_ss, scal_ni, scal_in, rEq, rNe, List.getElem?_cons_zero, List.getElem?_cons_succ, List.set_cons_zero, List.set_cons_succ, eq_self, and_assoc, Option.some.injEq, V.int.injEq, V.bl.injEq, V.ref.injEq, V.str.injEq, List.cons.injEq, exists_eq_left', exists_eq_left, exists_and_left, List.nil_append, List.cons_append, List.append_nil, true_and, and_true, decide_eq_true_eq, Bool.not_eq_true', decide_eq_false_iff_not, if_true, if_false, Bool.not_true, Bool.not_false, Bool.false_eq_true, reduceCtorEq, decide_true, decide_false, ite_true, ite_false, rSetL, rIxL, tRaise, jCons, jNil, tFmt, tDNew, rCount, rIndex, Int.reduceToNat, Int.reducePow]
      refine ⟨by show 2 ≤ sizeLine; decide, fun p hp => ⟨_, SqT.of upd_same, rfl, ?_⟩⟩
      have T3 : Step a H2 (upd H4 p (.tup [.int n, .int d])) := (T1.trans T2).new hp
      generalize upd H4 p (.tup [.int n, .int d]) = H5 at T3 ⊢
      clear T1 T2
      simp only [tSeq, tIfS, tTest, tRet, tRetN, tNext, tDrop, tAsg, tPar, tPar3, tAug, tVar, tC, tOp, tUn, rI, rI0, rU, tB, tAnd, tOr, tNot, tAndV, tOrV, tNotV, tIf, gName, gNil, gCons, gTup, gSub, tCB, tCons, tNil, tCall, tChain, ipI, tIsN, tNotN, tBM, tyV, tTup, tLst, rAppend, rCat, scal_ii, scal_bb, scal_ss, scal_ni, scal_in, rEq, rNe, List.getElem?_cons_zero, List.getElem?_cons_succ, List.set_cons_zero, List.set_cons_succ, eq_self, and_assoc, Option.some.injEq, V.int.injEq, V.bl.injEq, V.ref.injEq, V.str.injEq, List.cons.injEq, exists_eq_left', exists_eq_left, exists_and_left, List.nil_append, List.cons_append, List.append_nil, true_and, and_true, decide_eq_true_eq, Bool.not_eq_true', decide_eq_false_iff_not, if_true, if_false, Bool.not_true, Bool.not_false, Bool.false_eq_true, reduceCtorEq, decide_true, decide_false, ite_true, ite_false, rSetL, rIxL, tRaise, jCons, jNil, tFmt, tDNew, rCount, rIndex, Int.reduceToNat, Int.reducePow]
      refine ⟨a, rfl, T3.st, fun a1 H6 a10 a11 T4 => ⟨a, rfl, T4.st, fun a2 H7 a20 a21 T5 => ⟨by show 2 ≤ sizeLine; decide, fun po hpo => ?_⟩⟩⟩
      have T6 : Step a H2 (upd H7 po (.tup [.int a1, .int a2])) := (T3.trans (T4.trans T5)).new hpo
      have eo : (upd H7 po (.tup [.int a1, .int a2])) po = some (.tup (prV (a1, a2))) := upd_same
      have no : po ≠ a := by
        obtain ⟨_, _, e, _⟩ := T5.st
        exact (ne_of_none e hpo).symm
      have fa : Fr (a1, a2) := ⟨by show -(10 ^ 30) ≤ a1; omega, by show a1 ≤ 10 ^ 30; omega, by show -(10 ^ 30) ≤ a2; omega, by show a2 ≤ 10 ^ 30; omega⟩
      generalize upd H7 po (.tup [.int a1, .int a2]) = H8 at T6 eo ⊢
      clear T3 T4 T5 hpo
      refine ⟨a, rfl, T6.st, fun b1 H9 b10 b11 T7 => ⟨a, rfl, T7.st, fun b2 H10 b20 b21 T8 => ⟨by show 2 ≤ sizeLine; decide, fun pt hpt => ?_⟩⟩⟩
      have T9 : Step a H2 (upd H10 pt (.tup [.int b1, .int b2])) := (T6.trans (T7.trans T8)).new hpt
      have et : (upd H10 pt (.tup [.int b1, .int b2])) pt = some (.tup (prV (b1, b2))) := upd_same
      have nt : pt ≠ a := by
        obtain ⟨_, _, e, _⟩ := T8.st
        exact (ne_of_none e hpt).symm
      have fb : Fr (b1, b2) := ⟨by show -(10 ^ 30) ≤ b1; omega, by show b1 ≤ 10 ^ 30; omega, by show -(10 ^ 30) ≤ b2; omega, by show b2 ≤ 10 ^ 30; omega⟩
      replace eo : (upd H10 pt (.tup [.int b1, .int b2])) po = some (.tup (prV (a1, a2))) := keep (T8.but _ _ no (T7.but _ _ no eo)) hpt
      generalize upd H10 pt (.tup [.int b1, .int b2]) = H11 at T9 eo et ⊢
      clear T6 T7 T8 hpt
      refine ⟨a, _, rfl, ⟨by decide, by decide⟩, T9.st, fun w1 H12 w10 w11 T10 => ?_⟩
      refine ⟨⟨by decide, by decide, by decide⟩, a, _, rfl, ⟨by decide, by decide⟩, T10.st, fun w2 H13 w20 w21 T11 => ?_⟩
      refine ⟨⟨by decide, by decide, by decide⟩, by show 4 ≤ sizeLine; decide, fun p1 hp1 => ⟨a, _, rfl, ⟨by decide, by decide⟩, T11.st.upd hp1, fun e H14 e0 e1 T12 => ?_⟩⟩
      have ep := T12.but p1 _ (by
        obtain ⟨_, _, e, _⟩ := T11.st
        exact (ne_of_none e hp1).symm) upd_same
      have T13 : Step a H11 H14 := (T10.trans (T11.new hp1)).trans T12
      obtain ⟨o, oo1, oo2, hat⟩ : ∃ o : Int, 0 ≤ o ∧ o ≤ 10 ^ 30 ∧ atI [V.int w1, V.int w2, V.int 0, V.int 1000000000000000000000000000000] e = some (.int o) := by
        have he : e = 0 ∨ e = 1 ∨ e = 2 ∨ e = 3 := by omega
        rcases he with rfl | rfl | rfl | rfl <;> exact ⟨_, by omega, by omega, rfl⟩
      refine ⟨_, e, rfl, SqL.of ep, _, hat, ?_⟩
      replace eo := T13.but _ _ no eo
      replace et := T13.but _ _ nt et
      have VA := T9.trans T13
      clear T9 T10 T11 T12 T13 ep
      refine ⟨_, _, _, _, rfl, .inr (.inr (.inr (.inr ⟨po, pt, _, _, d, n, rfl, rfl, rfl, rfl, eo, et, ⟨fa, fb, by omega, by omega, by omega, by omega⟩, fun r1 hr1 => ?_⟩)))⟩
      refine ⟨po, pt, _, _, d, n, rfl, SqT.of (keep eo hr1), SqT.of (keep et hr1), ⟨fa.sm, fb.sm, by omega, by omega, by omega⟩, fun r2 hr2 => ?_⟩
      refine same_pair (keep upd_same hr2) upd_same fun H15 S15 => ⟨_, rfl, ?_⟩
      rw [if_neg (by decide)]
      have SA : Same H14 H15 := fun b o e => S15 _ _ (keep (keep e hr1) hr2)
      replace eo := SA _ _ eo
      replace et := SA _ _ et
      replace VA := VA.same SA
      clear S15 SA hr1 hr2
      refine ⟨_, _, _, _, rfl, .inr (.inr (.inr (.inr ⟨po, _, o, d, n, rfl, rfl, rfl, rfl, eo, ⟨fa, by omega, by omega, by omega, by omega, by omega, by omega⟩, fun r3 H16 S16 e16 => ?_⟩)))⟩
      refine ⟨po, _, o, d, n, rfl, S16 _ _ eo, ⟨fa.sm, by omega, by omega, by omega, by omega, by omega⟩, fun r4 H17 S17 e17 => ?_⟩
      refine same_pair (S17 _ _ e16) e17 fun H18 S18 => ⟨_, rfl, ?_⟩
      rw [if_neg (by decide)]
      have SA : Same H15 H18 := (S16.trans S17).trans S18
      replace eo := SA _ _ eo
      replace et := SA _ _ et
      replace VA := VA.same SA
      clear S16 S17 S18 e16 e17 SA
      refine ⟨_, _, _, rfl, .inr (.inr (.inr ⟨po, _, d, n, rfl, rfl, rfl, eo, ⟨fa, by omega, by omega, by omega, by omega⟩, ?_⟩))⟩
      simp only [tSeq, tIfS, tTest, tRet, tRetN, tNext, tDrop, tAsg, tPar, tPar3, tAug, tVar, tC, tOp, tUn, rI, rI0, rU, tB, tAnd, tOr, tNot, tAndV, tOrV, tNotV, tIf, gName, gNil, gCons, gTup, gSub, tCB, tCons, tNil, tCall, tChain, ipI, tIsN, tNotN, tBM, tyV, tTup, tLst, rAppend, rCat, scal_ii, scal_bb, scal_ss, scal_ni, scal_in, rEq, rNe, List.getElem?_cons_zero, List.getElem?_cons_succ, List.set_cons_zero, List.set_cons_succ, eq_self, and_assoc, Option.some.injEq, V.int.injEq, V.bl.injEq, V.ref.injEq, V.str.injEq, List.cons.injEq, exists_eq_left', exists_eq_left, exists_and_left, List.nil_append, List.cons_append, List.append_nil, true_and, and_true, decide_eq_true_eq, Bool.not_eq_true', decide_eq_false_iff_not, if_true, if_false, Bool.not_true, Bool.not_false, Bool.false_eq_true, reduceCtorEq, decide_true, decide_false, ite_true, ite_false, rSetL, rIxL, tRaise, jCons, jNil, tFmt, tDNew, rCount, rIndex, Int.reduceToNat, Int.reducePow, rIxT]
      have hd31 : d.natAbs < 10 ^ 31 := by omega
      refine ⟨_, SqT.of eo, _, rfl, _, SqT.of eo, _, rfl, _, rfl, _, rfl, .inr ⟨ten100 fa.sm.a, ten100 fa.sm.a⟩, _, SqT.of eo, _, rfl, _, rfl, .inr ⟨ten100 hd31, ten100 fa.sm.b⟩, _, SqT.of eo, _, rfl, _, rfl, .inr ⟨nb_mul hd31 fa.sm.b (by decide), ten100 fa.sm.b⟩, by omega, ?_⟩
      refine same_int fun H19 S19 => ⟨_, rfl, ?_⟩
      rw [if_neg (by decide)]
      replace eo := S19 _ _ eo
      replace et := S19 _ _ et
      replace VA := VA.same S19
      clear S19
      refine ⟨a, po, _, rfl, VA.st, eo, no, fa, fun bad H20 TA BD => ?_⟩
      refine ⟨⟨by decide, by decide, by decide⟩, ⟨by decide, by decide, by decide⟩, a, _, _, rfl, ⟨by decide, by decide, by decide⟩, TA.st, fun far H21 TF yF bF => ?_⟩
      refine ⟨by show 2 ≤ sizeLine; decide, fun p9 hp9 => ⟨_, SqT.of upd_same, rfl, ?_⟩⟩
      obtain ⟨dB, FB, ft, ok, fna⟩ := BD
      have TD : Step a H21 (upd H21 p9 (.tup [bad, far])) := (Step.refl TF.st).new hp9
      generalize upd H21 p9 (.tup [bad, far]) = HT at TD ⊢
      replace VA := VA.trans (TA.trans (TF.trans TD))
      replace eo := TD.but _ _ no (TF.but _ _ no (TA.but _ _ no eo))
      replace et := TD.but _ _ nt (TF.but _ _ nt (TA.but _ _ nt et))
      replace ok := ftok_but (ftok_but ok fna TF.but) fna TD.but
      replace yF := yF.step TD.but
      clear TA TF
      simp only [tSeq, tIfS, tTest, tRet, tRetN, tNext, tDrop, tAsg, tPar, tPar3, tAug, tVar, tC, tOp, tUn, rI, rI0, rU, tB, tAnd, tOr, tNot, tAndV, tOrV, tNotV, tIf, gName, gNil, gCons, gTup, gSub, tCB, tCons, tNil, tCall, tChain, ipI, tIsN, tNotN, tBM, tyV, tTup, tLst, rAppend, rCat, scal_ii, scal_bb, scal_ss, scal_ni, scal_in, rEq, rNe, List.getElem?_cons_zero, List.getElem?_cons_succ, List.set_cons_zero, List.set_cons_succ, eq_self, and_assoc, Option.some.injEq, V.int.injEq, V.bl.injEq, V.ref.injEq, V.str.injEq, List.cons.injEq, exists_eq_left', exists_eq_left, exists_and_left, List.nil_append, List.cons_append, List.append_nil, true_and, and_true, decide_eq_true_eq, Bool.not_eq_true', decide_eq_false_iff_not, if_true, if_false, Bool.not_true, Bool.not_false, Bool.false_eq_true, reduceCtorEq, decide_true, decide_false, ite_true, ite_false, rSetL, rIxL, tRaise, jCons, jNil, tFmt, tDNew, rCount, rIndex, Int.reduceToNat, Int.reducePow]
      refine ⟨⟨by decide, by decide, by decide⟩, a, _, _, rfl, ⟨by decide, by decide, by decide⟩, TD.st, fun non H22 TN yN bN => ?_⟩
      refine ⟨⟨by decide, by decide, by decide⟩, a, _, _, rfl, ⟨by decide, by decide, by decide⟩, TN.st, fun late H23 TL yL bL => ?_⟩
      refine ⟨by show 2 ≤ sizeLine; decide, fun p8 hp8 => ⟨_, SqT.of upd_same, rfl, ?_⟩⟩
      have TE : Step a H23 (upd H23 p8 (.tup [non, late])) := (Step.refl TL.st).new hp8
      generalize upd H23 p8 (.tup [non, late]) = HC at TE ⊢
      replace VA := VA.trans (TN.trans (TL.trans TE))
      replace eo := TE.but _ _ no (TL.but _ _ no (TN.but _ _ no eo))
      replace et := TE.but _ _ nt (TL.but _ _ nt (TN.but _ _ nt et))
      replace ok := ftok_but (ftok_but (ftok_but ok fna TN.but) fna TL.but) fna TE.but
      replace yF := ((yF.step TN.but).step TL.but).step TE.but
      replace yN := (yN.step TL.but).step TE.but
      replace yL := yL.step TE.but
      clear TN TL TE TD
      simp only [tSeq, tIfS, tTest, tRet, tRetN, tNext, tDrop, tAsg, tPar, tPar3, tAug, tVar, tC, tOp, tUn, rI, rI0, rU, tB, tAnd, tOr, tNot, tAndV, tOrV, tNotV, tIf, gName, gNil, gCons, gTup, gSub, tCB, tCons, tNil, tCall, tChain, ipI, tIsN, tNotN, tBM, tyV, tTup, tLst, rAppend, rCat, scal_ii, scal_bb, scal_ss, scal_ni, scal_in, rEq, rNe, List.getElem?_cons_zero, List.getElem?_cons_succ, List.set_cons_zero, List.set_cons_succ, eq_self, and_assoc, Option.some.injEq, V.int.injEq, V.bl.injEq, V.ref.injEq, V.str.injEq, List.cons.injEq, exists_eq_left', exists_eq_left, exists_and_left, List.nil_append, List.cons_append, List.append_nil, true_and, and_true, decide_eq_true_eq, Bool.not_eq_true', decide_eq_false_iff_not, if_true, if_false, Bool.not_true, Bool.not_false, Bool.false_eq_true, reduceCtorEq, decide_true, decide_false, ite_true, ite_false, rSetL, rIxL, tRaise, jCons, jNil, tFmt, tDNew, rCount, rIndex, Int.reduceToNat, Int.reducePow]
      refine ⟨bad, dB, rfl, ft.rep _ ok, ft.ok, ft.sc, ft.len, ft.dep, ?_⟩
      have TB3 : TabOk HC Pt qL := VA.tab st0 TB0
      refine ⟨TB3, fun f1 c1 ct1 L1 hf1 sx1 tb1 lam1 cod1 => ?_⟩
      refine ⟨by show 1 ≤ sizeLine; decide, fun pc hpc => ?_⟩
      have n1p : po ≠ Pt := fun z => by
        obtain ⟨ps, e, _⟩ := TB3
        rw [← z, eo] at e
        cases e
      have n2p : pt ≠ Pt := fun z => by
        obtain ⟨ps, e, _⟩ := TB3
        rw [← z, et] at e
        cases e
      have n3p := ftok_npt ok ft.ntb TB3
      have ty1 : Ty2 K Pt pc L1 far := yF.ty2 TB3 sx1 hpc
      have ty2 : Ty2 K Pt pc L1 non := yN.ty2 TB3 sx1 hpc
      have ty3 : Ty2 K Pt pc L1 late := yL.ty2 TB3 sx1 hpc
      have eo1 := sx1 _ _ n1p eo
      have et1 := sx1 _ _ n2p et
      have ok1 : FtOk L1 FB := fun f hf => sx1 _ _ (n3p f hf) (ok f hf)
      have n1c : po ≠ pc := ne_of_none eo1 hpc
      have n2c : pt ≠ pc := ne_of_none et1 hpc
      have n3c := ftok_npc ok1 hpc
      have k1 : KX Pt pc L1 (upd L1 pc (.lst [.ref f1])) := fun b o _ hb e => by rw [upd_ne hb]; exact e
      have g1 := (Lm.first tb1 lam1 cod1 hpc).keep k1
      have tbA : TabOk (upd L1 pc (.lst [.ref f1])) Pt qL := tb1.same fun b o e => keep e hpc
      have mA : (upd L1 pc (.lst [.ref f1])) pc = some (.lst [.ref f1]) := upd_same
      generalize upd L1 pc (.lst [.ref f1]) = M1 at k1 g1 tbA mA ⊢
      have nPc : pc ≠ Pt := fun z => by
        obtain ⟨ps, e, _⟩ := tbA
        rw [← z, mA] at e
        cases e
      refine ⟨.inl ⟨_, SqL.of mA⟩, tbA, fun f2 c2 ct2 J2 hf2 sx2 tb2 lam2 cod2 => ?_⟩
      have mL2 : J2 pc = some (.lst [.ref f1]) := sx2 pc _ nPc mA
      refine ⟨_, mL2, small1000 (show 1 ≤ 1000 by decide), ?_⟩
      have kx2 : KX Pt pc J2 (upd J2 pc (.lst ([.ref f1] ++ [.ref f2]))) := fun b o _ hb e => by rw [upd_ne hb]; exact e
      have k2 : KX Pt pc M1 (upd J2 pc (.lst ([.ref f1] ++ [.ref f2]))) := fun b o h1 h2 e => kx2 b o h1 h2 (sx2 b o h1 e)
      have g2 := (Lm.next tb2 lam2 cod2 mL2).keep kx2
      replace tbA : TabOk (upd J2 pc (.lst ([.ref f1] ++ [.ref f2]))) Pt qL := tb2.kept fun b o e n => by rw [upd_ne (fun z => by rw [z, mL2] at e; cases e; exact n _ rfl)]; exact e
      replace mA : (upd J2 pc (.lst ([.ref f1] ++ [.ref f2]))) pc = some (.lst [.ref f1, .ref f2]) := upd_same
      clear kx2
      generalize (upd J2 pc (.lst ([.ref f1] ++ [.ref f2]))) = M2 at k2 g2 tbA mA ⊢
      clear sx2 tb2 lam2 cod2 hf2 mL2
      refine ⟨.inl ⟨_, SqL.of mA⟩, tbA, fun f3 c3 ct3 J3 hf3 sx3 tb3 lam3 cod3 => ?_⟩
      have mL3 : J3 pc = some (.lst [.ref f1, .ref f2]) := sx3 pc _ nPc mA
      refine ⟨_, mL3, small1000 (show 2 ≤ 1000 by decide), ?_⟩
      have kx3 : KX Pt pc J3 (upd J3 pc (.lst ([.ref f1, .ref f2] ++ [.ref f3]))) := fun b o _ hb e => by rw [upd_ne hb]; exact e
      have k3 : KX Pt pc M2 (upd J3 pc (.lst ([.ref f1, .ref f2] ++ [.ref f3]))) := fun b o h1 h2 e => kx3 b o h1 h2 (sx3 b o h1 e)
      have g3 := (Lm.next tb3 lam3 cod3 mL3).keep kx3
      replace tbA : TabOk (upd J3 pc (.lst ([.ref f1, .ref f2] ++ [.ref f3]))) Pt qL := tb3.kept fun b o e n => by rw [upd_ne (fun z => by rw [z, mL3] at e; cases e; exact n _ rfl)]; exact e
      replace mA : (upd J3 pc (.lst ([.ref f1, .ref f2] ++ [.ref f3]))) pc = some (.lst [.ref f1, .ref f2, .ref f3]) := upd_same
      clear kx3
      generalize (upd J3 pc (.lst ([.ref f1, .ref f2] ++ [.ref f3]))) = M3 at k3 g3 tbA mA ⊢
      clear sx3 tb3 lam3 cod3 hf3 mL3
      refine ⟨.inl ⟨_, SqL.of mA⟩, tbA, fun f4 c4 ct4 J4 hf4 sx4 tb4 lam4 cod4 => ?_⟩
      have mL4 : J4 pc = some (.lst [.ref f1, .ref f2, .ref f3]) := sx4 pc _ nPc mA
      refine ⟨_, mL4, small1000 (show 3 ≤ 1000 by decide), ?_⟩
      have kx4 : KX Pt pc J4 (upd J4 pc (.lst ([.ref f1, .ref f2, .ref f3] ++ [.ref f4]))) := fun b o _ hb e => by rw [upd_ne hb]; exact e
      have k4 : KX Pt pc M3 (upd J4 pc (.lst ([.ref f1, .ref f2, .ref f3] ++ [.ref f4]))) := fun b o h1 h2 e => kx4 b o h1 h2 (sx4 b o h1 e)
      have g4 := (Lm.next tb4 lam4 cod4 mL4).keep kx4
      replace tbA : TabOk (upd J4 pc (.lst ([.ref f1, .ref f2, .ref f3] ++ [.ref f4]))) Pt qL := tb4.kept fun b o e n => by rw [upd_ne (fun z => by rw [z, mL4] at e; cases e; exact n _ rfl)]; exact e
      replace mA : (upd J4 pc (.lst ([.ref f1, .ref f2, .ref f3] ++ [.ref f4]))) pc = some (.lst [.ref f1, .ref f2, .ref f3, .ref f4]) := upd_same
      clear kx4
      generalize (upd J4 pc (.lst ([.ref f1, .ref f2, .ref f3] ++ [.ref f4]))) = M4 at k4 g4 tbA mA ⊢
      clear sx4 tb4 lam4 cod4 hf4 mL4
      refine ⟨.inl ⟨_, SqL.of mA⟩, tbA, fun f5 c5 ct5 J5 hf5 sx5 tb5 lam5 cod5 => ?_⟩
      have mL5 : J5 pc = some (.lst [.ref f1, .ref f2, .ref f3, .ref f4]) := sx5 pc _ nPc mA
      refine ⟨_, mL5, small1000 (show 4 ≤ 1000 by decide), ?_⟩
      have kx5 : KX Pt pc J5 (upd J5 pc (.lst ([.ref f1, .ref f2, .ref f3, .ref f4] ++ [.ref f5]))) := fun b o _ hb e => by rw [upd_ne hb]; exact e
      have k5 : KX Pt pc M4 (upd J5 pc (.lst ([.ref f1, .ref f2, .ref f3, .ref f4] ++ [.ref f5]))) := fun b o h1 h2 e => kx5 b o h1 h2 (sx5 b o h1 e)
      have g5 := (Lm.next tb5 lam5 cod5 mL5).keep kx5
      replace tbA : TabOk (upd J5 pc (.lst ([.ref f1, .ref f2, .ref f3, .ref f4] ++ [.ref f5]))) Pt qL := tb5.kept fun b o e n => by rw [upd_ne (fun z => by rw [z, mL5] at e; cases e; exact n _ rfl)]; exact e
      replace mA : (upd J5 pc (.lst ([.ref f1, .ref f2, .ref f3, .ref f4] ++ [.ref f5]))) pc = some (.lst [.ref f1, .ref f2, .ref f3, .ref f4, .ref f5]) := upd_same
      clear kx5
      generalize (upd J5 pc (.lst ([.ref f1, .ref f2, .ref f3, .ref f4] ++ [.ref f5]))) = M5 at k5 g5 tbA mA ⊢
      clear sx5 tb5 lam5 cod5 hf5 mL5
      refine ⟨.inl ⟨_, SqL.of mA⟩, tbA, fun f6 c6 ct6 J6 hf6 sx6 tb6 lam6 cod6 => ?_⟩
      have mL6 : J6 pc = some (.lst [.ref f1, .ref f2, .ref f3, .ref f4, .ref f5]) := sx6 pc _ nPc mA
      refine ⟨_, mL6, small1000 (show 5 ≤ 1000 by decide), ?_⟩
      have kx6 : KX Pt pc J6 (upd J6 pc (.lst ([.ref f1, .ref f2, .ref f3, .ref f4, .ref f5] ++ [.ref f6]))) := fun b o _ hb e => by rw [upd_ne hb]; exact e
      have k6 : KX Pt pc M5 (upd J6 pc (.lst ([.ref f1, .ref f2, .ref f3, .ref f4, .ref f5] ++ [.ref f6]))) := fun b o h1 h2 e => kx6 b o h1 h2 (sx6 b o h1 e)
      have g6 := (Lm.next tb6 lam6 cod6 mL6).keep kx6
      replace tbA : TabOk (upd J6 pc (.lst ([.ref f1, .ref f2, .ref f3, .ref f4, .ref f5] ++ [.ref f6]))) Pt qL := tb6.kept fun b o e n => by rw [upd_ne (fun z => by rw [z, mL6] at e; cases e; exact n _ rfl)]; exact e
      replace mA : (upd J6 pc (.lst ([.ref f1, .ref f2, .ref f3, .ref f4, .ref f5] ++ [.ref f6]))) pc = some (.lst [.ref f1, .ref f2, .ref f3, .ref f4, .ref f5, .ref f6]) := upd_same
      clear kx6
      generalize (upd J6 pc (.lst ([.ref f1, .ref f2, .ref f3, .ref f4, .ref f5] ++ [.ref f6]))) = M6 at k6 g6 tbA mA ⊢
      clear sx6 tb6 lam6 cod6 hf6 mL6
      refine ⟨.inl ⟨_, SqL.of mA⟩, tbA, fun f7 c7 ct7 J7 hf7 sx7 tb7 lam7 cod7 => ?_⟩
      have mL7 : J7 pc = some (.lst [.ref f1, .ref f2, .ref f3, .ref f4, .ref f5, .ref f6]) := sx7 pc _ nPc mA
      refine ⟨_, mL7, small1000 (show 6 ≤ 1000 by decide), ?_⟩
      have kx7 : KX Pt pc J7 (upd J7 pc (.lst ([.ref f1, .ref f2, .ref f3, .ref f4, .ref f5, .ref f6] ++ [.ref f7]))) := fun b o _ hb e => by rw [upd_ne hb]; exact e
      have k7 : KX Pt pc M6 (upd J7 pc (.lst ([.ref f1, .ref f2, .ref f3, .ref f4, .ref f5, .ref f6] ++ [.ref f7]))) := fun b o h1 h2 e => kx7 b o h1 h2 (sx7 b o h1 e)
      have g7 := (Lm.next tb7 lam7 cod7 mL7).keep kx7
      replace tbA : TabOk (upd J7 pc (.lst ([.ref f1, .ref f2, .ref f3, .ref f4, .ref f5, .ref f6] ++ [.ref f7]))) Pt qL := tb7.kept fun b o e n => by rw [upd_ne (fun z => by rw [z, mL7] at e; cases e; exact n _ rfl)]; exact e
      replace mA : (upd J7 pc (.lst ([.ref f1, .ref f2, .ref f3, .ref f4, .ref f5, .ref f6] ++ [.ref f7]))) pc = some (.lst [.ref f1, .ref f2, .ref f3, .ref f4, .ref f5, .ref f6, .ref f7]) := upd_same
      clear kx7
      generalize (upd J7 pc (.lst ([.ref f1, .ref f2, .ref f3, .ref f4, .ref f5, .ref f6] ++ [.ref f7]))) = M7 at k7 g7 tbA mA ⊢
      clear sx7 tb7 lam7 cod7 hf7 mL7
      refine ⟨.inl ⟨_, SqL.of mA⟩, tbA, fun f8 c8 ct8 J8 hf8 sx8 tb8 lam8 cod8 => ?_⟩
      have mL8 : J8 pc = some (.lst [.ref f1, .ref f2, .ref f3, .ref f4, .ref f5, .ref f6, .ref f7]) := sx8 pc _ nPc mA
      refine ⟨_, mL8, small1000 (show 7 ≤ 1000 by decide), ?_⟩
      have kx8 : KX Pt pc J8 (upd J8 pc (.lst ([.ref f1, .ref f2, .ref f3, .ref f4, .ref f5, .ref f6, .ref f7] ++ [.ref f8]))) := fun b o _ hb e => by rw [upd_ne hb]; exact e
      have k8 : KX Pt pc M7 (upd J8 pc (.lst ([.ref f1, .ref f2, .ref f3, .ref f4, .ref f5, .ref f6, .ref f7] ++ [.ref f8]))) := fun b o h1 h2 e => kx8 b o h1 h2 (sx8 b o h1 e)
      have g8 := (Lm.next tb8 lam8 cod8 mL8).keep kx8
      replace tbA : TabOk (upd J8 pc (.lst ([.ref f1, .ref f2, .ref f3, .ref f4, .ref f5, .ref f6, .ref f7] ++ [.ref f8]))) Pt qL := tb8.kept fun b o e n => by rw [upd_ne (fun z => by rw [z, mL8] at e; cases e; exact n _ rfl)]; exact e
      replace mA : (upd J8 pc (.lst ([.ref f1, .ref f2, .ref f3, .ref f4, .ref f5, .ref f6, .ref f7] ++ [.ref f8]))) pc = some (.lst [.ref f1, .ref f2, .ref f3, .ref f4, .ref f5, .ref f6, .ref f7, .ref f8]) := upd_same
      clear kx8
      generalize (upd J8 pc (.lst ([.ref f1, .ref f2, .ref f3, .ref f4, .ref f5, .ref f6, .ref f7] ++ [.ref f8]))) = M8 at k8 g8 tbA mA ⊢
      clear sx8 tb8 lam8 cod8 hf8 mL8
      refine ⟨.inl ⟨_, SqL.of mA⟩, tbA, fun f9 c9 ct9 J9 hf9 sx9 tb9 lam9 cod9 => ?_⟩
      have mL9 : J9 pc = some (.lst [.ref f1, .ref f2, .ref f3, .ref f4, .ref f5, .ref f6, .ref f7, .ref f8]) := sx9 pc _ nPc mA
      refine ⟨_, mL9, small1000 (show 8 ≤ 1000 by decide), ?_⟩
      have kx9 : KX Pt pc J9 (upd J9 pc (.lst ([.ref f1, .ref f2, .ref f3, .ref f4, .ref f5, .ref f6, .ref f7, .ref f8] ++ [.ref f9]))) := fun b o _ hb e => by rw [upd_ne hb]; exact e
      have k9 : KX Pt pc M8 (upd J9 pc (.lst ([.ref f1, .ref f2, .ref f3, .ref f4, .ref f5, .ref f6, .ref f7, .ref f8] ++ [.ref f9]))) := fun b o h1 h2 e => kx9 b o h1 h2 (sx9 b o h1 e)
      have g9 := (Lm.next tb9 lam9 cod9 mL9).keep kx9
      replace tbA : TabOk (upd J9 pc (.lst ([.ref f1, .ref f2, .ref f3, .ref f4, .ref f5, .ref f6, .ref f7, .ref f8] ++ [.ref f9]))) Pt qL := tb9.kept fun b o e n => by rw [upd_ne (fun z => by rw [z, mL9] at e; cases e; exact n _ rfl)]; exact e
      replace mA : (upd J9 pc (.lst ([.ref f1, .ref f2, .ref f3, .ref f4, .ref f5, .ref f6, .ref f7, .ref f8] ++ [.ref f9]))) pc = some (.lst [.ref f1, .ref f2, .ref f3, .ref f4, .ref f5, .ref f6, .ref f7, .ref f8, .ref f9]) := upd_same
      clear kx9
      generalize (upd J9 pc (.lst ([.ref f1, .ref f2, .ref f3, .ref f4, .ref f5, .ref f6, .ref f7, .ref f8] ++ [.ref f9]))) = M9 at k9 g9 tbA mA ⊢
      clear sx9 tb9 lam9 cod9 hf9 mL9
      refine ⟨.inl ⟨_, SqL.of mA⟩, tbA, fun f10 c10 ct10 J10 hf10 sx10 tb10 lam10 cod10 => ?_⟩
      have mL10 : J10 pc = some (.lst [.ref f1, .ref f2, .ref f3, .ref f4, .ref f5, .ref f6, .ref f7, .ref f8, .ref f9]) := sx10 pc _ nPc mA
      refine ⟨_, mL10, small1000 (show 9 ≤ 1000 by decide), ?_⟩
      have kx10 : KX Pt pc J10 (upd J10 pc (.lst ([.ref f1, .ref f2, .ref f3, .ref f4, .ref f5, .ref f6, .ref f7, .ref f8, .ref f9] ++ [.ref f10]))) := fun b o _ hb e => by rw [upd_ne hb]; exact e
      have k10 : KX Pt pc M9 (upd J10 pc (.lst ([.ref f1, .ref f2, .ref f3, .ref f4, .ref f5, .ref f6, .ref f7, .ref f8, .ref f9] ++ [.ref f10]))) := fun b o h1 h2 e => kx10 b o h1 h2 (sx10 b o h1 e)
      have g10 := (Lm.next tb10 lam10 cod10 mL10).keep kx10
      replace tbA : TabOk (upd J10 pc (.lst ([.ref f1, .ref f2, .ref f3, .ref f4, .ref f5, .ref f6, .ref f7, .ref f8, .ref f9] ++ [.ref f10]))) Pt qL := tb10.kept fun b o e n => by rw [upd_ne (fun z => by rw [z, mL10] at e; cases e; exact n _ rfl)]; exact e
      replace mA : (upd J10 pc (.lst ([.ref f1, .ref f2, .ref f3, .ref f4, .ref f5, .ref f6, .ref f7, .ref f8, .ref f9] ++ [.ref f10]))) pc = some (.lst [.ref f1, .ref f2, .ref f3, .ref f4, .ref f5, .ref f6, .ref f7, .ref f8, .ref f9, .ref f10]) := upd_same
      clear kx10
      generalize (upd J10 pc (.lst ([.ref f1, .ref f2, .ref f3, .ref f4, .ref f5, .ref f6, .ref f7, .ref f8, .ref f9] ++ [.ref f10]))) = M10 at k10 g10 tbA mA ⊢
      clear sx10 tb10 lam10 cod10 hf10 mL10
      refine ⟨.inl ⟨_, SqL.of mA⟩, tbA, fun f11 c11 ct11 J11 hf11 sx11 tb11 lam11 cod11 => ?_⟩
      have mL11 : J11 pc = some (.lst [.ref f1, .ref f2, .ref f3, .ref f4, .ref f5, .ref f6, .ref f7, .ref f8, .ref f9, .ref f10]) := sx11 pc _ nPc mA
      refine ⟨_, mL11, small1000 (show 10 ≤ 1000 by decide), ?_⟩
      have kx11 : KX Pt pc J11 (upd J11 pc (.lst ([.ref f1, .ref f2, .ref f3, .ref f4, .ref f5, .ref f6, .ref f7, .ref f8, .ref f9, .ref f10] ++ [.ref f11]))) := fun b o _ hb e => by rw [upd_ne hb]; exact e
      have k11 : KX Pt pc M10 (upd J11 pc (.lst ([.ref f1, .ref f2, .ref f3, .ref f4, .ref f5, .ref f6, .ref f7, .ref f8, .ref f9, .ref f10] ++ [.ref f11]))) := fun b o h1 h2 e => kx11 b o h1 h2 (sx11 b o h1 e)
      have g11 := (Lm.next tb11 lam11 cod11 mL11).keep kx11
      replace tbA : TabOk (upd J11 pc (.lst ([.ref f1, .ref f2, .ref f3, .ref f4, .ref f5, .ref f6, .ref f7, .ref f8, .ref f9, .ref f10] ++ [.ref f11]))) Pt qL := tb11.kept fun b o e n => by rw [upd_ne (fun z => by rw [z, mL11] at e; cases e; exact n _ rfl)]; exact e
      replace mA : (upd J11 pc (.lst ([.ref f1, .ref f2, .ref f3, .ref f4, .ref f5, .ref f6, .ref f7, .ref f8, .ref f9, .ref f10] ++ [.ref f11]))) pc = some (.lst [.ref f1, .ref f2, .ref f3, .ref f4, .ref f5, .ref f6, .ref f7, .ref f8, .ref f9, .ref f10, .ref f11]) := upd_same
      clear kx11
      generalize (upd J11 pc (.lst ([.ref f1, .ref f2, .ref f3, .ref f4, .ref f5, .ref f6, .ref f7, .ref f8, .ref f9, .ref f10] ++ [.ref f11]))) = M11 at k11 g11 tbA mA ⊢
      clear sx11 tb11 lam11 cod11 hf11 mL11
      have z10 := k11
      have z9 := k10.trans z10
      have z8 := k9.trans z9
      have z7 := k8.trans z8
      have z6 := k7.trans z7
      have z5 := k6.trans z6
      have z4 := k5.trans z5
      have z3 := k4.trans z4
      have z2 := k3.trans z3
      have z1 := k2.trans z2
      have z0 := k1.trans z1
      replace g1 := g1.keep z1
      replace g2 := g2.keep z2
      replace g3 := g3.keep z3
      replace g4 := g4.keep z4
      replace g5 := g5.keep z5
      replace g6 := g6.keep z6
      replace g7 := g7.keep z7
      replace g8 := g8.keep z8
      replace g9 := g9.keep z9
      replace g10 := g10.keep z10
      replace ty1 := ty1.keep z0
      replace ty2 := ty2.keep z0
      replace ty3 := ty3.keep z0
      replace eo1 := z0 _ _ n1p n1c eo1
      replace et1 := z0 _ _ n2p n2c et1
      replace ok1 := ftok_kx ok1 n3p n3c z0
      clear z1 z2 z3 z4 z5 z6 z7 z8 z9 z10 k1 k2 k3 k4 k5 k6 k7 k8 k9 k10 k11
      refine tCompC_of ?_
      refine ⟨_, rfl, pc, rfl, ⟨_, SqL.of mA⟩, fun b D hc hD => ?_⟩
      have LW : ∀ (i : Nat) (x : V), [V.ref f1, V.ref f2, V.ref f3, V.ref f4, V.ref f5, V.ref f6, V.ref f7, V.ref f8, V.ref f9, V.ref f10, V.ref f11][i]? = some x → ∀ (H' : Hp) (Q' : VK), Same M11 H' → (∀ H'', Same H' H'' → Q' (wl i) H'') → spWord P w K mg cl b [x] H' Q' E0 := by
        intro i x hx H' Q' sm hQ
        obtain ⟨⟨na, tya⟩, _⟩ := ty1
        obtain ⟨⟨nn', tyb⟩, _⟩ := ty2
        obtain ⟨⟨nl', tyl⟩, _⟩ := ty3
        have tyA : TyOf K H' far (.type na) := TyOf.keepK tya fun p o _ q => sm p o q
        have tyB : TyOf K H' non (.type nn') := TyOf.keepK tyb fun p o _ q => sm p o q
        have tyL : TyOf K H' late (.type nl') := TyOf.keepK tyl fun p o _ q => sm p o q
        have pqo : PQ K H' (.ref po) true := fa.pq (sm _ _ eo1)
        have pqt : PQ K H' (.ref pt) true := fb.pq (sm _ _ et1)
        have pqb : PQ K H' bad false := ft.pq H' (ftok_same ok1 sm)
        have bd : farB (.int d) = true := isBet_of (by omega) (by omega)
        have bo : oftB (.int o) = true := isBet_of (by omega) (by omega)
        match i, hx, hQ with
        | 0, hx, hQ =>
          cases hx
          refine word_of hc g1 sm W2 (.inr rfl) (N := ["_law_bad", "_law_far_here", "_law_none_here"]) (js := [8, 9, 10]) (vs := [bad, far, non]) rfl (cells_nodup _ _ [] (by simp) (by simp)) (fun x hx => cell_has hx) rfl (fun i j v e1 e2 => match i, e1, e2 with | 0, e1, e2 => by cases e1; cases e2; rfl | 1, e1, e2 => by cases e1; cases e2; rfl | 2, e1, e2 => by cases e1; cases e2; rfl | _ + 3, e1, _ => by cases e1) (fun _ _ _ => rfl) (sp := fun H Q E => spPaired K cl [bad, far, far, non] H Q E) (fun A outer s H Q E hr hsp => ⟨_, (pe_call ((B_paired b).mono (by decide)) hr rfl D_paired.mgx D_paired.fn.kp D_paired.bd .nil (passes_lam (fun _ _ _ h => h)) (pa_cons (pv 0) (pa_cons (pv 1) (pa_cons (pv 1) (pa_cons (pv 2) pa_nil))))), ⟨_, rfl, _, rfl, _, rfl, _, rfl, hsp⟩⟩) (fun R hR => ?_) hQ rfl
          exact ⟨bad, far, far, non, rfl, .inl ⟨pqb, hR⟩⟩
        | 1, hx, hQ =>
          cases hx
          refine word_of hc g2 sm W2 (.inr rfl) (N := ["_law_one", "_law_bad", "_law_far_here", "_law_none_here"]) (js := [5, 8, 9, 10]) (vs := [.ref po, bad, far, non]) rfl (cells_nodup _ _ [] (by simp) (by simp)) (fun x hx => cell_has hx) rfl (fun i j v e1 e2 => match i, e1, e2 with | 0, e1, e2 => by cases e1; cases e2; rfl | 1, e1, e2 => by cases e1; cases e2; rfl | 2, e1, e2 => by cases e1; cases e2; rfl | 3, e1, e2 => by cases e1; cases e2; rfl | _ + 4, e1, _ => by cases e1) (fun _ _ _ => rfl) (sp := fun H Q E => spPaired K cl [.ref po, bad, far, non] H Q E) (fun A outer s H Q E hr hsp => ⟨_, (pe_call ((B_paired b).mono (by decide)) hr rfl D_paired.mgx D_paired.fn.kp D_paired.bd .nil (passes_lam (fun _ _ _ h => h)) (pa_cons (pv 0) (pa_cons (pv 1) (pa_cons (pv 2) (pa_cons (pv 3) pa_nil))))), ⟨_, rfl, _, rfl, _, rfl, _, rfl, hsp⟩⟩) (fun R hR => ?_) hQ rfl
          exact ⟨.ref po, bad, far, non, rfl, .inr (.inl ⟨pqo, pqb, hR⟩)⟩
        | 2, hx, hQ =>
          cases hx
          refine word_of hc g3 sm W2 (.inr rfl) (N := ["_law_bad", "_law_late", "_law_far_here", "_law_none_here"]) (js := [8, 11, 9, 10]) (vs := [bad, late, far, non]) rfl (cells_nodup _ _ [] (by simp) (by simp)) (fun x hx => cell_has hx) rfl (fun i j v e1 e2 => match i, e1, e2 with | 0, e1, e2 => by cases e1; cases e2; rfl | 1, e1, e2 => by cases e1; cases e2; rfl | 2, e1, e2 => by cases e1; cases e2; rfl | 3, e1, e2 => by cases e1; cases e2; rfl | _ + 4, e1, _ => by cases e1) (fun _ _ _ => rfl) (sp := fun H Q E => spPRaised K cl [bad, late, far, non] H Q E) (fun A outer s H Q E hr hsp => ⟨_, (pe_call ((B_pair_raised b).mono (by decide)) hr rfl D_pair_raised.mgx D_pair_raised.fn.kp D_pair_raised.bd .nil (passes_lam (fun _ _ _ h => h)) (pa_cons (pv 0) (pa_cons (pv 1) (pa_cons (pv 2) (pa_cons (pv 3) pa_nil))))), ⟨_, rfl, _, rfl, _, rfl, _, rfl, hsp⟩⟩) (fun R hR => ?_) hQ rfl
          exact ⟨bad, late, far, non, rfl, .inl ⟨pqb, hR⟩⟩
        | 3, hx, hQ =>
          cases hx
          refine word_of hc g4 sm W2 (.inr rfl) (N := ["_law_bad", "_law_far_here", "_law_none_here"]) (js := [8, 9, 10]) (vs := [bad, far, non]) rfl (cells_nodup _ _ [] (by simp) (by simp)) (fun x hx => cell_has hx) rfl (fun i j v e1 e2 => match i, e1, e2 with | 0, e1, e2 => by cases e1; cases e2; rfl | 1, e1, e2 => by cases e1; cases e2; rfl | 2, e1, e2 => by cases e1; cases e2; rfl | _ + 3, e1, _ => by cases e1) (fun _ _ _ => rfl) (sp := fun H Q E => spNormOf K cl [bad, far, non] H Q E) (fun A outer s H Q E hr hsp => ⟨_, (pe_call ((B_norm_of b).mono (by decide)) hr rfl D_norm_of.mgx D_norm_of.fn.kp D_norm_of.bd .nil (passes_lam (fun _ _ _ h => h)) (pa_cons (pv 0) (pa_cons (pv 1) (pa_cons (pv 2) pa_nil)))), ⟨_, rfl, _, rfl, _, rfl, hsp⟩⟩) (fun R hR => ?_) hQ rfl
          exact ⟨bad, far, non, rfl, .inl ⟨pqb, hR⟩⟩
        | 4, hx, hQ =>
          cases hx
          refine word_of hc g5 sm W0 (.inl rfl) (N := ["_law_one", "_law_other", "_law_far_here", "_law_n"]) (js := [5, 6, 9, 3]) (vs := [.ref po, .ref pt, far, .int n]) rfl (cells_nodup _ _ [] (by simp) (by simp)) (fun x hx => cell_has hx) rfl (fun i j v e1 e2 => match i, e1, e2 with | 0, e1, e2 => by cases e1; cases e2; rfl | 1, e1, e2 => by cases e1; cases e2; rfl | 2, e1, e2 => by cases e1; cases e2; rfl | 3, e1, e2 => by cases e1; cases e2; rfl | _ + 4, e1, _ => by cases e1) (fun _ _ _ => rfl) (sp := fun H Q E => spPaired K cl [.ref po, .ref pt, far, .int n] H Q E) (fun A outer s H Q E hr hsp => ⟨_, (pe_call ((B_paired b).mono (by decide)) hr rfl D_paired.mgx D_paired.fn.kp D_paired.bd .nil (passes_lam (fun _ _ _ h => h)) (pa_cons (pv 0) (pa_cons (pv 1) (pa_cons (pv 2) (pa_cons (pv 3) pa_nil))))), ⟨_, rfl, _, rfl, _, rfl, _, rfl, hsp⟩⟩) (fun R hR => ?_) hQ rfl
          exact ⟨.ref po, .ref pt, far, .int n, rfl, .inr (.inr (.inl ⟨_, pqo, pqt, tyA, bF, hR⟩))⟩
        | 5, hx, hQ =>
          cases hx
          refine word_of hc g6 sm W0 (.inl rfl) (N := ["_law_one", "_law_other", "_law_d", "_law_none_here"]) (js := [5, 6, 4, 10]) (vs := [.ref po, .ref pt, .int d, non]) rfl (cells_nodup _ _ [] (by simp) (by simp)) (fun x hx => cell_has hx) rfl (fun i j v e1 e2 => match i, e1, e2 with | 0, e1, e2 => by cases e1; cases e2; rfl | 1, e1, e2 => by cases e1; cases e2; rfl | 2, e1, e2 => by cases e1; cases e2; rfl | 3, e1, e2 => by cases e1; cases e2; rfl | _ + 4, e1, _ => by cases e1) (fun _ _ _ => rfl) (sp := fun H Q E => spPaired K cl [.ref po, .ref pt, .int d, non] H Q E) (fun A outer s H Q E hr hsp => ⟨_, (pe_call ((B_paired b).mono (by decide)) hr rfl D_paired.mgx D_paired.fn.kp D_paired.bd .nil (passes_lam (fun _ _ _ h => h)) (pa_cons (pv 0) (pa_cons (pv 1) (pa_cons (pv 2) (pa_cons (pv 3) pa_nil))))), ⟨_, rfl, _, rfl, _, rfl, _, rfl, hsp⟩⟩) (fun R hR => ?_) hQ rfl
          exact ⟨.ref po, .ref pt, .int d, non, rfl, .inr (.inr (.inr (.inl ⟨_, _, pqo, pqt, .int _, tyB, bd, bN, hR⟩)))⟩
        | 6, hx, hQ =>
          cases hx
          refine word_of hc g7 sm W0 (.inl rfl) (N := ["_law_one", "_law_late", "_law_d", "_law_n"]) (js := [5, 11, 4, 3]) (vs := [.ref po, late, .int d, .int n]) rfl (cells_nodup _ _ [] (by simp) (by simp)) (fun x hx => cell_has hx) rfl (fun i j v e1 e2 => match i, e1, e2 with | 0, e1, e2 => by cases e1; cases e2; rfl | 1, e1, e2 => by cases e1; cases e2; rfl | 2, e1, e2 => by cases e1; cases e2; rfl | 3, e1, e2 => by cases e1; cases e2; rfl | _ + 4, e1, _ => by cases e1) (fun _ _ _ => rfl) (sp := fun H Q E => spPRaised K cl [.ref po, late, .int d, .int n] H Q E) (fun A outer s H Q E hr hsp => ⟨_, (pe_call ((B_pair_raised b).mono (by decide)) hr rfl D_pair_raised.mgx D_pair_raised.fn.kp D_pair_raised.bd .nil (passes_lam (fun _ _ _ h => h)) (pa_cons (pv 0) (pa_cons (pv 1) (pa_cons (pv 2) (pa_cons (pv 3) pa_nil))))), ⟨_, rfl, _, rfl, _, rfl, _, rfl, hsp⟩⟩) (fun R hR => ?_) hQ rfl
          exact ⟨.ref po, late, .int d, .int n, rfl, .inr (.inl ⟨_, pqo, tyL, bL, hR⟩)⟩
        | 7, hx, hQ =>
          cases hx
          refine word_of hc g8 sm W0 (.inl rfl) (N := ["_law_one", "_law_often", "_law_far_here", "_law_n"]) (js := [5, 7, 9, 3]) (vs := [.ref po, .int o, far, .int n]) rfl (cells_nodup _ _ [] (by simp) (by simp)) (fun x hx => cell_has hx) rfl (fun i j v e1 e2 => match i, e1, e2 with | 0, e1, e2 => by cases e1; cases e2; rfl | 1, e1, e2 => by cases e1; cases e2; rfl | 2, e1, e2 => by cases e1; cases e2; rfl | 3, e1, e2 => by cases e1; cases e2; rfl | _ + 4, e1, _ => by cases e1) (fun _ _ _ => rfl) (sp := fun H Q E => spPRaised K cl [.ref po, .int o, far, .int n] H Q E) (fun A outer s H Q E hr hsp => ⟨_, (pe_call ((B_pair_raised b).mono (by decide)) hr rfl D_pair_raised.mgx D_pair_raised.fn.kp D_pair_raised.bd .nil (passes_lam (fun _ _ _ h => h)) (pa_cons (pv 0) (pa_cons (pv 1) (pa_cons (pv 2) (pa_cons (pv 3) pa_nil))))), ⟨_, rfl, _, rfl, _, rfl, _, rfl, hsp⟩⟩) (fun R hR => ?_) hQ rfl
          exact ⟨.ref po, .int o, far, .int n, rfl, .inr (.inr (.inl ⟨_, _, pqo, .int _, tyA, bo, bF, hR⟩))⟩
        | 8, hx, hQ =>
          cases hx
          refine word_of hc g9 sm W0 (.inl rfl) (N := ["_law_one", "_law_often", "_law_d", "_law_none_here"]) (js := [5, 7, 4, 10]) (vs := [.ref po, .int o, .int d, non]) rfl (cells_nodup _ _ [] (by simp) (by simp)) (fun x hx => cell_has hx) rfl (fun i j v e1 e2 => match i, e1, e2 with | 0, e1, e2 => by cases e1; cases e2; rfl | 1, e1, e2 => by cases e1; cases e2; rfl | 2, e1, e2 => by cases e1; cases e2; rfl | 3, e1, e2 => by cases e1; cases e2; rfl | _ + 4, e1, _ => by cases e1) (fun _ _ _ => rfl) (sp := fun H Q E => spPRaised K cl [.ref po, .int o, .int d, non] H Q E) (fun A outer s H Q E hr hsp => ⟨_, (pe_call ((B_pair_raised b).mono (by decide)) hr rfl D_pair_raised.mgx D_pair_raised.fn.kp D_pair_raised.bd .nil (passes_lam (fun _ _ _ h => h)) (pa_cons (pv 0) (pa_cons (pv 1) (pa_cons (pv 2) (pa_cons (pv 3) pa_nil))))), ⟨_, rfl, _, rfl, _, rfl, _, rfl, hsp⟩⟩) (fun R hR => ?_) hQ rfl
          exact ⟨.ref po, .int o, .int d, non, rfl, .inr (.inr (.inr (.inl ⟨_, _, _, pqo, .int _, .int _, tyB, bo, bd, bN, hR⟩)))⟩
        | 9, hx, hQ =>
          cases hx
          refine word_of hc g10 sm W0 (.inl rfl) (N := ["_law_one", "_law_far_here", "_law_n"]) (js := [5, 9, 3]) (vs := [.ref po, far, .int n]) rfl (cells_nodup _ _ [] (by simp) (by simp)) (fun x hx => cell_has hx) rfl (fun i j v e1 e2 => match i, e1, e2 with | 0, e1, e2 => by cases e1; cases e2; rfl | 1, e1, e2 => by cases e1; cases e2; rfl | 2, e1, e2 => by cases e1; cases e2; rfl | _ + 3, e1, _ => by cases e1) (fun _ _ _ => rfl) (sp := fun H Q E => spNormOf K cl [.ref po, far, .int n] H Q E) (fun A outer s H Q E hr hsp => ⟨_, (pe_call ((B_norm_of b).mono (by decide)) hr rfl D_norm_of.mgx D_norm_of.fn.kp D_norm_of.bd .nil (passes_lam (fun _ _ _ h => h)) (pa_cons (pv 0) (pa_cons (pv 1) (pa_cons (pv 2) pa_nil)))), ⟨_, rfl, _, rfl, _, rfl, hsp⟩⟩) (fun R hR => ?_) hQ rfl
          exact ⟨.ref po, far, .int n, rfl, .inr (.inl ⟨_, pqo, tyA, bF, hR⟩)⟩
        | 10, hx, hQ =>
          cases hx
          refine word_of hc g11 sm W0 (.inl rfl) (N := ["_law_one", "_law_d", "_law_none_here"]) (js := [5, 4, 10]) (vs := [.ref po, .int d, non]) rfl (cells_nodup _ _ [] (by simp) (by simp)) (fun x hx => cell_has hx) rfl (fun i j v e1 e2 => match i, e1, e2 with | 0, e1, e2 => by cases e1; cases e2; rfl | 1, e1, e2 => by cases e1; cases e2; rfl | 2, e1, e2 => by cases e1; cases e2; rfl | _ + 3, e1, _ => by cases e1) (fun _ _ _ => rfl) (sp := fun H Q E => spNormOf K cl [.ref po, .int d, non] H Q E) (fun A outer s H Q E hr hsp => ⟨_, (pe_call ((B_norm_of b).mono (by decide)) hr rfl D_norm_of.mgx D_norm_of.fn.kp D_norm_of.bd .nil (passes_lam (fun _ _ _ h => h)) (pa_cons (pv 0) (pa_cons (pv 1) (pa_cons (pv 2) pa_nil)))), ⟨_, rfl, _, rfl, _, rfl, hsp⟩⟩) (fun R hR => ?_) hQ rfl
          exact ⟨.ref po, .int d, non, rfl, .inr (.inr (.inl ⟨_, _, pqo, .int _, tyB, bd, bN, hR⟩))⟩
        | _ + 11, hx, _ => cases hx
      obtain ⟨Pv, hPv⟩ : ∃ Pv : Nat → St → Hp → Prop, ∀ i σ H', Pv i σ H' ↔ (∃ v, σ = [v]) ∧ Same M11 H' ∧ H' D = some (.lst ((List.range i).map wl)) := ⟨_, fun _ _ _ => Iff.rfl⟩
      refine comp_list (xs := [V.ref f1, V.ref f2, V.ref f3, V.ref f4, V.ref f5, V.ref f6, V.ref f7, V.ref f8, V.ref f9, V.ref f10, V.ref f11]) Pv ((hPv _ _ _).mpr ⟨⟨none, rfl⟩, fun b o e => keep e hD, upd_same⟩) (fun i σ H' hi h => ?_) ?_ ?_
      · exact SqL.of (((hPv _ _ _).mp h).2.1 _ _ mA)
      · intro i x σ H' hx h
        obtain ⟨⟨v0, rfl⟩, sm, hDl⟩ := (hPv _ _ _).mp h
        simp only [tSeq, tIfS, tTest, tRet, tRetN, tNext, tDrop, tAsg, tPar, tPar3, tAug, tVar, tC, tOp, tUn, rI, rI0, rU, tB, tAnd, tOr, tNot, tAndV, tOrV, tNotV, tIf, gName, gNil, gCons, gTup, gSub, tCB, tCons, tNil, tCall, tChain, ipI, tIsN, tNotN, tBM, tyV, tTup, tLst, rAppend, rCat, scal_ii, scal_bb, scal_ss, scal_ni, scal_in, rEq, rNe, List.getElem?_cons_zero, List.getElem?_cons_succ, List.set_cons_zero, List.set_cons_succ, eq_self, and_assoc, Option.some.injEq, V.int.injEq, V.bl.injEq, V.ref.injEq, V.str.injEq, List.cons.injEq, exists_eq_left', exists_eq_left, exists_and_left, List.nil_append, List.cons_append, List.append_nil, true_and, and_true, decide_eq_true_eq, Bool.not_eq_true', decide_eq_false_iff_not, if_true, if_false, Bool.not_true, Bool.not_false, Bool.false_eq_true, reduceCtorEq, decide_true, decide_false, ite_true, ite_false, rSetL, rIxL, tRaise, jCons, jNil, tFmt, tDNew, rCount, rIndex, Int.reduceToNat, Int.reducePow, CT, tYes]
        refine LW i x hx H' _ sm fun H'' s2 => ?_
        have i5 : i < 11 := (List.getElem?_eq_some_iff.mp hx).1
        refine ⟨_, s2 _ _ hDl, small1000 (by rw [List.length_map, List.length_range]; omega), (hPv _ _ _).mpr ⟨⟨_, rfl⟩, fun b o e => ?_, ?_⟩⟩
        · rw [upd_ne (ne_of_none e hD)]
          exact s2 _ _ (sm b o e)
        · rw [upd_same, List.range_succ, List.map_append]
          rfl
      · intro σ H' h
        obtain ⟨⟨v0, rfl⟩, sm, hDl⟩ := (hPv _ _ _).mp h
        refine ⟨by show 1 ≤ sizeLine; decide, fun q1 hq1 => ⟨q1, 4, _, rfl, rfl, upd_same, by decide, by decide, small1000' (show 1 * 4 ≤ 1000 by decide), fun q2 hq2 => ?_⟩⟩
        refine ⟨by show 1 ≤ sizeLine; decide, fun q3 hq3 => ⟨q3, 7, _, rfl, rfl, upd_same, by decide, by decide, small1000' (show 1 * 7 ≤ 1000 by decide), fun q4 hq4 => ?_⟩⟩
        refine ⟨q2, rfl, q4, rfl, _, keep (keep upd_same hq3) hq4, _, upd_same, small1000' (show 4 + 7 ≤ 1000 by decide), fun q5 hq5 => ?_⟩
        have sF : Same H' (upd (upd (upd (upd (upd H' q1 (.lst [V.str (Str.ofString "pair")])) q2 (.lst (List.replicate (4 : Int).toNat [V.str (Str.ofString "pair")]).flatten)) q3 (.lst [V.str (Str.ofString "number")])) q4 (.lst (List.replicate (7 : Int).toNat [V.str (Str.ofString "number")]).flatten)) q5 (.lst ((List.replicate (4 : Int).toNat [V.str (Str.ofString "pair")]).flatten ++ (List.replicate (7 : Int).toNat [V.str (Str.ofString "number")]).flatten))) := fun b o e => keep (keep (keep (keep (keep e hq1) hq2) hq3) hq4) hq5
        have e5 : (upd (upd (upd (upd (upd H' q1 (.lst [V.str (Str.ofString "pair")])) q2 (.lst (List.replicate (4 : Int).toNat [V.str (Str.ofString "pair")]).flatten)) q3 (.lst [V.str (Str.ofString "number")])) q4 (.lst (List.replicate (7 : Int).toNat [V.str (Str.ofString "number")]).flatten)) q5 (.lst ((List.replicate (4 : Int).toNat [V.str (Str.ofString "pair")]).flatten ++ (List.replicate (7 : Int).toNat [V.str (Str.ofString "number")]).flatten))) q5 = some (.lst [V.str (Str.ofString "pair"), V.str (Str.ofString "pair"), V.str (Str.ofString "pair"), V.str (Str.ofString "pair"), V.str (Str.ofString "number"), V.str (Str.ofString "number"), V.str (Str.ofString "number"), V.str (Str.ofString "number"), V.str (Str.ofString "number"), V.str (Str.ofString "number"), V.str (Str.ofString "number")]) := upd_same
        generalize (upd (upd (upd (upd (upd H' q1 (.lst [V.str (Str.ofString "pair")])) q2 (.lst (List.replicate (4 : Int).toNat [V.str (Str.ofString "pair")]).flatten)) q3 (.lst [V.str (Str.ofString "number")])) q4 (.lst (List.replicate (7 : Int).toNat [V.str (Str.ofString "number")]).flatten)) q5 (.lst ((List.replicate (4 : Int).toNat [V.str (Str.ofString "pair")]).flatten ++ (List.replicate (7 : Int).toNat [V.str (Str.ofString "number")]).flatten))) = HZ at sF e5 ⊢
        have dD : HZ D = some (.lst [V.str (Str.ofString "pair"), V.str (Str.ofString "pair"), V.str (Str.ofString "pair"), V.str (Str.ofString "pair"), V.str (Str.ofString "number"), V.str (Str.ofString "number"), V.str (Str.ofString "number"), V.str (Str.ofString "number"), V.str (Str.ofString "number"), V.str (Str.ofString "number"), V.str (Str.ofString "number")]) := sF _ _ hDl
        refine ⟨[.str (Str.ofString "pair"), .str (Str.ofString "pair"), .str (Str.ofString "pair"), .str (Str.ofString "pair"), .str (Str.ofString "number"), .str (Str.ofString "number"), .str (Str.ofString "number"), .str (Str.ofString "number"), .str (Str.ofString "number"), .str (Str.ofString "number"), .str (Str.ofString "number")], [.str (Str.ofString "pair"), .str (Str.ofString "pair"), .str (Str.ofString "pair"), .str (Str.ofString "pair"), .str (Str.ofString "number"), .str (Str.ofString "number"), .str (Str.ofString "number"), .str (Str.ofString "number"), .str (Str.ofString "number"), .str (Str.ofString "number"), .str (Str.ofString "number")], ⟨D, _, rfl, SqL.of dD, ⟨_, _, rfl, rfl, _, _, rfl, rfl, _, _, rfl, rfl, _, _, rfl, rfl, _, _, rfl, rfl, _, _, rfl, rfl, _, _, rfl, rfl, _, _, rfl, rfl, _, _, rfl, rfl, _, _, rfl, rfl, _, _, rfl, rfl, rfl⟩⟩, ⟨q5, _, rfl, SqL.of e5, ⟨_, _, rfl, rfl, _, _, rfl, rfl, _, _, rfl, rfl, _, _, rfl, rfl, _, _, rfl, rfl, _, _, rfl, rfl, _, _, rfl, rfl, _, _, rfl, rfl, _, _, rfl, rfl, _, _, rfl, rfl, _, _, rfl, rfl, rfl⟩⟩, by decide, _, rfl, ?_⟩
        rw [eqDL_self, if_neg (show ¬ (!true) = true by decide)]
        refine ⟨bad, dB, rfl, ft.rep _ (ftok_same ok1 (sm.trans sF)), ft.ok, ft.sc, ft.len, ft.dep, rfl, ?_⟩
        rw [if_neg (fun h => h rfl)]
        refine (hWI _ _ _).mpr ⟨fun b o hb e => sF b o (sm b o ?_), tbA.same (sm.trans sF), _, _, _, _, _, _, _, _, _, _, _, _, _, rfl⟩
        have e1 := sx1 b o hb (VA.but b o (nb b o hb e) (S0 b o hb e))
        exact z0 b o hb (ne_of_none e1 hpc) e1
    · intro σ H1 hw
      obtain ⟨S, TB, v1, v2, v3, v4, v5, v6, v7, v8, v9, v10, v11, v12, v13, rfl⟩ := (hWI _ _ _).mp hw
      clear hw
      simp only [tSeq, tIfS, tTest, tRet, tRetN, tNext, tDrop, tAsg, tPar, tPar3, tAug, tVar, tC, tOp, tUn, rI, rI0, rU, tB, tAnd, tOr, tNot, tAndV, tOrV, tNotV, tIf, gName, gNil, gCons, gTup, gSub, tCB, tCons, tNil, tCall, tChain, ipI, tIsN, tNotN, tBM, tyV, tTup, tLst, rAppend, rCat, scal_ii, scal_bb, scal_ss, scal_ni, scal_in, rEq, rNe, List.getElem?_cons_zero, List.getElem?_cons_succ, List.set_cons_zero, List.set_cons_succ, eq_self, and_assoc, Option.some.injEq, V.int.injEq, V.bl.injEq, V.ref.injEq, V.str.injEq, List.cons.injEq, exists_eq_left', exists_eq_left, exists_and_left, List.nil_append, List.cons_append, List.append_nil, true_and, and_true, decide_eq_true_eq, Bool.not_eq_true', decide_eq_false_iff_not, if_true, if_false, Bool.not_true, Bool.not_false, Bool.false_eq_true, reduceCtorEq, decide_true, decide_false, ite_true, ite_false, rSetL, rIxL, tRaise, jCons, jNil, tFmt, tDNew, rCount, rIndex, Int.reduceToNat, Int.reducePow]
      refine ⟨by show 2 ≤ sizeLine; decide, fun p1 hp1 => ⟨by show 2 ≤ sizeLine; decide, fun p2 hp2 => ?_⟩⟩
      have e1 : (upd (upd H1 p1 (.tup [V.int 1, V.int 2])) p2 (.tup [V.int 3, V.int 4])) p1 = some (.tup (prV (1, 2))) := keep upd_same hp2
      have e2 : (upd (upd H1 p1 (.tup [V.int 1, V.int 2])) p2 (.tup [V.int 3, V.int 4])) p2 = some (.tup (prV (3, 4))) := upd_same
      generalize (upd (upd H1 p1 (.tup [V.int 1, V.int 2])) p2 (.tup [V.int 3, V.int 4])) = H3 at e1 e2 ⊢
      refine ⟨_, _, _, _, rfl, .inr (.inr (.inr (.inr ⟨p1, p2, _, _, 5, 100, rfl, rfl, rfl, rfl, e1, e2, ⟨⟨by decide, by decide, by decide, by decide⟩, ⟨by decide, by decide, by decide, by decide⟩, by decide, by decide, by decide, by decide⟩, fun r1 hr1 => ?_⟩)))⟩
      rw [show rp 100 (MM.pm 5 (1, 2) (3, 4)) = (43, 10) from by decide]
      refine ⟨by show 2 ≤ sizeLine; decide, fun p3 hp3 => ⟨[.int 43, .int 10], [.int 43, .int 10], .inl ⟨⟨r1, _, rfl, SqT.of (keep upd_same hp3), ⟨_, _, rfl, rfl, _, _, rfl, rfl, rfl⟩⟩, ⟨p3, _, rfl, SqT.of upd_same, ⟨_, _, rfl, rfl, _, _, rfl, rfl, rfl⟩⟩⟩, by decide, _, rfl, ?_⟩⟩
      rw [eqDL_self, if_pos rfl]
      refine ⟨by show 2 ≤ sizeLine; decide, fun p4 hp4 => ?_⟩
      refine ⟨_, _, _, _, rfl, .inr (.inr (.inr (.inr ⟨p4, (7, 7), 0, 2, 1, rfl, rfl, rfl, rfl, upd_same, ⟨⟨by decide, by decide, by decide, by decide⟩, by decide, by decide, by decide, by decide, by decide, by decide⟩, fun r2 H4 S4 e4 => ?_⟩)))⟩
      rw [show rp 1 (pw 2 (7, 7) (0 : Int).toNat) = (0, 0) from by decide] at e4
      refine ⟨by show 2 ≤ sizeLine; decide, fun p5 hp5 => ⟨[.int 0, .int 0], [.int 0, .int 0], .inl ⟨⟨r2, _, rfl, SqT.of (keep e4 hp5), ⟨_, _, rfl, rfl, _, _, rfl, rfl, rfl⟩⟩, ⟨p5, _, rfl, SqT.of upd_same, ⟨_, _, rfl, rfl, _, _, rfl, rfl, rfl⟩⟩⟩, by decide, ?_⟩⟩
      rw [eqDL_self]
      exact k _
end
end PP
set_option Elab.async false
set_option linter.all false
set_option maxRecDepth 100000
set_option maxHeartbeats 4000000
namespace L2
open PySem PySem.Spec PyProof.Rows
theorem loose_int {p : Program} {lv : List (Str × PySem.W.WData)} {mg : Str → Option Value} {h : Heap} {n : Str} {i : Int} (x : PySem.W.XL p lv mg h) (hm : (n, PySem.W.WData.int i) ∈ lv) : ∃ t, mg n = some (.int i t) := by
  obtain ⟨v, a, b⟩ := x.2.val _ hm
  cases b
  exact ⟨_, a⟩
end L2
set_option Elab.async false
set_option linter.all false
set_option maxRecDepth 100000
namespace OP
open PySem PySem.W PySem.Calls PyProof.Rows
noncomputable def topRunT (tb : String → Option Builtin) (p : Program) (w : World) (n₀ : Nat) (ann : Option Value) : Nat → SharedT → Thread → Option SharedT
  | 0, _, _ => none
  | n + 1, s, t => match through t with
    | true => some s
    | false => match stepOk n₀ ann t with
      | false => none
      | true => match stepT (denote tb) p w s t with
        | some (s', t') => topRunT tb p w n₀ ann n s' t'
        | none => none
theorem topRun_of {tb : String → Option Builtin} {p : Program} {w : World} {n₀ : Nat} {ann : Option Value} : ∀ {n : Nat} {s s' : SharedT} {t : Thread}, topRunT tb p w n₀ ann n s t = some s' → topRun tb p w n₀ ann n s.abs t = some s'.abs
  | 0, _, _, _, h => by cases h
  | n + 1, s, s', t, h => by
    unfold topRunT at h
    unfold topRun
    cases he : through t with
    | true => rw [he] at h; cases h; rfl
    | false =>
      rw [he] at h
      cases hk : stepOk n₀ ann t with
      | false => rw [hk] at h; cases h
      | true =>
        rw [hk] at h
        cases hs : stepT (denote tb) p w s t with
        | none => rw [hs] at h; cases h
        | some r => obtain ⟨s₂, t₂⟩ := r; rw [hs] at h; rw [stepT_spec hs]; exact topRun_of h
noncomputable def bootT (P : Params) : BT :=
  .node (boot_o_0 P)
    (.node (boot_o_1 P) (.node (boot_o_3 P) (.node (boot_o_7 P) .nil .nil) .nil) (.node (boot_o_5 P) (.node (boot_o_9 P) .nil .nil) .nil))
    (.node (boot_o_2 P) (.node (boot_o_4 P) (.node (boot_o_8 P) .nil .nil) .nil) (.node (boot_o_6 P) (.node (boot_o_10 P) .nil .nil) .nil))
noncomputable def bootS (P : Params) (os : OsState) : SharedT := ⟨bootT P, 11, (boot_heap P).life, Array.mk [], boot_drawn, boot_toks, os⟩
theorem bootS_abs (P : Params) (os : OsState) : (bootS P os).abs = ⟨boot_heap P, Array.mk [], boot_drawn, boot_toks, os⟩ := rfl
noncomputable def annOf (P : Params) : Option Value := (boot_heap P).nsMap mainGlobals "__annotations__"
theorem boot_size (P : Params) : ((boot_heap P).isNs mainGlobals && (Array.mk [] : Array GenState).size == 0) = true := by kernel_rfl
noncomputable def goT {α : Type} (h₀ : Heap) (ann : Option Value) (s₀ : SharedT) (p q : Program) (loose : List Str) (Xt : Shared → Bool) (Yf : Shared → α) (M : Nat) (w : World) :=
  (topRunT treeTable p w 11 ann M s₀ (topStub p)).map fun s =>
    ((staticsOk (importedModules p.main.body) h₀ s.abs.heap && namesBound p s.abs.heap && gensDone s.abs && laidKept h₀ s.abs.heap),
      openSeen q loose (importedModules p.main.body) Xt true s.abs, Yf s.abs)
theorem left_of_run {p q : Program} {loose : List Str} {Xt : Shared → Bool} {α : Type} {Yf : Shared → α} {Ya : World → α} {N M : Nat}
    (e : opening p = plainProg p.main.scope.names) (hN : Nat.ble 600 N = true) (f : ∀ s, fenceModules? p s = some s)
    (run : ∀ (w : World) (os : OsState), goT (boot_heap w.params) (annOf w.params) (bootS w.params os) p q loose Xt Yf M w = some (true, openGood q loose, Ya w)) (le : Nat.ble M N = true) : LeftO p q loose Xt Yf Ya N := fun w => by
  obtain ⟨⟨h, gs, d, k, os⟩, e1, e2⟩ := Option.map_eq_some_iff.mp (boot_open e hN f w)
  obtain ⟨rfl, rfl, rfl, rfl⟩ : h = boot_heap w.params ∧ gs = Array.mk [] ∧ d = boot_drawn ∧ k = boot_toks := by simpa using e2
  obtain ⟨s, hs, hl⟩ := Option.map_eq_some_iff.mp (run w os)
  have r := topRun_mono (N - M) _ _ _ _ (topRun_of hs)
  rw [show M + (N - M) = N by have := Nat.le_of_ble_eq_true le; omega, bootS_abs] at r
  obtain ⟨l1, l2, l3⟩ : _ ∧ _ ∧ _ := by simpa only [Prod.mk.injEq] using hl
  have t : topFrom treeTable p w N ⟨boot_heap w.params, Array.mk [], boot_drawn, boot_toks, os⟩ = some s.abs := by
    unfold topFrom
    dsimp only
    rw [boot_size]
    dsimp only
    rw [show (boot_heap w.params).objs.size = 11 from rfl]
    unfold annOf at r
    rw [r]
    show (match staticsOk (importedModules p.main.body) (boot_heap w.params) s.abs.heap && namesBound p s.abs.heap && gensDone s.abs && laidKept (boot_heap w.params) s.abs.heap with | true => _ | false => _) = _
    rw [l1]
  unfold openEnds
  rw [e1]
  show (topFrom treeTable p w N _).map _ = _
  rw [t]
  exact congrArg some (Prod.ext l2 l3)
end OP
set_option maxHeartbeats 0
lay_quick OP.goT
namespace OP
open PySem PySem.W PySem.Calls PyProof.Rows
noncomputable def qOf (n : Nat) (p : Program) : Program := { p with main := { p.main with body := [p.main.body.getD n (.Pass ⟨0, 0, 0, 0⟩)] } }
theorem left_tw {p p' : Program} {n : Nat} {loose : List Str} {lv : List (Str × WData)} {R : WRecords} {α : Type} {Yf : Shared → α} {Ya : World → α} {N : Nat} (M : Nat) (hp : p = p')
    (e : opening p = plainProg p.main.scope.names) (hN : Nat.ble 600 N = true) (f : ∀ s, fenceModules? p s = some s) (le : Nat.ble M N = true)
    (run : ∀ (w : World) (os : OsState), PySem.W.Fast.tw9285885503168683399 (boot_heap w.params) (annOf w.params) (bootS w.params os) p' (qOf n p') loose (fun s => xlAt (qOf n p') lv s && recOk R s) Yf M w = some (true, openGood (qOf n p') loose, Ya w)) :
    LeftO p (qOf n p) loose (fun s => xlAt (qOf n p) lv s && recOk R s) Yf Ya N := by
  subst hp
  refine left_of_run e hN f (fun w os => ?_) le
  rw [PySem.W.Fast.te9285885503168683399]
  exact run w os
end OP
set_option Elab.async false
set_option linter.all false
set_option maxRecDepth 100000
set_option maxHeartbeats 4000000
namespace L2
open PySem PySem.Spec PyProof.Rows
theorem walk_ofP {l : PySem.W.OpenLaw} {n k : Nat} {q : Program} {loose : List Str} {XP : (Str → Option Value) → Heap → Prop} {YP : World → Heap → Prop} {d : DefRec} {K : Params → PySem.W.Frag} {CX : World → CXT} {sp : Addr → World → PySem.W.Frag → Sp} {x : Str} {Pt : Addr}
    (hn : l.most = some n) (hn2 : n ≤ sizeLine) (hdf : d.params.defaults = []) (hr : Room k callerA)
    (hY : ∀ (w : World) (h : Heap), YP w h → (K w.params).In h ∧ h.get? Pt = some (PySem.W.tabObj #[]))
    (F : ∀ (w : World) (mg : Str → Option Value) (fa : Addr) (h : Heap), (K w.params).In h → h.Ns mainGlobals mg → XP mg h → mg d.name = some (.ref fa) →
      ∃ (fd : FuncData) (c : Addr), PySem.W.codeHdIn (K w.params) c Pt = true ∧ (K w.params).lookup Pt = none ∧ (∀ (s : Shared) (u : Value), BindsTo s fd ⟨[u], []⟩ [(x, u)]) ∧
        ∀ base : Heap, (K w.params).In base → base.Ns mainGlobals mg → base.BuiltinsAt mg Pt → FnOk l.prog w (K w.params) mg base (CX w) k fa fd [x] (sp Pt w (K w.params)))
    (hsp : ∀ (w : World) (K : PySem.W.Frag) (H : Hp) (a : Addr) (ns : List Int), ns.length ≤ n → OnlyT Pt H → SqL K H a (ns.map V.int) → H Pt = some (.tbl #[]) → sp Pt w K [.ref a] H (fun v _ => v = .bl true) fun _ _ _ => False)
    (hCX : ∀ (w : World) (H : Hp) (s : Shared) (e : Value) (s' : Shared), CX w [] H s (fun _ _ _ => False) e s' → False) :
    PySem.W.WalkO q loose XP YP l.row.toRowW d [] (fun f vs => PySem.call f vs) := by
  exact walk_ofT (sp := sp Pt) hn hn2 hdf hr hY F hsp hCX
end L2
set_option Elab.async false
set_option linter.all false
set_option maxRecDepth 100000
set_option maxHeartbeats 8000000
namespace PP
open PySem L2 MM
theorem def_mk {K : PySem.W.Frag} {h : Heap} {mg : Str → Option Value} {x : Str} {st : Stmt} {ps : List Str} {f : Addr} {oc : Value} {od an : Option Addr} {osl : Array (Option Value)} {kV doc pm cdv ct : Value} (X : K.In h) (G : h.Ns mainGlobals mg)
    (a : PySem.W.nsIn K mainGlobals x = some (some (.ref f))) (l : K.lookup f = some ⟨oc, od, .func (PySem.W.fnOf x x (defArgs st) (defBody st) (defScope st) .none kV doc pm an cdv ct), osl⟩) (c : PySem.W.codeIn K cdv x = true) (k : PySem.W.keepIn K (.ref f) = true)
    (hb : ∀ (kV doc pm : Value) (an : Option Addr) (cdv ct : Value) (us : List Value), us.length = ps.length → bindArgs (PySem.W.fnOf x x (defArgs st) (defBody st) (defScope st) .none kV doc pm an cdv ct) ⟨us, []⟩ = pure (ps.zip us)) : ∃ fd, Def K mg x st ps f fd := by
  have F := fun_mk (st := st) l c k
  exact ⟨_, F, F.binds hb, PySem.W.mg_of X G a⟩
section
variable {P : Program} {w : World} {K : PySem.W.Frag} {mg : Str → Option Value} {base : Heap}
theorem all_ok {t1 : Tok} {cl : Cl} {fa c Pt : Addr} {oc kV doc pm ct : Value} {od an : Option Addr} {osl : Array (Option Value)}
    (lk : K.lookup fa = some ⟨oc, od, .func (PySem.W.fnOf "law" "law" (defArgs s_law) (defBody s_law) (defScope s_law) .none kV doc pm an (.ref c) ct), osl⟩) (hcd : PySem.W.codeIn K (.ref c) "law" = true) (hd : PySem.W.CodeHd base c Pt) (bm : base.BuiltinsAt mg Pt)
    (T : Txt K mg t1 cl) (W0 : WordC K cl cl.nn 0) (W2 : WordC K cl cl.pa 2) (d_is_whole : ∃ f fd, Df_is_whole K mg f fd) (d_is_between : ∃ f fd, Df_is_between K mg f fd) (d_want_between : ∃ f fd, Df_want_between K mg f fd) (d_is_far : ∃ f fd, Df_is_far K mg f fd) (d_want_far : ∃ f fd, Df_want_far K mg f fd) (d_want_often : ∃ f fd, Df_want_often K mg f fd) (d_want_number : ∃ f fd, Df_want_number K mg f fd) (d_is_pair : ∃ f fd, Df_is_pair K mg f fd) (d_want_pair : ∃ f fd, Df_want_pair K mg f fd) (d_pair_product : ∃ f fd, Df_pair_product K mg f fd) (d_norm_rest : ∃ f fd, Df_norm_rest K mg f fd) (d_pair_power : ∃ f fd, Df_pair_power K mg f fd) (d_paired : ∃ f fd, Df_paired K mg f fd) (d_pair_raised : ∃ f fd, Df_pair_raised K mg f fd) (d_norm_of : ∃ f fd, Df_norm_of K mg f fd) (d_law_cell_at : ∃ f fd, Df_law_cell_at K mg f fd) (d_law_state : ∃ f fd, Df_law_state K mg f fd) (d_law_take : ∃ f fd, Df_law_take K mg f fd) (d_law_far : ∃ f fd, Df_law_far K mg f fd) (d_law_number : ∃ f fd, Df_law_number K mg f fd) (d_law_far_number : ∃ f fd, Df_law_far_number K mg f fd) (d_law_word : ∃ f fd, Df_law_word K mg f fd) (d_law_none : ∃ f fd, Df_law_none K mg f fd) (d_law_bits : ∃ f fd, Df_law_bits K mg f fd) (d_law_pair_by : ∃ f fd, Df_law_pair_by K mg f fd) (d_law_pair_power : ∃ f fd, Df_law_pair_power K mg f fd) (d_law_no_pair : ∃ f fd, Df_law_no_pair K mg f fd) (d_law_same : ∃ f fd, Df_law_same K mg f fd) : FnOk P w K mg base CX0 10 fa (PySem.W.fnOf "law" "law" (defArgs s_law) (defBody s_law) (defScope s_law) .none kV doc pm an (.ref c) ct) ["_law_script"] (spLaw K Pt) := by
  obtain ⟨f_is_whole, fd_is_whole, D_is_whole⟩ := d_is_whole
  obtain ⟨f_is_between, fd_is_between, D_is_between⟩ := d_is_between
  obtain ⟨f_want_between, fd_want_between, D_want_between⟩ := d_want_between
  obtain ⟨f_is_far, fd_is_far, D_is_far⟩ := d_is_far
  obtain ⟨f_want_far, fd_want_far, D_want_far⟩ := d_want_far
  obtain ⟨f_want_often, fd_want_often, D_want_often⟩ := d_want_often
  obtain ⟨f_want_number, fd_want_number, D_want_number⟩ := d_want_number
  obtain ⟨f_is_pair, fd_is_pair, D_is_pair⟩ := d_is_pair
  obtain ⟨f_want_pair, fd_want_pair, D_want_pair⟩ := d_want_pair
  obtain ⟨f_pair_product, fd_pair_product, D_pair_product⟩ := d_pair_product
  obtain ⟨f_norm_rest, fd_norm_rest, D_norm_rest⟩ := d_norm_rest
  obtain ⟨f_pair_power, fd_pair_power, D_pair_power⟩ := d_pair_power
  obtain ⟨f_paired, fd_paired, D_paired⟩ := d_paired
  obtain ⟨f_pair_raised, fd_pair_raised, D_pair_raised⟩ := d_pair_raised
  obtain ⟨f_norm_of, fd_norm_of, D_norm_of⟩ := d_norm_of
  obtain ⟨f_law_cell_at, fd_law_cell_at, D_law_cell_at⟩ := d_law_cell_at
  obtain ⟨f_law_state, fd_law_state, D_law_state⟩ := d_law_state
  obtain ⟨f_law_take, fd_law_take, D_law_take⟩ := d_law_take
  obtain ⟨f_law_far, fd_law_far, D_law_far⟩ := d_law_far
  obtain ⟨f_law_number, fd_law_number, D_law_number⟩ := d_law_number
  obtain ⟨f_law_far_number, fd_law_far_number, D_law_far_number⟩ := d_law_far_number
  obtain ⟨f_law_word, fd_law_word, D_law_word⟩ := d_law_word
  obtain ⟨f_law_none, fd_law_none, D_law_none⟩ := d_law_none
  obtain ⟨f_law_bits, fd_law_bits, D_law_bits⟩ := d_law_bits
  obtain ⟨f_law_pair_by, fd_law_pair_by, D_law_pair_by⟩ := d_law_pair_by
  obtain ⟨f_law_pair_power, fd_law_pair_power, D_law_pair_power⟩ := d_law_pair_power
  obtain ⟨f_law_no_pair, fd_law_no_pair, D_law_no_pair⟩ := d_law_no_pair
  have O_is_whole : ∃ f fd, Df_is_whole K mg f fd ∧ FnOk P w K mg base CX0 1 f fd _ _ := ⟨_, _, D_is_whole, ok_is_whole D_is_whole T⟩
  have O_is_between : ∃ f fd, Df_is_between K mg f fd ∧ FnOk P w K mg base CX0 2 f fd _ _ := ⟨_, _, D_is_between, ok_is_between D_is_between T D_is_whole⟩
  have O_want_between : ∃ f fd, Df_want_between K mg f fd ∧ FnOk P w K mg base (CXE P w) 3 f fd _ _ := ⟨_, _, D_want_between, ok_want_between D_want_between T O_is_between⟩
  have O_is_far : ∃ f fd, Df_is_far K mg f fd ∧ FnOk P w K mg base CX0 3 f fd _ _ := ⟨_, _, D_is_far, ok_is_far D_is_far T O_is_between⟩
  have O_want_far : ∃ f fd, Df_want_far K mg f fd ∧ FnOk P w K mg base (CXE P w) 4 f fd _ _ := ⟨_, _, D_want_far, ok_want_far D_want_far T O_want_between⟩
  have O_want_often : ∃ f fd, Df_want_often K mg f fd ∧ FnOk P w K mg base (CXE P w) 4 f fd _ _ := ⟨_, _, D_want_often, ok_want_often D_want_often T O_want_between⟩
  have O_want_number : ∃ f fd, Df_want_number K mg f fd ∧ FnOk P w K mg base (CXE P w) 4 f fd _ _ := ⟨_, _, D_want_number, ok_want_number D_want_number T O_want_between⟩
  have O_is_pair : ∃ f fd, Df_is_pair K mg f fd ∧ FnOk P w K mg base CX0 4 f fd _ _ := ⟨_, _, D_is_pair, ok_is_pair D_is_pair T O_is_far⟩
  have O_want_pair : ∃ f fd, Df_want_pair K mg f fd ∧ FnOk P w K mg base (CXE P w) 5 f fd _ _ := ⟨_, _, D_want_pair, ok_want_pair D_want_pair T O_is_pair⟩
  have O_pair_product : ∃ f fd, Df_pair_product K mg f fd ∧ FnOk P w K mg base CX0 1 f fd _ _ := ⟨_, _, D_pair_product, ok_pair_product D_pair_product T⟩
  have O_norm_rest : ∃ f fd, Df_norm_rest K mg f fd ∧ FnOk P w K mg base CX0 1 f fd _ _ := ⟨_, _, D_norm_rest, ok_norm_rest D_norm_rest T⟩
  have O_pair_power : ∃ f fd, Df_pair_power K mg f fd ∧ FnOk P w K mg base CX0 2 f fd _ _ := ⟨_, _, D_pair_power, ok_pair_power D_pair_power T O_pair_product⟩
  have O_paired : ∃ f fd, Df_paired K mg f fd ∧ FnOk P w K mg base (CXE P w) 6 f fd _ _ := ⟨_, _, D_paired, ok_paired D_paired T O_want_pair O_want_far O_want_number O_pair_product⟩
  have OB_paired : OB_paired P w K mg cl := ⟨_, _, D_paired, fun b => ok_paired D_paired T ⟨_, _, D_want_pair, ok_want_pair D_want_pair T ⟨_, _, D_is_pair, ok_is_pair D_is_pair T ⟨_, _, D_is_far, ok_is_far D_is_far T ⟨_, _, D_is_between, ok_is_between D_is_between T D_is_whole⟩⟩⟩⟩ ⟨_, _, D_want_far, ok_want_far D_want_far T ⟨_, _, D_want_between, ok_want_between D_want_between T ⟨_, _, D_is_between, ok_is_between D_is_between T D_is_whole⟩⟩⟩ ⟨_, _, D_want_number, ok_want_number D_want_number T ⟨_, _, D_want_between, ok_want_between D_want_between T ⟨_, _, D_is_between, ok_is_between D_is_between T D_is_whole⟩⟩⟩ ⟨_, _, D_pair_product, ok_pair_product D_pair_product T⟩⟩
  have O_pair_raised : ∃ f fd, Df_pair_raised K mg f fd ∧ FnOk P w K mg base (CXE P w) 6 f fd _ _ := ⟨_, _, D_pair_raised, ok_pair_raised D_pair_raised T O_want_pair O_want_often O_want_far O_want_number O_pair_power⟩
  have OB_pair_raised : OB_pair_raised P w K mg cl := ⟨_, _, D_pair_raised, fun b => ok_pair_raised D_pair_raised T ⟨_, _, D_want_pair, ok_want_pair D_want_pair T ⟨_, _, D_is_pair, ok_is_pair D_is_pair T ⟨_, _, D_is_far, ok_is_far D_is_far T ⟨_, _, D_is_between, ok_is_between D_is_between T D_is_whole⟩⟩⟩⟩ ⟨_, _, D_want_often, ok_want_often D_want_often T ⟨_, _, D_want_between, ok_want_between D_want_between T ⟨_, _, D_is_between, ok_is_between D_is_between T D_is_whole⟩⟩⟩ ⟨_, _, D_want_far, ok_want_far D_want_far T ⟨_, _, D_want_between, ok_want_between D_want_between T ⟨_, _, D_is_between, ok_is_between D_is_between T D_is_whole⟩⟩⟩ ⟨_, _, D_want_number, ok_want_number D_want_number T ⟨_, _, D_want_between, ok_want_between D_want_between T ⟨_, _, D_is_between, ok_is_between D_is_between T D_is_whole⟩⟩⟩ ⟨_, _, D_pair_power, ok_pair_power D_pair_power T ⟨_, _, D_pair_product, ok_pair_product D_pair_product T⟩⟩⟩
  have O_norm_of : ∃ f fd, Df_norm_of K mg f fd ∧ FnOk P w K mg base (CXE P w) 6 f fd _ _ := ⟨_, _, D_norm_of, ok_norm_of D_norm_of T O_want_pair O_want_far O_want_number O_norm_rest⟩
  have OB_norm_of : OB_norm_of P w K mg cl := ⟨_, _, D_norm_of, fun b => ok_norm_of D_norm_of T ⟨_, _, D_want_pair, ok_want_pair D_want_pair T ⟨_, _, D_is_pair, ok_is_pair D_is_pair T ⟨_, _, D_is_far, ok_is_far D_is_far T ⟨_, _, D_is_between, ok_is_between D_is_between T D_is_whole⟩⟩⟩⟩ ⟨_, _, D_want_far, ok_want_far D_want_far T ⟨_, _, D_want_between, ok_want_between D_want_between T ⟨_, _, D_is_between, ok_is_between D_is_between T D_is_whole⟩⟩⟩ ⟨_, _, D_want_number, ok_want_number D_want_number T ⟨_, _, D_want_between, ok_want_between D_want_between T ⟨_, _, D_is_between, ok_is_between D_is_between T D_is_whole⟩⟩⟩ ⟨_, _, D_norm_rest, ok_norm_rest D_norm_rest T⟩⟩
  have O_law_cell_at : ∃ f fd, Df_law_cell_at K mg f fd ∧ FnOk P w K mg base CX0 1 f fd _ _ := ⟨_, _, D_law_cell_at, ok_law_cell_at D_law_cell_at T⟩
  have O_law_state : ∃ f fd, Df_law_state K mg f fd ∧ FnOk P w K mg base CX0 2 f fd _ _ := ⟨_, _, D_law_state, ok_law_state D_law_state T O_law_cell_at⟩
  have O_law_take : ∃ f fd, Df_law_take K mg f fd ∧ FnOk P w K mg base CX0 1 f fd _ _ := ⟨_, _, D_law_take, ok_law_take D_law_take T⟩
  have O_law_far : ∃ f fd, Df_law_far K mg f fd ∧ FnOk P w K mg base CX0 2 f fd _ _ := ⟨_, _, D_law_far, ok_law_far D_law_far T O_law_take⟩
  have O_law_number : ∃ f fd, Df_law_number K mg f fd ∧ FnOk P w K mg base CX0 3 f fd _ _ := ⟨_, _, D_law_number, ok_law_number D_law_number T O_law_take O_law_far⟩
  have O_law_far_number : ∃ f fd, Df_law_far_number K mg f fd ∧ FnOk P w K mg base CX0 4 f fd _ _ := ⟨_, _, D_law_far_number, ok_law_far_number D_law_far_number T O_law_take O_law_number⟩
  have O_law_word : ∃ f fd, Df_law_word K mg f fd ∧ FnOk P w K mg base CX0 8 f fd _ _ := ⟨_, _, D_law_word, ok_law_word D_law_word T⟩
  have OB_law_word : OB_law_word P w K mg cl := ⟨_, _, D_law_word, fun b => ok_law_word D_law_word T⟩
  have O_law_none : ∃ f fd, Df_law_none K mg f fd ∧ FnOk P w K mg base CX0 2 f fd _ _ := ⟨_, _, D_law_none, ok_law_none D_law_none T O_law_take⟩
  have O_law_bits : ∃ f fd, Df_law_bits K mg f fd ∧ FnOk P w K mg base CX0 1 f fd _ _ := ⟨_, _, D_law_bits, ok_law_bits D_law_bits T⟩
  have O_law_pair_by : ∃ f fd, Df_law_pair_by K mg f fd ∧ FnOk P w K mg base CX0 1 f fd _ _ := ⟨_, _, D_law_pair_by, ok_law_pair_by D_law_pair_by T⟩
  have O_law_pair_power : ∃ f fd, Df_law_pair_power K mg f fd ∧ FnOk P w K mg base CX0 2 f fd _ _ := ⟨_, _, D_law_pair_power, ok_law_pair_power D_law_pair_power T O_law_bits O_law_pair_by⟩
  have O_law_no_pair : ∃ f fd, Df_law_no_pair K mg f fd ∧ FnOk P w K mg base CX0 2 f fd _ _ := ⟨_, _, D_law_no_pair, ok_law_no_pair D_law_no_pair T O_law_take⟩
  obtain ⟨f_law_same, fd_law_same, D_law_same⟩ := d_law_same
  have F0 : ∀ b, FnOk P w K mg b CX0 1 f_law_same fd_law_same _ (spSameS 0 K) := fun b => ok_law_same0 D_law_same T
  have O_law_sameA : O_law_sameA P w K mg base := ⟨_, _, D_law_same, same_both ((F0 base).mono (by decide)) (ok_law_same1 D_law_same T F0)⟩
  exact ok_law lk hcd hd bm T W0 W2 O_law_state O_law_take O_law_number O_law_far_number O_law_sameA O_law_far O_law_pair_by O_law_pair_power O_law_none O_law_no_pair OB_paired OB_pair_raised OB_norm_of OB_law_word
theorem cl_mk {KK : PySem.W.Frag} {h : Heap} {mg : Str → Option Value} {pe nn np pa pp nb nt nl nm nd tg : Addr} (X : KK.In h) (G : h.Ns mainGlobals mg) (a0 : PySem.W.nsIn KK mainGlobals "PrimeError" = some (some (.ref pe))) (a1 : PySem.W.nsIn KK mainGlobals "NoNumber" = some (some (.ref nn))) (a2 : PySem.W.nsIn KK mainGlobals "NoPrime" = some (some (.ref np))) (a3 : PySem.W.nsIn KK mainGlobals "NoPair" = some (some (.ref pa))) (a4 : PySem.W.nsIn KK mainGlobals "NoPaper" = some (some (.ref pp))) (a5 : PySem.W.nsIn KK mainGlobals "NoBases" = some (some (.ref nb))) (a6 : PySem.W.nsIn KK mainGlobals "NoText" = some (some (.ref nt))) (a7 : PySem.W.nsIn KK mainGlobals "NoLine" = some (some (.ref nl))) (a8 : PySem.W.nsIn KK mainGlobals "NoName" = some (some (.ref nm))) (a9 : PySem.W.nsIn KK mainGlobals "NoDeed" = some (some (.ref nd))) (a10 : PySem.W.nsIn KK mainGlobals "TooGreat" = some (some (.ref tg))) (x0 : ExcC KK nn) (x1 : ExcC KK pa) (w0 : WordC KK ⟨pe, nn, np, pa, pp, nb, nt, nl, nm, nd, tg⟩ nn 0) (w1 : WordC KK ⟨pe, nn, np, pa, pp, nb, nt, nl, nm, nd, tg⟩ pa 2) : ∃ cl : Cl, (mg "PrimeError" = some (.ref cl.pe) ∧ mg "NoNumber" = some (.ref cl.nn) ∧ mg "NoPrime" = some (.ref cl.np) ∧ mg "NoPair" = some (.ref cl.pa) ∧ mg "NoPaper" = some (.ref cl.pp) ∧ mg "NoBases" = some (.ref cl.nb) ∧ mg "NoText" = some (.ref cl.nt) ∧ mg "NoLine" = some (.ref cl.nl) ∧ mg "NoName" = some (.ref cl.nm) ∧ mg "NoDeed" = some (.ref cl.nd) ∧ mg "TooGreat" = some (.ref cl.tg)) ∧ ExcC KK cl.nn ∧ ExcC KK cl.pa ∧ WordC KK cl cl.nn 0 ∧ WordC KK cl cl.pa 2 :=
  ⟨⟨pe, nn, np, pa, pp, nb, nt, nl, nm, nd, tg⟩, ⟨PySem.W.mg_of X G a0, PySem.W.mg_of X G a1, PySem.W.mg_of X G a2, PySem.W.mg_of X G a3, PySem.W.mg_of X G a4, PySem.W.mg_of X G a5, PySem.W.mg_of X G a6, PySem.W.mg_of X G a7, PySem.W.mg_of X G a8, PySem.W.mg_of X G a9, PySem.W.mg_of X G a10⟩, x0, x1, w0, w1⟩
theorem fin_of {Pr : Program} {w : World} {KK : PySem.W.Frag} {mg : Str → Option Value} {fa fl c Pt : Addr} {oc kV doc pm ct : Value} {od an : Option Addr} {osl : Array (Option Value)} (hmg : mg "law" = some (.ref fa)) (hm : mg "law" = some (.ref fl))
    (hl : KK.lookup fl = some ⟨oc, od, .func (PySem.W.fnOf "law" "law" (defArgs s_law) (defBody s_law) (defScope s_law) .none kV doc pm an (.ref c) ct), osl⟩) (hc : PySem.W.codeIn KK (.ref c) "law" = true) (hh : PySem.W.codeHdIn KK c Pt = true) (hn : KK.lookup Pt = none)
    (all : ∀ base : Heap, KK.In base → base.BuiltinsAt mg Pt → KK.lookup fl = some ⟨oc, od, .func (PySem.W.fnOf "law" "law" (defArgs s_law) (defBody s_law) (defScope s_law) .none kV doc pm an (.ref c) ct), osl⟩ → PySem.W.codeIn KK (.ref c) "law" = true → PySem.W.CodeHd base c Pt → FnOk Pr w KK mg base CX0 10 fl (PySem.W.fnOf "law" "law" (defArgs s_law) (defBody s_law) (defScope s_law) .none kV doc pm an (.ref c) ct) ["_law_script"] (spLaw KK Pt)) :
    ∃ (fd : FuncData) (c : Addr), PySem.W.codeHdIn KK c Pt = true ∧ KK.lookup Pt = none ∧ (∀ (s : Shared) (u : Value), BindsTo s fd ⟨[u], []⟩ [("_law_script", u)]) ∧ ∀ base : Heap, KK.In base → base.Ns mainGlobals mg → base.BuiltinsAt mg Pt → FnOk Pr w KK mg base CX0 10 fa fd ["_law_script"] (spLaw KK Pt) := by
  have e0 := hmg.symm.trans hm
  cases e0
  exact ⟨_, c, hh, hn, fun s u => .of_eq rfl, fun base kb nb bm => all base kb bm hl hc (PySem.W.codeHd_of_K kb hh)⟩
end
end PP
set_option maxHeartbeats 0
noncomputable def OP.lo : List PySem.Str := [PySem.Str.ofString "__name__", PySem.Str.ofString "PrimeError", PySem.Str.ofString "NoNumber", PySem.Str.ofString "NoPrime", PySem.Str.ofString "NoPair", PySem.Str.ofString "NoPaper", PySem.Str.ofString "NoBases", PySem.Str.ofString "NoText", PySem.Str.ofString "NoLine", PySem.Str.ofString "NoName", PySem.Str.ofString "NoDeed", PySem.Str.ofString "TooGreat", PySem.Str.ofString "MOST", PySem.Str.ofString "is_whole", PySem.Str.ofString "is_between", PySem.Str.ofString "is_far", PySem.Str.ofString "want_between", PySem.Str.ofString "want_number", PySem.Str.ofString "want_far", PySem.Str.ofString "want_often", PySem.Str.ofString "paired", PySem.Str.ofString "pair_raised", PySem.Str.ofString "norm_of", PySem.Str.ofString "is_pair", PySem.Str.ofString "want_pair", PySem.Str.ofString "pair_product", PySem.Str.ofString "pair_power", PySem.Str.ofString "norm_rest", PySem.Str.ofString "_law_cell_at", PySem.Str.ofString "_law_state", PySem.Str.ofString "_law_take", PySem.Str.ofString "_law_same", PySem.Str.ofString "_law_word", PySem.Str.ofString "_law_far", PySem.Str.ofString "_law_number", PySem.Str.ofString "_law_far_number", PySem.Str.ofString "_law_none", PySem.Str.ofString "_law_bits", PySem.Str.ofString "_law_pair_by", PySem.Str.ofString "_law_pair_power", PySem.Str.ofString "_law_no_pair"]
theorem OP.pwe : PySem.Challenge.pw_primepapers_k40_pairs_of_rests = PySem.Challenge.pw_primepapers_k40_pairs_of_rests := rfl
name_quick pT for PySem.Challenge.pw_primepapers_k40_pairs_of_rests by OP.pwe
open PySem PySem.W PyProof.Rows in
local macro_rules | `(tactic| o_head $H) => `(tactic| (
  refine PySem.W.holds_open (q := (OP.qOf 44 PySem.Challenge.pw_primepapers_k40_pairs_of_rests)) (loose := OP.lo) (Xt := fun s => xlAt (OP.qOf 44 PySem.Challenge.pw_primepapers_k40_pairs_of_rests) ([("MOST", PySem.W.WData.int 1000000000000000000000000000000)] : List (PySem.Str × PySem.W.WData)) s && recOk (PySem.Challenge.rw_primepapers_k40_pairs_of_rests.row.records) s) (XP := XL (OP.qOf 44 PySem.Challenge.pw_primepapers_k40_pairs_of_rests) ([("MOST", PySem.W.WData.int 1000000000000000000000000000000)] : List (PySem.Str × PySem.W.WData))) (Yf := Hook.obs $H) (Ya := Hook.val $H) (YP := Hook.says $H) (N := 20000)
    (OP.left_tw 20000 PySem.W.Fast.pT_eq (by kernel_rfl) (by decide) (fun s => by kernel_rfl) (by decide) (fun w os => by kernel_rfl))
    (Hook.of $H) (Hook.keeps $H) (fun s e => xl_of s (Bool.and_eq_true_iff.mp e).1) XL.keeps (by rfl) (by rfl) (by rfl) (fun s e => recFacts_of (Bool.and_eq_true_iff.mp e).2) (by rfl) (by first | assumption | decide +kernel) (by decide +kernel) ⟨rfl, rfl, rfl, rfl, rfl, by decide +kernel⟩ ?hw ?hc))
open PySem PySem.W PyProof.Rows
set_option maxRecDepth 100000 in
set_option maxHeartbeats 0 in
theorem PySem.Challenge.cw_primepapers_k40_pairs_of_rests_holds : PySem.Challenge.rw_primepapers_k40_pairs_of_rests.Holds := by
  w_on; o_law; k_head; (case hw => w_witness2)
  k_fill
  refine L2.walk_ofP (l := PySem.Challenge.rw_primepapers_k40_pairs_of_rests) (n := 63) (k := 10) (x := "_law_script") (CX := fun _ => L2.CX0) (sp := fun Pt _ K => PP.spLaw K Pt) rfl (by decide) rfl ⟨rfl, by decide, by decide, rfl⟩ (fun w h Y => ⟨PySem.W.km_in_of Y, PySem.W.km_tabs_of Y _ (List.Mem.head _)⟩) ?F ?S ?C
  case S => exact fun w K H a ns hl _ hS hT => ⟨a, ns, rfl, hS, hl, hT, fun _ => rfl⟩
  case C => exact fun _ _ _ _ _ z => z
  case F =>
    intro w mg fa h KX G hX hmg
    have d_is_whole : ∃ f fd, PP.Df_is_whole (L2.KOf KX) mg f fd := by
      dsimp only [L2.KOf]
      refine' ⟨_, PP.def_mk KX G ?a ?l ?c ?k ?b⟩
      (case a => k_is); (case l => k_is); (case c => k_is); (case k => k_is)
      case b => exact fun _ _ _ _ _ _ us hl => match us, hl with | [_], _ => rfl
    have d_is_between : ∃ f fd, PP.Df_is_between (L2.KOf KX) mg f fd := by
      dsimp only [L2.KOf]
      refine' ⟨_, PP.def_mk KX G ?a ?l ?c ?k ?b⟩
      (case a => k_is); (case l => k_is); (case c => k_is); (case k => k_is)
      case b => exact fun _ _ _ _ _ _ us hl => match us, hl with | [_, _, _], _ => rfl
    have d_want_between : ∃ f fd, PP.Df_want_between (L2.KOf KX) mg f fd := by
      dsimp only [L2.KOf]
      refine' ⟨_, PP.def_mk KX G ?a ?l ?c ?k ?b⟩
      (case a => k_is); (case l => k_is); (case c => k_is); (case k => k_is)
      case b => exact fun _ _ _ _ _ _ us hl => match us, hl with | [_, _, _, _], _ => rfl
    have d_is_far : ∃ f fd, PP.Df_is_far (L2.KOf KX) mg f fd := by
      dsimp only [L2.KOf]
      refine' ⟨_, PP.def_mk KX G ?a ?l ?c ?k ?b⟩
      (case a => k_is); (case l => k_is); (case c => k_is); (case k => k_is)
      case b => exact fun _ _ _ _ _ _ us hl => match us, hl with | [_], _ => rfl
    have d_want_far : ∃ f fd, PP.Df_want_far (L2.KOf KX) mg f fd := by
      dsimp only [L2.KOf]
      refine' ⟨_, PP.def_mk KX G ?a ?l ?c ?k ?b⟩
      (case a => k_is); (case l => k_is); (case c => k_is); (case k => k_is)
      case b => exact fun _ _ _ _ _ _ us hl => match us, hl with | [_, _], _ => rfl
    have d_want_often : ∃ f fd, PP.Df_want_often (L2.KOf KX) mg f fd := by
      dsimp only [L2.KOf]
      refine' ⟨_, PP.def_mk KX G ?a ?l ?c ?k ?b⟩
      (case a => k_is); (case l => k_is); (case c => k_is); (case k => k_is)
      case b => exact fun _ _ _ _ _ _ us hl => match us, hl with | [_, _], _ => rfl
    have d_want_number : ∃ f fd, PP.Df_want_number (L2.KOf KX) mg f fd := by
      dsimp only [L2.KOf]
      refine' ⟨_, PP.def_mk KX G ?a ?l ?c ?k ?b⟩
      (case a => k_is); (case l => k_is); (case c => k_is); (case k => k_is)
      case b => exact fun _ _ _ _ _ _ us hl => match us, hl with | [_, _], _ => rfl
    have d_is_pair : ∃ f fd, PP.Df_is_pair (L2.KOf KX) mg f fd := by
      dsimp only [L2.KOf]
      refine' ⟨_, PP.def_mk KX G ?a ?l ?c ?k ?b⟩
      (case a => k_is); (case l => k_is); (case c => k_is); (case k => k_is)
      case b => exact fun _ _ _ _ _ _ us hl => match us, hl with | [_], _ => rfl
    have d_want_pair : ∃ f fd, PP.Df_want_pair (L2.KOf KX) mg f fd := by
      dsimp only [L2.KOf]
      refine' ⟨_, PP.def_mk KX G ?a ?l ?c ?k ?b⟩
      (case a => k_is); (case l => k_is); (case c => k_is); (case k => k_is)
      case b => exact fun _ _ _ _ _ _ us hl => match us, hl with | [_, _], _ => rfl
    have d_pair_product : ∃ f fd, PP.Df_pair_product (L2.KOf KX) mg f fd := by
      dsimp only [L2.KOf]
      refine' ⟨_, PP.def_mk KX G ?a ?l ?c ?k ?b⟩
      (case a => k_is); (case l => k_is); (case c => k_is); (case k => k_is)
      case b => exact fun _ _ _ _ _ _ us hl => match us, hl with | [_, _, _, _], _ => rfl
    have d_norm_rest : ∃ f fd, PP.Df_norm_rest (L2.KOf KX) mg f fd := by
      dsimp only [L2.KOf]
      refine' ⟨_, PP.def_mk KX G ?a ?l ?c ?k ?b⟩
      (case a => k_is); (case l => k_is); (case c => k_is); (case k => k_is)
      case b => exact fun _ _ _ _ _ _ us hl => match us, hl with | [_, _, _], _ => rfl
    have d_pair_power : ∃ f fd, PP.Df_pair_power (L2.KOf KX) mg f fd := by
      dsimp only [L2.KOf]
      refine' ⟨_, PP.def_mk KX G ?a ?l ?c ?k ?b⟩
      (case a => k_is); (case l => k_is); (case c => k_is); (case k => k_is)
      case b => exact fun _ _ _ _ _ _ us hl => match us, hl with | [_, _, _, _], _ => rfl
    have d_paired : ∃ f fd, PP.Df_paired (L2.KOf KX) mg f fd := by
      dsimp only [L2.KOf]
      refine' ⟨_, PP.def_mk KX G ?a ?l ?c ?k ?b⟩
      (case a => k_is); (case l => k_is); (case c => k_is); (case k => k_is)
      case b => exact fun _ _ _ _ _ _ us hl => match us, hl with | [_, _, _, _], _ => rfl
    have d_pair_raised : ∃ f fd, PP.Df_pair_raised (L2.KOf KX) mg f fd := by
      dsimp only [L2.KOf]
      refine' ⟨_, PP.def_mk KX G ?a ?l ?c ?k ?b⟩
      (case a => k_is); (case l => k_is); (case c => k_is); (case k => k_is)
      case b => exact fun _ _ _ _ _ _ us hl => match us, hl with | [_, _, _, _], _ => rfl
    have d_norm_of : ∃ f fd, PP.Df_norm_of (L2.KOf KX) mg f fd := by
      dsimp only [L2.KOf]
      refine' ⟨_, PP.def_mk KX G ?a ?l ?c ?k ?b⟩
      (case a => k_is); (case l => k_is); (case c => k_is); (case k => k_is)
      case b => exact fun _ _ _ _ _ _ us hl => match us, hl with | [_, _, _], _ => rfl
    have d_law_cell_at : ∃ f fd, PP.Df_law_cell_at (L2.KOf KX) mg f fd := by
      dsimp only [L2.KOf]
      refine' ⟨_, PP.def_mk KX G ?a ?l ?c ?k ?b⟩
      (case a => k_is); (case l => k_is); (case c => k_is); (case k => k_is)
      case b => exact fun _ _ _ _ _ _ us hl => match us, hl with | [_, _], _ => rfl
    have d_law_state : ∃ f fd, PP.Df_law_state (L2.KOf KX) mg f fd := by
      dsimp only [L2.KOf]
      refine' ⟨_, PP.def_mk KX G ?a ?l ?c ?k ?b⟩
      (case a => k_is); (case l => k_is); (case c => k_is); (case k => k_is)
      case b => exact fun _ _ _ _ _ _ us hl => match us, hl with | [_, _], _ => rfl
    have d_law_take : ∃ f fd, PP.Df_law_take (L2.KOf KX) mg f fd := by
      dsimp only [L2.KOf]
      refine' ⟨_, PP.def_mk KX G ?a ?l ?c ?k ?b⟩
      (case a => k_is); (case l => k_is); (case c => k_is); (case k => k_is)
      case b => exact fun _ _ _ _ _ _ us hl => match us, hl with | [_, _], _ => rfl
    have d_law_far : ∃ f fd, PP.Df_law_far (L2.KOf KX) mg f fd := by
      dsimp only [L2.KOf]
      refine' ⟨_, PP.def_mk KX G ?a ?l ?c ?k ?b⟩
      (case a => k_is); (case l => k_is); (case c => k_is); (case k => k_is)
      case b => exact fun _ _ _ _ _ _ us hl => match us, hl with | [_, _], _ => rfl
    have d_law_number : ∃ f fd, PP.Df_law_number (L2.KOf KX) mg f fd := by
      dsimp only [L2.KOf]
      refine' ⟨_, PP.def_mk KX G ?a ?l ?c ?k ?b⟩
      (case a => k_is); (case l => k_is); (case c => k_is); (case k => k_is)
      case b => exact fun _ _ _ _ _ _ us hl => match us, hl with | [_], _ => rfl
    have d_law_far_number : ∃ f fd, PP.Df_law_far_number (L2.KOf KX) mg f fd := by
      dsimp only [L2.KOf]
      refine' ⟨_, PP.def_mk KX G ?a ?l ?c ?k ?b⟩
      (case a => k_is); (case l => k_is); (case c => k_is); (case k => k_is)
      case b => exact fun _ _ _ _ _ _ us hl => match us, hl with | [_], _ => rfl
    have d_law_word : ∃ f fd, PP.Df_law_word (L2.KOf KX) mg f fd := by
      dsimp only [L2.KOf]
      refine' ⟨_, PP.def_mk KX G ?a ?l ?c ?k ?b⟩
      (case a => k_is); (case l => k_is); (case c => k_is); (case k => k_is)
      case b => exact fun _ _ _ _ _ _ us hl => match us, hl with | [_], _ => rfl
    have d_law_none : ∃ f fd, PP.Df_law_none (L2.KOf KX) mg f fd := by
      dsimp only [L2.KOf]
      refine' ⟨_, PP.def_mk KX G ?a ?l ?c ?k ?b⟩
      (case a => k_is); (case l => k_is); (case c => k_is); (case k => k_is)
      case b => exact fun _ _ _ _ _ _ us hl => match us, hl with | [_, _, _], _ => rfl
    have d_law_bits : ∃ f fd, PP.Df_law_bits (L2.KOf KX) mg f fd := by
      dsimp only [L2.KOf]
      refine' ⟨_, PP.def_mk KX G ?a ?l ?c ?k ?b⟩
      (case a => k_is); (case l => k_is); (case c => k_is); (case k => k_is)
      case b => exact fun _ _ _ _ _ _ us hl => match us, hl with | [_], _ => rfl
    have d_law_pair_by : ∃ f fd, PP.Df_law_pair_by (L2.KOf KX) mg f fd := by
      dsimp only [L2.KOf]
      refine' ⟨_, PP.def_mk KX G ?a ?l ?c ?k ?b⟩
      (case a => k_is); (case l => k_is); (case c => k_is); (case k => k_is)
      case b => exact fun _ _ _ _ _ _ us hl => match us, hl with | [_, _, _, _], _ => rfl
    have d_law_pair_power : ∃ f fd, PP.Df_law_pair_power (L2.KOf KX) mg f fd := by
      dsimp only [L2.KOf]
      refine' ⟨_, PP.def_mk KX G ?a ?l ?c ?k ?b⟩
      (case a => k_is); (case l => k_is); (case c => k_is); (case k => k_is)
      case b => exact fun _ _ _ _ _ _ us hl => match us, hl with | [_, _, _, _], _ => rfl
    have d_law_no_pair : ∃ f fd, PP.Df_law_no_pair (L2.KOf KX) mg f fd := by
      dsimp only [L2.KOf]
      refine' ⟨_, PP.def_mk KX G ?a ?l ?c ?k ?b⟩
      (case a => k_is); (case l => k_is); (case c => k_is); (case k => k_is)
      case b => exact fun _ _ _ _ _ _ us hl => match us, hl with | [_, _], _ => rfl
    have d_law_same : ∃ f fd, PP.Df_law_same (L2.KOf KX) mg f fd := by
      dsimp only [L2.KOf]
      refine' ⟨_, PP.def_mk KX G ?a ?l ?c ?k ?b⟩
      (case a => k_is); (case l => k_is); (case c => k_is); (case k => k_is)
      case b => exact fun _ _ _ _ _ _ us hl => match us, hl with | [_, _], _ => rfl
    have c_MOST : ∃ t, mg "MOST" = some (.int 1000000000000000000000000000000 t) := by
      exact L2.loose_int hX (by simp)
    have n_len : mg "len" = none := by
      refine' PySem.W.mg_none_of KX G ?a
      (case a => k_is)
    have n_isinstance : mg "isinstance" = none := by
      refine' PySem.W.mg_none_of KX G ?a
      (case a => k_is)
    have n_int : mg "int" = none := by
      refine' PySem.W.mg_none_of KX G ?a
      (case a => k_is)
    have n_bool : mg "bool" = none := by
      refine' PySem.W.mg_none_of KX G ?a
      (case a => k_is)
    have n_range : mg "range" = none := by
      refine' PySem.W.mg_none_of KX G ?a
      (case a => k_is)
    have n_max : mg "max" = none := by
      refine' PySem.W.mg_none_of KX G ?a
      (case a => k_is)
    have n_min : mg "min" = none := by
      refine' PySem.W.mg_none_of KX G ?a
      (case a => k_is)
    have n_str : mg "str" = none := by
      refine' PySem.W.mg_none_of KX G ?a
      (case a => k_is)
    have n_tuple : mg "tuple" = none := by
      refine' PySem.W.mg_none_of KX G ?a
      (case a => k_is)
    have n_list : mg "list" = none := by
      refine' PySem.W.mg_none_of KX G ?a
      (case a => k_is)
    have n_zip : mg "zip" = none := by
      refine' PySem.W.mg_none_of KX G ?a
      (case a => k_is)
    have n_all : mg "all" = none := by
      refine' PySem.W.mg_none_of KX G ?a
      (case a => k_is)
    have n_repr : mg "repr" = none := by
      refine' PySem.W.mg_none_of KX G ?a
      (case a => k_is)
    have n_ValueError : mg "ValueError" = none := by
      refine' PySem.W.mg_none_of KX G ?a
      (case a => k_is)
    have d_cl : ∃ cl : PP.Cl, (mg "PrimeError" = some (.ref cl.pe) ∧ mg "NoNumber" = some (.ref cl.nn) ∧ mg "NoPrime" = some (.ref cl.np) ∧ mg "NoPair" = some (.ref cl.pa) ∧ mg "NoPaper" = some (.ref cl.pp) ∧ mg "NoBases" = some (.ref cl.nb) ∧ mg "NoText" = some (.ref cl.nt) ∧ mg "NoLine" = some (.ref cl.nl) ∧ mg "NoName" = some (.ref cl.nm) ∧ mg "NoDeed" = some (.ref cl.nd) ∧ mg "TooGreat" = some (.ref cl.tg)) ∧ L2.ExcC (L2.KOf KX) cl.nn ∧ L2.ExcC (L2.KOf KX) cl.pa ∧ PP.WordC (L2.KOf KX) cl cl.nn 0 ∧ PP.WordC (L2.KOf KX) cl cl.pa 2 := by
      dsimp only [L2.KOf]
      refine' PP.cl_mk KX G ?a0 ?a1 ?a2 ?a3 ?a4 ?a5 ?a6 ?a7 ?a8 ?a9 ?a10 ?x0 ?x1 ?w0 ?w1
      (case a0 => k_is)
      (case a1 => k_is)
      (case a2 => k_is)
      (case a3 => k_is)
      (case a4 => k_is)
      (case a5 => k_is)
      (case a6 => k_is)
      (case a7 => k_is)
      (case a8 => k_is)
      (case a9 => k_is)
      (case a10 => k_is)
      (case x0 => kernel_rfl)
      (case x1 => kernel_rfl)
      case w0 =>
        refine ⟨⟨?_, ?_, ?_, ?_, ?_, ?_, ?_, ?_⟩, ?_, ?_, ?_, ?_, ?_, ?_, ?_, ?_, ?_, ?_, ?_, ?_⟩ <;> kernel_rfl
      case w1 =>
        refine ⟨⟨?_, ?_, ?_, ?_, ?_, ?_, ?_, ?_⟩, ?_, ?_, ?_, ?_, ?_, ?_, ?_, ?_, ?_, ?_, ?_, ?_⟩ <;> kernel_rfl
    obtain ⟨t_MOST, c_MOST⟩ := c_MOST
    obtain ⟨cl, ⟨m_PrimeError, m_NoNumber, m_NoPrime, m_NoPair, m_NoPaper, m_NoBases, m_NoText, m_NoLine, m_NoName, m_NoDeed, m_TooGreat⟩, x_NoNumber, x_NoPair, W0, W2⟩ := d_cl
    have T : PP.Txt (L2.KOf KX) mg t_MOST cl := ⟨c_MOST, n_len, n_isinstance, n_int, n_bool, n_range, n_max, n_min, n_str, n_tuple, n_list, n_zip, n_all, n_repr, n_ValueError, m_PrimeError, m_NoNumber, m_NoPrime, m_NoPair, m_NoPaper, m_NoBases, m_NoText, m_NoLine, m_NoName, m_NoDeed, m_TooGreat, x_NoNumber, x_NoPair⟩
    try dsimp only [L2.KOf]
    dsimp only [L2.KOf] at T W0 W2 d_is_whole d_is_between d_want_between d_is_far d_want_far d_want_often d_want_number d_is_pair d_want_pair d_pair_product d_norm_rest d_pair_power d_paired d_pair_raised d_norm_of d_law_cell_at d_law_state d_law_take d_law_far d_law_number d_law_far_number d_law_word d_law_none d_law_bits d_law_pair_by d_law_pair_power d_law_no_pair d_law_same
    refine' PP.fin_of hmg (PySem.W.mg_of KX G ?a) ?l ?c ?d ?e (fun base kb bm lk hcd hd => PP.all_ok lk hcd hd bm T W0 W2 d_is_whole d_is_between d_want_between d_is_far d_want_far d_want_often d_want_number d_is_pair d_want_pair d_pair_product d_norm_rest d_pair_power d_paired d_pair_raised d_norm_of d_law_cell_at d_law_state d_law_take d_law_far d_law_number d_law_far_number d_law_word d_law_none d_law_bits d_law_pair_by d_law_pair_power d_law_no_pair d_law_same)
    (case a => k_is); (case l => k_is); (case c => k_is)
    case d => kernel_rfl
    case e => kernel_rfl
