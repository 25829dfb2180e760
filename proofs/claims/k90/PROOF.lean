import PyProof.Rows.All
import Wide.All
import OpenK.AllK
import Wide.FinOn
import Lean
import PyProof.EqAt
import PyProof.EqKinds
import PyProof.TupleCall
import PySem.Challenge.RW_primepapers_k90_whole_looks
import KE.KLam
import PyProof.NeKinds
import KE.KNestM
import PyProof.ZipIter
import PyProof.TupleIter
import PyProof.ReprRoads
import PyProof.ReprLen
import PyProof.CompUse
import PyProof.Conv_int_bool
import PyProof.Rows.SortStr
import PyProof.Rows.RuleB_bool
import PyProof.FactsAll.bool_2
import PyProof.WalkInts
set_option genSizeOfSpec false
set_option genSizeOf false
set_option Elab.async false
set_option linter.all false
set_option maxRecDepth 100000
namespace L2
open PySem PySem.Spec PyProof.Rows
noncomputable abbrev Key := Sum Int Str
noncomputable def keyIs : Key → Value → Bool
  | .inl k, v => Value.isInt k v
  | .inr x, v => Value.isStrOf x v
noncomputable def keyH (w : World) : Key → Int
  | .inl k => hashInt k
  | .inr x => hashStr w x
theorem keyIs_shape : ∀ {k : Key} {v : Value}, keyIs k v = true → (∃ i t, k = Sum.inl i ∧ v = Value.int i t) ∨ (∃ x t, k = Sum.inr x ∧ v = Value.str x t)
  | .inl i, v, h => by
    obtain ⟨t, e⟩ := Value.isInt_shape (k := i) (v := v) h
    exact .inl ⟨i, t, rfl, e⟩
  | .inr x, v, h => by
    obtain ⟨t, e⟩ := Value.isStrOf_shape (x := x) (v := v) h
    exact .inr ⟨x, t, rfl, e⟩
theorem key_ll (a b : Int) : decide ((Sum.inl a : Key) = Sum.inl b) = (a == b) := by
  by_cases e : a = b
  · subst e; simp
  · have h : ¬ (Sum.inl a : Key) = Sum.inl b := fun q => e (Sum.inl.inj q)
    rw [decide_eq_false h]
    exact (beq_eq_false_iff_ne.mpr e).symm
theorem key_rr (a b : Str) : decide ((Sum.inr a : Key) = Sum.inr b) = decide (a = b) := by
  by_cases e : a = b
  · subst e; simp
  · have h : ¬ (Sum.inr a : Key) = Sum.inr b := fun q => e (Sum.inr.inj q)
    rw [decide_eq_false h, decide_eq_false e]
theorem key_lr (a : Int) (b : Str) : decide ((Sum.inl a : Key) = Sum.inr b) = false := decide_eq_false (fun q => nomatch q)
theorem key_rl (a : Str) (b : Int) : decide ((Sum.inr a : Key) = Sum.inl b) = false := decide_eq_false (fun q => nomatch q)
noncomputable def mixKind (prog : Program) (w : World) : PySem.KeyKind prog w Key where
  is := keyIs
  hash := keyH w
  inj := fun v a b ha hb => by
    rcases keyIs_shape ha with ⟨i, t, rfl, rfl⟩ | ⟨x, t, rfl, rfl⟩
    · rcases keyIs_shape hb with ⟨j, u, rfl, e⟩ | ⟨y, u, rfl, e⟩
      · injection e with e1 _; rw [e1]
      · exact nomatch e
    · rcases keyIs_shape hb with ⟨j, u, rfl, e⟩ | ⟨y, u, rfl, e⟩
      · exact nomatch e
      · injection e with e1 _; rw [e1]
  byValue := fun k v h => by
    rcases keyIs_shape h with ⟨i, t, rfl, rfl⟩ | ⟨x, t, rfl, rfl⟩ <;> rfl
  pyHash := fun hv h => by
    rcases keyIs_shape hv with ⟨i, t, rfl, rfl⟩ | ⟨x, t, rfl, rfl⟩
    · exact wpAny_pyHash_int h
    · exact wpAny_pyHash_str h
  eqBool := fun hu hv h => by
    rcases keyIs_shape hu with ⟨i, t, rfl, rfl⟩ | ⟨x, t, rfl, rfl⟩
    · rcases keyIs_shape hv with ⟨j, u, rfl, rfl⟩ | ⟨y, u, rfl, rfl⟩
      · rw [key_ll] at h; exact wpAny_eqBool_int h
      · rw [key_lr] at h; exact SeqAt.EqAt.int_str i t y u _ _ _ _ h
    · rcases keyIs_shape hv with ⟨j, u, rfl, rfl⟩ | ⟨y, u, rfl, rfl⟩
      · rw [key_rl] at h; exact SeqAt.EqAt.str_int x t j u _ _ _ _ h
      · rw [key_rr] at h; exact wpAny_eqBool_str h
  «strs» := fun k x t v h => by
    rcases keyIs_shape h with ⟨i, u, rfl, e⟩ | ⟨y, u, rfl, e⟩
    · exact nomatch e
    · injection e with e1 _
      subst e1
      cases v <;> rfl
end L2
namespace L2
open PySem PySem.Spec PyProof.Rows
inductive V where
  | non | bl (b : Bool) | int (i : Int) | str (x : Str) | byt (b : Array UInt8) | flt (b : UInt64) | ref (a : Addr) | ty (n : String)
  deriving DecidableEq
noncomputable def RelV : V → Value → Prop
  | .non, u => u = Value.none
  | .bl b, u => u = Value.bool b
  | .int i, u => ∃ t, u = Value.int i t
  | .str x, u => ∃ t, u = Value.str x t
  | .byt b, u => ∃ t, u = Value.bytes b t
  | .flt b, u => ∃ t, u = Value.float b t
  | .ref a, u => u = Value.ref a
  | .ty n, u => u = Value.type n
noncomputable abbrev Vals : List V → List Value → Prop := Paired RelV
theorem Vals.length {xs : List V} {us : List Value} (r : Vals xs us) : xs.length = us.length := Paired.length r
theorem Vals.get : ∀ {xs : List V} {us : List Value} {i : Nat} {x : V}, Vals xs us → xs[i]? = some x → ∃ u, us[i]? = some u ∧ RelV x u
  | _, _, _, _, .nil, e => by simp at e
  | _, _, 0, _, .cons r _, e => by simp at e; subst e; exact ⟨_, rfl, r⟩
  | _, _, i + 1, x, .cons _ t, e => by
    obtain ⟨u, h1, h2⟩ := Vals.get (i := i) (x := x) t (by simpa using e)
    exact ⟨u, by simpa using h1, h2⟩
theorem Vals.set {x : V} {u : Value} (r : RelV x u) : ∀ {xs : List V} {us : List Value} (i : Nat), Vals xs us → Vals (xs.set i x) (us.set i u)
  | _, _, _, .nil => .nil
  | _, _, 0, .cons _ t => .cons r t
  | _, _, i + 1, .cons q t => .cons q (Vals.set r i t)
theorem Vals.append : ∀ {xs ys : List V} {us ws : List Value}, Vals xs us → Vals ys ws → Vals (xs ++ ys) (us ++ ws)
  | _, _, _, _, .nil, s => s
  | _, _, _, _, .cons r t, s => .cons r (Vals.append t s)
theorem Vals.take : ∀ {xs : List V} {us : List Value} (n : Nat), Vals xs us → Vals (xs.take n) (us.take n)
  | _, _, 0, _ => .nil
  | _, _, _ + 1, .nil => .nil
  | _, _, n + 1, .cons r t => .cons r (Vals.take n t)
theorem Vals.drop : ∀ {xs : List V} {us : List Value} (n : Nat), Vals xs us → Vals (xs.drop n) (us.drop n)
  | _, _, 0, r => r
  | _, _, _ + 1, .nil => .nil
  | _, _, n + 1, .cons _ t => Vals.drop n t
noncomputable def RelO : Option V → Option Value → Prop
  | some v, some u => RelV v u
  | none, none => True
  | _, _ => False
noncomputable def KV {κ : Type} : List (κ × V) → List (κ × Value) → Prop := Paired fun (p : κ × V) (q : κ × Value) => p.1 = q.1 ∧ RelV p.2 q.2
noncomputable def kV : Key → V
  | .inl i => .int i
  | .inr x => .str x
inductive HO where
  
  | lst (xs : List V)
  
  | tup (xs : List V)
  
  | dK (kvs : List (Key × V)) | dT (kvs : List (List Key × V))
  
  | set (S : Int → Bool) (n : Nat)
  
  | ins (C dx : Addr) (fs : List (Str × V))
  
  | own (x : Addr)
  
  | xd (fs : List (Str × V))
  
  | met (f x : Addr)
  
  | rng (lo hi : Int)
  
  | frz (o : Obj) (u : HO)
  
  | tbl (ps : Array Value)
  
  | ext (φ : Heap → Prop)
noncomputable abbrev Hp := Addr → Option HO
noncomputable def upd (H : Hp) (a : Addr) (o : HO) : Hp := fun b => if b = a then some o else H b
theorem upd_same {H : Hp} {a : Addr} {o : HO} : upd H a o a = some o := by unfold upd; rw [if_pos rfl]
theorem upd_ne {H : Hp} {a b : Addr} {o : HO} (h : b ≠ a) : upd H a o b = H b := by unfold upd; rw [if_neg h]
theorem ne_of_none {H : Hp} {a b : Addr} {o : HO} (h : H a = some o) (h' : H b = none) : a ≠ b := by
  intro e; subst e; rw [h] at h'; cases h'
section
variable (P : Program) (w : World)
noncomputable def ObjOk (H : Hp) (h : Heap) (a : Addr) : HO → Prop
  | .lst xs => xs.length ≤ sizeLine ∧ ∃ (its : List Value) (n : Nat), Vals xs its ∧ h.get? a = some { cls := .type "list", data := .seq its.toArray n }
  | .tup xs => xs.length ≤ sizeLine ∧ ∃ its : List Value, Vals xs its ∧ IsTup h a its.toArray
  | .dK kvs => kvs.length ≤ sizeLine ∧ (a == sysModules) = false ∧ ∃ vs, KV kvs vs ∧ h.DictOf (mixKind P w) a vs
  | .dT kvs => kvs.length ≤ sizeLine ∧ (a == sysModules) = false ∧ ∃ xs : List (List Key × Addr × Value),
      Paired (fun (p : List Key × V) (q : List Key × Addr × Value) => p.1 = q.1 ∧ H q.2.1 = some (.tup (p.1.map kV)) ∧ RelV p.2 q.2.2) kvs xs ∧
      ∃ o es ep, h.get? a = some o ∧ o.ExactDict ∧ o.data = .dict es ep ∧ es.toList = xs.map (entryOfKey (tupleKind (mixKind P w))) ∧ (xs.map (·.1)).Nodup
  | .set S n => h.SetOf (intKind P w) a S n
  | .ins C dx fs => H dx = some (.own a) ∧ fs.length ≤ 1000 ∧ dx ≠ a ∧ h.get? a = some (PySem.W.instObj C dx) ∧
      ∃ mA, h.Ns1 dx mA ∧ (∀ f, RelO (fs.lookup f) (mA f)) ∧ PySem.Within mA (fs.map (·.1))
  | .own _ => ∃ o, h.get? a = some o
  | .xd fs => ∃ mA, h.Ns1 a mA ∧ ∀ f, RelO (fs.lookup f) (mA f)
  | .rng lo hi => ∃ t u v, h.get? a = some { cls := .type "range", data := .fields #[.int lo t, .int hi u, .int 1 v] }
  | .frz o u => h.get? a = some o ∧ ObjOk H h a u
  | .tbl ps => h.get? a = some { cls := .none, data := .fields ps }
  | .met f x => h.get? a = some (PySem.W.methodObj (.ref f) (.ref x))
  | .ext φ => φ h ∧ (∃ o, h.get? a = some o) ∧ ∀ h1 h2 : Heap, φ h1 → (∀ o, h1.get? a = some o → h2.get? a = some o) → φ h2
noncomputable def HOk (H : Hp) (h : Heap) : Prop := ∀ a o, H a = some o → ObjOk P w H h a o
end
section
variable {P : Program} {w : World} {H H' : Hp} {h h' : Heap} {a : Addr} {o : HO}
theorem ObjOk.lt (x : ObjOk P w H h a o) : a < h.objs.size := by
  cases o with
  | lst xs => obtain ⟨_, _, _, _, e⟩ := x; exact Heap.lt_size e
  | tup xs => obtain ⟨_, _, _, p⟩ := x; exact p.lt
  | dK kvs => obtain ⟨_, _, _, _, o, _, _, e, _⟩ := x; exact Heap.lt_size e
  | dT kvs => obtain ⟨_, _, _, _, o, _, _, e, _⟩ := x; exact Heap.lt_size e
  | set S n => obtain ⟨o, _, _, _, e, _⟩ := x; exact Heap.lt_size e
  | ins C dx fs => obtain ⟨_, _, _, e, _⟩ := x; exact Heap.lt_size e
  | own y => obtain ⟨_, e⟩ := x; exact Heap.lt_size e
  | xd fs => obtain ⟨_, ⟨_, _, _, e, _⟩, _⟩ := x; exact Heap.lt_size e
  | rng lo hi => obtain ⟨_, _, _, e⟩ := x; exact Heap.lt_size e
  | frz ob u => obtain ⟨e, _⟩ := x; exact Heap.lt_size e
  | tbl ps => exact Heap.lt_size (show h.get? a = some _ from x)
  | met f y => exact Heap.lt_size (show h.get? a = some _ from x)
  | ext φ => obtain ⟨_, ⟨_, e⟩, _⟩ := x; exact Heap.lt_size e
theorem Paired.mapP {α β : Type} {F G : α → β → Prop} : ∀ {l₁ : List α} {l₂ : List β}, Paired F l₁ l₂ → (∀ a b, F a b → G a b) → Paired G l₁ l₂
  | _, _, .nil, _ => .nil
  | _, _, .cons r t, f => .cons (f _ _ r) (Paired.mapP t f)
theorem ObjOk.stay (x : ObjOk P w H h a o) (k : ∀ b u, (b = a ∨ H b = some (.own a)) → h.get? b = some u → h'.get? b = some u)
    (ho : ∀ b, H b = some (.own a) → H' b = some (.own a)) (ht : ∀ b xs, H b = some (.tup xs) → H' b = some (.tup xs)) : ObjOk P w H' h' a o := by
  induction o with
  | lst xs => obtain ⟨z, its, n, r, e⟩ := x; exact ⟨z, its, n, r, k _ _ (.inl rfl) e⟩
  | tup xs => obtain ⟨z, its, r, ob, e, c⟩ := x; exact ⟨z, its, r, ob, k _ _ (.inl rfl) e, c⟩
  | dK kvs => obtain ⟨z, y, vs, r, ob, es, ep, e, c⟩ := x; exact ⟨z, y, vs, r, ob, es, ep, k _ _ (.inl rfl) e, c⟩
  | dT kvs =>
    obtain ⟨z, y, xs, r, ob, es, ep, e, c⟩ := x
    exact ⟨z, y, xs, Paired.mapP r fun p q z => ⟨z.1, ht _ _ z.2.1, z.2.2⟩, ob, es, ep, k _ _ (.inl rfl) e, c⟩
  | set S n => obtain ⟨ob, es, ep, t, e, c⟩ := x; exact ⟨ob, es, ep, t, k _ _ (.inl rfl) e, c⟩
  | ins C dx fs =>
    obtain ⟨d, z, ne, e, mA, ⟨od, es, ep, e2, c⟩, r⟩ := x
    exact ⟨ho _ d, z, ne, k _ _ (.inl rfl) e, mA, ⟨od, es, ep, k _ _ (.inr d) e2, c⟩, r⟩
  | own y => obtain ⟨ob, e⟩ := x; exact ⟨ob, k _ _ (.inl rfl) e⟩
  | xd fs => obtain ⟨mA, ⟨od, es, ep, e, c⟩, r⟩ := x; exact ⟨mA, ⟨od, es, ep, k _ _ (.inl rfl) e, c⟩, r⟩
  | rng lo hi => obtain ⟨t, u, v, e⟩ := x; exact ⟨t, u, v, k _ _ (.inl rfl) e⟩
  | frz ob u ih => obtain ⟨e, q⟩ := x; exact ⟨k _ _ (.inl rfl) e, ih q⟩
  | tbl ps =>
    have e : h.get? a = some { cls := .none, data := .fields ps } := x
    show h'.get? a = some { cls := .none, data := .fields ps }
    exact k a _ (.inl rfl) e
  | met f y =>
    have e : h.get? a = some (PySem.W.methodObj (.ref f) (.ref y)) := x
    show h'.get? a = some (PySem.W.methodObj (.ref f) (.ref y))
    exact k a _ (.inl rfl) e
  | ext φ => obtain ⟨p, ⟨o, e⟩, st⟩ := x; exact ⟨st _ _ p fun o q => k _ _ (.inl rfl) q, ⟨o, k _ _ (.inl rfl) e⟩, st⟩
theorem HOk.lt (x : HOk P w H h) (e : H a = some o) : a < h.objs.size := (x a o e).lt
theorem HOk.fresh (x : HOk P w H h) (e : h.objs.size ≤ a) : H a = none := by
  cases q : H a with
  | none => rfl
  | some u => exact absurd (Nat.lt_of_lt_of_le (x.lt q) e) (Nat.lt_irrefl _)
theorem HOk.kept (x : HOk P w H h) (k : ∀ b u, h.get? b = some u → h'.get? b = some u) : HOk P w H h' := fun a o e =>
  (x a o e).stay (fun b u _ q => k b u q) (fun _ q => q) fun _ _ q => q
theorem HOk.laid (x : HOk P w H h) (k : ∀ b u, h.get? b = some u → h'.get? b = some u) (hp : h.objs.size ≤ a) (new : ObjOk P w (upd H a o) h' a o) : HOk P w (upd H a o) h' := fun b u e => by
  have hn := x.fresh hp
  by_cases hb : b = a
  · subst hb; rw [upd_same] at e; cases e; exact new
  · rw [upd_ne hb] at e
    exact (x b u e).stay (fun c v _ q => k c v q) (fun c q => by rw [upd_ne (ne_of_none q hn)]; exact q) fun c xs q => by rw [upd_ne (ne_of_none q hn)]; exact q
end
noncomputable def Rd (H : Hp) (a : Addr) (u : HO) : Prop := H a = some u ∨ ∃ o, H a = some (.frz o u)
theorem Rd.of {H : Hp} {a : Addr} {u : HO} (h : H a = some u) : Rd H a u := .inl h
theorem Rd.ok {P : Program} {w : World} {H : Hp} {h : Heap} {a : Addr} {u : HO} (r : Rd H a u) (x : HOk P w H h) : ObjOk P w H h a u := by
  rcases r with r | ⟨o, r⟩
  · exact x a u r
  · obtain ⟨_, q⟩ := x a _ r
    exact q
noncomputable def Mut : Option HO → Prop
  | some (.lst _) => True
  | some (.dK _) => True
  | some (.dT _) => True
  | some (.set _ _) => True
  | some (.ins _ _ _) => True
  | some (.ext _) => True
  | _ => False
section
variable {P : Program} {w : World} {H : Hp} {h h' : Heap} {x e : Addr} {o' : HO}
theorem HOk.write (ok : HOk P w H h) (mu : Mut (H x)) (he : e = x ∨ H e = some (.own x)) (k : ∀ b u, b ≠ e → h.get? b = some u → h'.get? b = some u) (heo : ∃ u, h'.get? e = some u)
    (new : ObjOk P w (upd H x o') h' x o') : HOk P w (upd H x o') h' := fun b u q => by
  have nown : ∀ c y, H c = some (.own y) → c ≠ x := fun c y r z => by subst z; rw [r] at mu; exact mu
  have ntup : ∀ c xs, H c = some (.tup xs) → c ≠ x := fun c xs r z => by subst z; rw [r] at mu; exact mu
  by_cases hb : b = x
  · subst hb; rw [upd_same] at q; cases q; exact new
  · rw [upd_ne hb] at q
    by_cases hbe : b = e
    · have q' : H b = some (.own x) := by
        rcases he with z | z
        · exact absurd (hbe.trans z) hb
        · rw [hbe]; exact z
      rw [q] at q'; cases q'
      obtain ⟨v, hv⟩ := heo
      exact ⟨v, by rw [hbe]; exact hv⟩
    · refine (ok b u q).stay (fun c v hc r => k c v ?_ r) (fun c r => by rw [upd_ne (nown c b r)]; exact r) fun c xs r => by rw [upd_ne (ntup c xs r)]; exact r
      rcases hc with rfl | hc
      · exact hbe
      · rintro rfl
        rcases he with z | z
        · exact nown c b hc z
        · rw [hc] at z; cases z; exact hb rfl
end
structure Un (fs ex : List Addr) (H H' : Hp) (h h' : Heap) : Prop where
  keep : ∀ b o, h.get? b = some o → H b = none → b ∉ fs → b ∉ ex → h'.get? b = some o
  slot : ∀ b o, h.get? b = some o → H b = none → b ∈ fs → b ∉ ex → ∃ sl, h'.get? b = some { o with slots := sl }
  free : ∀ b o, h.get? b = some o → H b = none → b ∉ ex → H' b = none
  there : ∀ b o, h.get? b = some o → b ∉ ex → ∃ o', h'.get? b = some o'
  tups : ∀ b xs, H b = some (.tup xs) → H' b = some (.tup xs)
  frzs : ∀ b o u, H b = some (.frz o u) → H' b = some (.frz o u)
  tbls : ∀ b ps, H b = some (.tbl ps) → ∃ more, H' b = some (.tbl (ps ++ more))
section
variable {fs fs' ex ex' : List Addr} {H H1 H2 : Hp} {h h1 h2 h' : Heap} {a x e : Addr} {o : HO}
theorem Un.any (u : Un fs ex H H1 h h1) {b : Addr} {ob : Obj} (q : h.get? b = some ob) (n : H b = none) (hx : b ∉ ex) : ∃ sl, h1.get? b = some { ob with slots := sl } := by
  by_cases hb : b ∈ fs
  · exact u.slot b ob q n hb hx
  · exact ⟨ob.slots, u.keep b ob q n hb hx⟩
theorem Un.trans (a : Un fs ex H H1 h h1) (b : Un fs ex H1 H2 h1 h2) : Un fs ex H H2 h h2 where
  keep := fun c ob q n hc hx => b.keep c ob (a.keep c ob q n hc hx) (a.free c ob q n hx) hc hx
  slot := fun c ob q n hc hx => by
    obtain ⟨sl, e1⟩ := a.slot c ob q n hc hx
    obtain ⟨sl', e2⟩ := b.slot c _ e1 (a.free c ob q n hx) hc hx
    exact ⟨sl', e2⟩
  free := fun c ob q n hx => by
    obtain ⟨o', e1⟩ := a.there c ob q hx
    exact b.free c o' e1 (a.free c ob q n hx) hx
  there := fun c ob q hx => by
    obtain ⟨o', e1⟩ := a.there c ob q hx
    exact b.there c o' e1 hx
  tups := fun c xs q => b.tups c xs (a.tups c xs q)
  frzs := fun c ob xs q => b.frzs c ob xs (a.frzs c ob xs q)
  tbls := fun c ps q => by
    obtain ⟨m1, e1⟩ := a.tbls c ps q
    obtain ⟨m2, e2⟩ := b.tbls c _ e1
    exact ⟨m1 ++ m2, by rw [e2, Array.append_assoc]⟩
theorem Un.kept (k : ∀ b u, h.get? b = some u → h'.get? b = some u) : Un fs ex H H h h' :=
  ⟨fun b ob q _ _ _ => k b ob q, fun b ob q _ _ _ => ⟨ob.slots, k b ob q⟩, fun _ _ _ n _ => n, fun b ob q _ => ⟨ob, k b ob q⟩, fun _ _ q => q, fun _ _ _ q => q, fun _ ps q => ⟨#[], by rw [q]; simp⟩⟩
theorem Un.refl : Un fs ex H H h h := Un.kept fun _ _ q => q
theorem Un.laid (k : ∀ b u, h.get? b = some u → h'.get? b = some u) (hp : h.objs.size ≤ a) (hn : H a = none) : Un fs ex H (upd H a o) h h' where
  keep := fun b u q _ _ _ => k b u q
  slot := fun b u q _ _ _ => ⟨u.slots, k b u q⟩
  free := fun b u q n _ => by rw [upd_ne (Nat.ne_of_lt (Nat.lt_of_lt_of_le (Heap.lt_size q) hp))]; exact n
  there := fun b u q _ => ⟨u, k b u q⟩
  tups := fun b xs q => by rw [upd_ne (ne_of_none q hn)]; exact q
  frzs := fun b u xs q => by rw [upd_ne (ne_of_none q hn)]; exact q
  tbls := fun b ps q => ⟨#[], by rw [upd_ne (ne_of_none q hn), q]; simp⟩
theorem Un.write (mu : Mut (H x)) (he : e = x ∨ H e = some (.own x)) (k : ∀ b u, b ≠ e → h.get? b = some u → h'.get? b = some u) (heo : ∃ u, h'.get? e = some u) : Un fs ex H (upd H x o) h h' := by
  have hx : ∀ b, H b = none → b ≠ x := fun b n z => by subst z; rw [n] at mu; exact mu
  have hb : ∀ b, H b = none → b ≠ e := fun b n z => by
    subst z
    rcases he with r | r
    · exact hx b n r
    · rw [n] at r; cases r
  have hm : ∀ b u, H b = some u → ¬ Mut (some u) → b ≠ x := fun b u q nm z => by subst z; rw [q] at mu; exact nm mu
  refine ⟨fun b u q n _ _ => k b u (hb b n) q, fun b u q n _ _ => ⟨u.slots, k b u (hb b n) q⟩, fun b u q n _ => by rw [upd_ne (hx b n)]; exact n, fun b u q _ => ?_,
    fun b xs q => by rw [upd_ne (hm b _ q fun z => z)]; exact q, fun b u xs q => by rw [upd_ne (hm b _ q fun z => z)]; exact q, fun b ps q => ⟨#[], by rw [upd_ne (hm b _ q fun z => z), q]; simp⟩⟩
  by_cases hbe : b = e
  · subst hbe; exact heo
  · exact ⟨u, k b u hbe q⟩
theorem Un.mono (u : Un fs ex H H1 h h1) (hs : ∀ b ∈ fs, b ∈ fs') (hx : ∀ b ∈ ex, b ∈ ex') : Un fs' ex' H H1 h h1 :=
  ⟨fun b ob q n hb he => u.keep b ob q n (fun z => hb (hs b z)) fun z => he (hx b z), fun _ _ q n _ he => u.any q n fun z => he (hx _ z), fun b ob q n he => u.free b ob q n fun z => he (hx b z), fun b ob q he => u.there b ob q fun z => he (hx b z), u.tups, u.frzs, u.tbls⟩
end
noncomputable def trk (h : Heap) (H : Hp) : List Addr := (List.range h.objs.size).filter fun a => (H a).isSome
noncomputable def hidT (h : Heap) (H : Hp) : Heap := PySem.W.hideAll h (trk h H)
theorem hidT_size (h : Heap) (H : Hp) : (hidT h H).objs.size = h.objs.size := PySem.W.hideAll_size _ _
theorem hidT_get {h : Heap} {H : Hp} {b : Addr} {o : Obj} (e : h.get? b = some o) (n : H b = none) : (hidT h H).get? b = some o :=
  PySem.W.hideAll_get _ e fun hm => by
    have q : (H b).isSome = true := (List.mem_filter.mp hm).2
    rw [n] at q; simp at q
theorem of_hidT {h : Heap} {H : Hp} {b : Addr} {o : Obj} (e : (hidT h H).get? b = some o) : h.get? b = some o ∧ H b = none := by
  have e' : h.get? b = some o := PySem.W.of_hideAll (trk h H) e
  refine ⟨e', ?_⟩
  cases q : H b with
  | none => rfl
  | some x =>
    have hm : b ∈ trk h H := List.mem_filter.mpr ⟨List.mem_range.mpr (Heap.lt_size e'), by simp [q]⟩
    have z : (hidT h H).get? b = none := PySem.W.hideAll_none (trk h H) hm
    rw [z] at e; cases e
noncomputable def allNews (g h : Heap) (L : Addr) : List (Addr × Obj) := (List.range h.objs.size).filterMap fun a => if a = L ∨ (g.get? a).isSome = true then none else (h.get? a).map fun o => (a, o)
noncomputable def rest (g h : Heap) (L d : Addr) : List (Addr × Obj) := (allNews g h L).filter fun p => decide (p.1 ≠ d)
end L2
namespace L2
open PySem PySem.Spec PyProof.Rows
structure Mod (K : PySem.W.Frag) (mg : Str → Option Value) (base : Heap) : Prop where
  kin : K.In base
  glob : base.Ns mainGlobals mg
  blt : ∃ mb, base.Ns builtinsNs mb ∧ ∀ x : Str, x ≠ "__name__" → mb x = bootBuiltins x
  nolimit : base.NoLimit
structure Cx where
  prog : Program
  w : World
  K : PySem.W.Frag
  mg : Str → Option Value
  base : Heap
  A : Around
  N : List Str
  s₀ : Shared
  H₀ : Hp
  env : Env
  outer : List Env
  stack : List Env
  ex : List Addr
  fn : Str → Bool
  calm : Bool
  pn : List (Addr × Obj)
  xe : Value → Shared → Prop
noncomputable def frs (l : List Env) : List Addr := l.filterMap (·.frame)
noncomputable abbrev Cx.fs (X : Cx) : List Addr := frs X.outer
noncomputable def Vis (sc : Scope) (x : Str) : Prop := sc.names.lookup x = some .local ∨ sc.names.lookup x = some .cell ∨ sc.names.lookup x = some .free
noncomputable def Loc (sc : Scope) (x : Str) : Prop := sc.names.lookup x = some .local ∨ sc.names.lookup x = some .cell
noncomputable def Look (env : Env) (h : Heap) (m : Str → Option Value) (x : Str) (u : Value) : Prop :=
  (env.kindOf x = some .local ∧ m x = some u) ∨ ((env.kindOf x = some .cell ∨ env.kindOf x = some .free) ∧ ∃ c, env.cells.lookup x = some c ∧ h.IsCell c (some u))
structure Cx.Ok (X : Cx) : Prop where
  mod : Mod X.K X.mg X.base
  kind : X.env.scope.kind = .function
  glob : X.env.globals = mainGlobals
  blt : X.env.builtins = builtinsNs
  above : X.s₀.heap.objs.size ≤ X.env.locals
  inj : ∀ x y c, X.env.cells.lookup x = some c → X.env.cells.lookup y = some c → x = y
  has : ∀ x, (X.env.kindOf x = some .cell ∨ X.env.kindOf x = some .free) → ∃ c, X.env.cells.lookup x = some c
  cab : ∀ x c, X.fn x = true → X.env.cells.lookup x = some c → X.s₀.heap.objs.size ≤ c
  hd : X.calm = true → X.A.handled = none
  frames : X.A.frames = some X.stack
  stk : X.stack = X.outer ∨ (X.stack = X.env :: X.outer ∧ X.env.frame = some X.env.locals)
  exf : ∀ b ∈ X.ex, b ≠ X.env.locals ∧ ∀ x c, X.env.cells.lookup x = some c → c ≠ b
  bs : ∀ b o, X.base.get? b = some o → X.s₀.heap.get? b = some o ∧ X.H₀ b = none
  bsz : X.base.objs.size ≤ X.s₀.heap.objs.size
  noex : ∀ b o, X.base.get? b = some o → b ∉ X.ex
  exfs : ∀ b ∈ X.ex, b ∉ X.fs
  funs : X.s₀.heap.FunFrames X.base X.outer
  frf : ∀ b ∈ X.fs, X.H₀ b = none
structure Inv (X : Cx) (pins : List (Addr × Obj)) (σ : List (Option V)) (H : Hp) (s : Shared) : Prop where
  ok : X.Ok
  os : s.os = X.s₀.os
  bare : AllBare s.gens
  base : Un X.fs X.ex X.H₀ H X.s₀.heap s.heap
  loc : ∃ m, s.heap.Ns X.env.locals m ∧ ∀ (i : Nat) (x : Str) (v : V), X.N[i]? = some x → σ[i]? = some (some v) → Vis X.env.scope x → ∃ u, RelV v u ∧ Look X.env s.heap m x u
  cell : ∀ x c, X.env.cells.lookup x = some c → ∃ v, s.heap.IsCell c v
  free : H X.env.locals = none
  freeC : ∀ x c, X.env.cells.lookup x = some c → H c = none
  pin : ∀ p ∈ X.pn ++ pins, s.heap.get? p.1 = some p.2 ∧ H p.1 = none ∧ p.1 ≠ X.env.locals ∧ p.1 ∉ X.fs ∧ ∀ v, p.2.data ≠ .cell v
  hok : HOk X.prog X.w H s.heap
  len : σ.length = X.N.length
section
variable {X : Cx} {pins : List (Addr × Obj)} {σ : List (Option V)} {H H' : Hp} {s : Shared} {h' : Heap}
theorem Cx.Ok.nofr (ok : X.Ok) {b : Addr} {o : Obj} (e : X.base.get? b = some o) : b ∉ X.fs := fun hb => by
  have := (ok.funs.mem hb).1
  rw [e] at this; cases this
theorem Inv.bs (I : Inv X pins σ H s) : ∀ b o, X.base.get? b = some o → s.heap.get? b = some o ∧ H b = none := fun b o e =>
  ⟨I.base.keep b o (I.ok.bs b o e).1 (I.ok.bs b o e).2 (I.ok.nofr e) (I.ok.noex b o e), I.base.free b o (I.ok.bs b o e).1 (I.ok.bs b o e).2 (I.ok.noex b o e)⟩
theorem Inv.bk (I : Inv X pins σ H s) : ∀ b o, X.base.get? b = some o → s.heap.get? b = some o := fun b o e => (I.bs b o e).1
theorem Inv.mod (I : Inv X pins σ H s) : Mod X.K X.mg X.base := I.ok.mod
theorem Inv.kIn (I : Inv X pins σ H s) : X.K.In s.heap := I.ok.mod.kin.keeps I.bk
theorem Inv.nolimit (I : Inv X pins σ H s) : s.heap.NoLimit := I.ok.mod.nolimit.keeps I.bk
theorem Inv.fr (I : Inv X pins σ H s) : ∃ m, Fr X.base X.env.locals s.heap m :=
  let ⟨m, hn, _⟩ := I.loc
  ⟨m, hn, I.bk, Nat.le_trans I.ok.bsz I.ok.above⟩
theorem Inv.lt (I : Inv X pins σ H s) : X.env.locals < s.heap.objs.size := let ⟨_, hn, _⟩ := I.loc; hn.lt
theorem Inv.sz (I : Inv X pins σ H s) : X.s₀.heap.objs.size ≤ s.heap.objs.size := Nat.le_trans I.ok.above (Nat.le_of_lt I.lt)
theorem Inv.nofs (I : Inv X pins σ H s) {a : Addr} (h : s.heap.objs.size ≤ a) : a ∉ X.fs := fun hb => by
  obtain ⟨_, o, ho, _⟩ := I.ok.funs.mem hb
  exact absurd (Nat.lt_of_lt_of_le (Heap.lt_size ho) (Nat.le_trans I.sz h)) (Nat.lt_irrefl _)
theorem Inv.cne (I : Inv X pins σ H s) : ∀ x c, X.env.cells.lookup x = some c → c ≠ X.env.locals := fun x c e z => by
  obtain ⟨v, o, ho, hd⟩ := I.cell x c e
  obtain ⟨m, ⟨o', es, ep, ho', hd', _⟩, _⟩ := I.loc
  rw [z, ho'] at ho; cases ho; rw [hd'] at hd; cases hd
theorem Inv.funs (I : Inv X pins σ H s) : s.heap.FunFrames X.base X.outer := by
  have all : ∀ (l : List Env), (∀ b ∈ frs l, b ∈ X.fs) → X.s₀.heap.FunFrames X.base l → s.heap.FunFrames X.base l := by
    intro l
    induction l with
    | nil => intro _ _; trivial
    | cons env r ih =>
      intro hs hl
      obtain ⟨hk, ⟨L, o, hf, hn, ho, hd⟩, hr⟩ := hl
      have hL : L ∈ X.fs := hs L (by unfold frs; rw [List.filterMap_cons, hf]; exact List.mem_cons_self)
      obtain ⟨sl, e⟩ := I.base.slot L o ho (I.ok.frf L hL) hL fun z => I.ok.exfs L z hL
      exact ⟨hk, ⟨L, _, hf, hn, e, hd⟩, ih (fun b hb => hs b (by unfold frs; rw [List.filterMap_cons, hf]; exact List.mem_cons_of_mem _ hb)) hr⟩
  exact all X.outer (fun _ hb => hb) I.ok.funs
theorem Inv.stack (I : Inv X pins σ H s) : s.heap.FunFrames X.base X.stack := by
  rcases I.ok.stk with e | ⟨e, hf⟩
  · rw [e]; exact I.funs
  · rw [e]
    obtain ⟨m, hn, _⟩ := I.loc
    refine .cons (by rw [I.ok.kind]; decide) hf hn ?_ I.funs
    exact Heap.get?_none_of_le (Nat.le_trans I.ok.bsz I.ok.above)
theorem Inv.stkSub (I : Inv X pins σ H s) : ∀ b ∈ frs X.stack, b ∈ X.env.locals :: X.fs := fun b hb => by
  rcases I.ok.stk with e | ⟨e, hf⟩
  · rw [e] at hb; exact List.mem_cons_of_mem _ hb
  · rw [e] at hb
    unfold frs at hb
    rw [List.filterMap_cons, hf] at hb
    exact hb
theorem Inv.stkFree (I : Inv X pins σ H s) : ∀ b ∈ frs X.stack, H b = none := fun b hb => by
  rcases List.mem_cons.mp (I.stkSub b hb) with e | hb
  · rw [e]; exact I.free
  · obtain ⟨_, o, ho, _⟩ := I.ok.funs.mem hb
    exact I.base.free b o ho (I.ok.frf b hb) fun z => I.ok.exfs b z hb
theorem Inv.step {g' : Array GenState} {t' : Nat} {d' : Drawn} {ch : List Addr} (I : Inv X pins σ H s)
    (hch : ∀ b ∈ ch, (b ∈ X.ex ∨ X.s₀.heap.objs.size ≤ b) ∧ b ≠ X.env.locals ∧ (∀ x c, X.env.cells.lookup x = some c → c ≠ b) ∧ ∀ p ∈ X.pn ++ pins, p.1 ≠ b)
    (keep : ∀ b o, b ≠ X.env.locals → b ∉ X.fs → b ∉ ch → s.heap.get? b = some o → H b = none → h'.get? b = some o)
    (slot : ∀ b o, b ≠ X.env.locals → b ∈ X.fs → b ∉ ch → s.heap.get? b = some o → H b = none → ∃ sl, h'.get? b = some { o with slots := sl }) (free : ∀ b o, b ∉ ch → s.heap.get? b = some o → H b = none → H' b = none)
    (there : ∀ b o, b ∉ ch → s.heap.get? b = some o → ∃ o', h'.get? b = some o')
    (tups : ∀ b xs, H b = some (.tup xs) → H' b = some (.tup xs)) (frzs : ∀ b o u, H b = some (.frz o u) → H' b = some (.frz o u)) (tbls : ∀ b ps, H b = some (.tbl ps) → ∃ more, H' b = some (.tbl (ps ++ more)))
    (ns : ∀ m, s.heap.Ns X.env.locals m → h'.Ns X.env.locals m) (hok : HOk X.prog X.w H' h') (hg : AllBare g') :
    Inv X pins σ H' { s with heap := h', gens := g', drawn := d', toks := t' } := by
  have neL : ∀ b o, X.s₀.heap.get? b = some o → b ≠ X.env.locals := fun b o e => Nat.ne_of_lt (Nat.lt_of_lt_of_le (Heap.lt_size e) I.ok.above)
  have neC : ∀ b o, X.s₀.heap.get? b = some o → b ∉ X.ex → b ∉ ch := fun b o e hx hb => by
    rcases (hch b hb).1 with z | z
    · exact hx z
    · exact absurd (Nat.lt_of_lt_of_le (Heap.lt_size e) z) (Nat.lt_irrefl _)
  have cellK : ∀ x c, X.env.cells.lookup x = some c → ∀ v, s.heap.IsCell c v → h'.IsCell c v := fun x c e v ⟨o, ho, hd⟩ => by
    have nch : c ∉ ch := fun z => (hch c z).2.2.1 x c e rfl
    by_cases hc : c ∈ X.fs
    · obtain ⟨sl, q⟩ := slot c o (I.cne x c e) hc nch ho (I.freeC x c e)
      exact ⟨_, q, hd⟩
    · exact ⟨o, keep c o (I.cne x c e) hc nch ho (I.freeC x c e), hd⟩
  refine ⟨I.ok, I.os, hg, ⟨fun b o e n hb hx => ?_, fun b o e n hb hx => ?_, fun b o e n hx => ?_, fun b o e hx => ?_, fun b xs e => tups b xs (I.base.tups b xs e), fun b o xs e => frzs b o xs (I.base.frzs b o xs e), fun b ps e => ?_⟩, ?_, fun x c e => ?_, ?_, fun x c e => ?_, fun p hp => ?_, hok, I.len⟩
  · exact keep b o (neL b o e) hb (neC b o e hx) (I.base.keep b o e n hb hx) (I.base.free b o e n hx)
  · obtain ⟨sl, e1⟩ := I.base.slot b o e n hb hx
    obtain ⟨sl', e2⟩ := slot b _ (neL b o e) hb (neC b o e hx) e1 (I.base.free b o e n hx)
    exact ⟨sl', e2⟩
  · obtain ⟨o', e1⟩ := I.base.there b o e hx
    exact free b o' (neC b o e hx) e1 (I.base.free b o e n hx)
  · obtain ⟨o', e1⟩ := I.base.there b o e hx
    exact there b o' (neC b o e hx) e1
  · obtain ⟨m1, e1⟩ := I.base.tbls b ps e
    obtain ⟨m2, e2⟩ := tbls b _ e1
    exact ⟨m1 ++ m2, by rw [e2, Array.append_assoc]⟩
  · obtain ⟨m, hn, hl⟩ := I.loc
    refine ⟨m, ns m hn, fun i x v e1 e2 e3 => ?_⟩
    obtain ⟨u, r, l⟩ := hl i x v e1 e2 e3
    refine ⟨u, r, ?_⟩
    rcases l with l | ⟨k, c, e, z⟩
    · exact .inl l
    · exact .inr ⟨k, c, e, cellK x c e _ z⟩
  · obtain ⟨v, z⟩ := I.cell x c e
    exact ⟨v, cellK x c e v z⟩
  · obtain ⟨m, ⟨o, _, _, ho, _⟩, _⟩ := I.loc
    exact free _ o (fun z => (hch _ z).2.1 rfl) ho I.free
  · obtain ⟨v, o, ho, hd⟩ := I.cell x c e
    exact free c o (fun z => (hch c z).2.2.1 x c e rfl) ho (I.freeC x c e)
  · obtain ⟨e, n, ne, nf, d⟩ := I.pin p hp
    have nch : p.1 ∉ ch := fun z => (hch p.1 z).2.2.2 p hp rfl
    exact ⟨keep p.1 p.2 ne nf nch e n, free p.1 p.2 nch e n, ne, nf, d⟩
theorem Inv.un {t' : Nat} (I : Inv X pins σ H s) (u : Un X.fs [] H H' s.heap h') (hok : HOk X.prog X.w H' h') : Inv X pins σ H' { s with heap := h', toks := t' } := by
  obtain ⟨m, ⟨o, es, ep, ho, r⟩, _⟩ := id I.loc
  obtain ⟨sl, hL⟩ := u.any ho I.free (by simp)
  exact I.step (g' := s.gens) (d' := s.drawn) (ch := []) (fun _ z => nomatch z) (fun b o _ hb _ e n => u.keep b o e n hb (by simp)) (fun b o _ hb _ e n => u.slot b o e n hb (by simp)) (fun b o _ e n => u.free b o e n (by simp)) (fun b o _ e => u.there b o e (by simp)) u.tups u.frzs u.tbls (fun m' hm => by
    obtain ⟨o', es', ep', ho', r'⟩ := hm
    rw [ho] at ho'; cases ho'
    exact ⟨_, es', ep', hL, r'⟩) hok I.bare
theorem Inv.call {g' : Array GenState} {t' : Nat} {d' : Drawn} {ch : List Addr} (I : Inv X pins σ H s) (u : Un (frs X.stack) ch H H' s.heap h') (hok : HOk X.prog X.w H' h') (hg : AllBare g')
    (hch : ∀ b ∈ ch, (b ∈ X.ex ∨ X.s₀.heap.objs.size ≤ b) ∧ b ≠ X.env.locals ∧ (∀ x c, X.env.cells.lookup x = some c → c ≠ b) ∧ ∀ p ∈ X.pn ++ pins, p.1 ≠ b) :
    Inv X pins σ H' { s with heap := h', gens := g', drawn := d', toks := t' } := by
  obtain ⟨m, ⟨o, es, ep, ho, r⟩, _⟩ := id I.loc
  obtain ⟨sl, hL⟩ := u.any ho I.free fun z => (hch _ z).2.1 rfl
  exact I.step (ch := ch) hch (fun b o hL hb hc e n => u.keep b o e n (fun z => (List.mem_cons.mp (I.stkSub b z)).elim hL hb) hc) (fun b o _ _ hc e n => u.any e n hc) (fun b o hc e n => u.free b o e n hc) (fun b o hc e => u.there b o e hc) u.tups u.frzs u.tbls (fun m' hm => by
    obtain ⟨o', es', ep', ho', r'⟩ := hm
    rw [ho] at ho'; cases ho'
    exact ⟨_, es', ep', hL, r'⟩) hok hg
theorem Inv.turned {t' : Nat} {it : Addr} (I : Inv X pins σ H s) (k : ∀ b o, b ≠ it → s.heap.get? b = some o → h'.get? b = some o) (hn : H it = none) (hL : it ≠ X.env.locals)
    (h1 : it ∈ X.ex ∨ X.s₀.heap.objs.size ≤ it) (h2 : ∀ x c, X.env.cells.lookup x = some c → c ≠ it) (h3 : ∀ p ∈ X.pn ++ pins, p.1 ≠ it) : Inv X pins σ H { s with heap := h', toks := t' } := by
  have nit : ∀ b u, H b = some u → b ≠ it := fun b u e z => by rw [z, hn] at e; cases e
  refine I.step (g' := s.gens) (d' := s.drawn) (ch := [it]) (fun b hb => ?_) (fun b o _ _ hc e _ => k b o (fun z => hc (by simp [z])) e) (fun b o _ _ hc e _ => ⟨o.slots, k b o (fun z => hc (by simp [z])) e⟩) (fun _ _ _ _ n => n)
    (fun b o hc e => ⟨o, k b o (fun z => hc (by simp [z])) e⟩) (fun _ _ e => e) (fun _ _ _ e => e) (fun b ps e => ⟨#[], by rw [e]; simp⟩) (fun m hm => ?_) (fun b u e => ?_) I.bare
  · have e : b = it := by simpa using hb
    subst e
    exact ⟨h1, hL, h2, h3⟩
  · obtain ⟨o, es, ep, ho, r⟩ := hm
    exact ⟨o, es, ep, k _ o (Ne.symm hL) ho, r⟩
  · refine (I.hok b u e).stay (fun c v hc q => k c v ?_ q) (fun _ q => q) fun _ _ q => q
    rcases hc with z | z
    · rw [z]; exact nit b u e
    · exact nit c _ z
theorem Inv.tok (I : Inv X pins σ H s) (t : Nat) : Inv X pins σ H { s with toks := t } := I.un (h' := s.heap) (t' := t) Un.refl I.hok
theorem Inv.kept {t' : Nat} (I : Inv X pins σ H s) (k : ∀ b u, s.heap.get? b = some u → h'.get? b = some u) : Inv X pins σ H { s with heap := h', toks := t' } := I.un (Un.kept k) (I.hok.kept k)
theorem Inv.laid {a : Addr} {o : HO} {t' : Nat} (I : Inv X pins σ H s) (k : ∀ b u, s.heap.get? b = some u → h'.get? b = some u) (hp : s.heap.objs.size ≤ a) (new : ObjOk X.prog X.w (upd H a o) h' a o) :
    Inv X pins σ (upd H a o) { s with heap := h', toks := t' } := I.un (Un.laid k hp (I.hok.fresh hp)) (I.hok.laid k hp new)
theorem Inv.write {x e : Addr} {o : HO} {t' : Nat} (I : Inv X pins σ H s) (mu : Mut (H x)) (he : e = x ∨ H e = some (.own x)) (k : ∀ b u, b ≠ e → s.heap.get? b = some u → h'.get? b = some u) (heo : ∃ u, h'.get? e = some u)
    (new : ObjOk X.prog X.w (upd H x o) h' x o) : Inv X pins σ (upd H x o) { s with heap := h', toks := t' } := I.un (Un.write mu he k heo) (I.hok.write mu he k heo new)
theorem Inv.pins_of {pins' : List (Addr × Obj)} (I : Inv X pins σ H s) (h : ∀ p ∈ pins', s.heap.get? p.1 = some p.2 ∧ H p.1 = none ∧ p.1 ≠ X.env.locals ∧ p.1 ∉ X.fs ∧ ∀ v, p.2.data ≠ .cell v) : Inv X pins' σ H s :=
  ⟨I.ok, I.os, I.bare, I.base, I.loc, I.cell, I.free, I.freeC, fun p hp => (List.mem_append.mp hp).elim (fun z => I.pin p (List.mem_append_left _ z)) (h p), I.hok, I.len⟩
theorem nodup_ix {N : List Str} (hN : N.Nodup) {i j : Nat} {x : Str} (a : N[i]? = some x) (b : N[j]? = some x) : i = j := by
  obtain ⟨h1, e1⟩ := List.getElem?_eq_some_iff.mp a
  obtain ⟨h2, e2⟩ := List.getElem?_eq_some_iff.mp b
  exact (List.getElem_inj hN).mp (e1.trans e2.symm)
theorem store_ok2 {M : Model} {A : Around} {E : Value → Shared → Prop} {i : Nat} {x : Str} {v : V} {u : Value} {Q : Unit → Shared → Prop} (I : Inv X pins σ H s) (hN : X.N.Nodup) (hi : X.N[i]? = some x) (hx : Loc X.env.scope x) (r : RelV v u)
    (h : ∀ s', Inv X pins (σ.set i (some v)) H s' → (∃ a, Heap.SameBut a s.heap s'.heap ∧ (a = X.env.locals ∨ X.env.cells.lookup x = some a)) → Q () s') (hf : X.fn x = true ∨ X.env.scope.names.lookup x = some .local := by first | exact .inl rfl | exact .inr rfl | assumption) : wpAny M A (storeName X.env x u) Q E s := by
  obtain ⟨m, hn, hl⟩ := id I.loc
  have hcls : (X.env.scope.kind == .class || (X.env.scope.kind == .module && X.env.locals != X.env.globals)) = false := by rw [I.ok.kind]; rfl
  have hiσ : i < σ.length := by rw [I.len]; exact (List.getElem?_eq_some_iff.mp hi).1
  have cne := I.cne
  have tracked : ∀ {a : Addr} {h' : Heap}, (∃ o, s.heap.get? a = some o ∧ H a = none) → Heap.SameBut a s.heap h' → HOk X.prog X.w H h' := fun {a h'} ha hs b ob e => by
    obtain ⟨_, _, hfree⟩ := ha
    refine (I.hok b ob e).stay (fun c w' hc q => (hs.2 c ?_).trans q) (fun _ q => q) fun _ _ q => q
    rintro rfl
    rcases hc with rfl | hc
    · rw [hfree] at e; cases e
    · rw [hfree] at hc; cases hc
  rcases hx with hk | hk
  · refine wpAny_storeName_local hk hn (fun h' hn' hs => ?_) hcls
    obtain ⟨oL, _, _, hoL, _⟩ := id hn
    refine h _ ⟨I.ok, I.os, I.bare, ⟨fun b o e n hb hx => ?_, fun b o e n hb hx => ?_, I.base.free, fun b o e hx => ?_, I.base.tups, I.base.frzs, I.base.tbls⟩, ⟨_, hn', fun j y v' e1 e2 e3 => ?_⟩, fun y c e => ?_, I.free, I.freeC, fun p hp => ?_, tracked ⟨oL, hoL, I.free⟩ hs, by simpa using I.len⟩ ⟨_, hs, .inl rfl⟩
    · exact (hs.2 b (Nat.ne_of_lt (Nat.lt_of_lt_of_le (Heap.lt_size e) I.ok.above))).trans (I.base.keep b o e n hb hx)
    · obtain ⟨sl, e1⟩ := I.base.slot b o e n hb hx
      exact ⟨sl, (hs.2 b (Nat.ne_of_lt (Nat.lt_of_lt_of_le (Heap.lt_size e) I.ok.above))).trans e1⟩
    · obtain ⟨o', e1⟩ := I.base.there b o e hx
      exact ⟨o', (hs.2 b (Nat.ne_of_lt (Nat.lt_of_lt_of_le (Heap.lt_size e) I.ok.above))).trans e1⟩
    · by_cases hj : j = i
      · subst hj
        rw [hi] at e1; cases e1
        rw [List.getElem?_set_self hiσ] at e2
        cases e2
        exact ⟨u, r, .inl ⟨hk, by simp⟩⟩
      · rw [List.getElem?_set_ne (Ne.symm hj)] at e2
        obtain ⟨u', r', q⟩ := hl j y v' e1 e2 e3
        refine ⟨u', r', ?_⟩
        rcases q with ⟨k, e⟩ | ⟨k, c, e, z⟩
        · refine .inl ⟨k, ?_⟩
          have : y ≠ x := fun e => hj (nodup_ix hN e1 (e ▸ hi))
          simp [this, e]
        · exact .inr ⟨k, c, e, z.sameBut hs (cne y c e)⟩
    · obtain ⟨w', z⟩ := I.cell y c e
      exact ⟨w', z.sameBut hs (cne y c e)⟩
    · obtain ⟨e, n, ne, nf, d⟩ := I.pin p hp
      exact ⟨(hs.2 p.1 ne).trans e, n, ne, nf, d⟩
  · have hfn : X.fn x = true := by
      rcases hf with z | z
      · exact z
      · rw [z] at hk; cases hk
    obtain ⟨c, hc⟩ := I.ok.has x (.inl hk)
    obtain ⟨w', z⟩ := I.cell x c hc
    refine wpAny_storeName_cell I.ok.kind hk hc z (fun h' hc' hs => ?_)
    obtain ⟨oc, hoc, hocd⟩ := id z
    refine h { s with heap := h' } ⟨I.ok, I.os, I.bare, ⟨fun b o e n hb hx => ?_, fun b o e n hb hx => ?_, I.base.free, fun b o e hx => ?_, I.base.tups, I.base.frzs, I.base.tbls⟩, ⟨m, hn.sameBut hs (Ne.symm (cne x c hc)), fun j y v' e1 e2 e3 => ?_⟩, fun y c' e => ?_, I.free, I.freeC, fun p hp => ?_, tracked ⟨oc, hoc, I.freeC x c hc⟩ hs, by simpa using I.len⟩ ⟨c, hs, .inr hc⟩
    · exact (hs.2 b (Nat.ne_of_lt (Nat.lt_of_lt_of_le (Heap.lt_size e) (I.ok.cab x c hfn hc)))).trans (I.base.keep b o e n hb hx)
    · obtain ⟨sl, e1⟩ := I.base.slot b o e n hb hx
      exact ⟨sl, (hs.2 b (Nat.ne_of_lt (Nat.lt_of_lt_of_le (Heap.lt_size e) (I.ok.cab x c hfn hc)))).trans e1⟩
    · obtain ⟨o', e1⟩ := I.base.there b o e hx
      exact ⟨o', (hs.2 b (Nat.ne_of_lt (Nat.lt_of_lt_of_le (Heap.lt_size e) (I.ok.cab x c hfn hc)))).trans e1⟩
    · by_cases hj : j = i
      · subst hj
        rw [hi] at e1; cases e1
        rw [List.getElem?_set_self hiσ] at e2
        cases e2
        exact ⟨u, r, .inr ⟨.inl hk, c, hc, hc'⟩⟩
      · rw [List.getElem?_set_ne (Ne.symm hj)] at e2
        obtain ⟨u', r', q⟩ := hl j y v' e1 e2 e3
        refine ⟨u', r', ?_⟩
        rcases q with q | ⟨k, c', e, z'⟩
        · exact .inl q
        · refine .inr ⟨k, c', e, z'.sameBut hs ?_⟩
          rintro rfl
          exact hj (nodup_ix hN e1 (I.ok.inj _ _ _ e hc ▸ hi))
    · by_cases hcc : c' = c
      · subst hcc; exact ⟨_, hc'⟩
      · obtain ⟨w2, z2⟩ := I.cell y c' e
        exact ⟨w2, z2.sameBut hs hcc⟩
    · obtain ⟨e, n, ne, nf, d⟩ := I.pin p hp
      refine ⟨(hs.2 p.1 ?_).trans e, n, ne, nf, d⟩
      intro q
      rw [q, hoc] at e
      have q' : oc = p.2 := Option.some.inj e
      exact d w' (by rw [← q']; exact hocd)
theorem store_ok {M : Model} {A : Around} {E : Value → Shared → Prop} {i : Nat} {x : Str} {v : V} {u : Value} {Q : Unit → Shared → Prop} (I : Inv X pins σ H s) (hN : X.N.Nodup) (hi : X.N[i]? = some x) (hx : Loc X.env.scope x) (r : RelV v u)
    (h : ∀ s', Inv X pins (σ.set i (some v)) H s' → Q () s') (hf : X.fn x = true ∨ X.env.scope.names.lookup x = some .local := by first | exact .inl rfl | exact .inr rfl | assumption) : wpAny M A (storeName X.env x u) Q E s :=
  store_ok2 I hN hi hx r (fun s' I' _ => h s' I') hf
theorem Inv.call' {s' : Shared} {ch : List Addr} (I : Inv X pins σ H s) (ho : s'.os = s.os) (u : Un (frs X.stack) ch H H' s.heap s'.heap) (hok : HOk X.prog X.w H' s'.heap) (hg : AllBare s'.gens)
    (hch : ∀ b ∈ ch, (b ∈ X.ex ∨ X.s₀.heap.objs.size ≤ b) ∧ b ≠ X.env.locals ∧ (∀ x c, X.env.cells.lookup x = some c → c ≠ b) ∧ ∀ p ∈ X.pn ++ pins, p.1 ≠ b) : Inv X pins σ H' s' := by
  obtain ⟨h', g', d', t', o'⟩ := s'
  have e : o' = s.os := ho
  subst e
  exact I.call (g' := g') (t' := t') (d' := d') u hok hg hch
end
noncomputable abbrev XK := Value → Option Addr → Hp → Prop
noncomputable abbrev St := List (Option V)
noncomputable abbrev VK := V → Hp → Prop
noncomputable abbrev TE := St → Hp → VK → Prop
noncomputable abbrev TT := St → Hp → (Bool → Hp → Prop) → Prop
noncomputable abbrev TA := St → Hp → (List V → Hp → Prop) → Prop
structure Ends where
  nx : St → Hp → Prop
  rt : VK
  bk : St → Hp → Prop := fun _ _ => False
  ct : St → Hp → Prop := fun _ _ => False
noncomputable abbrev TS := Ends → St → Hp → Prop
noncomputable def EP (X : Cx) (pins : List (Addr × Obj)) (σ : St) (Q : VK) (u : Value) (s' : Shared) : Prop := ∃ v H', Inv X pins σ H' s' ∧ RelV v u ∧ Q v H'
noncomputable def TP (X : Cx) (pins : List (Addr × Obj)) (σ : St) (Q : Bool → Hp → Prop) (b : Bool) (s' : Shared) : Prop := ∃ H', Inv X pins σ H' s' ∧ Q b H'
noncomputable def AP (X : Cx) (pins : List (Addr × Obj)) (σ : St) (Q : List V → Hp → Prop) (us : List Value) (s' : Shared) : Prop := ∃ vs H', Inv X pins σ H' s' ∧ Vals vs us ∧ Q vs H'
noncomputable def SP (X : Cx) (pins : List (Addr × Obj)) (D : Ends) (f : Flow) (s' : Shared) : Prop :=
  match f with
  | .next => ∃ σ' H', Inv X pins σ' H' s' ∧ D.nx σ' H'
  | .brk => ∃ σ' H', Inv X pins σ' H' s' ∧ D.bk σ' H'
  | .cont => ∃ σ' H', Inv X pins σ' H' s' ∧ D.ct σ' H'
  | .ret u => ∃ v σ' H', Inv X pins σ' H' s' ∧ RelV v u ∧ D.rt v H'
noncomputable def PE (X : Cx) (e : Expr) (t : TE) : Prop :=
  ∀ (pins : List (Addr × Obj)) (s : Shared) (σ : St) (H : Hp) (Q : VK), Inv X pins σ H s → t σ H Q → wpAny (model X.prog X.w) X.A (eval e X.env) (EP X pins σ Q) X.xe s
noncomputable def PT (X : Cx) (e : Expr) (t : TT) : Prop :=
  ∀ (pins : List (Addr × Obj)) (s : Shared) (σ : St) (H : Hp) (Q : Bool → Hp → Prop), Inv X pins σ H s → t σ H Q → wpAny (model X.prog X.w) X.A (isTrue e X.env (eval e X.env)) (TP X pins σ Q) X.xe s
noncomputable def PW (X : Cx) (e : Expr) (t : TT) : Prop :=
  ∀ (whole : Sem Value) (pins : List (Addr × Obj)) (s : Shared) (σ : St) (H : Hp) (Q : Bool → Hp → Prop), Inv X pins σ H s → t σ H Q → wpAny (model X.prog X.w) X.A (isTrue e X.env whole) (TP X pins σ Q) X.xe s
theorem PW.pt {X : Cx} {e : Expr} {t : TT} (h : PW X e t) : PT X e t := h _
noncomputable def PA (X : Cx) (es : List Expr) (t : TA) : Prop :=
  ∀ (pos : Pos) (pins : List (Addr × Obj)) (s : Shared) (σ : St) (H : Hp) (Q : List V → Hp → Prop), Inv X pins σ H s → t σ H Q → wpAny (model X.prog X.w) X.A (spliced (backTo pos (starEach es X.env))) (AP X pins σ Q) X.xe s
noncomputable def PS (X : Cx) (st : Stmt) (t : TS) : Prop :=
  ∀ (pins : List (Addr × Obj)) (s : Shared) (σ : St) (H : Hp) (D : Ends), Inv X pins σ H s → t D σ H → wpAny (model X.prog X.w) X.A (exec st X.env) (SP X pins D) X.xe s
noncomputable def PSs (X : Cx) (st : List Stmt) (t : TS) : Prop :=
  ∀ (pins : List (Addr × Obj)) (s : Shared) (σ : St) (H : Hp) (D : Ends), Inv X pins σ H s → t D σ H → wpAny (model X.prog X.w) X.A (execs st X.env) (SP X pins D) X.xe s
theorem thn {α : Type} {t : Sem α} {Q Q' : α → Shared → Prop} {M : Model} {A : Around} {E : Value → Shared → Prop} {s : Shared} (h : wpAny M A t Q E s) (hQ : ∀ a s, Q a s → Q' a s) : wpAny M A t Q' E s := wpAny_mono h hQ fun _ _ x => x
end L2
namespace L2
open PySem PySem.Spec PyProof.Rows
section
variable {X : Cx}
noncomputable def tVar (i : Nat) : TE := fun σ H Q => ∃ v, σ[i]? = some (some v) ∧ Q v H
noncomputable def tC (v : V) : TE := fun _ H Q => Q v H
theorem pe_var {i : Nat} {x : Str} {pos : Pos} (hN : X.N[i]? = some x) (hv : Vis X.env.scope x) (hd : (x == ("__debug__" : Str)) = false := by decide) (hcd : (x == ("__classdict__" : Str)) = false := by decide) : PE X (.Name x pos) (tVar i) := by
  intro pins s σ H Q I h
  obtain ⟨v, e, h⟩ := h
  obtain ⟨m, hn, hl⟩ := I.loc
  obtain ⟨u, r, l⟩ := hl i x v hN e hv
  have fin : EP X pins σ Q u s := ⟨v, H, I, r, h⟩
  rcases l with ⟨hk, hm⟩ | ⟨hk, c, hc, hcell⟩
  · exact wpAny_Name (wpAny_loadName_local I.ok.kind hk hn hm fin) hd
  · rcases hk with hk | hk
    · exact wpAny_Name (wpAny_loadName_cell I.ok.kind hk hc hcell fin) hd
    · exact wpAny_Name (wpAny_loadName_free I.ok.kind hk hc hcell fin hcd) hd
theorem pe_int {i j pos} : PE X (.Constant (.int i) j pos) (tC (.int i)) := fun _ _ _ H _ I h => wpAny_Constant_int ⟨.int i, H, I.tok _, ⟨_, rfl⟩, h⟩
theorem pe_bl {b j pos} : PE X (.Constant (.bool b) j pos) (tC (.bl b)) := fun _ _ _ H _ I h => Constant_bool ⟨.bl b, H, I, rfl, h⟩
theorem pe_non {j pos} : PE X (.Constant .none j pos) (tC .non) := fun _ _ _ H _ I h => Constant_none ⟨.non, H, I, rfl, h⟩
theorem pe_str {x j pos} : PE X (.Constant (.str x) j pos) (tC (.str x)) := fun _ _ _ H _ I h => Calls.Constant_str ⟨.str x, H, I.tok _, ⟨_, rfl⟩, h⟩
noncomputable def Gl (X : Cx) (x : Str) : Prop := X.env.kindOf x = some .globalImplicit
theorem ld_glob {E : Value → Shared → Prop} {pins : List (Addr × Obj)} {s : Shared} {σ : St} {H : Hp} {x : Str} {u : Value} {pos : Pos} {Q : Value → Shared → Prop} (I : Inv X pins σ H s) (hg : Gl X x) (hm : X.mg x = some u) (h : Q u s)
    (hd : (x == ("__debug__" : Str)) = false := by decide) : wpAny (model X.prog X.w) X.A (eval (.Name x pos) X.env) Q E s :=
  Calls.Name_function_global I.ok.kind hg (Calls.loadGlobal_global (by rw [I.ok.glob]; exact I.mod.glob.keeps I.bk) hm h) hd
theorem ld_blt {E : Value → Shared → Prop} {pins : List (Addr × Obj)} {s : Shared} {σ : St} {H : Hp} {x : Str} {u : Value} {pos : Pos} {Q : Value → Shared → Prop} (I : Inv X pins σ H s) (hg : Gl X x) (hm : X.mg x = none) (hv : bootBuiltins x = some u) (h : Q u s)
    (hn : x ≠ "__name__" := by decide) (hd : (x == ("__debug__" : Str)) = false := by decide) : wpAny (model X.prog X.w) X.A (eval (.Name x pos) X.env) Q E s := by
  obtain ⟨mb, h1, h2⟩ := I.mod.blt
  exact Calls.Name_function_global I.ok.kind hg (Calls.loadGlobal_builtin (by rw [I.ok.glob]; exact I.mod.glob.keeps I.bk) hm (by rw [I.ok.blt]; exact h1.keeps I.bk) ((h2 x hn).trans hv) h) hd
theorem pe_glob {x : Str} {v : V} {u : Value} {pos : Pos} (hg : Gl X x) (hm : X.mg x = some u) (r : RelV v u) (hd : (x == ("__debug__" : Str)) = false := by decide) : PE X (.Name x pos) (tC v) :=
  fun _ _ _ H _ I h => ld_glob I hg hm ⟨v, H, I, r, h⟩ hd
theorem pe_bltn {x : Str} {v : V} {u : Value} {pos : Pos} (hg : Gl X x) (hm : X.mg x = none) (hv : bootBuiltins x = some u) (r : RelV v u) (hn : x ≠ "__name__" := by decide) (hd : (x == ("__debug__" : Str)) = false := by decide) : PE X (.Name x pos) (tC v) :=
  fun _ _ _ H _ I h => ld_blt I hg hm hv ⟨v, H, I, r, h⟩ hn hd
noncomputable def t2I (ta tb : TE) (k : Int → Int → Hp → Prop) : St → Hp → Prop := fun σ H => ta σ H fun x H1 => tb σ H1 fun y H2 => ∃ i j, x = .int i ∧ y = .int j ∧ k i j H2
noncomputable def tAdd (ta tb : TE) : TE := fun σ H Q => t2I ta tb (fun i j H2 => Q (.int (i + j)) H2) σ H
noncomputable def tSub (ta tb : TE) : TE := fun σ H Q => t2I ta tb (fun i j H2 => Q (.int (i - j)) H2) σ H
noncomputable def tMul (ta tb : TE) : TE := fun σ H Q => t2I ta tb (fun i j H2 => (-(2 ^ 64) < i ∧ i < 2 ^ 64) ∧ Q (.int (i * j)) H2) σ H
variable {a b : Expr} {ta tb : TE} {pos : Pos}
noncomputable def PC (X : Cx) (op : CmpOp) (a b : Expr) (t : TE) : Prop :=
  ∀ (pins : List (Addr × Obj)) (s : Shared) (σ : St) (H : Hp) (Q : VK), Inv X pins σ H s → t σ H Q →
    wpAny (model X.prog X.w) X.A (eval a X.env) (fun v s₁ => wpAny (model X.prog X.w) X.A (eval b X.env) (fun u s₂ => wpAny (model X.prog X.w) X.A (compareOp op v u) (EP X pins σ Q) X.xe s₂) X.xe s₁) X.xe s
theorem nobehind (b : Expr) {op : CmpOp} (h : op ≠ .In) (h2 : op ≠ .NotIn) : behindInMarks op b = false := by
  have e1 : (op == CmpOp.In) = false := by cases op <;> first | rfl | exact absurd rfl h
  have e2 : (op == CmpOp.NotIn) = false := by cases op <;> first | rfl | exact absurd rfl h2
  cases b <;> simp [behindInMarks, e1, e2]
noncomputable def tCmp (p : Int → Int → Bool) (ta tb : TE) : TE := fun σ H Q => t2I ta tb (fun i j H2 => Q (.bl (p i j)) H2) σ H
noncomputable abbrev tLt : TE → TE → TE := tCmp fun i j => decide (i < j)
noncomputable abbrev tLe : TE → TE → TE := tCmp fun i j => decide (i ≤ j)
noncomputable abbrev tGt : TE → TE → TE := tCmp fun i j => decide (j < i)
noncomputable abbrev tGe : TE → TE → TE := tCmp fun i j => decide (j ≤ i)
noncomputable abbrev tEqI : TE → TE → TE := tCmp fun i j => decide (i = j)
noncomputable abbrev tNeI : TE → TE → TE := tCmp fun i j => !decide (i = j)
noncomputable def tIsN (ta : TE) : TE := fun σ H Q => ta σ H fun x H1 => Q (.bl (decide (x = .non))) H1
noncomputable def tNotN (ta : TE) : TE := fun σ H Q => ta σ H fun x H1 => Q (.bl (!decide (x = .non))) H1
theorem RelV.none_iff {x : V} {v : Value} (r : RelV x v) : (v == Value.none) = decide (x = .non) := by
  cases x with
  | non => cases r; rfl
  | bl _ => cases r; rfl
  | int _ => obtain ⟨t, rfl⟩ := r; rfl
  | str _ => obtain ⟨t, rfl⟩ := r; rfl
  | byt _ => obtain ⟨t, rfl⟩ := r; rfl
  | flt _ => obtain ⟨t, rfl⟩ := r; rfl
  | ref _ => cases r; rfl
  | ty _ => cases r; rfl
theorem pc_isN {j pos'} (ha : PE X a ta) : PC X .Is a (.Constant .none j pos') (tIsN ta) := by
  intro pins s σ H Q I h
  refine thn (ha pins s σ H _ I h) fun v s1 ⟨x, H1, I1, r1, q1⟩ => ?_
  exact Constant_none (is_none_gen ⟨.bl _, H1, I1, by rw [r1.none_iff]; rfl, q1⟩)
theorem pc_notN {j pos'} (ha : PE X a ta) : PC X .IsNot a (.Constant .none j pos') (tNotN ta) := by
  intro pins s σ H Q I h
  refine thn (ha pins s σ H _ I h) fun v s1 ⟨x, H1, I1, r1, q1⟩ => ?_
  exact Constant_none (isnot_none_gen ⟨.bl _, H1, I1, by rw [r1.none_iff]; rfl, q1⟩)
noncomputable def tB (t : TE) : TT := fun σ H Q => t σ H fun x H1 => ∃ c, x = .bl c ∧ Q c H1
theorem pe_cmp {op : CmpOp} {t : TE} (h : PC X op a b t) (h1 : behindInMarks op b = false := by first | exact nobehind _ (by decide) (by decide) | rfl) : PE X (.Compare a [op] [b] pos) t := fun pins s σ H Q I hw => wpAny_Compare1 (h pins s σ H Q I hw) h1
theorem pt_cmp {op : CmpOp} {t : TE} (h : PC X op a b t) (h1 : behindInMarks op b = false := by first | exact nobehind _ (by decide) (by decide) | rfl) : PT X (.Compare a [op] [b] pos) (tB t) := by
  intro pins s σ H Q I hw
  refine wpAny_isTrue_Compare1 (thn (h pins s σ H _ I hw) fun v s1 h1 => thn h1 fun u s2 h2 => thn h2 fun c s3 ⟨x, H1, I1, r1, q1⟩ => ?_) h1
  obtain ⟨d, rfl, q⟩ := q1
  cases r1
  exact wpAny_truthy_bool ⟨H1, I1, q⟩
theorem pt_val {e : Expr} {t : TE} (h : PE X e t) (he : ∀ whole, isTrue e X.env whole = (do let v ← whole; standAt e.pos; holding [v] (truthy v)) := by intro _; rfl) : PT X e (tB t) := by
  intro pins s σ H Q I hw
  refine isTrue_plain (thn (h pins s σ H _ I hw) fun v s1 ⟨x, H1, I1, r1, q1⟩ => ?_) (he _)
  obtain ⟨d, rfl, q⟩ := q1
  cases r1
  exact wpAny_truthy_bool ⟨H1, I1, q⟩
variable {tA tB' : TT} {rest : List Expr}
noncomputable def tAnd (t u : TT) : TT := fun σ H Q => t σ H fun c H1 => if c = true then u σ H1 Q else Q false H1
noncomputable def tOr (t u : TT) : TT := fun σ H Q => t σ H fun c H1 => if c = true then Q true H1 else u σ H1 Q
noncomputable def tNot (t : TT) : TT := fun σ H Q => t σ H fun c H1 => Q (!c) H1
theorem pw_and1 (ha : PT X a tA) : PW X (.BoolOp .And [a] pos) tA := by
  intro wh pins s σ H Q I h
  refine isTrue_and (thn (ha pins s σ H Q I h) fun c s1 e => ?_)
  cases c with
  | true => exact isTrue_and_nil e
  | false => exact e
theorem pw_or1 (ha : PT X a tA) : PW X (.BoolOp .Or [a] pos) tA := by
  intro wh pins s σ H Q I h
  refine isTrue_or (thn (ha pins s σ H Q I h) fun c s1 e => ?_)
  cases c with
  | false => exact isTrue_or_nil e
  | true => exact e
theorem pw_and (ha : PT X a tA) (hb : PW X (.BoolOp .And (b :: rest) pos) tB') : PW X (.BoolOp .And (a :: b :: rest) pos) (tAnd tA tB') := by
  intro wh pins s σ H Q I h
  refine isTrue_and (thn (ha pins s σ H _ I h) fun c s1 ⟨H1, I1, q1⟩ => ?_)
  cases c with
  | true => exact hb wh pins s1 σ H1 Q I1 q1
  | false => exact ⟨H1, I1, q1⟩
theorem pw_or (ha : PT X a tA) (hb : PW X (.BoolOp .Or (b :: rest) pos) tB') : PW X (.BoolOp .Or (a :: b :: rest) pos) (tOr tA tB') := by
  intro wh pins s σ H Q I h
  refine isTrue_or (thn (ha pins s σ H _ I h) fun c s1 ⟨H1, I1, q1⟩ => ?_)
  cases c with
  | true => exact ⟨H1, I1, q1⟩
  | false => exact hb wh pins s1 σ H1 Q I1 q1
theorem pt_not (ha : PT X a tA) : PT X (.UnaryOp .Not a pos) (tNot tA) := by
  intro pins s σ H Q I h
  exact isTrue_not (ha pins s σ H (fun c H1 => Q (!c) H1) I h)
noncomputable def tAndV (ta tb : TE) : TE := fun σ H Q => ta σ H fun x H1 => ∃ c, x = .bl c ∧ if c = true then tb σ H1 Q else Q (.bl false) H1
noncomputable def tOrV (ta tb : TE) : TE := fun σ H Q => ta σ H fun x H1 => ∃ c, x = .bl c ∧ if c = true then Q (.bl true) H1 else tb σ H1 Q
noncomputable def tNotV (ta : TE) : TE := fun σ H Q => ta σ H fun x H1 => ∃ c, x = .bl c ∧ Q (.bl (!c)) H1
theorem pe_one {op} {t : TE} (h : PE X a t) : PE X (.BoolOp op [a] pos) t := fun pins s σ H Q I hw => BoolOp_one (h pins s σ H Q I hw)
theorem pe_and (ha : PE X a ta) (hb : PE X (.BoolOp .And (b :: rest) pos) tb) : PE X (.BoolOp .And (a :: b :: rest) pos) (tAndV ta tb) := by
  intro pins s σ H Q I h
  refine BoolOp_and (thn (ha pins s σ H _ I h) fun v s1 ⟨x, H1, I1, r1, q1⟩ => ?_)
  obtain ⟨c, rfl, q1⟩ := q1
  cases r1
  refine wpAny_truthy_bool ?_
  cases c with
  | true => exact hb pins s1 σ H1 Q I1 q1
  | false => exact ⟨.bl false, H1, I1, rfl, q1⟩
theorem pe_not (ha : PE X a ta) : PE X (.UnaryOp .Not a pos) (tNotV ta) := by
  intro pins s σ H Q I h
  refine UnaryOp_ (thn (ha pins s σ H _ I h) fun v s1 ⟨x, H1, I1, r1, q1⟩ => ?_)
  obtain ⟨c, rfl, q1⟩ := q1
  cases r1
  exact not_of (wpAny_truthy_bool ⟨.bl (!c), H1, I1, rfl, q1⟩)
noncomputable def tIf (t : TT) (ta tb : TE) : TE := fun σ H Q => t σ H fun c H1 => if c = true then ta σ H1 Q else tb σ H1 Q
theorem pe_ifExp {c : Expr} (hc : PT X c tA) (ha : PE X a ta) (hb : PE X b tb) : PE X (.IfExp c a b pos) (tIf tA ta tb) := by
  intro pins s σ H Q I h
  refine wpAny_IfExp (thn (hc pins s σ H _ I h) fun d s1 ⟨H1, I1, q1⟩ => ?_)
  cases d with
  | true => exact ha pins s1 σ H1 Q I1 q1
  | false => exact hb pins s1 σ H1 Q I1 q1
end
end L2
namespace L2
open PySem PySem.Spec PyProof.Rows
noncomputable def SqL (K : PySem.W.Frag) (H : Hp) (a : Addr) (xs : List V) : Prop :=
  Rd H a (.lst xs) ∨
    ∃ (o : Obj) (its : Array Value) (n : Nat), K.lookup a = some o ∧ o.cls = .type "list" ∧ o.dict = none ∧ o.data = .seq its n ∧ its.size ≤ sizeLine ∧ Vals xs its.toList
noncomputable def SqT (K : PySem.W.Frag) (H : Hp) (a : Addr) (xs : List V) : Prop :=
  Rd H a (.tup xs) ∨
    ∃ (o : Obj) (its : Array Value) (n : Nat), K.lookup a = some o ∧ o.cls = .type "tuple" ∧ o.data = .seq its n ∧ its.size ≤ sizeLine ∧ Vals xs its.toList
noncomputable def absV : Value → Option V
  | .none => some .non
  | .bool b => some (.bl b)
  | .int i _ => some (.int i)
  | .str x _ => some (.str x)
  | .bytes b _ => some (.byt b)
  | .float b _ => some (.flt b)
  | .ref a => some (.ref a)
  | .type n => some (.ty n)
  | _ => none
theorem RelV.abs {x : V} {u : Value} (r : RelV x u) : absV u = some x := by
  cases x with
  | non => cases r; rfl
  | bl _ => cases r; rfl
  | int _ => obtain ⟨t, rfl⟩ := r; rfl
  | str _ => obtain ⟨t, rfl⟩ := r; rfl
  | byt _ => obtain ⟨t, rfl⟩ := r; rfl
  | flt _ => obtain ⟨t, rfl⟩ := r; rfl
  | ref _ => cases r; rfl
  | ty _ => cases r; rfl
theorem RelV.inj {x y : V} {u : Value} (r : RelV x u) (q : RelV y u) : x = y := Option.some.inj (r.abs.symm.trans q.abs)
theorem Vals.inj : ∀ {xs ys : List V} {us : List Value}, Vals xs us → Vals ys us → xs = ys
  | _, _, _, .nil, .nil => rfl
  | _, _, _, .cons r t, .cons r' t' => by rw [r.inj r', Vals.inj t t']
section
variable {X : Cx} {pins : List (Addr × Obj)} {σ : St} {H : Hp} {s : Shared} {a : Addr} {xs ys : List V}
theorem SqL.of {K : PySem.W.Frag} (h : H a = some (.lst xs)) : SqL K H a xs := .inl (.inl h)
theorem SqT.of {K : PySem.W.Frag} (h : H a = some (.tup xs)) : SqT K H a xs := .inl (.inl h)
theorem Inv.list (I : Inv X pins σ H s) (h : SqL X.K H a xs) : ∃ its : List Value, Vals xs its ∧ PlainL s.heap a its.toArray ∧ xs.length ≤ sizeLine := by
  rcases h with h | ⟨o, its, n, hk, hc, hd, hs, hz, r⟩
  · obtain ⟨z, its, n, r, e⟩ := h.ok I.hok
    exact ⟨its, r, ⟨_, n, e, rfl, rfl, rfl⟩, z⟩
  · refine ⟨its.toList, r, ⟨o, n, I.kIn a o hk, hc, hd, by simpa using hs⟩, ?_⟩
    have e := r.length
    simp only [Array.length_toList] at e
    omega
theorem Inv.tuple (I : Inv X pins σ H s) (h : SqT X.K H a xs) : ∃ its : List Value, Vals xs its ∧ IsTup s.heap a its.toArray ∧ xs.length ≤ sizeLine := by
  rcases h with h | ⟨o, its, n, hk, hc, hs, hz, r⟩
  · obtain ⟨z, its, r, p⟩ := h.ok I.hok
    exact ⟨its, r, p, z⟩
  · refine ⟨its.toList, r, ⟨o, I.kIn a o hk, hc, n, by simpa using hs⟩, ?_⟩
    have e := r.length
    simp only [Array.length_toList] at e
    omega
theorem Inv.list_inj (I : Inv X pins σ H s) (h : SqL X.K H a xs) (h' : SqL X.K H a ys) : xs = ys := by
  obtain ⟨its, r, ⟨o, n, e, _, _, d⟩, _⟩ := I.list h
  obtain ⟨its', r', ⟨o', n', e', _, _, d'⟩, _⟩ := I.list h'
  rw [e] at e'; cases e'
  rw [d] at d'
  injection d' with d1 _
  have : its = its' := by simpa using congrArg Array.toList d1
  subst this
  exact r.inj r'
theorem Inv.tuple_inj (I : Inv X pins σ H s) (h : SqT X.K H a xs) (h' : SqT X.K H a ys) : xs = ys := by
  obtain ⟨its, r, ⟨o, e, _, n, d⟩, _⟩ := I.tuple h
  obtain ⟨its', r', ⟨o', e', _, n', d'⟩, _⟩ := I.tuple h'
  rw [e] at e'; cases e'
  rw [d] at d'
  injection d' with d1 _
  have : its = its' := by simpa using congrArg Array.toList d1
  subst this
  exact r.inj r'
end
noncomputable abbrev Cx.wish (X : Cx) (E : Value → Shared → Prop) : Cx := { X with xe := E }
noncomputable abbrev Cx.nox (X : Cx) : Cx := X.wish fun _ _ => False
theorem Cx.Ok.wish {X : Cx} (ok : X.Ok) (E : Value → Shared → Prop) : (X.wish E).Ok :=
  ⟨ok.mod, ok.kind, ok.glob, ok.blt, ok.above, ok.inj, ok.has, ok.cab, ok.hd, ok.frames, ok.stk, ok.exf, ok.bs, ok.bsz, ok.noex, ok.exfs, ok.funs, ok.frf⟩
theorem Cx.Ok.unwish {X : Cx} {E : Value → Shared → Prop} (ok : (X.wish E).Ok) : X.Ok :=
  ⟨ok.mod, ok.kind, ok.glob, ok.blt, ok.above, ok.inj, ok.has, ok.cab, ok.hd, ok.frames, ok.stk, ok.exf, ok.bs, ok.bsz, ok.noex, ok.exfs, ok.funs, ok.frf⟩
section
variable {X : Cx} {pins : List (Addr × Obj)} {σ : St} {H : Hp} {s : Shared} {E : Value → Shared → Prop}
theorem Inv.wish (I : Inv X pins σ H s) (E : Value → Shared → Prop) : Inv (X.wish E) pins σ H s := ⟨I.ok.wish E, I.os, I.bare, I.base, I.loc, I.cell, I.free, I.freeC, I.pin, I.hok, I.len⟩
theorem Inv.unwish (I : Inv (X.wish E) pins σ H s) : Inv X pins σ H s := ⟨I.ok.unwish, I.os, I.bare, I.base, I.loc, I.cell, I.free, I.freeC, I.pin, I.hok, I.len⟩
theorem SP.unwish {D : Ends} {f : Flow} {s' : Shared} (h : SP (X.wish E) pins D f s') : SP X pins D f s' := by
  cases f with
  | next => obtain ⟨σ', H', I, q⟩ := h; exact ⟨σ', H', I.unwish, q⟩
  | brk => obtain ⟨σ', H', I, q⟩ := h; exact ⟨σ', H', I.unwish, q⟩
  | cont => obtain ⟨σ', H', I, q⟩ := h; exact ⟨σ', H', I.unwish, q⟩
  | ret u => obtain ⟨v, σ', H', I, r, q⟩ := h; exact ⟨v, σ', H', I.unwish, r, q⟩
theorem PE.nox {e : Expr} {t : TE} (h : PE X.nox e t) : PE X e t := fun pins s σ H Q I hw =>
  wpAny_mono (h pins s σ H Q (I.wish _) hw) (fun _ _ ⟨v, H', I', r, q⟩ => ⟨v, H', I'.unwish, r, q⟩) fun _ _ z => False.elim z
theorem PT.nox {e : Expr} {t : TT} (h : PT X.nox e t) : PT X e t := fun pins s σ H Q I hw =>
  wpAny_mono (h pins s σ H Q (I.wish _) hw) (fun _ _ ⟨H', I', q⟩ => ⟨H', I'.unwish, q⟩) fun _ _ z => False.elim z
theorem PSs.nox {st : List Stmt} {t : TS} (h : PSs X.nox st t) : PSs X st t := fun pins s σ H D I hw =>
  wpAny_mono (h pins s σ H D (I.wish _) hw) (fun _ _ q => q.unwish) fun _ _ z => False.elim z
end
section
variable {X : Cx} {st : Stmt} {rest : List Stmt} {t u : TS} {e : Expr} {te : TE} {pos : Pos}
noncomputable def tNext : TS := fun D σ H => D.nx σ H
noncomputable def tSeq (t u : TS) : TS := fun D σ H => t { D with nx := u D } σ H
theorem pss_nil : PSs X [] tNext := fun _ _ σ H _ I h => wpAny_execs_nil ⟨σ, H, I, h⟩
theorem pss_cons (h1 : PS X st t) (h2 : PSs X rest u) : PSs X (st :: rest) (tSeq t u) := by
  intro pins s σ H D I h
  refine wpAny_execs_cons (thn (h1 pins s σ H { D with nx := u D } I h) fun f s1 q => ?_)
  cases f with
  | next =>
    obtain ⟨σ', H', I', q⟩ := q
    exact h2 pins s1 σ' H' D I' q
  | ret v => exact q
  | brk => exact q
  | cont => exact q
theorem pss_one (h1 : PS X st t) : PSs X [st] t := by
  intro pins s σ H D I h
  refine wpAny_execs_cons (thn (h1 pins s σ H D I h) fun f s1 q => ?_)
  cases f with
  | next => exact wpAny_execs_nil q
  | ret v => exact q
  | brk => exact q
  | cont => exact q
noncomputable def tBreak : TS := fun D σ H => D.bk σ H
noncomputable def tCont : TS := fun D σ H => D.ct σ H
theorem Inv.quiet {pins : List (Addr × Obj)} {σ : St} {H : Hp} {s : Shared} (I : Inv X pins σ H s) : interactive X.env = false := by simp [interactive, I.ok.kind]
noncomputable def tDrop (te : TE) : TS := fun D σ H => te σ H fun _ H1 => D.nx σ H1
theorem ps_expr (he : PE X e te) (hs : swapsWith e none pos.line X.env = pure false := by rfl) : PS X (.Expr e pos) (tDrop te) := by
  intro pins s σ H D I h
  exact wpAny_Expr_any (thn (he pins s σ H _ I h) fun v s1 ⟨x, H1, I1, r1, q1⟩ => ⟨σ, H1, I1, q1⟩) I.quiet hs
noncomputable def tRet (te : TE) : TS := fun D σ H => te σ H D.rt
theorem ps_ret (he : PE X e te) : PS X (.Return (some e) pos) (tRet te) := by
  intro pins s σ H D I h
  exact wpAny_Return_some (thn (he pins s σ H _ I h) fun v s1 ⟨x, H1, I1, r1, q1⟩ => ⟨x, σ, H1, I1, r1, q1⟩)
noncomputable def tRetN : TS := fun D _ H => D.rt .non H
noncomputable def tIfS (c : TT) (t u : TS) : TS := fun D σ H => c σ H fun b H1 => if b = true then t D σ H1 else u D σ H1
theorem ps_if {c : Expr} {a b : List Stmt} {tc : TT} (hc : PT X c tc) (ha : PSs X a t) (hb : PSs X b u) : PS X (.If c a b pos) (tIfS tc t u) := by
  intro pins s σ H D I h
  refine wpAny_If (thn (hc pins s σ H _ I h) fun d s1 ⟨H1, I1, q1⟩ => ?_)
  cases d with
  | true => exact ha pins s1 σ H1 D I1 q1
  | false => exact hb pins s1 σ H1 D I1 q1
noncomputable def tNever : TS := fun _ _ _ => False
theorem ps_never : PS X st tNever := fun _ _ _ _ _ _ h => h.elim
end
noncomputable abbrev TG := V → St → Hp → (St → Hp → Prop) → Prop
noncomputable abbrev TGs := List V → St → Hp → (St → Hp → Prop) → Prop
noncomputable def PG (X : Cx) (target : Expr) (t : TG) : Prop :=
  ∀ (pins : List (Addr × Obj)) (s : Shared) (σ : St) (H : Hp) (v : V) (u : Value) (Q : St → Hp → Prop), Inv X pins σ H s → RelV v u → t v σ H Q →
    wpAny (model X.prog X.w) X.A (assign target X.env u) (fun _ s' => ∃ σ' H', Inv X pins σ' H' s' ∧ Q σ' H') X.xe s
noncomputable def PGs (X : Cx) (ts : List Expr) (t : TGs) : Prop :=
  ∀ (pins : List (Addr × Obj)) (s : Shared) (σ : St) (H : Hp) (vs : List V) (us : List Value) (Q : St → Hp → Prop), Inv X pins σ H s → Vals vs us → t vs σ H Q →
    wpAny (model X.prog X.w) X.A (assignInOrder ((assignEach ts X.env).map (·.2)) us) (fun _ s' => ∃ σ' H', Inv X pins σ' H' s' ∧ Q σ' H') X.xe s
noncomputable abbrev TSet := V → V → V → Hp → (Hp → Prop) → Prop
noncomputable def PSet (X : Cx) (t : TSet) : Prop :=
  ∀ (pins : List (Addr × Obj)) (s : Shared) (σ : St) (H : Hp) (o i v : V) (ov iv u : Value) (Q : Hp → Prop), Inv X pins σ H s → RelV o ov → RelV i iv → RelV v u → t o i v H Q →
    wpAny (model X.prog X.w) X.A (setItem ov iv u) (fun _ s' => ∃ H', Inv X pins σ H' s' ∧ Q H') X.xe s
noncomputable abbrev TIp := V → V → Hp → VK → Prop
noncomputable def PIp (X : Cx) (op : Operator) (t : TIp) : Prop :=
  ∀ (pins : List (Addr × Obj)) (s : Shared) (σ : St) (H : Hp) (x y : V) (v u : Value) (Q : VK), Inv X pins σ H s → RelV x v → RelV y u → t x y H Q →
    wpAny (model X.prog X.w) X.A (inplaceOp op v u) (EP X pins σ Q) X.xe s
section
variable {X : Cx} {pos : Pos}
noncomputable def gName (i : Nat) : TG := fun v σ H Q => Q (σ.set i (some v)) H
theorem pg_name {i : Nat} {x : Str} (hN : X.N.Nodup) (hi : X.N[i]? = some x) (hx : Loc X.env.scope x) (hf : X.fn x = true ∨ X.env.scope.names.lookup x = some .local := by first | exact .inl rfl | exact .inr rfl | assumption) : PG X (.Name x pos) (gName i) := by
  intro pins s σ H v u Q I r h
  exact wpAny_assign_Name (store_ok I hN hi hx r (fun s' I' => ⟨_, H, I', h⟩) hf)
noncomputable def gNil : TGs := fun vs σ H Q => vs = [] ∧ Q σ H
noncomputable def gCons (t : TG) (u : TGs) : TGs := fun vs σ H Q => ∃ v r, vs = v :: r ∧ t v σ H fun σ' H' => u r σ' H' Q
theorem pgs_nil : PGs X [] gNil := by
  intro pins s σ H vs us Q I r h
  obtain ⟨e, h⟩ := h
  subst e
  cases r
  exact assignInOrder_nil ⟨σ, H, I, h⟩
theorem pgs_cons {e : Expr} {es : List Expr} {t : TG} {u : TGs} (h1 : PG X e t) (h2 : PGs X es u)
    (hs : (assignEach (e :: es) X.env).map (·.2) = assign e X.env :: (assignEach es X.env).map (·.2) := by rfl) : PGs X (e :: es) (gCons t u) := by
  intro pins s σ H vs us Q I r h
  obtain ⟨v, vr, e1, h⟩ := h
  subst e1
  cases r with
  | cons r rr =>
    rw [hs]
    refine assignInOrder_cons (thn (h1 pins s σ H _ _ _ I r h) fun _ s1 ⟨σ1, H1, I1, q1⟩ => ?_)
    exact h2 pins s1 σ1 H1 _ _ Q I1 rr q1
noncomputable def gTup (K : PySem.W.Frag) (n : Nat) (t : TGs) : TG := fun v σ H Q => ∃ a xs, v = .ref a ∧ SqT K H a xs ∧ xs.length = n ∧ t xs σ H Q
theorem pg_tup {es : List Expr} {k : Nat} {t : TGs} {n : Nat} (hc : X.calm = true) (h : PGs X es t)
    (hn : (assignEach es X.env).length = n := by rfl) (hst : (assignEach es X.env).findIdx? (·.1) = none := by rfl) : PG X (.Tuple es k pos) (gTup X.K n t) := by
  intro pins s σ H v u Q I r hw
  obtain ⟨a, xs, e1, hq, hl, hw⟩ := hw
  subst e1
  cases r
  obtain ⟨its, rv, ht, hz⟩ := I.tuple hq
  refine assign_Tuple_tuple (I.ok.hd hc) ht (by simp [hn, ← hl, rv.length]) hst fun h' hx => ?_
  have I1 : Inv X pins σ H { s with heap := h' } := I.kept (t' := s.toks) fun b o e => hx b o (Nat.ne_of_lt (Heap.lt_size e)) e
  exact h pins _ σ H xs _ Q I1 (by simpa using rv) hw
noncomputable def gSub (to ti : TE) (t : TSet) : TG := fun v σ H Q => to σ H fun o H1 => ti σ H1 fun i H2 => t o i v H2 fun H3 => Q σ H3
theorem pg_sub {o i : Expr} {to ti : TE} {t : TSet} (ho : PE X o to) (hi : PE X i ti) (hs : PSet X t)
    (ha : ∀ v, assign (.Subscript o i pos) X.env v = (do
      let ov ← holding [v] (eval o X.env)
      let iv ← holding [v, ov] (eval i X.env)
      standAt pos
      holding [v, ov, iv] (setItem ov iv v)
      release [v, ov, iv] []) := by intro _; rfl) : PG X (.Subscript o i pos) (gSub to ti t) := by
  intro pins s σ H v u Q I r h
  rw [ha]
  refine wpAny_bind (wpAny_holding (thn (ho pins s σ H _ I h) fun ov s1 ⟨x, H1, I1, r1, q1⟩ => ?_))
  refine wpAny_bind (wpAny_holding (thn (hi pins s1 σ H1 _ I1 q1) fun iv s2 ⟨y, H2, I2, r2, q2⟩ => ?_))
  refine wpAny_bind (wpAny_standAt (wpAny_bind (wpAny_holding (thn (hs pins s2 σ H2 x y v ov iv u _ I2 r1 r2 r q2) fun _ s3 ⟨H3, I3, q3⟩ => ?_))))
  exact wpAny_release ⟨σ, H3, I3, q3⟩
noncomputable def tAsg (te : TE) (g : TG) : TS := fun D σ H => te σ H fun x H1 => g x σ H1 D.nx
theorem ps_asg {tg e : Expr} {te : TE} {g : TG} (he : PE X e te) (hg : PG X tg g) (hs : swapsWithSole [tg] e pos.line X.env = pure false := by rfl) (hw : swappedStores [tg] e X.env = pure none := by rfl)
    (h1 : (assignEach [tg] X.env).map (·.2) = [assign tg X.env] := by rfl) : PS X (.Assign [tg] e pos) (tAsg te g) := by
  intro pins s σ H D I h
  refine wpAny_Assign_stores (thn (he pins s σ H _ I h) fun v s1 ⟨x, H1, I1, r1, q1⟩ => ?_) hs hw
  rw [h1]
  exact thn (hg pins s1 σ H1 x v _ I1 r1 q1) fun _ s2 q => q
theorem ps_set {i : Nat} {x : Str} {e : Expr} {te : TE} {pos' : Pos} (hN : X.N.Nodup) (hi : X.N[i]? = some x) (hx : Loc X.env.scope x) (he : PE X e te) (hs : swapsWith e (some (.Name x pos')) pos.line X.env = pure false := by rfl) (hf : X.fn x = true ∨ X.env.scope.names.lookup x = some .local := by first | exact .inl rfl | exact .inr rfl | assumption) :
    PS X (.Assign [.Name x pos'] e pos) (tAsg te (gName i)) := by
  intro pins s σ H D I h
  refine wpAny_Assign_Name (thn (he pins s σ H _ I h) fun v s1 ⟨y, H1, I1, r1, q1⟩ => ?_) hs
  exact store_ok I1 hN hi hx r1 (fun s2 I2 => ⟨_, H1, I2, q1⟩) hf
noncomputable def tPar (i j : Nat) (ta : TA) : TS := fun D σ H => ta σ H fun vs H1 => ∃ v w, vs = [v, w] ∧ D.nx ((σ.set i (some v)).set j (some w)) H1
theorem ps_par {i j : Nat} {x y : Str} {a b : Expr} {ta : TA} {px py pt : Pos} {kt k2 pt2} (hc : X.calm = true) (hN : X.N.Nodup) (hi : X.N[i]? = some x) (hj : X.N[j]? = some y) (hij : i ≠ j)
    (hx : X.env.scope.names.lookup x = some .local) (hy : X.env.scope.names.lookup y = some .local) (ha : PA X [a, b] ta)
    (hw : swappedStores [.Tuple [.Name x px, .Name y py] kt pt] (.Tuple [a, b] k2 pt2) X.env = pure (some [x, y]))
    (hs : swapsWithSole [.Tuple [.Name x px, .Name y py] kt pt] (.Tuple [a, b] k2 pt2) pos.line X.env = pure false := by rfl) :
    PS X (.Assign [.Tuple [.Name x px, .Name y py] kt pt] (.Tuple [a, b] k2 pt2) pos) (tPar i j ta) := by
  intro pins s σ H D I h
  rw [exec_Assign_arm]
  refine wpAny_bind (wpAny_standAt ?_)
  rw [hs]
  refine wpAny_bind (wpAny_pure ?_)
  rw [if_neg (by decide)]
  refine wpAny_bind (Tuple_ (thn (ha _ pins s σ H _ I h) fun us s1 ⟨vs, H1, I1, r1, q1⟩ => ?_))
  obtain ⟨v, w, e1, q1⟩ := q1
  subst e1
  obtain ⟨u1, u2, rfl, rv, rw'⟩ : ∃ u1 u2, us = [u1, u2] ∧ RelV v u1 ∧ RelV w u2 := by
    cases r1 with
    | cons p q =>
      cases q with
      | cons p' q' =>
        cases q'
        exact ⟨_, _, rfl, p, p'⟩
  refine wpAny_newObj_type ?_ (by show 2 ≤ sizeLine; decide)
  have I2 : Inv X pins σ H1 { s1 with heap := s1.heap.push { cls := .type "tuple", data := .seq [u1, u2].toArray } } := I1.kept (t' := s1.toks) fun b o e => Heap.get?_push_of_some _ e
  rw [hw]
  refine wpAny_bind (wpAny_pure ?_)
  show wpAny (model X.prog X.w) X.A (do rule "assign.swapped-stores"; let items ← unpackItems (.ref s1.heap.objs.size) 2 none; assignInOrder [fun v => bindName X.env y v, fun v => bindName X.env x v] items.reverse; pure Flow.next) _ _ _
  refine wpAny_bind (wpAny_rule (wpAny_bind (unpackItems_tuple (items := #[u1, u2]) (I.ok.hd hc) (IsTup.new s1.heap _) fun h' hx' => ?_)))
  have I3 := I2.kept (h' := h') (t' := s1.toks) fun b o e => hx' b o (Nat.ne_of_lt (Heap.lt_size e)) e
  show wpAny _ _ (assignInOrder [fun v => bindName X.env y v, fun v => bindName X.env x v] [u2, u1] >>= fun _ => pure Flow.next) _ _ _
  refine wpAny_bind (assignInOrder_cons (wpAny_bindName (store_ok I3 hN hj (.inl hy) rw' (fun s2 I4 => ?_) (.inr hy))))
  refine assignInOrder_cons (wpAny_bindName (store_ok I4 hN hi (.inl hx) rv (fun s3 I5 => assignInOrder_nil (wpAny_pure ?_)) (.inr hx)))
  rw [List.set_comm _ _ (Ne.symm hij)] at I5
  exact ⟨_, H1, I5, q1⟩
noncomputable def tAug (i : Nat) (te : TE) (ti : TIp) : TS := fun D σ H => ∃ x, σ[i]? = some (some x) ∧ te σ H fun y H1 => ti x y H1 fun z H2 => D.nx (σ.set i (some z)) H2
theorem ps_aug {i : Nat} {x : Str} {e : Expr} {te : TE} {op : Operator} {ti : TIp} {pos' : Pos} (hN : X.N.Nodup) (hi : X.N[i]? = some x) (hx : Loc X.env.scope x) (he : PE X e te) (ho : PIp X op ti) (hf : X.fn x = true ∨ X.env.scope.names.lookup x = some .local := by first | exact .inl rfl | exact .inr rfl | assumption) :
    PS X (.AugAssign (.Name x pos') op e pos) (tAug i te ti) := by
  intro pins s σ H D I h
  obtain ⟨v, e1, h⟩ := h
  obtain ⟨m, hn, hl⟩ := I.loc
  have vis : Vis X.env.scope x := by rcases hx with k | k; exact .inl k; exact .inr (.inl k)
  obtain ⟨u, r, l⟩ := hl i x v hi e1 vis
  refine wpAny_AugAssign_Name ?_
  have go : wpAny (model X.prog X.w) X.A (eval e X.env) (fun w s₂ => wpAny (model X.prog X.w) X.A (inplaceOp op u w) (fun r s₃ => wpAny (model X.prog X.w) X.A (storeName X.env x r) (fun _ => SP X pins D .next) X.xe s₃) X.xe s₂) X.xe s := by
    refine thn (he pins s σ H _ I h) fun w s1 ⟨y, H1, I1, r1, q1⟩ => ?_
    refine thn (ho pins s1 σ H1 v y u w _ I1 r r1 q1) fun z s2 ⟨zv, H2, I2, r2, q2⟩ => ?_
    exact store_ok I2 hN hi hx r2 (fun s3 I3 => ⟨_, H2, I3, q2⟩) hf
  rcases l with ⟨hk, hm⟩ | ⟨hk, c, hc, hcell⟩
  · exact wpAny_loadName_local I.ok.kind hk hn hm go
  · rcases hk with hk | hk
    · exact wpAny_loadName_cell I.ok.kind hk hc hcell go
    · rcases hx with k | k
      · have : X.env.scope.names.lookup x = some .free := hk
        rw [k] at this; cases this
      · have : X.env.scope.names.lookup x = some .free := hk
        rw [k] at this; cases this
noncomputable def tAugS (to ti te : TE) (tget : V → V → Hp → VK → Prop) (tip : TIp) (tset : TSet) : TS := fun D σ H => to σ H fun o H1 => ti σ H1 fun i H2 => tget o i H2 fun x H3 => te σ H3 fun y H4 => tip x y H4 fun z H5 => tset o i z H5 fun H6 => D.nx σ H6
noncomputable def PGet (X : Cx) (t : V → V → Hp → VK → Prop) : Prop :=
  ∀ (pins : List (Addr × Obj)) (s : Shared) (σ : St) (H : Hp) (o i : V) (ov iv : Value) (Q : VK), Inv X pins σ H s → RelV o ov → RelV i iv → t o i H Q →
    wpAny (model X.prog X.w) X.A (getItem ov iv) (EP X pins σ Q) X.xe s
noncomputable def ipI (f : Int → Int → Int) : TIp := fun x y H Q => ∃ i j, x = .int i ∧ y = .int j ∧ Q (.int (f i j)) H
theorem ip_add : PIp X .Add (ipI fun i j => i + j) := by
  intro pins s σ H x y v u Q I r1 r2 h
  obtain ⟨i, j, e1, e2, q⟩ := h
  subst e1; subst e2
  obtain ⟨t, rfl⟩ := r1
  obtain ⟨t', rfl⟩ := r2
  exact iadd_int ⟨.int _, H, I.tok _, ⟨_, rfl⟩, q⟩
end
section
variable {X : Cx} {pos : Pos}
noncomputable def tWhile (c : TT) (tb : TS) : TS := fun D σ H => ∃ W : Nat → St → Hp → Prop, (∃ m, W m σ H) ∧ ∀ m σ H, W m σ H →
  c σ H fun b H1 => if b = true then ∃ N : St → Hp → Prop, (∀ σ' H', N σ' H' → ∃ m', m' < m ∧ W m' σ' H') ∧ tb { D with nx := N, ct := N, bk := D.nx } σ H1 else D.nx σ H1
theorem ps_while {c : Expr} {body : List Stmt} {tc : TT} {tb : TS} (hp : PassesOwn (model X.prog X.w) X.A X.env X.xe) (hc : PT X c tc) (hb : PSs X body tb) : PS X (.While c body [] pos) (tWhile tc tb) := by
  intro pins s σ H D I h
  obtain ⟨W, ⟨m0, w0⟩, turn⟩ := h
  refine wpAny_While (codeAny_whileLoop (fun n s' => ∃ σ' H', Inv X pins σ' H' s' ∧ W n σ' H') ?_ m0 ⟨σ, H, I, w0⟩)
  rintro n s1 ⟨σ1, H1, I1, w1⟩
  refine wpAny_passesOwn hp (thn (hc pins s1 σ1 H1 _ I1 (turn n σ1 H1 w1)) fun b s2 ⟨H2, I2, q2⟩ => ?_)
  cases b with
  | true =>
    obtain ⟨N, hN, q2⟩ := q2
    rw [if_pos rfl]
    refine wpAny_passesOwn hp (thn (hb pins s2 σ1 H2 _ I2 q2) fun f s3 q3 => ?_)
    cases f with
    | next =>
      obtain ⟨σ3, H3, I3, n3⟩ := q3
      obtain ⟨m', hm, w3⟩ := hN σ3 H3 n3
      exact ⟨m', hm, σ3, H3, I3, w3⟩
    | cont =>
      obtain ⟨σ3, H3, I3, n3⟩ := q3
      obtain ⟨m', hm, w3⟩ := hN σ3 H3 n3
      exact ⟨m', hm, σ3, H3, I3, w3⟩
    | brk => exact q3
    | ret v => exact q3
  | false =>
    rw [if_neg Bool.false_ne_true]
    exact wpAny_execs_nil ⟨σ1, H2, I2, q2⟩
end
structure It where
  go : Nat → Hp → Prop
  yld : Nat → Hp → V → Hp → Prop
  stop : Nat → Hp → Prop
noncomputable def FpOk (X : Cx) (pins : List (Addr × Obj)) (H : Hp) (b : Addr) : Prop :=
  H b = none ∧ b ≠ X.env.locals ∧ b ∉ X.fs ∧ (b ∈ X.ex ∨ X.s₀.heap.objs.size ≤ b) ∧ (∀ x c, X.env.cells.lookup x = some c → c ≠ b) ∧ ∀ p ∈ X.pn ++ pins, p.1 ≠ b
theorem Inv.fpOk {X : Cx} {pins : List (Addr × Obj)} {σ : St} {H H' : Hp} {s : Shared} {b : Addr} (I : Inv X pins σ H s) (hb : s.heap.objs.size ≤ b) (hn : H' b = none) : FpOk X pins H' b := by
  refine ⟨hn, Nat.ne_of_gt (Nat.lt_of_lt_of_le I.lt hb), I.nofs hb, .inr (Nat.le_trans I.sz hb), fun x c e z => ?_, fun p hp z => ?_⟩
  · obtain ⟨v, q⟩ := I.cell x c e
    exact absurd (Nat.lt_of_lt_of_le q.lt (by rw [z]; exact hb)) (Nat.lt_irrefl _)
  · exact absurd (Nat.lt_of_lt_of_le (Heap.lt_size (I.pin p hp).1) (by rw [z]; exact hb)) (Nat.lt_irrefl _)
structure Turn (P : Program) (w : World) (K : PySem.W.Frag) (tg : Expr) (J : It) (fp : List Addr) (it : Addr) (tn : Nat → Heap → Prop) : Prop where
  mem : it ∈ fp
  obj : ∀ i h, tn i h → ∀ b ∈ fp, ∃ o, h.get? b = some o ∧ ∀ v, o.data ≠ .cell v
  keep : ∀ i h h', tn i h → (∀ b ∈ fp, ∀ o, h.get? b = some o → h'.get? b = some o) → tn i h'
  item : ∀ (X : Cx), X.prog = P → X.w = w → X.K = K → X.calm = true → ∀ (i : Nat) (pins : List (Addr × Obj)) (s : Shared) (σ : St) (H : Hp) (E : Value → Shared → Prop), Inv X pins σ H s → (∀ b ∈ fp, FpOk X pins H b) → tn i s.heap → J.go i H →
    wpAny (model P w) X.A (pyNext (.ref it)) (fun r s1 => ∃ u, r = some u ∧
      wpAny (model P w) X.A (letOwnedTupleGo tg (.ref it) u) (fun _ s2 => ∃ x H', Inv X pins σ H' s2 ∧ RelV x u ∧ J.yld i H x H' ∧ tn (i + 1) s2.heap ∧ ∀ b ∈ fp, H' b = none) E s1) E s
  done : ∀ (X : Cx), X.prog = P → X.w = w → X.K = K → X.calm = true → ∀ (i : Nat) (pins : List (Addr × Obj)) (s : Shared) (σ : St) (H : Hp) (E : Value → Shared → Prop), Inv X pins σ H s → (∀ b ∈ fp, FpOk X pins H b) → tn i s.heap → J.stop i H →
    wpAny (model P w) X.A (pyNext (.ref it)) (fun r s1 => r = none ∧ Inv X pins σ H s1) E s
  self : ∀ (A : Around) (i : Nat) (s : Shared) (Q : Value → Shared → Prop) (E : Value → Shared → Prop), tn i s.heap → Q (.ref it) s → wpAny (model P w) A (pyIter (.ref it)) Q E s
noncomputable abbrev TI := St → Hp → (It → Hp → Prop) → Prop
noncomputable def PIE (X : Cx) (pins : List (Addr × Obj)) (σ : St) (tg : Expr) (R : It → Hp → Prop) (itv : Value) (s2 : Shared) : Prop :=
  ∃ (it : Addr) (fp : List Addr) (tn : Nat → Heap → Prop) (J : It) (H' : Hp), itv = .ref it ∧ Inv X pins σ H' s2 ∧ Turn X.prog X.w X.K tg J fp it tn ∧ tn 0 s2.heap ∧ (∀ b ∈ fp, FpOk X pins H' b) ∧ R J H'
noncomputable def PI (X : Cx) (tg iter : Expr) (wi : TI) : Prop :=
  ∀ (pins : List (Addr × Obj)) (s : Shared) (σ : St) (H : Hp) (R : It → Hp → Prop), Inv X pins σ H s → wi σ H R →
    wpAny (model X.prog X.w) X.A (eval iter X.env) (fun v s1 => wpAny (model X.prog X.w) X.A (pyIter v) (PIE X pins σ tg R) X.xe s1) X.xe s
theorem go_of {M : Model} {A : Around} {E : Value → Shared → Prop} {s : Shared} {tg : Expr} {it : Addr} {u : Value} {o : Obj} {n : String} {vs : Array Value} {Q : Unit → Shared → Prop} (ho : s.heap.get? it = some o) (hc : o.cls = .type n) (hd : o.data = .fields vs)
    (hn : ["enumerate", "zip", "dict_itemiterator", "dict_reverseitemiterator", "odict_iterator", "itertools.zip_longest", "itertools.pairwise"].contains n = false) (hQ : Q () s) : wpAny M A (letOwnedTupleGo tg (.ref it) u) Q E s := by
  unfold letOwnedTupleGo
  cases tg <;> first
    | exact wpAny_pure hQ
    | (cases u <;> first
        | exact wpAny_pure hQ
        | (refine wpAny_bind (wpAny_load ho ?_)
           rw [hc, hd]
           show wpAny M A (if (["enumerate", "zip", "dict_itemiterator", "dict_reverseitemiterator", "odict_iterator", "itertools.zip_longest", "itertools.pairwise"].contains n && vs[0]? == some (rawInt _)) = true then _ else _) Q E s
           rw [if_neg (by intro h; rw [hn, Bool.false_and] at h; cases h)]
           exact wpAny_pure hQ))
noncomputable def Itl (K : PySem.W.Frag) (a : Addr) : It :=
  ⟨fun i H => ∃ xs x, SqL K H a xs ∧ xs[i]? = some x, fun i H x H' => H' = H ∧ ∀ xs, SqL K H a xs → xs[i]? = some x, fun i H => ∃ xs, SqL K H a xs ∧ xs.length ≤ i⟩
noncomputable def Itt (K : PySem.W.Frag) (a : Addr) : It :=
  ⟨fun i H => ∃ xs x, SqT K H a xs ∧ xs[i]? = some x, fun i H x H' => H' = H ∧ ∀ xs, SqT K H a xs → xs[i]? = some x, fun i H => ∃ xs, SqT K H a xs ∧ xs.length ≤ i⟩
noncomputable def Itr (lo : Int) (n : Nat) : It := ⟨fun i _ => i < n, fun i H x H' => H' = H ∧ x = .int (lo + i), fun i _ => n ≤ i⟩
theorem turn_list {P : Program} {w : World} {K : PySem.W.Frag} {tg : Expr} (a it : Addr) : Turn P w K tg (Itl K a) [it] it (fun i h => h.IsListIter it a i) where
  mem := by simp
  obj := fun i h st b hb => by
    have e : b = it := by simpa using hb
    subst e
    obtain ⟨o, e, c, d⟩ := st
    exact ⟨o, e, fun v z => by rw [d] at z; cases z⟩
  keep := fun i h h' st k => st.at fun o e => k it (by simp) o e
  item := by
    intro X hP hw hK hc i pins s σ H E I hf st hg
    subst hP hw hK
    obtain ⟨xs, x, hq, hx⟩ := hg
    obtain ⟨its, rv, p, hz⟩ := I.list hq
    obtain ⟨u, hu, ru⟩ := rv.get hx
    obtain ⟨f0, f1, f2, f3, f4, f5⟩ := hf it (by simp)
    refine wpAny_pyNext_list_item st p.isList (x := u) (by simpa using hu) fun h' st' sb => ?_
    have I1 : Inv X pins σ H { s with heap := h' } := I.turned (t' := s.toks) (fun b o hb e => (sb.2 b hb).trans e) f0 f1 f3 f4 f5
    obtain ⟨o, e, c, d⟩ := id st'
    exact ⟨u, rfl, go_of (s := { s with heap := h' }) e c d (by decide) ⟨x, H, I1, ru, ⟨rfl, fun ys hy => by rw [I.list_inj hy hq]; exact hx⟩, st', fun b hb => (hf b hb).1⟩⟩
  done := by
    intro X hP hw hK hc i pins s σ H E I hf st hg
    subst hP hw hK
    obtain ⟨xs, hq, hx⟩ := hg
    obtain ⟨its, rv, p, hz⟩ := I.list hq
    obtain ⟨f0, f1, f2, f3, f4, f5⟩ := hf it (by simp)
    have hl := rv.length
    exact wpAny_pyNext_list_end (I.ok.hd hc) st p.isList (by simp; omega) fun h' eb => ⟨rfl, I.turned (t' := s.toks) (fun b o hb e => eb b o hb e) f0 f1 f3 f4 f5⟩
  self := fun _ _ _ _ _ st h => wpAny_pyIter_listiter st h
theorem turn_tuple {P : Program} {w : World} {K : PySem.W.Frag} {tg : Expr} (a it : Addr) : Turn P w K tg (Itt K a) [it] it (fun i h => h.IsTupleIter it a i) where
  mem := by simp
  obj := fun i h st b hb => by
    have e : b = it := by simpa using hb
    subst e
    obtain ⟨o, e, c, d⟩ := st
    exact ⟨o, e, fun v z => by rw [d] at z; cases z⟩
  keep := fun i h h' st k => st.at fun o e => k it (by simp) o e
  item := by
    intro X hP hw hK hc i pins s σ H E I hf st hg
    subst hP hw hK
    obtain ⟨xs, x, hq, hx⟩ := hg
    obtain ⟨its, rv, p, hz⟩ := I.tuple hq
    obtain ⟨u, hu, ru⟩ := rv.get hx
    obtain ⟨f0, f1, f2, f3, f4, f5⟩ := hf it (by simp)
    refine wpAny_pyNext_tuple_item st (show s.heap.IsTuple a its.toArray from p) (x := u) (by simpa using hu) fun h' st' sb => ?_
    have I1 : Inv X pins σ H { s with heap := h' } := I.turned (t' := s.toks) (fun b o hb e => (sb.2 b hb).trans e) f0 f1 f3 f4 f5
    obtain ⟨o, e, c, d⟩ := id st'
    exact ⟨u, rfl, go_of (s := { s with heap := h' }) e c d (by decide) ⟨x, H, I1, ru, ⟨rfl, fun ys hy => by rw [I.tuple_inj hy hq]; exact hx⟩, st', fun b hb => (hf b hb).1⟩⟩
  done := by
    intro X hP hw hK hc i pins s σ H E I hf st hg
    subst hP hw hK
    obtain ⟨xs, hq, hx⟩ := hg
    obtain ⟨its, rv, p, hz⟩ := I.tuple hq
    obtain ⟨f0, f1, f2, f3, f4, f5⟩ := hf it (by simp)
    have hl := rv.length
    exact wpAny_pyNext_tuple_end (I.ok.hd hc) st (show s.heap.IsTuple a its.toArray from p) (by simp; omega) fun h' eb => ⟨rfl, I.turned (t' := s.toks) (fun b o hb e => eb b o hb e) f0 f1 f3 f4 f5⟩
  self := fun _ _ _ _ _ st h => wpAny_pyIter_tupleiter st h
theorem turn_range {P : Program} {w : World} {K : PySem.W.Frag} {tg : Expr} (it : Addr) (lo : Int) (n : Nat) : Turn P w K tg (Itr lo n) [it] it (fun i h => IsRangeIter h it (lo + (i : Nat) * 1) ((n : Int) - (i : Nat)) 1) where
  mem := by simp
  obj := fun i h st b hb => by
    have e : b = it := by simpa using hb
    subst e
    exact ⟨_, st, fun v z => by
      have z' : Data.fields _ = Data.cell v := z
      cases z'⟩
  keep := fun i h h' st k => k it (by simp) _ st
  item := by
    intro X hP hw hK hc i pins s σ H E I hf st hg
    subst hP hw hK
    obtain ⟨f0, f1, f2, f3, f4, f5⟩ := hf it (by simp)
    have W := Walks.range (prog := X.prog) (w := X.w) (I.ok.hd hc) it lo 1 n
    refine W.item i s _ _ hg st fun v h' tk hv st' kk => ?_
    obtain ⟨t, rfl⟩ := hv
    have I1 : Inv X pins σ H { s with heap := h', toks := tk } := I.turned (fun b o hb e => kk b o (by simpa using hb) e) f0 f1 f3 f4 f5
    refine ⟨_, rfl, go_of (s := { s with heap := h', toks := tk }) (n := "range_iterator") st' rfl rfl (by decide) ⟨.int (lo + i), H, I1, ⟨t, ?_⟩, ⟨rfl, rfl⟩, st', fun b hb => (hf b hb).1⟩⟩
    rw [Int.mul_one]
  done := by
    intro X hP hw hK hc i pins s σ H E I hf st hg
    subst hP hw hK
    obtain ⟨f0, f1, f2, f3, f4, f5⟩ := hf it (by simp)
    exact wpAny_pyNext_range_end (I.ok.hd hc) st (by have : n ≤ i := hg; omega) fun h' eb => ⟨rfl, I.turned (t' := s.toks) (fun b o hb e => eb b o hb e) f0 f1 f3 f4 f5⟩
  self := fun _ _ _ _ _ st h => wpAny_pyIter_rangeiter st h
end L2
namespace L2
open PySem PySem.Spec PyProof.Rows
section
variable {X : Cx} {tg : Expr}
noncomputable def iList (K : PySem.W.Frag) (tl : TE) : TI := fun σ H R => tl σ H fun x H1 => ∃ a, x = .ref a ∧ (∃ xs, SqL K H1 a xs) ∧ R (Itl K a) H1
noncomputable def iTup (K : PySem.W.Frag) (tl : TE) : TI := fun σ H R => tl σ H fun x H1 => ∃ a, x = .ref a ∧ (∃ xs, SqT K H1 a xs) ∧ R (Itt K a) H1
theorem pi_list {l : Expr} {tl : TE} (hl : PE X l tl) : PI X tg l (iList X.K tl) := by
  intro pins s σ H R I h
  refine thn (hl pins s σ H _ I h) fun v s1 ⟨x, H1, I1, r1, q1⟩ => ?_
  obtain ⟨a, e, ⟨xs, hq⟩, q⟩ := q1
  subst e
  cases r1
  obtain ⟨its, rv, p, hz⟩ := I1.list hq
  refine wpAny_pyIter_list p.isList ?_
  refine ⟨s1.heap.objs.size, [s1.heap.objs.size], _, _, H1, rfl, I1.kept (t' := s1.toks) fun b o e => Heap.get?_push_of_some _ e, turn_list a _, ⟨_, Heap.get?_push_size _ rfl, rfl, rfl⟩, fun b hb => ?_, q⟩
  have e : b = s1.heap.objs.size := by simpa using hb
  subst e
  exact I1.fpOk (Nat.le_refl _) (I1.hok.fresh (Nat.le_refl _))
theorem pi_tup {l : Expr} {tl : TE} (hl : PE X l tl) : PI X tg l (iTup X.K tl) := by
  intro pins s σ H R I h
  refine thn (hl pins s σ H _ I h) fun v s1 ⟨x, H1, I1, r1, q1⟩ => ?_
  obtain ⟨a, e, ⟨xs, hq⟩, q⟩ := q1
  subst e
  cases r1
  obtain ⟨its, rv, p, hz⟩ := I1.tuple hq
  refine wpAny_pyIter_tuple (show s1.heap.IsTuple a its.toArray from p) ?_
  refine ⟨s1.heap.objs.size, [s1.heap.objs.size], _, _, H1, rfl, I1.kept (t' := s1.toks) fun b o e => Heap.get?_push_of_some _ e, turn_tuple a _, ⟨_, Heap.get?_push_size _ rfl, rfl, rfl⟩, fun b hb => ?_, q⟩
  have e : b = s1.heap.objs.size := by simpa using hb
  subst e
  exact I1.fpOk (Nat.le_refl _) (I1.hok.fresh (Nat.le_refl _))
theorem range_it {pins : List (Addr × Obj)} {σ : St} {H : Hp} {s : Shared} {R : It → Hp → Prop} {E : Value → Shared → Prop} {lo hi : Int} {t u v : Tok} {tk : Nat} (I : Inv X pins σ H s) (h1 : -(2 ^ 62) ≤ lo) (h2 : lo < 2 ^ 62) (h3 : -(2 ^ 62) ≤ hi) (h4 : hi < 2 ^ 62)
    (q : R (Itr lo (hi - lo).toNat) H) : wpAny (model X.prog X.w) X.A (pyIter (.ref s.heap.objs.size)) (PIE X pins σ tg R) E { s with heap := s.heap.push { cls := .type "range", data := .fields #[.int lo t, .int hi u, .int 1 v] }, toks := tk } := by
  refine wpAny_pyIter_range (IsRange.new ..) (small_one h1 h2 h3 h4) ?_
  have I1 : Inv X pins σ H { s with heap := s.heap.push { cls := .type "range", data := .fields #[.int lo t, .int hi u, .int 1 v] }, toks := tk } := I.kept fun b o e => Heap.get?_push_of_some _ e
  refine ⟨(s.heap.push { cls := .type "range", data := .fields #[.int lo t, .int hi u, .int 1 v] }).objs.size, [(s.heap.push { cls := .type "range", data := .fields #[.int lo t, .int hi u, .int 1 v] }).objs.size], _, _, H, rfl,
    I1.kept (t' := tk) fun b o e => Heap.get?_push_of_some _ e, turn_range _ lo (hi - lo).toNat, ?_, fun b hb => ?_, q⟩
  · have e1 : lo + ((0 : Nat) : Int) * 1 = lo := by simp
    have e2 : (((hi - lo).toNat : Nat) : Int) - ((0 : Nat) : Int) = Builtin.Range.rangeSize lo hi 1 := by rw [rangeSize_one]; split <;> omega
    show IsRangeIter _ _ (lo + ((0 : Nat) : Int) * 1) ((((hi - lo).toNat : Nat) : Int) - ((0 : Nat) : Int)) 1
    rw [e1, e2]
    exact Heap.get?_push_size _ rfl
  · have e : b = (s.heap.push { cls := .type "range", data := .fields #[.int lo t, .int hi u, .int 1 v] }).objs.size := by simpa using hb
    subst e
    exact I1.fpOk (Nat.le_refl _) (I1.hok.fresh (Nat.le_refl _))
noncomputable def iRng1 (ta : TA) : TI := fun σ H R => ta σ H fun vs H1 => ∃ j : Int, vs = [.int j] ∧ -(2 ^ 62) ≤ j ∧ j < 2 ^ 62 ∧ R (Itr 0 j.toNat) H1
noncomputable def iRng2 (ta : TA) : TI := fun σ H R => ta σ H fun vs H1 => ∃ i j : Int, vs = [.int i, .int j] ∧ (-(2 ^ 62) ≤ i ∧ i < 2 ^ 62 ∧ -(2 ^ 62) ≤ j ∧ j < 2 ^ 62) ∧ R (Itr i (j - i).toNat) H1
theorem pi_range1 {a : Expr} {ta : TA} {p pos : Pos} (hg : Gl X "range") (hm : X.mg "range" = none) (ha : PA X [a] ta) (hs : starEach [a] X.env = [(false, eval a X.env)] := by rfl) : PI X tg (.Call (.Name "range" p) [a] [] pos) (iRng1 ta) := by
  intro pins s σ H R I h
  refine Call_ (ld_blt I hg hm boot_range (PyProof.Rows.callWith_type1 (thn (ha pos pins s σ H _ I h) fun us s1 ⟨vs, H1, I1, r1, q1⟩ => ?_) hs rfl))
  obtain ⟨j, e, q1, q2, q⟩ := q1
  subst e
  cases r1 with
  | cons r rr =>
    cases rr
    obtain ⟨t, rfl⟩ := r
    exact call_range_1 (range_it I1 (by omega) (by omega) q1 q2 (by simpa using q))
noncomputable def tFor (wi : TI) (g : TG) (tb : TS) : TS := fun D σ H => wi σ H fun J H1 => ∃ W : Nat → Nat → St → Hp → Prop, (∃ m, W 0 m σ H1) ∧ ∀ i m σ H, W i m σ H →
  (J.stop i H ∧ D.nx σ H) ∨ (J.go i H ∧ ∃ N : St → Hp → Prop, (∀ σ' H', N σ' H' → ∃ m', m' < m ∧ W (i + 1) m' σ' H') ∧ ∀ x H', J.yld i H x H' → g x σ H' fun σ2 H2 => tb { D with nx := N, ct := N, bk := D.nx } σ2 H2)
noncomputable def pinsAt (fp : List Addr) (h : Heap) : List (Addr × Obj) := fp.filterMap fun b => (h.get? b).map fun o => (b, o)
theorem mem_pinsAt {fp : List Addr} {h : Heap} {b : Addr} {o : Obj} (hb : b ∈ fp) (e : h.get? b = some o) : (b, o) ∈ pinsAt fp h := List.mem_filterMap.mpr ⟨b, hb, by rw [e]; rfl⟩
theorem of_pinsAt {fp : List Addr} {h : Heap} {p : Addr × Obj} (hp : p ∈ pinsAt fp h) : p.1 ∈ fp ∧ h.get? p.1 = some p.2 := by
  obtain ⟨b, hb, e⟩ := List.mem_filterMap.mp hp
  cases q : h.get? b with
  | none => rw [q] at e; cases e
  | some o =>
    rw [q] at e
    have e' : (b, o) = p := Option.some.inj e
    subst e'
    exact ⟨hb, q⟩
theorem Inv.pinned {pins : List (Addr × Obj)} {σ : St} {H : Hp} {s : Shared} {fp : List Addr} (I : Inv X pins σ H s) (hf : ∀ b ∈ fp, FpOk X pins H b) (ho : ∀ b ∈ fp, ∃ o, s.heap.get? b = some o ∧ ∀ v, o.data ≠ .cell v) : Inv X (pins ++ pinsAt fp s.heap) σ H s :=
  I.pins_of fun p hp => (List.mem_append.mp hp).elim (fun z => I.pin p (List.mem_append_right _ z)) fun z => by
    obtain ⟨hb, e⟩ := of_pinsAt z
    obtain ⟨f0, f1, f2, _⟩ := hf p.1 hb
    obtain ⟨o, e', d⟩ := ho p.1 hb
    rw [e] at e'; cases e'
    exact ⟨e, f0, f1, f2, d⟩
theorem Inv.unpinned {pins pl : List (Addr × Obj)} {σ : St} {H : Hp} {s : Shared} (I : Inv X (pins ++ pl) σ H s) : Inv X pins σ H s := I.pins_of fun p hp => I.pin p (List.mem_append_right _ (List.mem_append_left _ hp))
theorem ps_for {iter : Expr} {body : List Stmt} {wi : TI} {g : TG} {tb : TS} {pos : Pos} (hp : PassesOwn (model X.prog X.w) X.A X.env X.xe) (hc : X.calm = true) (hi : PI X tg iter wi) (hg : PG X tg g) (hb : PSs X body tb)
    (hs : ∀ x, foldedSetIterable iter X.env x = pure x := by intro _; rfl) : PS X (.For tg iter body [] pos) (tFor wi g tb) := by
  intro pins s σ H D I h
  refine wpAny_For (thn (hi pins s σ H _ I h) fun v s1 h1 => thn h1 fun itv s2 h2 => ?_) hs
  obtain ⟨it, fp, tn, J, H2, e, I2, T, st2, f2, W, ⟨m0, w0⟩, turn⟩ := h2
  subst e
  have stat : ∀ {H' : Hp}, (∀ b ∈ fp, H' b = none) → ∀ b ∈ fp, FpOk X pins H' b := fun hn b hb => ⟨hn b hb, (f2 b hb).2⟩
  refine codeAny_forLoop_any (fun n s' => ∃ i σ' H', Inv X pins σ' H' s' ∧ tn i s'.heap ∧ (∀ b ∈ fp, H' b = none) ∧ W i n σ' H') ?_ m0 ⟨0, σ, H2, I2, st2, fun b hb => (f2 b hb).1, w0⟩
  rintro n s3 ⟨i, σ3, H3, I3, st3, fr3, w3⟩
  rcases turn i n σ3 H3 w3 with ⟨stop, qn⟩ | ⟨go, N, hN, step⟩
  · refine wpAny_passesOwn hp (thn (T.done X rfl rfl rfl hc i pins s3 σ3 H3 X.xe I3 (stat fr3) st3 stop) fun r s4 ⟨hr, I4⟩ => ?_)
    subst hr
    exact wpAny_execs_nil ⟨σ3, H3, I4, qn⟩
  · refine wpAny_passesOwn hp (thn (T.item X rfl rfl rfl hc i pins s3 σ3 H3 X.xe I3 (stat fr3) st3 go) fun r s4 ⟨u, hr, h4⟩ => ?_)
    subst hr
    refine wpAny_passesOwn hp (thn h4 fun _ s5 ⟨x, H5, I5, r5, y5, st5, fr5⟩ => ?_)
    have I5' := I5.pinned (stat fr5) (T.obj _ _ st5)
    refine wpAny_passesOwn hp (thn (hg _ s5 σ3 H5 x u _ I5' r5 (step x H5 y5)) fun _ s6 ⟨σ6, H6, I6, q6⟩ => ?_)
    refine wpAny_passesOwn hp (thn (hb _ s6 σ6 H6 _ I6 q6) fun f s7 q7 => ?_)
    have again : ∀ {σ7 : St} {H7 : Hp}, Inv X (pins ++ pinsAt fp s5.heap) σ7 H7 s7 → N σ7 H7 → ∃ m, m < n ∧ ∃ i σ' H', Inv X pins σ' H' s7 ∧ tn i s7.heap ∧ (∀ b ∈ fp, H' b = none) ∧ W i m σ' H' := fun {σ7 H7} I7 n7 => by
      obtain ⟨m', hm, w7⟩ := hN σ7 H7 n7
      refine ⟨m', hm, i + 1, σ7, H7, I7.unpinned, T.keep _ _ _ st5 fun b hb o e => (I7.pin (b, o) (List.mem_append_right _ (List.mem_append_right _ (mem_pinsAt hb e)))).1, fun b hb => ?_, w7⟩
      obtain ⟨o, e, d⟩ := T.obj _ _ st5 b hb
      exact (I7.pin (b, o) (List.mem_append_right _ (List.mem_append_right _ (mem_pinsAt hb e)))).2.1
    cases f with
    | next => obtain ⟨σ7, H7, I7, n7⟩ := q7; exact again I7 n7
    | cont => obtain ⟨σ7, H7, I7, n7⟩ := q7; exact again I7 n7
    | brk => obtain ⟨σ7, H7, I7, q7⟩ := q7; exact ⟨σ7, H7, I7.unpinned, q7⟩
    | ret v => obtain ⟨x7, σ7, H7, I7, r7, q7⟩ := q7; exact ⟨x7, σ7, H7, I7.unpinned, r7, q7⟩
end
theorem for_list {K : PySem.W.Frag} {a : Addr} {xs : List V} {g : TG} {tb : TS} {D : Ends} {σ : St} {H : Hp} (Pv : Nat → St → Hp → Prop) (h0 : Pv 0 σ H) (hl : ∀ i σ H, i ≤ xs.length → Pv i σ H → SqL K H a xs)
    (hs : ∀ i x σ H, xs[i]? = some x → Pv i σ H → g x σ H fun σ2 H2 => tb { D with nx := Pv (i + 1), ct := Pv (i + 1), bk := D.nx } σ2 H2) (hd : ∀ σ H, Pv xs.length σ H → D.nx σ H) :
    ∃ W : Nat → Nat → St → Hp → Prop, (∃ m, W 0 m σ H) ∧ ∀ i m σ H, W i m σ H →
      ((Itl K a).stop i H ∧ D.nx σ H) ∨ ((Itl K a).go i H ∧ ∃ N : St → Hp → Prop, (∀ σ' H', N σ' H' → ∃ m', m' < m ∧ W (i + 1) m' σ' H') ∧ ∀ x H', (Itl K a).yld i H x H' → g x σ H' fun σ2 H2 => tb { D with nx := N, ct := N, bk := D.nx } σ2 H2) := by
  refine ⟨fun i m σ H => m = xs.length - i ∧ i ≤ xs.length ∧ Pv i σ H, ⟨xs.length, by simp, Nat.zero_le _, h0⟩, ?_⟩
  rintro i m σ H ⟨rfl, hi, p⟩
  have q := hl i σ H hi p
  by_cases hlt : i < xs.length
  · refine .inr ⟨⟨xs, xs[i], q, by simp [hlt]⟩, Pv (i + 1), fun σ' H' p' => ⟨xs.length - (i + 1), by omega, rfl, hlt, p'⟩, fun x H' y => ?_⟩
    obtain ⟨e, y⟩ := y
    subst e
    exact hs i x σ _ (y xs q) p
  · have e : i = xs.length := by omega
    subst e
    exact .inl ⟨⟨xs, q, Nat.le_refl _⟩, hd σ H p⟩
theorem for_tup {K : PySem.W.Frag} {a : Addr} {xs : List V} {g : TG} {tb : TS} {D : Ends} {σ : St} {H : Hp} (Pv : Nat → St → Hp → Prop) (h0 : Pv 0 σ H) (hl : ∀ i σ H, i ≤ xs.length → Pv i σ H → SqT K H a xs)
    (hs : ∀ i x σ H, xs[i]? = some x → Pv i σ H → g x σ H fun σ2 H2 => tb { D with nx := Pv (i + 1), ct := Pv (i + 1), bk := D.nx } σ2 H2) (hd : ∀ σ H, Pv xs.length σ H → D.nx σ H) :
    ∃ W : Nat → Nat → St → Hp → Prop, (∃ m, W 0 m σ H) ∧ ∀ i m σ H, W i m σ H →
      ((Itt K a).stop i H ∧ D.nx σ H) ∨ ((Itt K a).go i H ∧ ∃ N : St → Hp → Prop, (∀ σ' H', N σ' H' → ∃ m', m' < m ∧ W (i + 1) m' σ' H') ∧ ∀ x H', (Itt K a).yld i H x H' → g x σ H' fun σ2 H2 => tb { D with nx := N, ct := N, bk := D.nx } σ2 H2) := by
  refine ⟨fun i m σ H => m = xs.length - i ∧ i ≤ xs.length ∧ Pv i σ H, ⟨xs.length, by simp, Nat.zero_le _, h0⟩, ?_⟩
  rintro i m σ H ⟨rfl, hi, p⟩
  have q := hl i σ H hi p
  by_cases hlt : i < xs.length
  · refine .inr ⟨⟨xs, xs[i], q, by simp [hlt]⟩, Pv (i + 1), fun σ' H' p' => ⟨xs.length - (i + 1), by omega, rfl, hlt, p'⟩, fun x H' y => ?_⟩
    obtain ⟨e, y⟩ := y
    subst e
    exact hs i x σ _ (y xs q) p
  · have e : i = xs.length := by omega
    subst e
    exact .inl ⟨⟨xs, q, Nat.le_refl _⟩, hd σ H p⟩
theorem for_range {lo : Int} {n : Nat} {g : TG} {tb : TS} {D : Ends} {σ : St} {H : Hp} (Pv : Nat → St → Hp → Prop) (h0 : Pv 0 σ H)
    (hs : ∀ i σ H, i < n → Pv i σ H → g (.int (lo + i)) σ H fun σ2 H2 => tb { D with nx := Pv (i + 1), ct := Pv (i + 1), bk := D.nx } σ2 H2) (hd : ∀ σ H, Pv n σ H → D.nx σ H) :
    ∃ W : Nat → Nat → St → Hp → Prop, (∃ m, W 0 m σ H) ∧ ∀ i m σ H, W i m σ H →
      ((Itr lo n).stop i H ∧ D.nx σ H) ∨ ((Itr lo n).go i H ∧ ∃ N : St → Hp → Prop, (∀ σ' H', N σ' H' → ∃ m', m' < m ∧ W (i + 1) m' σ' H') ∧ ∀ x H', (Itr lo n).yld i H x H' → g x σ H' fun σ2 H2 => tb { D with nx := N, ct := N, bk := D.nx } σ2 H2) := by
  refine ⟨fun i m σ H => m = n - i ∧ i ≤ n ∧ Pv i σ H, ⟨n, by simp, Nat.zero_le _, h0⟩, ?_⟩
  rintro i m σ H ⟨rfl, hi, p⟩
  by_cases hlt : i < n
  · refine .inr ⟨hlt, Pv (i + 1), fun σ' H' p' => ⟨n - (i + 1), by omega, rfl, hlt, p'⟩, fun x H' y => ?_⟩
    obtain ⟨e, y⟩ := y
    subst e y
    exact hs i σ _ hlt p
  · have e : i = n := by omega
    subst e
    exact .inl ⟨Nat.le_refl _, hd σ H p⟩
end L2
namespace L2
open PySem PySem.Spec PyProof.Rows
noncomputable abbrev R2 := V → V → Hp → VK → Prop
noncomputable def OpR (X : Cx) (f : Value → Value → Sem Value) (r : R2) : Prop :=
  ∀ (pins : List (Addr × Obj)) (s : Shared) (σ : St) (H : Hp) (x y : V) (v u : Value) (Q : VK), Inv X pins σ H s → RelV x v → RelV y u → r x y H Q →
    wpAny (model X.prog X.w) X.A (f v u) (EP X pins σ Q) X.xe s
noncomputable def UnR (X : Cx) (f : Value → Sem Value) (r : V → Hp → VK → Prop) : Prop :=
  ∀ (pins : List (Addr × Obj)) (s : Shared) (σ : St) (H : Hp) (x : V) (v : Value) (Q : VK), Inv X pins σ H s → RelV x v → r x H Q →
    wpAny (model X.prog X.w) X.A (f v) (EP X pins σ Q) X.xe s
noncomputable def CallR (X : Cx) (f : Value) (r : List V → Hp → VK → Prop) : Prop :=
  ∀ (pins : List (Addr × Obj)) (s : Shared) (σ : St) (H : Hp) (xs : List V) (us : List Value) (Q : VK), Inv X pins σ H s → Vals xs us → r xs H Q →
    wpAny (model X.prog X.w) X.A (call f us) (EP X pins σ Q) X.xe s
noncomputable def TruR (X : Cx) (r : V → Hp → (Bool → Hp → Prop) → Prop) : Prop :=
  ∀ (pins : List (Addr × Obj)) (s : Shared) (σ : St) (H : Hp) (x : V) (v : Value) (Q : Bool → Hp → Prop), Inv X pins σ H s → RelV x v → r x H Q →
    wpAny (model X.prog X.w) X.A (truthy v) (TP X pins σ Q) X.xe s
noncomputable def tOp (r : R2) (ta tb : TE) : TE := fun σ H Q => ta σ H fun x H1 => tb σ H1 fun y H2 => r x y H2 Q
noncomputable def tUn (r : V → Hp → VK → Prop) (ta : TE) : TE := fun σ H Q => ta σ H fun x H1 => r x H1 Q
noncomputable def rI (C : Int → Int → Prop) (g : Int → Int → V) : R2 := fun x y H Q => ∃ i j, x = .int i ∧ y = .int j ∧ C i j ∧ Q (g i j) H
noncomputable def rI0 (g : Int → Int → V) : R2 := fun x y H Q => ∃ i j, x = .int i ∧ y = .int j ∧ Q (g i j) H
noncomputable def rU (g : Int → V) : V → Hp → VK → Prop := fun x H Q => ∃ i, x = .int i ∧ Q (g i) H
section
variable {X : Cx} {a b c : Expr} {ta tb tc : TE} {pos : Pos}
theorem binT (ha : PE X a ta) (hb : PE X b tb) {pins : List (Addr × Obj)} {s : Shared} {σ : St} {H : Hp} {R : V → V → Hp → Prop} (I : Inv X pins σ H s)
    (h : ta σ H fun x H1 => tb σ H1 fun y H2 => R x y H2) {Q : Value → Shared → Prop} {f : Value → Value → Sem Value}
    (hf : ∀ v u s2 x y H2, Inv X pins σ H2 s2 → RelV x v → RelV y u → R x y H2 → wpAny (model X.prog X.w) X.A (f v u) Q X.xe s2) :
    wpAny (model X.prog X.w) X.A (eval a X.env) (fun v s₁ => wpAny (model X.prog X.w) X.A (eval b X.env) (fun u s₂ => wpAny (model X.prog X.w) X.A (f v u) Q X.xe s₂) X.xe s₁) X.xe s := by
  refine thn (ha pins s σ H _ I h) fun v s1 ⟨x, H1, I1, r1, q1⟩ => ?_
  refine thn (hb pins s1 σ H1 _ I1 q1) fun u s2 ⟨y, H2, I2, r2, q2⟩ => ?_
  exact hf v u s2 x y H2 I2 r1 r2 q2
theorem pe_op {op : Operator} {r : R2} (ho : OpR X (binaryOp op) r) (ha : PE X a ta) (hb : PE X b tb) : PE X (.BinOp a op b pos) (tOp r ta tb) := by
  intro pins s σ H Q I h
  exact wpAny_BinOp (binT ha hb I h fun v u s2 x y H2 I2 rx ry q => ho pins s2 σ H2 x y v u Q I2 rx ry q)
theorem pe_un {op : UnaryOp} {r : V → Hp → VK → Prop} (ho : UnR X (unaryOp op) r) (ha : PE X a ta) : PE X (.UnaryOp op a pos) (tUn r ta) := by
  intro pins s σ H Q I h
  exact UnaryOp_ (thn (ha pins s σ H _ I h) fun v s1 ⟨x, H1, I1, r1, q1⟩ => ho pins s1 σ H1 x v Q I1 r1 q1)
theorem opI {f : Value → Value → Sem Value} {C : Int → Int → Prop} {g : Int → Int → Int}
    (rule : ∀ (i j : Int) (t u : Tok) (s : Shared) (Q : Value → Shared → Prop) (E : Value → Shared → Prop), C i j → Q (.int (g i j) s.toks) { s with toks := s.toks + 1 } → wpAny (model X.prog X.w) X.A (f (.int i t) (.int j u)) Q E s) :
    OpR X f (rI C fun i j => .int (g i j)) := by
  intro pins s σ H x y v u Q I rx ry h
  obtain ⟨i, j, rfl, rfl, hc, q⟩ := h
  obtain ⟨t, rfl⟩ := rx
  obtain ⟨t', rfl⟩ := ry
  exact rule i j t t' s _ _ hc ⟨.int (g i j), H, I.tok _, ⟨_, rfl⟩, q⟩
theorem opI0 {f : Value → Value → Sem Value} {g : Int → Int → Int}
    (rule : ∀ (i j : Int) (t u : Tok) (s : Shared) (Q : Value → Shared → Prop) (E : Value → Shared → Prop), Q (.int (g i j) s.toks) { s with toks := s.toks + 1 } → wpAny (model X.prog X.w) X.A (f (.int i t) (.int j u)) Q E s) :
    OpR X f (rI0 fun i j => .int (g i j)) := by
  intro pins s σ H x y v u Q I rx ry h
  obtain ⟨i, j, rfl, rfl, q⟩ := h
  obtain ⟨t, rfl⟩ := rx
  obtain ⟨t', rfl⟩ := ry
  exact rule i j t t' s _ _ ⟨.int (g i j), H, I.tok _, ⟨_, rfl⟩, q⟩
theorem opB0 {f : Value → Value → Sem Value} {g : Int → Int → Bool}
    (rule : ∀ (i j : Int) (t u : Tok) (s : Shared) (Q : Value → Shared → Prop) (E : Value → Shared → Prop), Q (.bool (g i j)) s → wpAny (model X.prog X.w) X.A (f (.int i t) (.int j u)) Q E s) :
    OpR X f (rI0 fun i j => .bl (g i j)) := by
  intro pins s σ H x y v u Q I rx ry h
  obtain ⟨i, j, rfl, rfl, q⟩ := h
  obtain ⟨t, rfl⟩ := rx
  obtain ⟨t', rfl⟩ := ry
  exact rule i j t t' s _ _ ⟨.bl (g i j), H, I, rfl, q⟩
noncomputable def CDiv (i j : Int) : Prop := 0 < j ∧ j < 1073741824
noncomputable def CDivN (i j : Int) : Prop := j ≠ 0 ∧ j.natAbs < 1073741824
noncomputable def CPow (i j : Int) : Prop := 0 ≤ j ∧ j ≤ 1000000 ∧ i.natAbs < 2 ^ 64
noncomputable def CMul (i j : Int) : Prop := (-(2 ^ 64) < i ∧ i < 2 ^ 64) ∨ (-(2 ^ 64) < j ∧ j < 2 ^ 64)
theorem CMul.ok {i j : Int} (h : CMul i j) : IntMulOk i j := by
  rcases h with ⟨h1, h2⟩ | ⟨h1, h2⟩
  · exact .of_left (intBits_le_64 h1 h2)
  · exact .of_right (intBits_le_64 h1 h2)
theorem op_add : OpR X (binaryOp .Add) (rI0 fun i j => .int (i + j)) := opI0 fun _ _ _ _ _ _ _ q => add_int q
theorem op_sub : OpR X (binaryOp .Sub) (rI0 fun i j => .int (i - j)) := opI0 fun _ _ _ _ _ _ _ q => sub_int q
theorem op_mod : OpR X (binaryOp .Mod) (rI (fun _ j => 0 < j) fun i j => .int (i % j)) := opI fun i j _ _ _ _ _ hc q => by
  have h1 : (0 : Int) < j := hc
  exact mod_int' (by omega) (by rw [Int.fmod_eq_emod_of_nonneg i (by omega)]; exact q)
theorem op_pow : OpR X (binaryOp .Pow) (rI CPow fun i j => .int (i ^ j.toNat)) := opI fun _ _ _ _ _ _ _ hc q => pow_int_small hc.1 hc.2.1 hc.2.2 q
theorem unI {f : Value → Sem Value} {g : Int → Int}
    (rule : ∀ (i : Int) (t : Tok) (s : Shared) (Q : Value → Shared → Prop) (E : Value → Shared → Prop), Q (.int (g i) s.toks) { s with toks := s.toks + 1 } → wpAny (model X.prog X.w) X.A (f (.int i t)) Q E s) :
    UnR X f (rU fun i => .int (g i)) := by
  intro pins s σ H x v Q I rx h
  obtain ⟨i, rfl, q⟩ := h
  obtain ⟨t, rfl⟩ := rx
  exact rule i t s _ _ ⟨.int (g i), H, I.tok _, ⟨_, rfl⟩, q⟩
theorem un_neg : UnR X (unaryOp .USub) (rU fun i => .int (-i)) := unI fun _ _ _ _ _ q => neg_int q
end
noncomputable def scal : V → V → Bool
  | .non, .non => true | .non, .int _ => true | .int _, .non => true | .non, .bl _ => true | .bl _, .non => true | .non, .str _ => true | .str _, .non => true
  | .int _, .int _ => true | .bl _, .bl _ => true | .str _, .str _ => true | .byt _, .byt _ => true
  | .int _, .str _ => true | .str _, .int _ => true | .bl _, .str _ => true | .str _, .bl _ => true
  | _, _ => false
noncomputable def rEq : R2 := fun x y H Q => scal x y = true ∧ Q (.bl (decide (x = y))) H
noncomputable def rNe : R2 := fun x y H Q => scal x y = true ∧ Q (.bl (!decide (x = y))) H
theorem dec_int {i j : Int} : decide (V.int i = V.int j) = (i == j) := by
  rw [Bool.eq_iff_iff]
  simp
theorem dec_bl {i j : Bool} : decide (V.bl i = V.bl j) = (i == j) := by
  rw [Bool.eq_iff_iff]
  simp
theorem dec_str {i j : Str} : decide (V.str i = V.str j) = (i == j) := by
  rw [Bool.eq_iff_iff]
  simp
theorem dec_byt {i j : Array UInt8} : decide (V.byt i = V.byt j) = (i.toList == j.toList) := by
  rw [Bool.eq_iff_iff]
  cases i
  cases j
  simp
section
variable {X : Cx} {a b c : Expr} {ta tb tc : TE} {pos : Pos}
theorem fin_bl {pins : List (Addr × Obj)} {σ : St} {H : Hp} {s : Shared} {Q : VK} {k k' : Bool} (I : Inv X pins σ H s) (q : Q (.bl k) H) (e : k = k') : EP X pins σ Q (.bool k') s := by
  subst e
  exact ⟨.bl k, H, I, rfl, q⟩
theorem op_eq : OpR X (compareOp .Eq) rEq := by
  intro pins s σ H x y v u Q I rx ry h
  obtain ⟨hs, q⟩ := h
  cases x with
  | non =>
    cases rx
    cases y with
    | non => cases ry; exact PySem.EqNone.eq_none_none (fin_bl I q (by simp))
    | bl j => cases ry; exact PySem.EqNone.eq_none_bool (fin_bl I q (by simp))
    | int j => obtain ⟨t', rfl⟩ := ry; exact PySem.EqNone.eq_none_int (fin_bl I q (by simp))
    | str j => obtain ⟨t', rfl⟩ := ry; exact PySem.EqNone.eq_none_str (fin_bl I q (by simp))
    | _ => exact absurd (show false = true from hs) Bool.false_ne_true
  | bl i =>
    cases rx
    cases y with
    | non => cases ry; exact PySem.EqNone.eq_bool_none (fin_bl I q (by simp))
    | bl j => cases ry; exact eq_bool (fin_bl I q dec_bl)
    | str j => obtain ⟨t', rfl⟩ := ry; exact PySem.EqMixed.eq_bool_str (fin_bl I q (by simp))
    | _ => exact absurd (show false = true from hs) Bool.false_ne_true
  | int i =>
    obtain ⟨t, rfl⟩ := rx
    cases y with
    | non => cases ry; exact PySem.EqNone.eq_int_none (fin_bl I q (by simp))
    | int j => obtain ⟨t', rfl⟩ := ry; exact eq_int (fin_bl I q dec_int)
    | str j => obtain ⟨t', rfl⟩ := ry; exact PySem.EqMixed.eq_int_str (fin_bl I q (by simp))
    | _ => exact absurd (show false = true from hs) Bool.false_ne_true
  | str i =>
    obtain ⟨t, rfl⟩ := rx
    cases y with
    | non => cases ry; exact PySem.EqNone.eq_str_none (fin_bl I q (by simp))
    | bl j => cases ry; exact PySem.EqMixed.eq_str_bool (fin_bl I q (by simp))
    | int j => obtain ⟨t', rfl⟩ := ry; exact PySem.EqMixed.eq_str_int (fin_bl I q (by simp))
    | str j => obtain ⟨t', rfl⟩ := ry; exact eq_str (fin_bl I q dec_str)
    | _ => exact absurd (show false = true from hs) Bool.false_ne_true
  | byt i =>
    obtain ⟨t, rfl⟩ := rx
    cases y with
    | byt j => obtain ⟨t', rfl⟩ := ry; exact PySem.W.eq_bytes (fin_bl I q dec_byt)
    | _ => exact absurd (show false = true from hs) Bool.false_ne_true
  | _ => cases y <;> exact absurd (show false = true from hs) Bool.false_ne_true
theorem op_ne : OpR X (compareOp .NotEq) rNe := by
  intro pins s σ H x y v u Q I rx ry h
  obtain ⟨hs, q⟩ := h
  cases x with
  | non =>
    cases rx
    cases y with
    | non => cases ry; exact PySem.EqNone.ne_none_none (fin_bl I q (by simp))
    | bl j => cases ry; exact PySem.EqNone.ne_none_bool (fin_bl I q (by simp))
    | int j => obtain ⟨t', rfl⟩ := ry; exact PySem.EqNone.ne_none_int (fin_bl I q (by simp))
    | str j => obtain ⟨t', rfl⟩ := ry; exact PySem.EqNone.ne_none_str (fin_bl I q (by simp))
    | _ => exact absurd (show false = true from hs) Bool.false_ne_true
  | bl i =>
    cases rx
    cases y with
    | non => cases ry; exact PySem.EqNone.ne_bool_none (fin_bl I q (by simp))
    | bl j => cases ry; exact ne_bool (fin_bl I q (congrArg not dec_bl))
    | str j => obtain ⟨t', rfl⟩ := ry; exact PySem.EqMixed.ne_bool_str (fin_bl I q (by simp))
    | _ => exact absurd (show false = true from hs) Bool.false_ne_true
  | int i =>
    obtain ⟨t, rfl⟩ := rx
    cases y with
    | non => cases ry; exact PySem.EqNone.ne_int_none (fin_bl I q (by simp))
    | int j => obtain ⟨t', rfl⟩ := ry; exact ne_int (fin_bl I q (congrArg not dec_int))
    | str j => obtain ⟨t', rfl⟩ := ry; exact PySem.EqMixed.ne_int_str (fin_bl I q (by simp))
    | _ => exact absurd (show false = true from hs) Bool.false_ne_true
  | str i =>
    obtain ⟨t, rfl⟩ := rx
    cases y with
    | non => cases ry; exact PySem.EqNone.ne_str_none (fin_bl I q (by simp))
    | bl j => cases ry; exact PySem.EqMixed.ne_str_bool (fin_bl I q (by simp))
    | int j => obtain ⟨t', rfl⟩ := ry; exact PySem.EqMixed.ne_str_int (fin_bl I q (by simp))
    | str j => obtain ⟨t', rfl⟩ := ry; exact ne_str (fin_bl I q (congrArg not dec_str))
    | _ => exact absurd (show false = true from hs) Bool.false_ne_true
  | byt i =>
    obtain ⟨t, rfl⟩ := rx
    cases y with
    | byt j => obtain ⟨t', rfl⟩ := ry; exact PySem.W.ne_bytes (fin_bl I q (congrArg not dec_byt))
    | _ => exact absurd (show false = true from hs) Bool.false_ne_true
  | _ => cases y <;> exact absurd (show false = true from hs) Bool.false_ne_true
theorem op_lt : OpR X (compareOp .Lt) (rI0 fun i j => .bl (decide (i < j))) := opB0 fun _ _ _ _ _ _ _ q => lt_int q
theorem op_le : OpR X (compareOp .LtE) (rI0 fun i j => .bl (decide (i ≤ j))) := opB0 fun _ _ _ _ _ _ _ q => le_int q
theorem op_gt : OpR X (compareOp .Gt) (rI0 fun i j => .bl (decide (j < i))) := opB0 fun _ _ _ _ _ _ _ q => gt_int q
noncomputable def isObj : HO → Bool
  | .lst _ => true
  | .ins _ _ _ => true
  | _ => false
theorem OpR.or {f : Value → Value → Sem Value} {r r' : R2} (h : OpR X f r) (h' : OpR X f r') : OpR X f (fun x y H Q => r x y H Q ∨ r' x y H Q) := by
  intro pins s σ H x y v u Q I rx ry q
  rcases q with q | q
  · exact h pins s σ H x y v u Q I rx ry q
  · exact h' pins s σ H x y v u Q I rx ry q
theorem nomark (b : Expr) {op : CmpOp} (h : op ≠ .In := by decide) (h2 : op ≠ .NotIn := by decide) : behindInMarks op b = false := by
  have e1 : (op == CmpOp.In) = false := by cases op <;> first | rfl | exact absurd rfl h
  have e2 : (op == CmpOp.NotIn) = false := by cases op <;> first | rfl | exact absurd rfl h2
  cases b <;> simp [behindInMarks, e1, e2]
theorem pe_cmpR {op : CmpOp} {r : R2} (ho : OpR X (compareOp op) r) (ha : PE X a ta) (hb : PE X b tb) (hm : behindInMarks op b = false) : PE X (.Compare a [op] [b] pos) (tOp r ta tb) := by
  intro pins s σ H Q I h
  exact wpAny_Compare1 (binT ha hb I h fun v u s2 x y H2 I2 rx ry q => ho pins s2 σ H2 x y v u Q I2 rx ry q) hm
noncomputable def tTest (t : TE) : TT := fun σ H Q => t σ H fun x H' => ∃ k, x = .bl k ∧ Q k H'
theorem pt_cmpR {op : CmpOp} {r : R2} (ho : OpR X (compareOp op) r) (ha : PE X a ta) (hb : PE X b tb) (hm : behindInMarks op b = false) : PT X (.Compare a [op] [b] pos) (tTest (tOp r ta tb)) := by
  intro pins s σ H Q I h
  refine wpAny_isTrue_Compare1 (thn (ha pins s σ H _ I h) fun v s1 ⟨x, H1, I1, r1, q1⟩ => thn (hb pins s1 σ H1 _ I1 q1) fun u s2 ⟨y, H2, I2, r2, q2⟩ =>
    thn (ho pins s2 σ H2 x y v u _ I2 r1 r2 q2) fun c s3 ⟨z, H3, I3, r3, k, e, q3⟩ => ?_) hm
  subst e
  cases r3
  exact wpAny_truthy_bool ⟨H3, I3, q3⟩
noncomputable def tChain (r r' : R2) (ta tb tc : TE) : TE := fun σ H Q => ta σ H fun x H1 => tb σ H1 fun y H2 => r x y H2 fun z H3 => ∃ k, z = .bl k ∧
  (if k = true then tc σ H3 fun w' H4 => r' y w' H4 Q else Q (.bl false) H3)
theorem pe_chain {op op' : CmpOp} {r r' : R2} (ho : OpR X (compareOp op) r) (ho' : OpR X (compareOp op') r') (ha : PE X a ta) (hb : PE X b tb) (hc : PE X c tc)
    (hm : lastMarks [op, op'] [b, c] = false := by with_unfolding_all rfl) : PE X (.Compare a [op, op'] [b, c] pos) (tChain r r' ta tb tc) := by
  intro pins s σ H Q I h
  refine Compare_chain (thn (ha pins s σ H _ I h) fun v s1 ⟨x, H1, I1, r1, q1⟩ => chain_link (thn (hb pins s1 σ H1 _ I1 q1) fun u s2 ⟨y, H2, I2, r2, q2⟩ =>
    thn (ho pins s2 σ H2 x y v u _ I2 r1 r2 q2) fun d s3 ⟨z, H3, I3, r3, k, e, q3⟩ => ?_)) hm
  subst e
  cases r3
  refine wpAny_truthy_bool ?_
  cases k with
  | false => exact ite_ff ⟨.bl false, H3, I3, rfl, q3⟩
  | true => exact ite_tt (chain_last (thn (hc pins s3 σ H3 _ I3 q3) fun w' s4 ⟨z', H4, I4, r4, q4⟩ => ho' pins s4 σ H4 y z' u w' Q I4 r2 r4 q4))
noncomputable def TruV (K : PySem.W.Frag) (x : V) (H : Hp) (k : Bool) : Prop :=
  match x with
  | .non => k = false
  | .bl b => k = b
  | .int i => k = (i != 0)
  | .str y => y.length ≤ sizeLine ∧ k = ((y.length : Int) != 0)
  | .byt y => y.size ≤ sizeLine ∧ k = ((y.size : Int) != 0)
  | .ref p => (∃ xs, SqL K H p xs ∧ k = !xs.isEmpty) ∨ (∃ xs, SqT K H p xs ∧ k = !xs.isEmpty) ∨ ∃ kvs, H p = some (.dK kvs) ∧ k = !kvs.isEmpty
  | _ => False
theorem line63 : (sizeLine : Nat) < 2 ^ 63 := by rw [sizeLine_eq]; decide
noncomputable def PlainIxT (b : Expr) : Prop := ∀ o i, subscripted b false o i = operate [o, i] (getItem o i)
theorem vals1 {x : V} {us : List Value} (r : Vals [x] us) : ∃ u, us = [u] ∧ RelV x u := by
  cases r with
  | cons r1 r2 => cases r2; exact ⟨_, rfl, r1⟩
theorem vals2 {x y : V} {us : List Value} (r : Vals [x, y] us) : ∃ u w', us = [u, w'] ∧ RelV x u ∧ RelV y w' := by
  cases r with
  | cons r1 r2 =>
    cases r2 with
    | cons r3 r4 => cases r4; exact ⟨_, _, rfl, r1, r3⟩
theorem call_abs : CallR X (.builtin "abs") (fun xs H Q => ∃ i, xs = [.int i] ∧ Q (.int (if i < 0 then -i else i)) H) := by
  intro pins s σ H xs us Q I r h
  obtain ⟨i, rfl, q⟩ := h
  obtain ⟨u, rfl, t, rfl⟩ := vals1 r
  exact call_abs_int fun u tk => ⟨.int (if i < 0 then -i else i), H, I.tok _, ⟨_, rfl⟩, q⟩
theorem call_max2 (hc : X.calm = true) : CallR X (.builtin "max") (fun xs H Q => ∃ i j, xs = [.int i, .int j] ∧ Q (.int (if j > i then j else i)) H) := by
  intro pins s σ H xs us Q I r h
  obtain ⟨i, j, rfl, q⟩ := h
  obtain ⟨u, w', rfl, ⟨t, rfl⟩, ⟨t', rfl⟩⟩ := vals2 r
  refine max_two_ints (I.ok.hd hc) fun h' tk k => ⟨_, H, I.kept k, ?_, q⟩
  by_cases hj : j > i
  · rw [if_pos hj, if_pos hj]; exact ⟨_, rfl⟩
  · rw [if_neg hj, if_neg hj]; exact ⟨_, rfl⟩
theorem call_min2 (hc : X.calm = true) : CallR X (.builtin "min") (fun xs H Q => ∃ i j, xs = [.int i, .int j] ∧ Q (.int (if j < i then j else i)) H) := by
  intro pins s σ H xs us Q I r h
  obtain ⟨i, j, rfl, q⟩ := h
  obtain ⟨u, w', rfl, ⟨t, rfl⟩, ⟨t', rfl⟩⟩ := vals2 r
  refine min_two_ints (I.ok.hd hc) fun h' tk k => ⟨_, H, I.kept k, ?_, q⟩
  by_cases hj : j < i
  · rw [if_pos hj, if_pos hj]; exact ⟨_, rfl⟩
  · rw [if_neg hj, if_neg hj]; exact ⟨_, rfl⟩
noncomputable def LenV (K : PySem.W.Frag) (x : V) (H : Hp) (n : Nat) : Prop :=
  match x with
  | .str y => y.length ≤ sizeLine ∧ n = y.length
  | .byt y => y.size ≤ sizeLine ∧ n = y.size
  | .ref p => (∃ xs, SqL K H p xs ∧ n = xs.length) ∨ ∃ xs, SqT K H p xs ∧ n = xs.length
  | _ => False
end
end L2
namespace L2
open PySem PySem.Spec PyProof.Rows
structure ObjM (h : Heap) (x dx C : Addr) (mA : Str → Option Value) : Prop where
  obj : h.get? x = some (PySem.W.instObj C dx)
  ns : h.Ns1 dx mA
  ne : dx ≠ x
theorem lookIn_ns {h : Heap} {dx : Addr} {mA : Str → Option Value} (n : h.Ns1 dx mA) : ∃ od, h.get? dx = some od ∧ ∀ name, PySem.W.lookIn name od = some (mA name) := by
  obtain ⟨o, es, ep, ho, hd, hk, _, hm⟩ := n
  refine ⟨o, ho, fun name => ?_⟩
  have e := hm name
  unfold nsFind findBy at e
  rw [← Array.find?_toList] at e
  unfold PySem.W.lookIn
  rw [hd]
  dsimp only
  split
  · rename_i y q
    rw [q] at e
    exact congrArg some e
  · rename_i q
    rw [q] at e
    have a : es.toList.any (·.refKey) = false := by
      rw [List.any_eq_false]
      intro y hy
      obtain ⟨z, t, hkey⟩ := hk y (Array.mem_toList_iff.mp hy)
      simp [DictEntry.refKey, hkey]
    have a' : ¬ es.toList.any (·.refKey) = true := by rw [a]; exact Bool.false_ne_true
    rw [if_neg a']
    exact congrArg some e
theorem ObjM.look {h : Heap} {x dx C : Addr} {mA : Str → Option Value} (I : ObjM h x dx C mA) : ∃ od, PySem.W.InstAt h x (PySem.W.instObj C dx) C (some od) ∧ ∀ name, PySem.W.lookIn name od = some (mA name) :=
  let ⟨od, ho, hl⟩ := lookIn_ns I.ns
  ⟨od, ⟨I.obj, rfl, rfl, ho⟩, hl⟩
section
variable {prog : Program} {w : World} {A : Around} {E : Value → Shared → Prop} {s : Shared} {K : PySem.W.Frag} {x dx C f : Addr} {mA : Str → Option Value} {name : Str} {v : Value}
end
noncomputable def putF (f : Str) (v : V) : List (Str × V) → List (Str × V)
  | [] => [(f, v)]
  | (g, x) :: r => if g = f then (g, v) :: r else (g, x) :: putF f v r
section
variable {P : Program} {w : World} {H H' : Hp} {h h' : Heap} {a C dx : Addr} {fs fs' : List (Str × V)}
theorem ins_get (hok : HOk P w H h) (e : H a = some (.ins C dx fs)) : ∃ mA, ObjM h a dx C mA ∧ (∀ f, RelO (fs.lookup f) (mA f)) ∧ PySem.Within mA (fs.map (·.1)) ∧ fs.length ≤ 1000 ∧ H dx = some (.own a) := by
  obtain ⟨d, z, ne, ob, mA, n, r, q⟩ := (show ObjOk P w H h a (.ins C dx fs) from hok a _ e)
  exact ⟨mA, ⟨ob, n, ne⟩, r, q, z, d⟩
end
structure Cls (K : PySem.W.Frag) (C : Addr) : Prop where
  pg : PySem.W.plainGet K C Str.empty = true
  hd : PySem.W.hasDictIn K C = true
  po : PySem.W.plainOver K C = true
  sa : PySem.W.findIn K (.ref C) "__setattr__" = some (some (.builtin "object.__setattr__"))
theorem Cls.get {K : PySem.W.Frag} {C : Addr} (c : Cls K C) (f : Str) : PySem.W.plainGet K C f = true := c.pg
noncomputable def NoAttr (K : PySem.W.Frag) (C : Addr) (f : Str) : Prop := PySem.W.findIn K (.ref C) f = some none
structure Con (K : PySem.W.Frag) (C : Addr) (f : Str) (v : V) (u : Value) : Prop where
  at_ : PySem.W.findIn K (.ref C) f = some (some u)
  rel : RelV v u
  get : PySem.W.specialIn K u "__get__" = some none
  cp : PySem.W.copiedNames.contains f = false
structure Meth (K : PySem.W.Frag) (C : Addr) (m : Str) (f : Addr) : Prop where
  at_ : PySem.W.findIn K (.ref C) m = some (some (.ref f))
  fn : PySem.W.isFn K (.ref f) = true
  kp : PySem.W.keepIn K (.ref f) = true
section
variable {X : Cx} {pins : List (Addr × Obj)} {σ : St} {H : Hp} {s : Shared} {a C dx : Addr} {fs : List (Str × V)} {f : Str} {v : V} {A : Around} {E : Value → Shared → Prop}
theorem Inv.made (I : Inv X pins σ H s) : Inv X pins σ (upd (upd H s.heap.objs.size (.own (s.heap.objs.size + 1))) (s.heap.objs.size + 1) (.ins C s.heap.objs.size []))
    { s with heap := (s.heap.push PySem.W.emptyDict).push (PySem.W.instObj C s.heap.objs.size) } := by
  have e1 : (s.heap.push PySem.W.emptyDict).get? s.heap.objs.size = some PySem.W.emptyDict := Heap.get?_push_size s.heap rfl
  have e2 : ((s.heap.push PySem.W.emptyDict).push (PySem.W.instObj C s.heap.objs.size)).get? (s.heap.objs.size + 1) = some (PySem.W.instObj C s.heap.objs.size) := by
    have := Heap.get?_push_size (s.heap.push PySem.W.emptyDict) (o := PySem.W.instObj C s.heap.objs.size) rfl
    rwa [Heap.size_push] at this
  have e3 : (s.heap.push PySem.W.emptyDict).Ns s.heap.objs.size (fun _ => none) := ⟨PySem.W.emptyDict, #[], _, e1, rfl, (fun e he => absurd he (by simp)), fun _ => rfl⟩
  have I1 := I.laid (a := s.heap.objs.size) (o := .own (s.heap.objs.size + 1)) (h' := s.heap.push PySem.W.emptyDict) (t' := s.toks) (fun b u q => Heap.get?_push_of_some _ q) (Nat.le_refl _) ⟨_, e1⟩
  refine I1.laid (a := s.heap.objs.size + 1) (o := .ins C s.heap.objs.size []) (t' := s.toks) (fun b u q => Heap.get?_push_of_some _ q) (Nat.le_of_eq (Heap.size_push _ _)) ?_
  have ne : s.heap.objs.size ≠ s.heap.objs.size + 1 := Nat.ne_of_lt (Nat.lt_succ_self _)
  refine ⟨by rw [upd_ne ne, upd_same], Nat.zero_le _, ne, e2, fun _ => none, (Heap.Ns1.of_empty e3).at fun o q => Heap.get?_push_of_some _ q, fun _ => True.intro, fun y hy => absurd rfl hy⟩
end
noncomputable def tFld (K : PySem.W.Frag) (ta : TE) (f : Str) : TE := fun σ H Q => ta σ H fun x H1 => ∃ a C dx fs v, x = .ref a ∧ H1 a = some (.ins C dx fs) ∧ Cls K C ∧ NoAttr K C f ∧ fs.lookup f = some v ∧ Q v H1
noncomputable def tCon (K : PySem.W.Frag) (ta : TE) (f : Str) : TE := fun σ H Q => ta σ H fun x H1 => ∃ a C dx fs v u, x = .ref a ∧ H1 a = some (.ins C dx fs) ∧ Cls K C ∧ Con K C f v u ∧ fs.lookup f = none ∧ Q v H1
noncomputable def sFld (K : PySem.W.Frag) (ta tv : TE) (f : Str) : TS := fun D σ H => tv σ H fun y H1 => ta σ H1 fun x H2 => ∃ a C dx fs, x = .ref a ∧ H2 a = some (.ins C dx fs) ∧ Cls K C ∧ NoAttr K C f ∧ fs.length < 1000 ∧
  D.nx σ (upd H2 a (.ins C dx (putF f y fs)))
noncomputable def InOp (X : Cx) (op : Operator) (rd : V → V → Hp → VK → Prop) : Prop :=
  ∀ (pins : List (Addr × Obj)) (s : Shared) (σ : St) (H : Hp) (x y : V) (u v : Value) (Q : VK), Inv X pins σ H s → RelV x u → RelV y v → rd x y H Q → wpAny (model X.prog X.w) X.A (inplaceOp op u v) (EP X pins σ Q) X.xe s
noncomputable def sFldAug (K : PySem.W.Frag) (ta tv : TE) (rd : V → V → Hp → VK → Prop) (f : Str) : TS := fun D σ H => ta σ H fun x H1 => ∃ a C dx fs v, x = .ref a ∧ H1 a = some (.ins C dx fs) ∧ Cls K C ∧ NoAttr K C f ∧ fs.lookup f = some v ∧
  tv σ H1 fun y H2 => rd v y H2 fun z H3 => ∃ dx' fs', H3 a = some (.ins C dx' fs') ∧ fs'.length < 1000 ∧ D.nx σ (upd H3 a (.ins C dx' (putF f z fs')))
section
variable {X : Cx} {o e value : Expr} {f : Str} {pos pos' tpos : Pos} {ta tv : TE}
noncomputable def rAdd : V → V → Hp → VK → Prop := fun x y H Q => ∃ i j, x = .int i ∧ y = .int j ∧ Q (.int (i + j)) H
noncomputable def rSub : V → V → Hp → VK → Prop := fun x y H Q => ∃ i j, x = .int i ∧ y = .int j ∧ Q (.int (i - j)) H
end
section
variable {X : Cx} {pins : List (Addr × Obj)} {σ : St} {H : Hp} {s : Shared} {A : Around} {E : Value → Shared → Prop} {Q : Value → Shared → Prop} {c : Value} {b : Bool}
inductive TyOf (K : PySem.W.Frag) (H : Hp) : V → Value → Prop where
  | non : TyOf K H .non (.type "NoneType")
  | bl (x : Bool) : TyOf K H (.bl x) (.type "bool")
  | int (i : Int) : TyOf K H (.int i) (.type "int")
  | str (x : Str) : TyOf K H (.str x) (.type "str")
  | flt (x : UInt64) : TyOf K H (.flt x) (.type "float")
  | lst {a : Addr} {xs : List V} (e : H a = some (.lst xs)) : TyOf K H (.ref a) (.type "list")
  | frz {a : Addr} {o : Obj} {xs : List V} (e : H a = some (.frz o (.lst xs))) : TyOf K H (.ref a) (.type "list")
  | tup {a : Addr} {xs : List V} (e : H a = some (.tup xs)) : TyOf K H (.ref a) (.type "tuple")
  | dK {a : Addr} {kvs : List (Key × V)} (e : H a = some (.dK kvs)) : TyOf K H (.ref a) (.type "dict")
  | dT {a : Addr} {kvs : List (List Key × V)} (e : H a = some (.dT kvs)) : TyOf K H (.ref a) (.type "dict")
  | ins {a C dx : Addr} {fs : List (Str × V)} (e : H a = some (.ins C dx fs)) (cl : Cls K C) (ha : PySem.W.findIn K (.ref C) "__class__" = some (some (.builtin "object.__class__")))
      (hn : PySem.W.specialIn K (.builtin "object.__class__") "__get__" = some (some (.builtin "getset_descriptor.__get__"))) (htk : PySem.W.takesIn K (.builtin "object.__class__") = some true)
      (hm : PySem.W.mroIn K C (.type "object") = some true) : TyOf K H (.ref a) (.ref C)
end
end L2
namespace L2
open PySem PySem.Spec PyProof.Rows
structure Room (k : Nat) (A : Around) : Prop where
  hd : A.handled = none
  dp : A.depth + 3 * k + 5 < recursionLimit
  un : A.units + 16 * k + 200 < cLine
  gd : A.guards = some []
theorem Room.mono {j k : Nat} {A : Around} (r : Room k A) (h : j ≤ k) : Room j A := ⟨r.hd, by have := r.dp; omega, by have := r.un; omega, r.gd⟩
theorem Room.deeper {k : Nat} {A : Around} (r : Room (k + 1) A) (env : Env) : Room k (A.deeper env) :=
  ⟨r.hd, by have := r.dp; show A.depth + 1 + 3 * k + 5 < _; omega, by have := r.un; show A.units + 3 + 16 * k + 200 < _; omega, r.gd⟩
theorem Room.in1 {k : Nat} {A : Around} (r : Room (k + 1) A) : Room k A.in1 :=
  ⟨r.hd, by have := r.dp; show A.depth + 3 * k + 5 < _; omega, by have := r.un; show A.units + 1 + 16 * k + 200 < _; omega, r.gd⟩
theorem Room.depth {k : Nat} {A : Around} (r : Room k A) : A.depth < recursionLimit := by have := r.dp; omega
theorem Room.units {k : Nat} {A : Around} (r : Room k A) : A.units + 64 < cLine := by have := r.un; omega
noncomputable def tNil : TA := fun _ H Q => Q [] H
noncomputable def tCons (ta : TE) (tr : TA) : TA := fun σ H Q => ta σ H fun x H1 => tr σ H1 fun xs H2 => Q (x :: xs) H2
section
variable {X : Cx} {e : Expr} {es : List Expr} {te : TE} {t : TA} {pos : Pos}
theorem pa_nil : PA X [] tNil := fun _ _ _ _ H Q I h => Calls.spliced_nil ⟨[], H, I, .nil, h⟩
theorem pa_cons (ha : PE X e te) (hr : PA X es t) (hs : starEach (e :: es) X.env = (false, eval e X.env) :: starEach es X.env := by rfl) : PA X (e :: es) (tCons te t) := by
  intro pos pins s σ H Q I h
  rw [hs]
  show wpAny _ _ (spliced ((false, eval e X.env) :: backTo pos (starEach es X.env))) _ _ s
  refine Calls.spliced_cons (thn (ha pins s σ H _ I h) fun u s1 ⟨x, H1, I1, r1, q1⟩ => ?_)
  exact thn (hr pos pins s1 σ H1 _ I1 q1) fun us s2 ⟨xs, H2, I2, r2, q2⟩ => ⟨x :: xs, H2, I2, .cons r1 r2, q2⟩
noncomputable def tTup (t : TA) : TE := fun σ H Q => t σ H fun xs H1 => xs.length ≤ sizeLine ∧ ∀ p, H1 p = none → Q (.ref p) (upd H1 p (.tup xs))
noncomputable def tLst (t : TA) : TE := fun σ H Q => t σ H fun xs H1 => xs.length ≤ sizeLine ∧ ∀ p, H1 p = none → Q (.ref p) (upd H1 p (.lst xs))
theorem pe_tup {x1} (h : PA X es t) : PE X (.Tuple es x1 pos) (tTup t) := by
  intro pins s σ H Q I hq
  refine wpAny_Tuple_spliced (thn (h pos pins s σ H _ I hq) fun us s1 ⟨xs, H1, I1, r, z, q⟩ => ⟨by rw [← r.length]; exact z, ?_⟩)
  have hf : H1 s1.heap.objs.size = none := I1.hok.fresh (Nat.le_refl _)
  refine ⟨.ref s1.heap.objs.size, upd H1 s1.heap.objs.size (.tup xs), I1.laid (t' := s1.toks) (fun b u e => Heap.get?_push_of_some _ e) (Nat.le_refl _) ?_, rfl, q _ hf⟩
  exact ⟨z, us, r, ⟨_, Heap.get?_push_size _ rfl, rfl, _, rfl⟩⟩
theorem pe_lst (h : PA X es t) : PE X (.List es pos) (tLst t) := by
  intro pins s σ H Q I hq
  refine wpAny_List_spliced (thn (h pos pins s σ H _ I hq) fun us s1 ⟨xs, H1, I1, r, z, q⟩ => ⟨by rw [← r.length]; exact z, ?_⟩)
  have hf : H1 s1.heap.objs.size = none := I1.hok.fresh (Nat.le_refl _)
  refine ⟨.ref s1.heap.objs.size, upd H1 s1.heap.objs.size (.lst xs), I1.laid (t' := s1.toks) (fun b u e => Heap.get?_push_of_some _ e) (Nat.le_refl _) ?_, rfl, q _ hf⟩
  exact ⟨z, us, 0, r, Heap.get?_push_size _ rfl⟩
end
noncomputable abbrev Sp := List V → Hp → VK → XK → Prop
noncomputable abbrev CXT := List Env → Hp → Shared → XK → Value → Shared → Prop
structure Env0 (P : Program) (w : World) (K : PySem.W.Frag) (mg : Str → Option Value) (base : Heap) (A : Around) (outer : List Env) (s : Shared) (H : Hp) : Prop where
  frames : A.frames = some outer
  mod : Mod K mg base
  bs : ∀ b o, base.get? b = some o → s.heap.get? b = some o ∧ H b = none
  bsz : base.objs.size ≤ s.heap.objs.size
  funs : s.heap.FunFrames base outer
  frf : ∀ b ∈ frs outer, H b = none
  hok : HOk P w H s.heap
  bare : AllBare s.gens
noncomputable def CE (outer : List Env) (P : Program) (w : World) (H : Hp) (s : Shared) (Q : VK) (u : Value) (s' : Shared) : Prop :=
  ∃ v H', s'.os = s.os ∧ AllBare s'.gens ∧ Un (frs outer) [] H H' s.heap s'.heap ∧ HOk P w H' s'.heap ∧ RelV v u ∧ Q v H'
noncomputable def CR (CX : CXT) (outer : List Env) (P : Program) (w : World) (H : Hp) (s : Shared) (Q : VK) (E : XK) (r : Result) (s' : Shared) : Prop :=
  match r with
  | .ok (.ret u) => CE outer P w H s Q u s'
  | .ok _ => False
  | .error e => CX outer H s E e s'
structure FnOk (P : Program) (w : World) (K : PySem.W.Frag) (mg : Str → Option Value) (base : Heap) (CX : CXT) (k : Nat) (f : Addr) (fd : FuncData) (ps : List Str) (sp : Sp) : Prop where
  len : ∀ vs H Q E, sp vs H Q E → vs.length = ps.length
  run : ∀ (A : Around) (outer : List Env) (s : Shared) (H : Hp) (args : Args) (us : List Value) (vs : List V) (Q : VK) (E : XK), Room k A → Env0 P w K mg base A outer s H → BindsTo s fd args (ps.zip us) → Vals vs us → sp vs H Q E →
    codeAny (model P w) A (.call (.ref f) args) (CR CX outer P w H s Q E) s
theorem FnOk.mono {P : Program} {w : World} {K : PySem.W.Frag} {mg : Str → Option Value} {base : Heap} {CX : CXT} {j k : Nat} {f : Addr} {fd : FuncData} {ps : List Str} {sp : Sp} (F : FnOk P w K mg base CX j f fd ps sp) (h : j ≤ k) :
    FnOk P w K mg base CX k f fd ps sp := ⟨F.len, fun A outer s H args us vs Q E hr => F.run A outer s H args us vs Q E (hr.mono h)⟩
theorem Env0.in1 {P : Program} {w : World} {K : PySem.W.Frag} {mg : Str → Option Value} {base : Heap} {A : Around} {outer : List Env} {s : Shared} {H : Hp} (e : Env0 P w K mg base A outer s H) :
    Env0 P w K mg base A.in1 outer s H := ⟨e.frames, e.mod, e.bs, e.bsz, e.funs, e.frf, e.hok, e.bare⟩
section
variable {X : Cx} {pins : List (Addr × Obj)} {σ : St} {H : Hp} {s s' : Shared}
theorem Inv.env0 (I : Inv X pins σ H s) : Env0 X.prog X.w X.K X.mg X.base X.A X.stack s H :=
  ⟨I.ok.frames, I.ok.mod, I.bs, Nat.le_trans I.ok.bsz I.sz, I.stack, I.stkFree, I.hok, I.bare⟩
theorem Inv.after {Q : VK} {u : Value} (I : Inv X pins σ H s) (h : CE X.stack X.prog X.w H s Q u s') : EP X pins σ Q u s' := by
  obtain ⟨v, H', os, bare, un, hok, r, q⟩ := h
  obtain ⟨hh, g, d, t, os'⟩ := s'
  obtain rfl : os' = s.os := os
  exact ⟨v, H', I.call (h' := hh) (g' := g) (d' := d) (t' := t) (ch := []) un hok bare (fun b z => absurd z (by simp)), r, q⟩
end
noncomputable def tCall (sp : Sp) (dvs : List V) (E : XK) (t : TA) : TE := fun σ H Q => t σ H fun vs H1 => sp (vs ++ dvs) H1 Q E
noncomputable def tMeth (C : Addr) (m : Str) (sp : Sp) (dvs : List V) (E : XK) (ta : TE) (t : TA) : TE := fun σ H Q => ta σ H fun x H1 => ∃ a dx fs, x = .ref a ∧ H1 a = some (.ins C dx fs) ∧ fs.lookup m = none ∧
  t σ H1 fun vs H2 => sp (x :: (vs ++ dvs)) H2 Q E
noncomputable def tMake (C : Addr) (sp : Sp) (dvs : List V) (E : XK) (t : TA) : TE := fun σ H Q => t σ H fun vs H1 => ∀ x dx, H1 x = none → H1 dx = none → dx ≠ x →
  sp (.ref x :: (vs ++ dvs)) (upd (upd H1 dx (.own x)) x (.ins C dx [])) (fun v H2 => v = .non ∧ Q (.ref x) H2) E
noncomputable def Binds (K : PySem.W.Frag) (fd : FuncData) (ps : List Str) (ds : List Value) : Prop :=
  ∀ (s : Shared) (us : List Value), K.In s.heap → (us ++ ds).length = ps.length → BindsTo s fd ⟨us, []⟩ (ps.zip (us ++ ds))
theorem Binds.all {K : PySem.W.Frag} {fd : FuncData} {ps : List Str} (h : ∀ us : List Value, us.length = ps.length → bindArgs fd ⟨us, []⟩ = pure (ps.zip us)) : Binds K fd ps [] := fun s us _ hl => by
  rw [List.append_nil] at hl ⊢
  exact .of_eq (h us hl)
noncomputable def Passes (CX : CXT) (X : Cx) (E : XK) : Prop := ∀ (pins : List (Addr × Obj)) (σ : St) (H : Hp) (s : Shared) (e : Value) (s' : Shared), Inv X pins σ H s → CX X.stack H s E e s' → X.xe e s'
section
variable {X : Cx} {CX : CXT} {k : Nat} {f C : Addr} {fd : FuncData} {ps : List Str} {sp : Sp} {dvs : List V} {ds : List Value} {E : XK} {x m : Str} {p pos apos : Pos} {e o : Expr} {es : List Expr} {ta : TE} {t : TA}
theorem run_fn {pins : List (Addr × Obj)} {σ : St} {H : Hp} {s : Shared} {Q : VK} {us : List Value} {vs : List V} (F : FnOk X.prog X.w X.K X.mg X.base CX k f fd ps sp) (hr : Room k X.A) (hb : Binds X.K fd ps ds) (hd : Vals dvs ds) (hx : Passes CX X E)
    (I : Inv X pins σ H s) (r : Vals vs us) (h : sp (vs ++ dvs) H Q E) : wpAny (model X.prog X.w) X.A (call (.ref f) us) (EP X pins σ Q) X.xe s := by
  have r2 : Vals (vs ++ dvs) (us ++ ds) := r.append hd
  have hl : (us ++ ds).length = ps.length := by rw [← r2.length]; exact F.len _ _ _ _ h
  refine wpAny_call (codeAny_mono (F.run X.A X.stack s H ⟨us, []⟩ (us ++ ds) (vs ++ dvs) Q E hr I.env0 (hb s us I.kIn hl) r2 h) fun r s' hq => ?_)
  cases r with
  | error e => exact hx pins σ H s e s' I hq
  | ok fl =>
    cases fl with
    | ret u => exact I.after hq
    | next => exact False.elim hq
    | brk => exact False.elim hq
    | cont => exact False.elim hq
theorem pe_call (F : FnOk X.prog X.w X.K X.mg X.base CX k f fd ps sp) (hr : Room k X.A) (hg : Gl X x) (hm : X.mg x = some (.ref f)) (hk : PySem.W.keepIn X.K (.ref f) = true) (hb : Binds X.K fd ps ds) (hd : Vals dvs ds) (hx : Passes CX X E)
    (ha : PA X (e :: es) t) (hdb : (x == ("__debug__" : Str)) = false := by decide) (he : starEach (e :: es) X.env = (false, eval e X.env) :: starEach es X.env := by rfl) (hpl : (backTo pos (starEach es X.env)).any (·.1) = false := by rfl) :
    PE X (.Call (.Name x p) (e :: es) [] pos) (tCall sp dvs E t) := by
  intro pins s σ H Q I h
  refine wpAny_Call_Name_kw (ld_glob I hg hm ?_ hdb)
  refine PySem.W.callWith_K (h₀ := X.base) I.ok.mod.kin hk (thn (ha pos pins s σ H _ I h) fun us s1 ⟨vs, H1, I1, r, q⟩ => ⟨I1.kIn, ?_⟩) he hpl
  exact run_fn F hr hb hd hx I1 r q
structure Mk (K : PySem.W.Frag) (C f : Addr) : Prop where
  makes : PySem.W.makesIn K C = true
  init : PySem.W.findIn K (.ref C) "__init__" = some (some (.ref f))
  fn : PySem.W.isFn K (.ref f) = true
  kp : PySem.W.keepIn K (.ref C) = true
end
noncomputable def PK (X : Cx) (kws : List Keyword) (t : TA) : Prop :=
  ∀ (pos : Pos) (pins : List (Addr × Obj)) (s : Shared) (σ : St) (H : Hp) (Q : List V → Hp → Prop), Inv X pins σ H s → t σ H Q → wpAny (model X.prog X.w) X.A (evalAll ((backToKw pos (keywordEach kws X.env)).map (·.2))) (AP X pins σ Q) X.xe s
section
variable {X : Cx} {CX : CXT} {k : Nat} {f C : Addr} {fd : FuncData} {ps ks : List Str} {sp : Sp} {E : XK} {x m : Str} {p pos apos kpos : Pos} {e o : Expr} {es : List Expr} {kws : List Keyword} {te ta : TE} {t tk : TA} {nm : Option Str}
structure KBinds (K : PySem.W.Frag) (fd : FuncData) (ps ks : List Str) (g : List Value → List Value → List Value) (gV : List V → List V → List V) : Prop where
  to : ∀ (s : Shared) (us ws : List Value), K.In s.heap → (g us ws).length = ps.length → BindsTo s fd ⟨us, ks.zip ws⟩ (ps.zip (g us ws))
  rel : ∀ {vs : List V} {us : List Value} {zs : List V} {ws : List Value}, Vals vs us → Vals zs ws → Vals (gV vs zs) (g us ws)
noncomputable def tCallK (sp : Sp) (gV : List V → List V → List V) (E : XK) (t tk : TA) : TE := fun σ H Q => t σ H fun vs H1 => tk σ H1 fun zs H2 => sp (gV vs zs) H2 Q E
variable {g : List Value → List Value → List Value} {gV : List V → List V → List V}
end
structure FnScope (N P : List Str) (sc : Scope) : Prop where
  kind : sc.kind = .function
  co : sc.isCoroutine = false
  gen : sc.isGenerator = false
  nd : N.Nodup
  pre : N.take P.length = P
  par : ∀ x ∈ P, sc.names.lookup x = some .local ∨ sc.names.lookup x = some .cell
  nofree : ∀ y ∈ sc.names, y.2 ≠ .free
theorem bindL_out {kindOf : Str → Option NameKind} {x : Str} : ∀ {binds : List (Str × Value)} {m : Str → Option Value}, (∀ v, (x, v) ∉ binds) → bindL kindOf binds m x = m x
  | [], _, _ => rfl
  | (n, v) :: r, m, h => by
    unfold bindL
    rw [bindL_out fun w hw => h w (List.mem_cons_of_mem _ hw)]
    split
    · have : x ≠ n := by rintro rfl; exact h v List.mem_cons_self
      simp [this]
    · rfl
theorem bindC_out {kindOf : Str → Option NameKind} {x : Str} : ∀ {binds : List (Str × Value)} {m : Str → Option Value}, (∀ v, (x, v) ∉ binds) → bindC kindOf binds m x = m x
  | [], _, _ => rfl
  | (n, v) :: r, m, h => by
    unfold bindC
    rw [bindC_out fun w hw => h w (List.mem_cons_of_mem _ hw)]
    split
    · rfl
    · have : x ≠ n := by rintro rfl; exact h v List.mem_cons_self
      simp [this]
theorem bindL_get {kindOf : Str → Option NameKind} {x : Str} {v : Value} : ∀ {P : List Str} {vs : List Value} {i : Nat} {m : Str → Option Value}, P.Nodup → P[i]? = some x → vs[i]? = some v → kindOf x = some .local →
    bindL kindOf (P.zip vs) m x = some v
  | [], _, _, _, _, h, _, _ => by simp at h
  | _ :: _, [], _, _, _, _, h, _ => by simp at h
  | p :: P, w :: vs, 0, m, nd, h1, h2, hk => by
    simp at h1 h2; subst h1; subst h2
    show bindL kindOf ((p, w) :: P.zip vs) m p = _
    unfold bindL
    rw [bindL_out fun v hv => (List.nodup_cons.mp nd).1 (List.of_mem_zip hv).1, if_pos hk]
    simp
  | p :: P, w :: vs, i + 1, m, nd, h1, h2, hk => by
    show bindL kindOf ((p, w) :: P.zip vs) m x = _
    unfold bindL
    exact bindL_get (i := i) (List.nodup_cons.mp nd).2 (by simpa using h1) (by simpa using h2) hk
theorem bindC_get {kindOf : Str → Option NameKind} {x : Str} {v : Value} : ∀ {P : List Str} {vs : List Value} {i : Nat} {m : Str → Option Value}, P.Nodup → P[i]? = some x → vs[i]? = some v → kindOf x ≠ some .local →
    bindC kindOf (P.zip vs) m x = some v
  | [], _, _, _, _, h, _, _ => by simp at h
  | _ :: _, [], _, _, _, _, h, _ => by simp at h
  | p :: P, w :: vs, 0, m, nd, h1, h2, hk => by
    simp at h1 h2; subst h1; subst h2
    show bindC kindOf ((p, w) :: P.zip vs) m p = _
    unfold bindC
    rw [bindC_out fun v hv => (List.nodup_cons.mp nd).1 (List.of_mem_zip hv).1, if_neg hk]
    simp
  | p :: P, w :: vs, i + 1, m, nd, h1, h2, hk => by
    show bindC kindOf ((p, w) :: P.zip vs) m x = _
    unfold bindC
    exact bindC_get (i := i) (List.nodup_cons.mp nd).2 (by simpa using h1) (by simpa using h2) hk
noncomputable def start (N : List Str) (vs : List V) : St := vs.map some ++ List.replicate (N.length - vs.length) none
noncomputable def cxOf (CX : CXT) (P : Program) (w : World) (K : PySem.W.Frag) (mg : Str → Option Value) (base : Heap) (N : List Str) (qual : Str) (scope : Scope) (f : Addr) (cd : Value) (A : Around) (outer : List Env) (s : Shared) (H : Hp) (E : XK) : Cx where
  prog := P
  w := w
  K := K
  mg := mg
  base := base
  A := A.deeper (envOfC qual scope s.heap.objs.size f cd)
  N := N
  s₀ := s
  H₀ := H
  env := envOfC qual scope s.heap.objs.size f cd
  outer := outer
  stack := envOfC qual scope s.heap.objs.size f cd :: outer
  ex := []
  calm := true
  fn := fun _ => true
  pn := []
  xe := fun e s' => wpAny (model P w) (A.deeper (envOfC qual scope s.heap.objs.size f cd)) (leaving (envOfC qual scope s.heap.objs.size f cd) e) (fun _ s'' => CX outer H s E e s'') (fun e' s'' => CX outer H s E e' s'') s'
theorem cell_has {sc : Scope} {n : Nat} {x : Str} (h : sc.names.lookup x = some .cell) : ∃ c, (cellsFrom n sc.names []).lookup x = some c := by
  have q := PySem.W.cellsFrom_some sc.names n [] (.inl h)
  exact Option.isSome_iff_exists.mp q
theorem inv_start {CX : CXT} {P : Program} {w : World} {K : PySem.W.Frag} {mg : Str → Option Value} {base : Heap} {N ps : List Str} {qual : Str} {scope : Scope} {f : Addr} {cd : Value} {A : Around} {outer : List Env} {s s1 : Shared} {H : Hp} {E : XK} {us : List Value} {vs : List V}
    (S : FnScope N ps scope) (hd : A.handled = none) (e0 : Env0 P w K mg base A outer s H) (hl : vs.length = ps.length) (r : Vals vs us)
    (x : InCallC s s.heap.objs.size (bindL (envOfC qual scope s.heap.objs.size f cd).kindOf (ps.zip us) fun _ => none) (cellsFrom (s.heap.objs.size + 1) scope.names []) (bindC (envOfC qual scope s.heap.objs.size f cd).kindOf (ps.zip us) fun _ => none) s1) :
    Inv (cxOf CX P w K mg base N qual scope f cd A outer s H E) [] (start N vs) H s1 := by
  have hpl : ps.length ≤ N.length := by have := congrArg List.length S.pre; rw [List.length_take] at this; omega
  obtain ⟨h1, tk, rfl, hk⟩ := x.done
  have noA : ∀ b : Addr, b ∉ (cxOf CX P w K mg base N qual scope f cd A outer s H E).ex := fun b z => absurd (show b ∈ ([] : List Addr) from z) (by simp)
  refine ⟨⟨e0.mod, S.kind, rfl, rfl, Nat.le_refl _, fun y z c h1 h2 => ?_, fun y hy => ?_, fun y c _ h => ?_, fun _ => hd, Around.frames_deeper e0.frames, .inr ⟨rfl, rfl⟩, fun b z => absurd z (noA b), e0.bs, e0.bsz, fun b _ _ => noA b, fun b z => absurd z (noA b), e0.funs, e0.frf⟩,
    rfl, e0.bare, Un.kept hk, ⟨_, x.toInCall.ns, fun i y v h1 h2 h3 => ?_⟩, fun y c h => ⟨_, x.cell y c h⟩, e0.hok.fresh (Nat.le_refl _), fun y c h => ?_, fun p hp => absurd (show p ∈ ([] : List (Addr × Obj)) from hp) (by simp), e0.hok.kept hk, ?_⟩
  · exact name_of_addr x.apart (PySem.mem_of_lookup h1) (PySem.mem_of_lookup h2)
  · have hy : scope.names.lookup y = some .cell ∨ scope.names.lookup y = some .free := hy
    rcases hy with hy | hy
    · exact cell_has hy
    · exact absurd rfl (S.nofree _ (PySem.mem_of_lookup hy))
  · exact Nat.le_of_lt (x.above y c (PySem.mem_of_lookup h))
  · have hi : i < vs.length := by
      unfold start at h2
      by_cases hi : i < vs.length
      · exact hi
      · rw [List.getElem?_append_right (by simpa using hi)] at h2
        rw [List.getElem?_replicate] at h2
        split at h2 <;> cases h2
    have ha : vs[i]? = some v := by
      unfold start at h2
      rw [List.getElem?_append_left (by simpa using hi), List.getElem?_map] at h2
      cases e : vs[i]? with
      | none => rw [e] at h2; cases h2
      | some a => rw [e] at h2; cases h2; rfl
    obtain ⟨u, hu, rv⟩ := r.get ha
    have hp : ps[i]? = some y := by
      rw [← S.pre, List.getElem?_take_of_lt (by omega)]; exact h1
    have ndP : ps.Nodup := by rw [← S.pre]; exact S.nd.sublist (List.take_sublist _ _)
    refine ⟨u, rv, ?_⟩
    rcases S.par y (List.mem_of_getElem? hp) with k | k
    · exact .inl ⟨k, bindL_get ndP hp hu k⟩
    · obtain ⟨c, e⟩ := cell_has (n := s.heap.objs.size + 1) k
      refine .inr ⟨.inl k, c, e, ?_⟩
      have q := x.cell y c e
      rw [bindC_get ndP hp hu (by show scope.names.lookup y ≠ _; rw [k]; decide)] at q
      exact q
  · exact e0.hok.fresh (Nat.le_of_lt (x.above y c (PySem.mem_of_lookup h)))
  · unfold start
    show _ = N.length
    rw [List.length_append, List.length_map, List.length_replicate]
    omega
theorem fn_of {CX : CXT} {P : Program} {w : World} {K : PySem.W.Frag} {mg : Str → Option Value} {base : Heap} {k : Nat} {f : Addr} {name qual : Str} {params : Arguments} {body : List Stmt} {scope : Scope} {dV kV doc pm cdv ct oc : Value} {an od : Option Addr}
    {osl : Array (Option Value)} {N ps : List Str} {sp : Sp} (lk : K.lookup f = some ⟨oc, od, .func (PySem.W.fnOf name qual params body scope dV kV doc pm an cdv ct), osl⟩) (hcd : PySem.W.codeIn K cdv qual = true) (S : FnScope N ps scope)
    (len : ∀ vs H Q E, sp vs H Q E → vs.length = ps.length)
    (hbody : ∀ (A : Around) (outer : List Env) (s : Shared) (H : Hp) (vs : List V) (Q : VK) (E : XK), Room k (A.deeper (envOfC qual scope s.heap.objs.size f cdv)) → sp vs H Q E →
      ∃ t, PSs (cxOf CX P w K mg base N qual scope f cdv A outer s H E) body t ∧ t { nx := fun _ H' => Q .non H', rt := Q } (start N vs) H) :
    FnOk P w K mg base CX (k + 1) f (PySem.W.fnOf name qual params body scope dV kV doc pm an cdv ct) ps sp := by
  refine ⟨len, fun A outer s H args us vs Q E hr e0 hb r hsp => ?_⟩
  have hl := len _ _ _ _ hsp
  have KX : K.In s.heap := e0.mod.kin.keeps fun b o e => (e0.bs b o e).1
  have lim : s.heap.NoLimit := e0.mod.nolimit.keeps fun b o e => (e0.bs b o e).1
  have hkind : ∀ y ∈ ps.zip us, scope.names.lookup y.1 = some .local ∨ (scope.names.lookup y.1 = some .cell ∧ ((cellsFrom (s.heap.objs.size + 1) scope.names []).lookup y.1).isSome = true) := fun ⟨n, v⟩ hy => by
    rcases S.par n (List.of_mem_zip hy).1 with q | q
    · exact .inl q
    · exact .inr ⟨q, PySem.W.cellsFrom_some _ _ _ (.inl q)⟩
  refine codeAny_call_function hr.depth (KX _ _ lk) rfl S.co S.gen rfl (PySem.W.codeRec_of KX hcd) (hb _ _ _ _ ?_)
  refine wpAny_newFunctionEnv_cells S.kind hkind fun env he s1 x => ?_
  subst he
  refine ⟨lim.keeps x.toInCall.keep, codeAny_func ?_⟩
  obtain ⟨t, ht, hq⟩ := hbody A outer s H vs Q E (hr.deeper _) hsp
  have I : Inv (cxOf CX P w K mg base N qual scope f cdv A outer s H E) [] (start N vs) H s1 := inv_start S hr.hd e0 hl r x
  refine wpAny_mono (ht [] s1 (start N vs) H _ I hq) (fun fl s' hs => ?_) fun e s' hs => hs
  have fin : ∀ {σ' : St} {H' : Hp} {v : V} {u : Value}, Inv (cxOf CX P w K mg base N qual scope f cdv A outer s H E) [] σ' H' s' → RelV v u → Q v H' → CE outer P w H s Q u s' :=
    fun {σ' H' v u} J rv q => ⟨v, H', J.os, J.bare, J.base, J.hok, rv, q⟩
  cases fl with
  | ret u =>
    obtain ⟨v, σ', H', J, rv, q⟩ := hs
    exact fin J rv q
  | next =>
    obtain ⟨σ', H', J, q⟩ := hs
    exact fin (v := V.non) (u := Value.none) J rfl q
  | brk =>
    obtain ⟨_, _, _, q⟩ := hs
    exact False.elim q
  | cont =>
    obtain ⟨_, _, _, q⟩ := hs
    exact False.elim q
end L2
namespace L2
open PySem PySem.Spec PyProof.Rows
section
variable {X : Cx} {x : Str} {p pos : Pos} {e : Expr} {es : List Expr} {t : TA} {id T : String} {r : List V → Hp → VK → Prop}
noncomputable def tCB (r : List V → Hp → VK → Prop) (t : TA) : TE := fun σ H Q => t σ H fun vs H1 => r vs H1 Q
theorem pe_callB (hc : CallR X (.builtin id) r) (hg : Gl X x) (hm : X.mg x = none) (hv : bootBuiltins x = some (.builtin id)) (ha : PA X (e :: es) t) (hn : x ≠ "__name__" := by decide) (hdb : (x == ("__debug__" : Str)) = false := by decide)
    (he : starEach (e :: es) X.env = (false, eval e X.env) :: starEach es X.env := by rfl) (hpl : (backTo pos (starEach es X.env)).any (·.1) = false := by rfl) : PE X (.Call (.Name x p) (e :: es) [] pos) (tCB r t) := by
  intro pins s σ H Q I h
  refine wpAny_Call_Name_kw (ld_blt I hg hm hv ?_ hn hdb)
  exact PyProof.Rows.callWith_builtin1 (thn (ha pos pins s σ H _ I h) fun us s1 ⟨vs, H1, I1, r1, q1⟩ => hc pins s1 σ H1 vs us Q I1 r1 q1) he hpl
theorem pe_callTy (hc : CallR X (.type T) r) (hg : Gl X x) (hm : X.mg x = none) (hv : bootBuiltins x = some (.type T)) (ha : PA X (e :: es) t) (hn : x ≠ "__name__" := by decide) (hdb : (x == ("__debug__" : Str)) = false := by decide)
    (he : starEach (e :: es) X.env = (false, eval e X.env) :: starEach es X.env := by rfl) (hpl : (backTo pos (starEach es X.env)).any (·.1) = false := by rfl) : PE X (.Call (.Name x p) (e :: es) [] pos) (tCB r t) := by
  intro pins s σ H Q I h
  refine wpAny_Call_Name_kw (ld_blt I hg hm hv ?_ hn hdb)
  exact PyProof.Rows.callWith_type1 (thn (ha pos pins s σ H _ I h) fun us s1 ⟨vs, H1, I1, r1, q1⟩ => hc pins s1 σ H1 vs us Q I1 r1 q1) he hpl
end
end L2
namespace HT
open PySem PyProof.Rows
noncomputable def lexLt : List Int → List Int → Bool
  | [], [] => false
  | [], _ :: _ => true
  | _ :: _, [] => false
  | x :: xs, y :: ys => if x = y then lexLt xs ys else decide (x < y)
section
open PySem.SeqAt
open PySem.AutoSeq1 (wpAny_loadPart')
open PySem.MeetsSeq PySem.MeetsSeq2 PySem.MeetsSeq3
end
section
variable {prog : Program} {w : World} {A : Around} {E : Value → Shared → Prop} {s : Shared}
noncomputable def sIx (n d : Nat) : Option Int → Nat
  | none => d
  | some v => if v < 0 then (v + (n : Int)).toNat else min v.toNat n
end
end HT
namespace L2
open PySem PySem.Spec PyProof.Rows
noncomputable abbrev TO := St → Hp → (Option Int → Hp → Prop) → Prop
noncomputable def PO (X : Cx) (e : Option Expr) (t : TO) : Prop :=
  ∀ (pins : List (Addr × Obj)) (s : Shared) (σ : St) (H : Hp) (Q : Option Int → Hp → Prop), Inv X pins σ H s → t σ H Q →
    wpAny (model X.prog X.w) X.A (evalPart e X.env) (fun u s' => ∃ o H', Inv X pins σ H' s' ∧ IsPart u o ∧ Q o H') X.xe s
noncomputable def tNoPart : TO := fun _ H Q => Q none H
noncomputable def tPart (t : TE) : TO := fun σ H Q => t σ H fun x H1 => ∃ i, x = .int i ∧ Q (some i) H1
section
variable {X : Cx} {e : Expr} {te : TE} {lo hi : Option Expr} {tl th : TO} {pos p2 : Pos}
noncomputable def SlR (X : Cx) (r : V → Option Int → Option Int → Hp → VK → Prop) : Prop :=
  ∀ (pins : List (Addr × Obj)) (s : Shared) (σ : St) (H : Hp) (x : V) (v vl vu : Value) (lo hi : Option Int) (sl : Addr) (Q : VK), Inv X pins σ H s → RelV x v → s.heap.IsSliceOf sl vl vu .none → IsPart vl lo → IsPart vu hi → r x lo hi H Q →
    ∃ T id, typeLookup (.type T) "__getitem__" = pure (some (.builtin id)) ∧ s.TypeIs v T ∧ wpAny (model X.prog X.w) X.A (getItem v (.ref sl)) (EP X pins σ Q) X.xe s
theorem SlR.or {r r' : V → Option Int → Option Int → Hp → VK → Prop} (h : SlR X r) (h' : SlR X r') : SlR X (fun x lo hi H Q => r x lo hi H Q ∨ r' x lo hi H Q) := by
  intro pins s σ H x v vl vu lo hi sl Q I rx hs pl pu q
  rcases q with q | q
  · exact h pins s σ H x v vl vu lo hi sl Q I rx hs pl pu q
  · exact h' pins s σ H x v vl vu lo hi sl Q I rx hs pl pu q
noncomputable def tSl (r : V → Option Int → Option Int → Hp → VK → Prop) (te : TE) (tl th : TO) : TE := fun σ H Q => te σ H fun x H1 => tl σ H1 fun l H2 => th σ H2 fun u H3 => r x l u H3 Q
noncomputable def cutV (xs : List V) (lo hi : Option Int) : List V := (xs.drop (HT.sIx xs.length 0 lo)).take (HT.sIx xs.length xs.length hi - HT.sIx xs.length 0 lo)
noncomputable def rSlT (K : PySem.W.Frag) : V → Option Int → Option Int → Hp → VK → Prop := fun x lo hi H Q => ∃ a xs, x = .ref a ∧ SqT K H a xs ∧
  ¬ (HT.sIx xs.length 0 lo = 0 ∧ HT.sIx xs.length xs.length hi = xs.length) ∧ ∀ p, H p = none → Q (.ref p) (upd H p (.tup (cutV xs lo hi)))
noncomputable def rLtT (K : PySem.W.Frag) : R2 := fun x y H Q => ∃ a b ns ms, x = .ref a ∧ y = .ref b ∧ SqT K H a (ns.map V.int) ∧ SqT K H b (ms.map V.int) ∧ Q (.bl (HT.lexLt ns ms)) H
noncomputable def rCatT (K : PySem.W.Frag) : R2 := fun x y H Q => ∃ a b xs ys, x = .ref a ∧ y = .ref b ∧ SqT K H a xs ∧ SqT K H b ys ∧ xs ≠ [] ∧ xs.length + ys.length ≤ sizeLine ∧
  (ys = [] → Q (.ref a) H) ∧ (ys ≠ [] → ∀ p, H p = none → Q (.ref p) (upd H p (.tup (xs ++ ys))))
end
end L2
namespace L2
open PySem PySem.Spec PyProof.Rows
noncomputable def ixN (n : Nat) (i : Int) : Option Nat := if 0 ≤ i then (if i < n then some i.toNat else none) else if -(n : Int) ≤ i then some (i + n).toNat else none
noncomputable def atI {α : Type} (xs : List α) (i : Int) : Option α := (ixN xs.length i).bind fun j => xs[j]?
theorem ixN_seq {n : Nat} {i : Int} {j : Nat} (h : ixN n i = some j) : seqIndex? i n = some j ∧ j < n ∧ -(n : Int) ≤ i ∧ i < n := by
  unfold ixN at h
  by_cases h0 : 0 ≤ i
  · rw [if_pos h0] at h
    by_cases h1 : i < n
    · rw [if_pos h1] at h
      have e : i.toNat = j := Option.some.inj h
      exact ⟨by rw [seqIndex_of h0 h1, e], by omega, by omega, h1⟩
    · rw [if_neg h1] at h; cases h
  · rw [if_neg h0] at h
    by_cases h1 : -(n : Int) ≤ i
    · rw [if_pos h1] at h
      have e : (i + n).toNat = j := Option.some.inj h
      exact ⟨by rw [seqIndex_neg (by omega) h1, e], by omega, h1, by omega⟩
    · rw [if_neg h1] at h; cases h
theorem atI_get {α : Type} {xs : List α} {i : Int} {v : α} (h : atI xs i = some v) : ∃ j, seqIndex? i xs.length = some j ∧ xs[j]? = some v ∧ j < xs.length ∧ -(xs.length : Int) ≤ i ∧ i < xs.length := by
  unfold atI at h
  cases e : ixN xs.length i with
  | none => rw [e] at h; cases h
  | some j =>
    rw [e] at h
    obtain ⟨h1, h2, h3, h4⟩ := ixN_seq e
    exact ⟨j, h1, h, h2, h3, h4⟩
theorem atI_nat {α : Type} {xs : List α} {j : Nat} {v : α} (h : xs[j]? = some v) : atI xs (j : Int) = some v := by
  have hj : j < xs.length := (List.getElem?_eq_some_iff.mp h).1
  have e : ixN xs.length (j : Int) = some j := by
    unfold ixN
    rw [if_pos (by omega), if_pos (by omega)]; simp
  unfold atI; rw [e]; exact h
noncomputable def PlainIx (b : Expr) : Prop := ∀ o i, subscripted b false o i = operate [o, i] (getItem o i)
noncomputable def IxR (X : Cx) (r : R2) : Prop :=
  ∀ (value slice : Expr) (pins : List (Addr × Obj)) (s : Shared) (σ : St) (H : Hp) (x y : V) (v u : Value) (Q : VK), Inv X pins σ H s → RelV x v → RelV y u → r x y H Q →
    subscripted slice false v u = operate [v, u] (getItem v u) → wpAny (model X.prog X.w) X.A (subscriptTail value slice v u) (EP X pins σ Q) X.xe s
noncomputable def MtR (X : Cx) (id : String) (r : V → List V → Hp → VK → Prop) : Prop :=
  ∀ (pins : List (Addr × Obj)) (s : Shared) (σ : St) (H : Hp) (x : V) (xs : List V) (v : Value) (us : List Value) (Q : VK), Inv X pins σ H s → RelV x v → Vals xs us → r x xs H Q →
    wpAny (model X.prog X.w) X.A (call (.builtin id) (v :: us)) (EP X pins σ Q) X.xe s
section
variable {X : Cx} {a b : Expr} {ta tb : TE} {pos : Pos}
theorem IxR.or {r r' : R2} (h : IxR X r) (h' : IxR X r') : IxR X (fun x y H Q => r x y H Q ∨ r' x y H Q) := by
  intro value slice pins s σ H x y v u Q I rx ry q hs
  rcases q with q | q
  · exact h value slice pins s σ H x y v u Q I rx ry q hs
  · exact h' value slice pins s σ H x y v u Q I rx ry q hs
theorem MtR.or {id : String} {r r' : V → List V → Hp → VK → Prop} (h : MtR X id r) (h' : MtR X id r') : MtR X id (fun x xs H Q => r x xs H Q ∨ r' x xs H Q) := by
  intro pins s σ H x xs v us Q I rx rs q
  rcases q with q | q
  · exact h pins s σ H x xs v us Q I rx rs q
  · exact h' pins s σ H x xs v us Q I rx rs q
theorem pe_ix {r : R2} (hr : IxR X r) (ha : PE X a ta) (hb : PE X b tb) (hs : PlainIx b) : PE X (.Subscript a b pos) (tOp r ta tb) := by
  intro pins s σ H Q I h
  exact Subscript_ (binT ha hb I h fun v u s2 x y H2 I2 rx ry q => hr a b pins s2 σ H2 x y v u Q I2 rx ry q (hs _ _))
noncomputable def rIxL (K : PySem.W.Frag) : R2 := fun x y H Q => ∃ p xs i v, x = .ref p ∧ y = .int i ∧ SqL K H p xs ∧ atI xs i = some v ∧ Q v H
noncomputable def rIxT (K : PySem.W.Frag) : R2 := fun x y H Q => ∃ p xs i v, x = .ref p ∧ y = .int i ∧ SqT K H p xs ∧ atI xs i = some v ∧ Q v H
noncomputable def rIxS : R2 := fun x y H Q => ∃ z i c, x = .str z ∧ y = .int i ∧ z.length ≤ sizeLine ∧ atI z.cps.toList i = some c ∧ Q (.str ⟨#[c]⟩) H
theorem ix_list : IxR X (rIxL X.K) := by
  intro value slice pins s σ H x y v u Q I rx ry h hs
  obtain ⟨p, xs, i, z, rfl, rfl, hq, he, q⟩ := h
  cases rx
  obtain ⟨t, rfl⟩ := ry
  obtain ⟨its, r, pl, hz⟩ := I.list hq
  obtain ⟨j, h1, h2, h3, h4, h5⟩ := atI_get he
  obtain ⟨w, ew, rw'⟩ := r.get h2
  have hl := r.length
  have hn := line63
  have fin : EP X pins σ Q w s := ⟨z, H, I, rw', q⟩
  by_cases h0 : 0 ≤ i
  · have hj : i.toNat = j := by
      rw [seqIndex_of h0 h5] at h1
      exact Option.some.inj h1
    exact item_listR pl.isList h0 (by omega) (by rw [hj]; simpa using ew) fin hs
  · have hj : (i + (its.toArray.size : Int)).toNat = j := by
      rw [seqIndex_neg (by omega) h4] at h1
      rw [List.size_toArray, ← hl]
      exact Option.some.inj h1
    exact subscriptTail_builtinR (x := w) pl.isList.typeIs slot_list_getitem.lookup
      (wpAny_getItem_list_neg (Q := fun r s' => r = w ∧ EP X pins σ Q r s') pl.isList (by omega) (by rw [List.size_toArray] <;> omega) (by omega) (by rw [hj]; simpa using ew) ⟨rfl, fin⟩) hs
theorem ix_tup : IxR X (rIxT X.K) := by
  intro value slice pins s σ H x y v u Q I rx ry h hs
  obtain ⟨p, xs, i, z, rfl, rfl, hq, he, q⟩ := h
  cases rx
  obtain ⟨t, rfl⟩ := ry
  obtain ⟨its, r, pl, hz⟩ := I.tuple hq
  obtain ⟨j, h1, h2, h3, h4, h5⟩ := atI_get he
  obtain ⟨w, ew, rw'⟩ := r.get h2
  have hl := r.length
  have hn := line63
  have fin : EP X pins σ Q w s := ⟨z, H, I, rw', q⟩
  exact subscriptTail_builtinR (x := w) pl.typeIs slot_tuple_getitem.lookup
    (getItem_tuple (j := j) (Q := fun r s' => r = w ∧ EP X pins σ Q r s') pl (by omega) (by omega) (by rw [List.size_toArray, ← hl]; exact h1) (by simpa using ew) ⟨rfl, fin⟩) hs
noncomputable def rIx (K : PySem.W.Frag) : R2 := fun x y H Q => rIxL K x y H Q ∨ rIxT K x y H Q ∨ rIxS x y H Q
theorem mapSeq_set (its : List Value) (n j : Nat) (u : Value) : Obj.mapSeq (·.setIfInBounds j u) { cls := .type "list", data := .seq its.toArray n } = { cls := .type "list", data := .seq (its.set j u).toArray n } := by
  simp [Obj.mapSeq]
theorem Inv.lst {pins : List (Addr × Obj)} {σ : St} {H : Hp} {s : Shared} {p : Addr} {xs : List V} (I : Inv X pins σ H s) (h : H p = some (.lst xs)) :
    ∃ (its : List Value) (n : Nat), Vals xs its ∧ s.heap.get? p = some { cls := .type "list", data := .seq its.toArray n } ∧ xs.length ≤ sizeLine := by
  obtain ⟨z, its, n, r, e⟩ := I.hok p _ h
  exact ⟨its, n, r, e, z⟩
theorem Inv.lstUpd {pins : List (Addr × Obj)} {σ : St} {H : Hp} {s : Shared} {p : Addr} {xs ys : List V} {its its' : List Value} {n n' : Nat} {f : Obj → Obj} (I : Inv X pins σ H s) (h : H p = some (.lst xs))
    (ho : s.heap.get? p = some { cls := .type "list", data := .seq its.toArray n }) (hf : f { cls := .type "list", data := .seq its.toArray n } = { cls := .type "list", data := .seq its'.toArray n' }) (r : Vals ys its') (hz : ys.length ≤ sizeLine) (t : Nat) :
    Inv X pins σ (upd H p (.lst ys)) { s with heap := s.heap.update p f, toks := t } := by
  have e : (s.heap.update p f).get? p = some { cls := .type "list", data := .seq its'.toArray n' } := by
    rw [Heap.get?_update_self f ho (by rw [hf] <;> rfl), hf]
  refine I.write (x := p) (e := p) (by rw [h]; trivial) (.inl rfl) (fun b u hb q => (Heap.get?_update_other _ _ (Ne.symm hb)).trans q) ⟨_, e⟩ ?_
  exact ⟨hz, its', n', r, e⟩
noncomputable def rSetL : V → V → V → Hp → (Hp → Prop) → Prop := fun o i v H Q => ∃ p xs k j, o = .ref p ∧ i = .int k ∧ H p = some (.lst xs) ∧ ixN xs.length k = some j ∧ Q (upd H p (.lst (xs.set j v)))
theorem set_list : PSet X rSetL := by
  intro pins s σ H o i v ov iv u Q I ro ri rv h
  obtain ⟨p, xs, k, j, rfl, rfl, hp, hj, q⟩ := h
  cases ro
  obtain ⟨t, rfl⟩ := ri
  obtain ⟨its, n, r, ho, hz⟩ := I.lst hp
  obtain ⟨h1, h2, h3, h4⟩ := ixN_seq hj
  have hl := r.length
  have hn := line63
  have I' : Inv X pins σ (upd H p (.lst (xs.set j v))) { s with heap := s.heap.update p (Obj.mapSeq (·.setIfInBounds j u)) } :=
    I.lstUpd hp ho (mapSeq_set its n j u) (r.set rv j) (by rw [List.length_set]; exact hz) s.toks
  by_cases h0 : 0 ≤ k
  · have hk : k.toNat = j := by
      rw [seqIndex_of h0 h4] at h1
      exact Option.some.inj h1
    exact PySem.W.ki_setAt ho h0 (by omega) (by rw [List.size_toArray, ← hl]; exact h4) (by rw [hk]; exact ⟨_, I', q⟩)
  · have hk : (k + (its.toArray.size : Int)).toNat = j := by
      rw [seqIndex_neg (by omega) h3] at h1
      rw [List.size_toArray, ← hl]
      exact Option.some.inj h1
    exact PySem.W.ki_setBack ho (by omega) (by rw [List.size_toArray, ← hl]; exact h3) (by omega) (by rw [hk]; exact ⟨_, I', q⟩)
noncomputable def rSlL (K : PySem.W.Frag) : V → Option Int → Option Int → Hp → VK → Prop := fun x lo hi H Q => ∃ a xs, x = .ref a ∧ SqL K H a xs ∧ ∀ p, H p = none → Q (.ref p) (upd H p (.lst (cutV xs lo hi)))
noncomputable def flatV : V → Bool
  | .non => true
  | .bl _ => true
  | .int _ => true
  | .str _ => true
  | _ => false
noncomputable def eqV : V → V → Bool
  | .non, .non => true
  | .bl a, .bl b => a == b
  | .bl a, .int b => (if a then 1 else 0) == b
  | .int a, .bl b => a == (if b then 1 else 0)
  | .int a, .int b => a == b
  | .str a, .str b => a == b
  | _, _ => false
noncomputable def eqU (x : V) (u : Value) : Bool := match u with
  | .none => eqV .non x
  | .bool b => eqV (.bl b) x
  | .int i _ => eqV (.int i) x
  | .str z _ => eqV (.str z) x
  | _ => false
noncomputable def inV (x : V) (xs : List V) : Bool := xs.any fun y => eqV y x
noncomputable def rIn (K : PySem.W.Frag) (neg : Bool) : R2 := fun x y H Q => ∃ p xs, y = .ref p ∧ (SqL K H p xs ∨ SqT K H p xs) ∧ flatV x = true ∧ xs.all flatV = true ∧ Q (.bl (if neg then !inV x xs else inV x xs)) H
theorem call_len_seq : CallR X (.builtin "len") (fun xs H Q => ∃ p ys, xs = [.ref p] ∧ (SqL X.K H p ys ∨ SqT X.K H p ys) ∧ Q (.int ys.length) H) := by
  intro pins s σ H xs us Q I r h
  obtain ⟨p, ys, rfl, hq, q⟩ := h
  obtain ⟨u, rfl, rx⟩ := vals1 r
  cases rx
  have hn := line63
  rcases hq with hq | hq
  · obtain ⟨its, r', pl, hz⟩ := I.list hq
    have hlen := r'.length
    exact Calls.call_len_list pl.isList (by simp only [List.size_toArray] <;> omega) ⟨.int ys.length, H, I.tok _, ⟨s.toks + 1, by rw [List.size_toArray, hlen]⟩, q⟩
  · obtain ⟨its, r', pl, hz⟩ := I.tuple hq
    have hlen := r'.length
    exact len_tuple pl (by simp only [List.size_toArray] <;> omega) ⟨.int ys.length, H, I.tok _, ⟨s.toks + 1, by rw [List.size_toArray, hlen]⟩, q⟩
theorem CallR.or {f : Value} {r r' : List V → Hp → VK → Prop} (h : CallR X f r) (h' : CallR X f r') : CallR X f (fun xs H Q => r xs H Q ∨ r' xs H Q) := by
  intro pins s σ H xs us Q I rs q
  rcases q with q | q
  · exact h pins s σ H xs us Q I rs q
  · exact h' pins s σ H xs us Q I rs q
theorem call_tuple_of : CallR X (.type "tuple") (fun xs H Q => ∃ p ys, xs = [.ref p] ∧ ((SqL X.K H p ys ∧ ∀ l, H l = none → Q (.ref l) (upd H l (.tup ys))) ∨ (SqT X.K H p ys ∧ Q (.ref p) H))) := by
  intro pins s σ H xs us Q I r h
  obtain ⟨p, ys, rfl, h⟩ := h
  obtain ⟨u, rfl, rx⟩ := vals1 r
  cases rx
  rcases h with ⟨hq, q⟩ | ⟨hq, q⟩
  · obtain ⟨its, r', pl, hz⟩ := I.list hq
    have hlen := r'.length
    refine call_tuple_list pl.isList (fun h' kp => ?_) (by simp only [List.size_toArray] <;> omega)
    have I1 : Inv X pins σ H { s with heap := h' } := I.kept (t' := s.toks) kp
    have I2 : Inv X pins σ (upd H h'.objs.size (.tup ys)) { s with heap := h'.push { cls := .type "tuple", data := .seq its.toArray } } :=
      I1.laid (t' := s.toks) (fun b o e => Heap.get?_push_of_some _ e) (Nat.le_refl _) (show ObjOk X.prog X.w _ _ _ (.tup ys) from ⟨hz, its, r', IsTup.new _ _⟩)
    exact ⟨.ref h'.objs.size, _, I2, rfl, q _ (I1.hok.fresh (Nat.le_refl _))⟩
  · obtain ⟨its, r', pl, hz⟩ := I.tuple hq
    exact call_tuple_same pl ⟨.ref p, H, I, rfl, q⟩
noncomputable def tyV (K : PySem.W.Frag) (T : String) (x : V) (H : Hp) : Prop := match x with
  | .str _ => T = "str"
  | .int _ => T = "int"
  | .ref p => (T = "list" ∧ ∃ xs, SqL K H p xs) ∨ (T = "tuple" ∧ ∃ o, K.lookup p = some o ∧ o.cls = .type "tuple" ∧ o.dict = none) ∨
      (T = "dict" ∧ ((∃ kvs, H p = some (.dK kvs)) ∨ ∃ kvs, H p = some (.dT kvs))) ∨ (T = "set" ∧ ∃ S n, H p = some (.set S n))
  | _ => False
theorem tyV_is {pins : List (Addr × Obj)} {σ : St} {H : Hp} {s : Shared} {T : String} {x : V} {v : Value} (I : Inv X pins σ H s) (r : RelV x v) (ty : tyV X.K T x H) :
    s.TypeIs v T ∧ ∀ a, v = .ref a → ∃ ob, s.heap.get? a = some ob ∧ ob.dict = none := by
  cases x with
  | str z =>
    obtain ⟨t, rfl⟩ := r
    cases (show T = "str" from ty)
    exact ⟨typeIs_str s z t, fun _ e => nomatch e⟩
  | int i =>
    obtain ⟨t, rfl⟩ := r
    cases (show T = "int" from ty)
    exact ⟨typeIs_int s i t, fun _ e => nomatch e⟩
  | ref p =>
    cases r
    rcases ty with ⟨rfl, xs, hq⟩ | ⟨rfl, o, hk, hc, hd⟩ | ⟨rfl, hk⟩ | ⟨rfl, S, n, hk⟩
    · obtain ⟨its, _, pl, _⟩ := I.list hq
      refine ⟨pl.isList.typeIs, fun a e => ?_⟩
      cases e
      obtain ⟨o, n, e, c, hd, _⟩ := pl
      exact ⟨o, e, hd⟩
    · refine ⟨⟨o, I.kIn p o hk, hc⟩, fun a e => ?_⟩
      cases e
      exact ⟨o, I.kIn _ o hk, hd⟩
    · have z : ∃ o, s.heap.get? p = some o ∧ o.ExactDict := by
        rcases hk with ⟨kvs, hk⟩ | ⟨kvs, hk⟩
        · obtain ⟨_, _, _, _, o, _, _, e, ex, _⟩ := I.hok p _ hk
          exact ⟨o, e, ex⟩
        · obtain ⟨_, _, _, _, o, _, _, e, ex, _⟩ := I.hok p _ hk
          exact ⟨o, e, ex⟩
      obtain ⟨o, e, ex⟩ := z
      refine ⟨⟨o, e, ex.1⟩, fun a e2 => ?_⟩
      cases e2
      exact ⟨o, e, ex.2.1⟩
    · obtain ⟨o, _, _, _, e, ex, _⟩ := I.hok p _ hk
      refine ⟨⟨o, e, ex.1⟩, fun a e2 => ?_⟩
      cases e2
      exact ⟨o, e, ex.2.1⟩
  | _ => exact False.elim ty
noncomputable def tBM0 (K : PySem.W.Frag) (T : String) (r : V → List V → Hp → VK → Prop) (to : TE) : TE := fun σ H Q => to σ H fun x H1 => tyV K T x H1 ∧ r x [] H1 Q
noncomputable def tBM (K : PySem.W.Frag) (T : String) (r : V → List V → Hp → VK → Prop) (to : TE) (t : TA) : TE := fun σ H Q => to σ H fun x H1 => tyV K T x H1 ∧ t σ H1 fun xs H2 => r x xs H2 Q
variable {o e : Expr} {es : List Expr} {to : TE} {t : TA} {name : Str} {apos cpos : Pos} {T id : String} {r : V → List V → Hp → VK → Prop}
theorem pe_bm (pa : PlainAttrs T) (slot : Slot T name id) (hty : typeOf (.builtin id) = pure (.type "method_descriptor")) (hm : MtR X id r) (ho : PE X o to) (ha : PA X (e :: es) t)
    (hbase : attributeBase o name X.env (eval o X.env) = eval o X.env := by rfl)
    (hfew : ((backTo cpos (starEach (e :: es) X.env)).all (fun x => !x.1) && (backToKw cpos (keywordEach [] X.env)).all (fun x => x.1.isSome)
      && decide ((e :: es).length + ([] : List Keyword).length + (if ([] : List Keyword).isEmpty then 0 else 1) < 30)) = true := by rfl)
    (hline : (apos.endLine == cpos.line) = true := by rfl) (hs : starEach (e :: es) X.env = (false, eval e X.env) :: starEach es X.env := by rfl) (hplain : (backTo cpos (starEach es X.env)).any (·.1) = false := by rfl) :
    PE X (.Call (.Attribute o name apos) (e :: es) [] cpos) (tBM X.K T r to t) := by
  intro pins s σ H Q I h
  refine wpAny_Call_method_late hbase hfew hline rfl (thn (ho pins s σ H _ I h) fun v s1 ⟨x, H1, I1, r1, ty, q1⟩ => ?_)
  obtain ⟨h1, h2⟩ := tyV_is I1 r1 ty
  refine ⟨T, id, pa, slot, hty, h1, h2, ?_⟩
  have hA := ha cpos pins s1 σ H1 _ I1 q1
  rw [hs] at hA ⊢
  refine Calls.callWith_builtin (by show (false || (backTo cpos (starEach es X.env)).any (·.1)) = false; rw [hplain] <;> rfl) (Calls.evalArgs_plain ?_)
  exact thn hA fun us s2 ⟨vs, H2, I2, r2, q2⟩ => hm pins s2 σ H2 x vs v us Q I2 r1 r2 q2
end
end L2
namespace L2
open PySem PySem.Spec PyProof.Rows
noncomputable def MtM (X : Cx) (id : String) (r : V → List V → Hp → VK → Prop) : Prop :=
  ∀ (pins : List (Addr × Obj)) (s : Shared) (σ : St) (H : Hp) (x : V) (xs : List V) (v : Value) (us : List Value) (Q : VK), Inv X pins σ H s → RelV x v → Vals xs us → r x xs H Q →
    wpAny (model X.prog X.w) X.A (call (.builtin id) (v :: us)) (EP X pins σ Q) X.xe s
theorem Vals.one {x : V} {us : List Value} (h : Vals [x] us) : ∃ u, us = [u] ∧ RelV x u := by
  cases h with
  | cons r t => cases t; exact ⟨_, rfl, r⟩
theorem Vals.two {x y : V} {us : List Value} (h : Vals [x, y] us) : ∃ u v, us = [u, v] ∧ RelV x u ∧ RelV y v := by
  cases h with
  | cons r t =>
    obtain ⟨v, rfl, q⟩ := Vals.one t
    exact ⟨_, _, rfl, r, q⟩
theorem Vals.zero : ∀ {us : List Value}, Vals [] us → us = []
  | _, .nil => rfl
theorem Vals.dropLast {xs : List V} {us : List Value} (h : Vals xs us) : Vals xs.dropLast us.dropLast := by
  induction h with
  | nil => exact .nil
  | cons r t ih =>
    cases t with
    | nil => exact .nil
    | cons q t' => exact .cons r ih
theorem Vals.eraseIdx : ∀ {xs : List V} {us : List Value} (i : Nat), Vals xs us → Vals (xs.eraseIdx i) (us.eraseIdx i)
  | _, _, _, .nil => .nil
  | _, _, 0, .cons _ t => t
  | _, _, i + 1, .cons r t => .cons r (Vals.eraseIdx i t)
theorem Vals.reverse {xs : List V} {us : List Value} (h : Vals xs us) : Vals xs.reverse us.reverse := by
  induction h with
  | nil => exact .nil
  | cons r t ih => rw [List.reverse_cons, List.reverse_cons]; exact Vals.append ih (.cons r .nil)
theorem Vals.rep {xs : List V} {us : List Value} (h : Vals xs us) : ∀ k : Nat, Vals (List.replicate k xs).flatten (List.replicate k us).flatten
  | 0 => .nil
  | k + 1 => by
    rw [List.replicate_succ, List.replicate_succ, List.flatten_cons, List.flatten_cons]
    exact Vals.append h (Vals.rep h k)
theorem foldl_rep (its : List Value) : ∀ (k : Nat) (acc : List Value),
    List.foldl (fun x1 x2 => x1 ++ x2) acc.toArray (List.replicate k its.toArray) = (acc ++ (List.replicate k its).flatten).toArray
  | 0, acc => by simp
  | k + 1, acc => by
    have e : acc.toArray ++ its.toArray = (acc ++ its).toArray := by simp
    have e2 : (acc ++ its) ++ (List.replicate k its).flatten = acc ++ (List.replicate (k + 1) its).flatten := by
      rw [List.replicate_succ, List.flatten_cons, List.append_assoc]
    rw [← e2, ← foldl_rep its k (acc ++ its), ← e, List.replicate_succ, List.foldl_cons]
section
variable {X : Cx} {pins : List (Addr × Obj)} {σ : St} {H : Hp} {s : Shared} {l b : Addr} {xs ys zs : List V}
theorem Inv.lset {its its' : List Value} {n : Nat} {f : Array Value → Array Value} {t' : Nat} (I : Inv X pins σ H s) (hH : H l = some (.lst xs))
    (e : s.heap.get? l = some { cls := .type "list", data := .seq its.toArray n }) (hf : f its.toArray = its'.toArray) (hv : Vals ys its') (hz : ys.length ≤ sizeLine) :
    Inv X pins σ (upd H l (.lst ys)) { s with heap := s.heap.update l (Obj.mapSeq f), toks := t' } := by
  have q := PySem.IsL.update e f
  rw [hf] at q
  refine I.write (x := l) (e := l) (by rw [hH]; exact trivial) (.inl rfl) (fun b' u hb hu => (Heap.get?_update_other s.heap (Obj.mapSeq f) (Ne.symm hb)).trans hu) ⟨_, q⟩ ?_
  exact ⟨hz, its', _, hv, q⟩
theorem Inv.lnew {its : List Value} {t' : Nat} (I : Inv X pins σ H s) (hv : Vals ys its) (hz : ys.length ≤ sizeLine) :
    Inv X pins σ (upd H s.heap.objs.size (.lst ys)) { s with heap := s.heap.push { cls := .type "list", data := .seq its.toArray }, toks := t' } :=
  I.laid (fun _ _ q => Heap.get?_push_of_some _ q) (Nat.le_refl _) ⟨hz, its, 0, hv, Heap.get?_push_size _ rfl⟩
theorem Inv.fresh (I : Inv X pins σ H s) : H s.heap.objs.size = none := I.hok.fresh (Nat.le_refl _)
theorem Inv.lstM (I : Inv X pins σ H s) (hH : H l = some (.lst xs)) : xs.length ≤ sizeLine ∧ ∃ (its : List Value) (n : Nat), Vals xs its ∧ xs.length = its.length ∧ s.heap.get? l = some { cls := .type "list", data := .seq its.toArray n } := by
  obtain ⟨z, its, n, r, e⟩ := I.hok l _ hH
  exact ⟨z, its, n, r, r.length, e⟩
theorem notLongL {n : Nat} (h : n ≤ sizeLine) : Builtin.List.listTooLong n = false := by
  unfold Builtin.List.listTooLong
  exact decide_eq_false (by omega)
end
section
variable {X : Cx}
noncomputable def rAppend : V → List V → Hp → VK → Prop := fun x vs H Q => ∃ l xs y, x = .ref l ∧ vs = [y] ∧ H l = some (.lst xs) ∧ xs.length < sizeLine ∧ Q .non (upd H l (.lst (xs ++ [y])))
theorem mt_append : MtM X "list.append" rAppend := by
  intro pins s σ H x vs v us Q I rx rv h
  obtain ⟨l, xs, y, rfl, rfl, hH, hz, q⟩ := h
  cases rx
  obtain ⟨u, rfl, ru⟩ := rv.one
  obtain ⟨z, its, n, r, hl, e⟩ := I.lstM hH
  refine call_meets F.slot_list_append ⟨_, e, rfl⟩ F.entry_list_append (F.args_list_append_2 _ _) (PySem.list_append l its.toArray n u (by rw [List.size_toArray]; omega)) ⟨e, ?_⟩
  refine ⟨.non, _, I.lset (its' := its ++ [u]) hH e (by simp) (r.append (.cons ru .nil)) ?_, rfl, q⟩
  rw [List.length_append, List.length_singleton]
  omega
noncomputable def rExtend : V → List V → Hp → VK → Prop := fun x vs H Q => ∃ l b xs zs, x = .ref l ∧ vs = [.ref b] ∧ H l = some (.lst xs) ∧ H b = some (.lst zs) ∧ xs.length + zs.length ≤ sizeLine ∧ Q .non (upd H l (.lst (xs ++ zs)))
noncomputable def rPop : V → List V → Hp → VK → Prop := fun x vs H Q => ∃ l xs y, x = .ref l ∧ vs = [] ∧ H l = some (.lst xs) ∧ xs[xs.length - 1]? = some y ∧ Q y (upd H l (.lst xs.dropLast))
noncomputable def rPopAt : V → List V → Hp → VK → Prop := fun x vs H Q => ∃ l xs i k y, x = .ref l ∧ vs = [.int i] ∧ H l = some (.lst xs) ∧ -(2 ^ 63) ≤ i ∧ i < 2 ^ 63 ∧ seqIndex? i xs.length = some k ∧ xs[k]? = some y ∧ Q y (upd H l (.lst (xs.eraseIdx k)))
noncomputable def rReverse : V → List V → Hp → VK → Prop := fun x vs H Q => ∃ l xs, x = .ref l ∧ vs = [] ∧ H l = some (.lst xs) ∧ Q .non (upd H l (.lst xs.reverse))
noncomputable def rClear : V → List V → Hp → VK → Prop := fun x vs H Q => ∃ l xs, x = .ref l ∧ vs = [] ∧ H l = some (.lst xs) ∧ Q .non (upd H l (.lst []))
noncomputable def rCat : R2 := fun x y H Q => ∃ l b xs zs, x = .ref l ∧ y = .ref b ∧ H l = some (.lst xs) ∧ H b = some (.lst zs) ∧ xs.length + zs.length ≤ sizeLine ∧ ∀ p, H p = none → Q (.ref p) (upd H p (.lst (xs ++ zs)))
theorem op_cat : OpR X (binaryOp .Add) rCat := by
  intro pins s σ H x y v u Q I rx ry h
  obtain ⟨l, b, xs, zs, rfl, rfl, hH, hB, hz, q⟩ := h
  cases rx
  cases ry
  obtain ⟨z, its, n, r, hl, e⟩ := I.lstM hH
  obtain ⟨z2, its2, n2, r2, hl2, e2⟩ := I.lstM hB
  refine PySem.P.add_list e e2 ?_ (by rw [List.size_toArray, List.size_toArray]; omega)
  have ea : its.toArray ++ its2.toArray = (its ++ its2).toArray := by simp
  rw [ea]
  exact ⟨.ref _, _, I.lnew (t' := s.toks) (r.append r2) (by rw [List.length_append]; omega), rfl, q _ I.fresh⟩
noncomputable def rRep : R2 := fun x y H Q => ∃ l k xs, x = .ref l ∧ y = .int k ∧ H l = some (.lst xs) ∧ -(2 ^ 63) ≤ k ∧ k < 2 ^ 63 ∧ xs.length * k.toNat ≤ sizeLine ∧
  ∀ p, H p = none → Q (.ref p) (upd H p (.lst (List.replicate k.toNat xs).flatten))
theorem len_rep {α : Type} (xs : List α) (k : Nat) : (List.replicate k xs).flatten.length = k * xs.length := by
  induction k with
  | zero => simp
  | succ k ih => rw [List.replicate_succ, List.flatten_cons, List.length_append, ih, Nat.succ_mul, Nat.add_comm]
theorem op_rep : OpR X (binaryOp .Mult) rRep := by
  intro pins s σ H x y v u Q I rx ry h
  obtain ⟨l, k, xs, rfl, rfl, hH, h1, h2, hz, q⟩ := h
  cases rx
  obtain ⟨t, rfl⟩ := ry
  obtain ⟨z, its, n, r, hl, e⟩ := I.lstM hH
  have hlen : its.toArray.size * k.toNat ≤ sizeLine := by rw [List.size_toArray, ← hl]; exact hz
  have hcap : ¬ its.toArray.size * k.toNat > (2 ^ 63 - 1) / 8 := by
    have : (sizeLine : Nat) ≤ (2 ^ 63 - 1) / 8 := by decide
    omega
  have hfit : ¬ (!Builtin.List.listFitsIndex k) = true := by
    rw [fitsIndex_both h1 h2]
    exact Bool.false_ne_true
  have hlong : ¬ Builtin.List.listTooLong (its.toArray.size * k.toNat) = true := by
    rw [notLongL hlen]
    exact Bool.false_ne_true
  have hnew : List.foldl (fun x1 x2 => x1 ++ x2) #[] (List.replicate (if its.toArray.isEmpty = true then 0 else k.toNat) its.toArray) = (List.replicate k.toNat its).flatten.toArray := by
    have f0 : ∀ m : Nat, List.foldl (fun x1 x2 => x1 ++ x2) #[] (List.replicate m its.toArray) = (List.replicate m its).flatten.toArray := fun m => by
      have := foldl_rep its m []
      rw [List.nil_append] at this
      exact this
    rw [f0]
    cases its with
    | nil => simp
    | cons a r' => rw [if_neg (by simp)]
  refine wpAny_binaryOp_repeat_ref (T := "list") (U := "int") (by decide) ⟨_, e, rfl⟩ (fun s' => typeIs_int s' k t) noFill_list_mul F.fills_int_mul F.slot_int_rmul repeat_list F.slot_int_index.lookup
    (call_meets F.slot_int_rmul (typeIs_int s k t) F.entry_int_rmul (F.args_int_rmul_2 _ _) (int___rmul___int_list k t l its.toArray n)
      ⟨e, rfl, ⟨_, e, rfl⟩, call_meets F.slot_list_mul ⟨_, e, rfl⟩ F.entry_list_mul (F.args_list_mul_2 _ _) (AutoListH.list___mul___list_int_3 l its.toArray n k t hfit hcap hlong) ⟨e, ?_⟩⟩)
  rw [hnew]
  exact ⟨.ref _, _, I.lnew (t' := s.toks) (r.rep k.toNat) (by rw [len_rep, Nat.mul_comm]; exact hz), rfl, q _ I.fresh⟩
end
section
variable {prog : Program} {w : World} {A : Around} {E : Value → Shared → Prop} {s : Shared}
set_option maxRecDepth 100000 in
end
section
variable {X : Cx}
end
end L2
namespace Att
open PySem PySem.W PySem.Calls PyProof.Rows
theorem ints_of_wellAll {P : Params} {h : Heap} : ∀ (ns : List Int) (vs : List Value), WellAll P h vs (ns.map WData.int) → IntsAre vs ns := by
  intro ns
  induction ns with
  | nil =>
    intro vs w
    rw [List.map_nil] at w
    cases w
    exact .nil
  | cons n ns ih =>
    intro vs w
    rw [List.map_cons] at w
    cases w with
    | cons a b =>
      cases a
      exact .cons _ _ (ih _ b)
theorem script_of {l : OpenLaw} {n : Nat} (hn : l.most = some n) {P : Params} {h : Heap} {args : List WData} {vals : List Value}
    (hpre : l.row.toRowW.claim.pre args = true) (hwl : WellAll P h vals args) :
    ∃ a vs ns, vals = [Value.ref a] ∧ args = [WData.list (ns.map WData.int)] ∧ h.get? a = some { cls := .type "list", data := .seq vs.toArray } ∧ IntsAre vs ns ∧ ns.length ≤ n := by
  have hsh : WShape.hasAll [] args [.list .int] = true := (pre_splitW hpre).1
  have hc : l.pre.holds [] { args := args } = true := (pre_splitW hpre).2
  obtain ⟨d, r, rfl, h1, h2⟩ := hasAllW_cons hsh
  obtain rfl := hasAllW_nil h2
  obtain ⟨xs, rfl, h3⟩ := hasW_list h1
  obtain ⟨ns, rfl⟩ := items_int h3
  have hlen : ns.length ≤ n := by
    unfold OpenLaw.pre at hc
    have h4 : (WTm.not (.lt (.lit (.int (n : Int))) (.len (.arg 0)))).holds [] { args := [.list (ns.map .int)] } = true := by
      have h4 := (holds_andW hc).1
      rw [hn] at h4
      exact h4
    have h5 := condW_of h4 (w_not (w_lt w_lit (w_len_list (w_arg rfl))))
    rw [List.length_map] at h5
    refine Nat.le_of_not_lt fun q => ?_
    have q' : (n : Int) < ((ns.length : Nat) : Int) := by omega
    first
      | (rw [decide_eq_true q'] at h5; exact absurd h5 (by decide))
      | (simp at h5; omega)
  cases hwl with
  | cons w1 w2 =>
    cases w2
    cases w1 with
    | list ho hall => exact ⟨_, _, ns, rfl, rfl, ho, ints_of_wellAll ns _ hall, hlen⟩
theorem post_true (l : OpenLaw) (args : List WData) : l.row.toRowW.claim.post args (.bool true) args = true :=
  postW_of (r := l.row.toRowW) (X := (true == true))
    (show WShape.has [] (.bool true) .bool = true by first | rfl | decide | simp [WShape.has, WShape.arms, WShape.armsAll])
    (show (WTm.eq .res (.lit (.bool true))).value [] { args := args, res := some (.bool true), after := args } = some (.bool (true == true)) from w_eq_bool (w_res rfl) w_lit) rfl
theorem attach_call {l : OpenLaw} {n : Nat} {q : Program} {loose : List Str} {XP : (Str → Option Value) → Heap → Prop} {YP : World → Heap → Prop} {d : DefRec}
    (hn : l.most = some n) (hdf : d.params.defaults = [])
    (call : ∀ (w : World) (s₀ s₁ : Shared) (mg mb : Str → Option Value) (fa : Addr) (o : Obj) (pm cd doc : Value) (a : Addr) (vs : List Value) (ns : List Int),
      Ground q loose [] XP w s₀ mg mb s₁.heap → YP w s₁.heap →
      s₁.heap.get? fa = some o → o.data = .func (docDef d.name d.params d.body d.scope pm cd doc) → s₁.heap.CodeRec cd d.name → mg d.name = some (.ref fa) →
      s₁.heap.get? a = some { cls := .type "list", data := .seq vs.toArray } → IntsAre vs ns → ns.length ≤ n → s₁.gens = #[] →
      codeAny (model l.prog w) callerA (.call (.ref fa) ⟨[.ref a], []⟩) (fun r s' => r = .ok (.ret (.bool true)) ∧ OldK s₁.heap s'.heap ∧ s'.os = s₁.os ∧ AllBare s'.gens) s₁) :
    WalkO q loose XP YP l.row.toRowW d [] (fun f vs => PySem.call f vs) := by
  intro w s₀ s₁ mg mb G Y fa o pm cd doc dV kV ho hd hcd hD hmg hg args vals as hpre hlay hrd hwl hlo
  obtain rfl : dV = .none := Dflts.none hD hdf
  obtain rfl : kV = .none := Dflts.noKw hD
  obtain ⟨a, vs, ns, rfl, rfl, hobj, hints, hlen⟩ := script_of hn hpre hwl
  refine enter_call (codeAny_mono (call w s₀ s₁ mg mb fa o pm cd doc a vs ns G Y ho (fd_plain hd) hcd hmg hobj hints hlen hg) fun r s' hq => ?_)
  obtain ⟨rfl, h2, h3, h4⟩ := hq
  exact ⟨.inl ⟨.bool true, .bool true, [], rfl, fun _ => rfl, .bool true, post_true l _, fun _ => ⟨List.Pairwise.nil, fun _ hm => (nomatch hm)⟩⟩, h2, h3, h4⟩
section
variable {prog : Program} {w : World} {A : Around} {E : Value → Shared → Prop} {s : Shared} {K : Frag}
noncomputable def noObjs (h : Heap) : Heap := { h with objs := #[] }
noncomputable def ledger (h : Heap) (L d : Addr) : List (Addr × Obj) := (List.range h.objs.size).filterMap fun a => if a = L ∨ a = d then none else (h.get? a).map fun o => (a, o)
end
end Att
namespace L2
open PySem PySem.Spec PyProof.Rows
theorem vals_ints : ∀ {vs : List Value} {ns : List Int}, IntsAre vs ns → Vals (ns.map V.int) vs
  | _, _, .nil => .nil
  | _, _, .cons n t h => .cons ⟨t, rfl⟩ (vals_ints h)
noncomputable def Only (H : Hp) : Prop := ∀ b, H b = none ∨ ∃ o xs, H b = some (.frz o (.lst xs))
theorem law_call {P : Program} {w : World} {K : PySem.W.Frag} {mg mb : Str → Option Value} {CX : CXT} {k : Nat} {fa a : Addr} {fd : FuncData} {x : Str} {sp : Sp} {s₁ : Shared} {vs : List Value} {ns : List Int}
    (KX : K.In s₁.heap) (hns : s₁.heap.Ns mainGlobals mg) (hb : s₁.heap.Ns builtinsNs mb) (hbb : ∀ x : Str, x ≠ "__name__" → mb x = bootBuiltins x) (hlim : s₁.heap.NoLimit) (hg : s₁.gens = #[])
    (ha : s₁.heap.get? a = some { cls := .type "list", data := .seq vs.toArray }) (hi : IntsAre vs ns) (hl : ns.length ≤ sizeLine) (hr : Room k callerA)
    (F : ∀ base : Heap, K.In base → base.Ns mainGlobals mg → FnOk P w K mg base CX k fa fd [x] sp) (hbind : ∀ (s : Shared) (u : Value), BindsTo s fd ⟨[u], []⟩ [(x, u)])
    (hsp : ∀ H : Hp, Only H → SqL K H a (ns.map V.int) → sp [.ref a] H (fun v _ => v = .bl true) fun _ _ _ => False)
    (hCX : ∀ H e s', CX [] H s₁ (fun _ _ _ => False) e s' → False) :
    codeAny (model P w) callerA (.call (.ref fa) ⟨[.ref a], []⟩) (fun r s' => r = .ok (.ret (.bool true)) ∧ OldK s₁.heap s'.heap ∧ s'.os = s₁.os ∧ AllBare s'.gens) s₁ := by
  have rv := vals_ints hi
  have lenV := hi.length
  have core : ∀ H : Hp, Only H → SqL K H a (ns.map V.int) → HOk P w H s₁.heap → (∀ b, H b ≠ none → b = a) → (H a ≠ none → K.lookup a = none) →
      codeAny (model P w) callerA (.call (.ref fa) ⟨[.ref a], []⟩) (fun r s' => r = .ok (.ret (.bool true)) ∧ OldK s₁.heap s'.heap ∧ s'.os = s₁.os ∧ AllBare s'.gens) s₁ := by
    intro H hO hS hok hA hK
    have base_of : ∀ {b : Addr} {o : Obj}, s₁.heap.get? b = some o → H b = none → (hidT s₁.heap H).get? b = some o := fun e n => hidT_get e n
    have noA : ∀ {b : Addr} {o : Obj} {es : Array DictEntry} {ep : Nat}, s₁.heap.get? b = some o → o.data = .dict es ep → H b = none := fun {b o es ep} e d => by
      cases q : H b with
      | none => rfl
      | some u =>
        have e' : b = a := hA b (by rw [q]; simp)
        subst e'
        rw [ha] at e; cases e
        have d' : Data.seq vs.toArray _ = Data.dict es ep := d
        cases d'
    have nsK : ∀ {b : Addr} {m : Str → Option Value}, s₁.heap.Ns b m → (hidT s₁.heap H).Ns b m := fun {b m} ⟨o, es, ep, e, d, r⟩ => ⟨o, es, ep, base_of e (noA e d), d, r⟩
    have hKb : K.In (hidT s₁.heap H) := fun b o e => base_of (KX b o e) (by
      cases q : H b with
      | none => rfl
      | some u =>
        have e' : b = a := hA b (by rw [q]; simp)
        subst e'
        rw [hK (by rw [q]; simp)] at e; cases e)
    have hM : Mod K mg (hidT s₁.heap H) := ⟨hKb, nsK hns, ⟨mb, nsK hb, hbb⟩, let ⟨mc, h1, h2⟩ := hlim; ⟨mc, nsK h1, h2⟩⟩
    have e0 : Env0 P w K mg (hidT s₁.heap H) callerA [] s₁ H := ⟨rfl, hM, fun b o e => of_hidT e, Nat.le_of_eq (hidT_size _ _), trivial, fun b hb => absurd (show b ∈ ([] : List Addr) from hb) (by simp), hok, .of_eq hg⟩
    refine codeAny_mono ((F _ hKb (nsK hns)).run callerA [] s₁ H ⟨[.ref a], []⟩ [.ref a] [.ref a] _ _ hr e0 (hbind s₁ (.ref a)) (.cons rfl .nil) (hsp H hO hS)) fun r s' h => ?_
    cases r with
    | error e => exact (hCX H e s' h).elim
    | ok fl =>
      cases fl with
      | next => exact False.elim h
      | brk => exact False.elim h
      | cont => exact False.elim h
      | ret u =>
        obtain ⟨v, H', os, bare, un, hok', r', q⟩ := h
        have q' : v = .bl true := q
        subst q'
        obtain rfl : u = Value.bool true := r'
        refine ⟨rfl, OldK.of_keep fun b o e => ?_, os, bare⟩
        cases q : H b with
        | none => exact un.keep b o e q (by intro z; exact absurd (show b ∈ ([] : List Addr) from z) (by simp)) (by simp)
        | some u =>
          rcases hO b with z | ⟨ob, xs, z⟩
          · rw [q] at z; cases z
          · have z2 := un.frzs b ob _ z
            obtain ⟨e1, _⟩ := hok b _ z
            obtain ⟨e2, _⟩ := hok' b _ z2
            rw [e] at e1; cases e1
            exact e2
  cases hk : K.lookup a with
  | some o =>
    have e := KX a o hk
    rw [ha] at e
    cases e
    refine core (fun _ => none) (fun _ => .inl rfl) (.inr ⟨_, vs.toArray, _, hk, rfl, rfl, rfl, by rw [List.size_toArray, lenV]; exact hl, by simpa using rv⟩) (fun b u z => by have z' : (none : Option HO) = some u := z; cases z') (fun b z => absurd rfl z) fun z => absurd rfl z
  | none =>
    refine core (fun b => if b = a then some (.frz { cls := .type "list", data := .seq vs.toArray } (.lst (ns.map V.int))) else none) (fun b => ?_) (.inl (.inr ⟨{ cls := .type "list", data := .seq vs.toArray }, if_pos rfl⟩)) (fun b u z => ?_) (fun b z => ?_) fun _ => hk
    · by_cases hb : b = a
      · exact .inr ⟨_, _, if_pos hb⟩
      · exact .inl (if_neg hb)
    · by_cases hb : b = a
      · have z' := (if_pos hb).symm.trans z
        cases z'
        subst hb
        exact ⟨ha, by rw [List.length_map]; exact hl, vs, _, rv, ha⟩
      · have z' := (if_neg hb).symm.trans z
        cases z'
    · by_cases hb : b = a
      · exact hb
      · exact absurd (if_neg hb) z
end L2
namespace L2
open PySem PySem.Spec PyProof.Rows
noncomputable abbrev KOf {K : PySem.W.Frag} {h : Heap} (_ : K.In h) : PySem.W.Frag := K
theorem walk_of {l : PySem.W.OpenLaw} {n k : Nat} {q : Program} {loose : List Str} {XP : (Str → Option Value) → Heap → Prop} {YP : World → Heap → Prop} {d : DefRec} {K : Params → PySem.W.Frag} {CX : World → CXT} {sp : World → Sp} {x : Str}
    (hn : l.most = some n) (hn2 : n ≤ sizeLine) (hdf : d.params.defaults = []) (hr : Room k callerA)
    (hY : ∀ (w : World) (h : Heap), YP w h → (K w.params).In h)
    (F : ∀ (w : World) (mg : Str → Option Value) (fa : Addr) (h : Heap), (K w.params).In h → h.Ns mainGlobals mg → mg d.name = some (.ref fa) →
      ∃ fd : FuncData, (∀ (s : Shared) (u : Value), BindsTo s fd ⟨[u], []⟩ [(x, u)]) ∧
        ∀ base : Heap, (K w.params).In base → base.Ns mainGlobals mg → FnOk l.prog w (K w.params) mg base (CX w) k fa fd [x] (sp w))
    (hsp : ∀ (w : World) (H : Hp) (a : Addr) (ns : List Int), ns.length ≤ n → Only H → SqL (K w.params) H a (ns.map V.int) → sp w [.ref a] H (fun v _ => v = .bl true) fun _ _ _ => False)
    (hCX : ∀ (w : World) (H : Hp) (s : Shared) (e : Value) (s' : Shared), CX w [] H s (fun _ _ _ => False) e s' → False) :
    PySem.W.WalkO q loose XP YP l.row.toRowW d [] (fun f vs => PySem.call f vs) := by
  refine Att.attach_call hn hdf fun w s₀ s₁ mg mb fa o pm cd doc a vs ns G Y ho hd hcd hmg hobj hints hlen hg => ?_
  have KX := hY w _ Y
  obtain ⟨fd, hb, hF⟩ := F w mg fa _ KX G.T.g hmg
  exact law_call KX G.T.g G.T.b G.T.builtins G.T.nolimit hg hobj hints (Nat.le_trans hlen hn2) hr hF hb (fun H hO hS => hsp w H a ns hlen hO hS) fun H e s' => hCX w H s₁ e s'
theorem walk_ofK {l : PySem.W.OpenLaw} {n k : Nat} {q : Program} {loose : List Str} {XP : (Str → Option Value) → Heap → Prop} {YP : World → Heap → Prop} {d : DefRec} {K : Params → PySem.W.Frag} {CX : CXT} {sp : PySem.W.Frag → Sp} {x : Str}
    (hn : l.most = some n) (hn2 : n ≤ sizeLine) (hdf : d.params.defaults = []) (hr : Room k callerA)
    (hY : ∀ (w : World) (h : Heap), YP w h → (K w.params).In h)
    (F : ∀ (w : World) (mg : Str → Option Value) (fa : Addr) (h : Heap), (K w.params).In h → h.Ns mainGlobals mg → mg d.name = some (.ref fa) →
      ∃ fd : FuncData, (∀ (s : Shared) (u : Value), BindsTo s fd ⟨[u], []⟩ [(x, u)]) ∧
        ∀ base : Heap, (K w.params).In base → base.Ns mainGlobals mg → FnOk l.prog w (K w.params) mg base CX k fa fd [x] (sp (K w.params)))
    (hsp : ∀ (K : PySem.W.Frag) (H : Hp) (a : Addr) (ns : List Int), ns.length ≤ n → Only H → SqL K H a (ns.map V.int) → sp K [.ref a] H (fun v _ => v = .bl true) fun _ _ _ => False)
    (hCX : ∀ (H : Hp) (s : Shared) (e : Value) (s' : Shared), CX [] H s (fun _ _ _ => False) e s' → False) :
    PySem.W.WalkO q loose XP YP l.row.toRowW d [] (fun f vs => PySem.call f vs) :=
  walk_of (K := K) (CX := fun _ => CX) (sp := fun w => sp (K w.params)) hn hn2 hdf hr hY F (fun w H a ns h1 h2 h3 => hsp (K w.params) H a ns h1 h2 h3) fun _ H s e s' => hCX H s e s'
end L2
namespace L2
open PySem PySem.Spec PyProof.Rows
noncomputable def inClass (s : Stmt) (j : Nat) : Stmt := match s with
  | .ClassDef _ _ _ body _ _ _ _ _ _ _ => body.getD j (.Pass ⟨0, 0, 0, 0⟩)
  | _ => .Pass ⟨0, 0, 0, 0⟩
noncomputable def defArgs (s : Stmt) : Arguments := match s with
  | .FunctionDef _ a _ _ _ _ _ _ _ _ => a
  | _ => { posonlyargs := [], args := [], vararg := none, kwonlyargs := [], kw_defaults := [], kwarg := none, defaults := [] }
noncomputable def defBody (s : Stmt) : List Stmt := match s with
  | .FunctionDef _ _ b _ _ _ _ _ _ _ => b
  | _ => []
noncomputable def defScope (s : Stmt) : Scope := match s with
  | .FunctionDef _ _ _ _ _ _ sc _ _ _ => sc
  | _ => { kind := .function, names := [], isGenerator := false, isCoroutine := false }
noncomputable abbrev CX0 : CXT := fun _ _ _ _ _ _ => False
noncomputable abbrev E0 : XK := fun _ _ _ => False
theorem pass0 {X : Cx} : Passes CX0 X E0 := fun _ _ _ _ _ _ _ h => h.elim
structure Fun (K : PySem.W.Frag) (x qual : Str) (st : Stmt) (f : Addr) (fd : FuncData) : Prop where
  ex : ∃ (oc : Value) (od : Option Addr) (kV doc pm : Value) (an : Option Addr) (cdv ct : Value) (osl : Array (Option Value)),
    fd = PySem.W.fnOf x qual (defArgs st) (defBody st) (defScope st) .none kV doc pm an cdv ct ∧ K.lookup f = some ⟨oc, od, .func fd, osl⟩ ∧ PySem.W.codeIn K cdv qual = true
  kp : PySem.W.keepIn K (.ref f) = true
section
variable {P : Program} {w : World} {K : PySem.W.Frag} {mg : Str → Option Value} {base : Heap}
theorem Fun.ok {x qual : Str} {st : Stmt} {f : Addr} {fd : FuncData} {N ps : List Str} {k : Nat} {sp : Sp} (F : Fun K x qual st f fd) (S : FnScope N ps (defScope st)) (len : ∀ vs H Q E, sp vs H Q E → vs.length = ps.length)
    (hbody : ∀ (cdv : Value) (A : Around) (outer : List Env) (s : Shared) (H : Hp) (vs : List V) (Q : VK) (E : XK), Room k (A.deeper (envOfC qual (defScope st) s.heap.objs.size f cdv)) → sp vs H Q E →
      ∃ t, PSs (cxOf CX0 P w K mg base N qual (defScope st) f cdv A outer s H E).nox (defBody st) t ∧ t { nx := fun _ H' => Q .non H', rt := Q } (start N vs) H) : FnOk P w K mg base CX0 (k + 1) f fd ps sp := by
  obtain ⟨oc, od, kV, doc, pm, an, cdv, ct, osl, rfl, lk, hcd⟩ := F.ex
  refine fn_of lk hcd S len fun A outer s H vs Q E hr hsp => ?_
  obtain ⟨t, h, q⟩ := hbody cdv A outer s H vs Q E hr hsp
  exact ⟨t, h.nox, q⟩
theorem Fun.binds {x qual : Str} {st : Stmt} {f : Addr} {fd : FuncData} {ps : List Str} (F : Fun K x qual st f fd)
    (h : ∀ (kV doc pm : Value) (an : Option Addr) (cdv ct : Value) (us : List Value), us.length = ps.length → bindArgs (PySem.W.fnOf x qual (defArgs st) (defBody st) (defScope st) .none kV doc pm an cdv ct) ⟨us, []⟩ = pure (ps.zip us)) : Binds K fd ps [] := by
  obtain ⟨oc, od, kV, doc, pm, an, cdv, ct, osl, rfl, lk, hcd⟩ := F.ex
  exact .all (h kV doc pm an cdv ct)
theorem fun_mk {x qual : Str} {st : Stmt} {f : Addr} {oc : Value} {od an : Option Addr} {osl : Array (Option Value)} {kV doc pm cdv ct : Value} (l : K.lookup f = some ⟨oc, od, .func (PySem.W.fnOf x qual (defArgs st) (defBody st) (defScope st) .none kV doc pm an cdv ct), osl⟩)
    (c : PySem.W.codeIn K cdv qual = true) (k : PySem.W.keepIn K (.ref f) = true) : Fun K x qual st f (PySem.W.fnOf x qual (defArgs st) (defBody st) (defScope st) .none kV doc pm an cdv ct) := ⟨⟨oc, od, kV, doc, pm, an, cdv, ct, osl, rfl, l, c⟩, k⟩
end
theorem small1000 {n : Nat} (h : n ≤ 1000) : n < sizeLine := Nat.lt_of_le_of_lt h (by decide)
section
variable {X : Cx}
theorem pv (i : Nat) {x : Str} {pos : Pos} (hN : X.N[i]? = some x := by rfl) (hv : Vis X.env.scope x := by first | exact Or.inl rfl | exact Or.inr (Or.inl rfl) | exact Or.inr (Or.inr rfl)) (hd : (x == ("__debug__" : Str)) = false := by decide)
    (hcd : (x == ("__classdict__" : Str)) = false := by decide) : PE X (.Name x pos) (tVar i) := pe_var hN hv hd hcd
end
theorem iteF {A B : Prop} (h : B) : if false = true then A else B := by
  rw [if_neg Bool.false_ne_true]
  exact h
theorem iteT {A B : Prop} (h : A) : if true = true then A else B := by
  rw [if_pos rfl]
  exact h
theorem ite2 {c A B : Prop} [Decidable c] (h1 : c → A) (h2 : ¬ c → B) : if c then A else B := by
  by_cases h : c
  · rw [if_pos h]
    exact h1 h
  · rw [if_neg h]
    exact h2 h
noncomputable def Same (H H' : Hp) : Prop := ∀ b o, H b = some o → H' b = some o
theorem Same.refl (H : Hp) : Same H H := fun _ _ h => h
theorem Same.trans {H H1 H2 : Hp} (a : Same H H1) (b : Same H1 H2) : Same H H2 := fun c o h => b c o (a c o h)
theorem Same.free {H H' : Hp} (e : Same H H') {l : Addr} (h : H' l = Option.none) : H l = Option.none := by
  cases q : H l with
  | none => rfl
  | some o =>
    rw [e l o q] at h
    cases h
theorem Same.seq {K : PySem.W.Frag} {H H' : Hp} {a : Addr} {xs : List V} (e : Same H H') (h : SqL K H a xs) : SqL K H' a xs := by
  rcases h with (h | ⟨o, h⟩) | h
  · exact .inl (.inl (e _ _ h))
  · exact .inl (.inr ⟨o, e _ _ h⟩)
  · exact .inr h
end L2
set_option Elab.async false
set_option linter.all false
set_option maxRecDepth 100000
set_option maxHeartbeats 4000000
namespace L2
open PySem PySem.Spec PyProof.Rows
theorem scal_ii (i j : Int) : scal (.int i) (.int j) = true := rfl
theorem scal_bb (i j : Bool) : scal (.bl i) (.bl j) = true := rfl
theorem scal_ss (i j : Str) : scal (.str i) (.str j) = true := rfl
theorem scal_ni (i : Int) : scal .non (.int i) = true := rfl
theorem scal_in (i : Int) : scal (.int i) .non = true := rfl
theorem log2_small {i : Int} (h : i.natAbs < 10 ^ 100) : i.natAbs.log2 < 400 := by
  by_cases h0 : i.natAbs = 0
  · rw [h0]; decide
  · exact (Nat.log2_lt h0).mpr (Nat.lt_of_lt_of_le h (by decide +kernel))
theorem bits_small {i : Int} (h : i.natAbs < 10 ^ 100) : Builtin.Int.intBits i ≤ 2 ^ 20 := by
  unfold Builtin.Int.intBits
  split
  · exact Nat.zero_le _
  · have := log2_small h
    have e : (2 : Nat) ^ 20 = 1048576 := by decide
    omega
noncomputable def CMulB (i j : Int) : Prop := CMul i j ∨ (i.natAbs < 10 ^ 100 ∧ j.natAbs < 10 ^ 100)
theorem CMulB.ok {i j : Int} (h : CMulB i j) : IntMulOk i j := by
  rcases h with h | h
  · exact h.ok
  · exact .of_bits (bits_small h.1) (bits_small h.2)
noncomputable def CDivB (i j : Int) : Prop := 0 < j ∧ j.natAbs < 10 ^ 100
section
variable {X : Cx}
theorem op_mulB : OpR X (binaryOp .Mult) (rI CMulB fun i j => .int (i * j)) := opI fun _ _ _ _ _ _ _ hc q => mul_int q hc.ok
theorem op_fdivB : OpR X (binaryOp .FloorDiv) (rI CDivB fun i j => .int (i / j)) := opI fun i j _ _ _ _ _ hc q => by
  have e : i.fdiv j = i / j := Int.fdiv_eq_ediv_of_nonneg i (Int.le_of_lt hc.1)
  refine floordiv_int (by have := hc.1; omega) ?_ (.inl (PyProof.noPylong_of_log2 (Nat.lt_trans (log2_small hc.2) (by decide))))
  rw [e]
  exact q
noncomputable def KitV (X : Cx) (pins : List (Addr × Obj)) (σ : St) (H : Hp) (s : Shared) (u t : Value) : Prop := ∃ Hh : Heap → Prop, PySem.W.KitX X.K u t Hh ∧ Hh s.heap ∧ u ≠ .builtin "__main__.__loader__#opaque"
theorem TyOf.kit {pins : List (Addr × Obj)} {σ : St} {H : Hp} {s : Shared} {x : V} {u t : Value} (ty : TyOf X.K H x t) (I : Inv X pins σ H s) (rx : RelV x u) : KitV X pins σ H s u t := by
  cases ty with
  | non => cases (show u = Value.none from rx); exact ⟨_, PySem.W.kitx_none, True.intro, fun z => nomatch z⟩
  | bl y => cases (show u = Value.bool y from rx); exact ⟨_, PySem.W.kitx_bool, True.intro, fun z => nomatch z⟩
  | int i => obtain ⟨t, q⟩ := (show ∃ t, u = Value.int i t from rx); cases q; exact ⟨_, PySem.W.kitx_int, True.intro, fun z => nomatch z⟩
  | str y => obtain ⟨t, q⟩ := (show ∃ t, u = Value.str y t from rx); cases q; exact ⟨_, PySem.W.kitx_str, True.intro, fun z => nomatch z⟩
  | flt y => obtain ⟨t, q⟩ := (show ∃ t, u = Value.float y t from rx); cases q; exact ⟨_, PySem.W.kitx_float, True.intro, fun z => nomatch z⟩
  | @lst a xs ea =>
    cases (show u = Value.ref a from rx)
    obtain ⟨_, _, n, _, h1⟩ := (show ObjOk X.prog X.w H s.heap a (.lst xs) from I.hok a _ ea)
    exact ⟨_, PySem.W.kitx_list, ⟨_, h1, rfl⟩, fun z => nomatch z⟩
  | @frz a ob xs ea =>
    cases (show u = Value.ref a from rx)
    obtain ⟨_, _, _, n, _, h1⟩ := (show ObjOk X.prog X.w H s.heap a (.frz ob (.lst xs)) from I.hok a _ ea)
    exact ⟨_, PySem.W.kitx_list, ⟨_, h1, rfl⟩, fun z => nomatch z⟩
  | @tup a xs ea =>
    cases (show u = Value.ref a from rx)
    obtain ⟨_, _, _, p⟩ := (show ObjOk X.prog X.w H s.heap a (.tup xs) from I.hok a _ ea)
    obtain ⟨o, h1, h2, _⟩ := p
    exact ⟨_, PySem.W.kitx_tuple, ⟨o, h1, h2⟩, fun z => nomatch z⟩
  | @dK a kvs ea =>
    cases (show u = Value.ref a from rx)
    obtain ⟨_, _, vs, _, p⟩ := (show ObjOk X.prog X.w H s.heap a (.dK kvs) from I.hok a _ ea)
    obtain ⟨o, es, ep, h1, h2, _⟩ := p
    exact ⟨_, PySem.W.kitx_dict, ⟨o, h1, h2.1⟩, fun z => nomatch z⟩
  | @dT a kvs ea =>
    cases (show u = Value.ref a from rx)
    obtain ⟨_, _, xs, _, o, es, ep, h1, h2, _⟩ := (show ObjOk X.prog X.w H s.heap a (.dT kvs) from I.hok a _ ea)
    exact ⟨_, PySem.W.kitx_dict, ⟨o, h1, h2.1⟩, fun z => nomatch z⟩
  | @ins a C dx fs ea cl ha hn htk hm =>
    cases (show u = Value.ref a from rx)
    obtain ⟨mA, O, _⟩ := ins_get I.hok ea
    obtain ⟨od, J, _⟩ := O.look
    exact ⟨_, PySem.W.kitx_own (cl.get _) cl.hd ha hn htk hm, J, fun z => nomatch z⟩
noncomputable def clsV : V → Option Value
  | .ty n => some (.type n)
  | .ref a => some (.ref a)
  | _ => none
theorem clsV_rel {c : V} {u u' : Value} (h : clsV c = some u) (r : RelV c u') : u' = u := by
  cases c with
  | ty n => cases h; exact r
  | ref a => cases h; exact r
  | _ => cases h
noncomputable def rIsi (K : PySem.W.Frag) : List V → Hp → VK → Prop := fun xs H Q => ∃ x t c u b, xs = [x, c] ∧ TyOf K H x t ∧ clsV c = some u ∧ PySem.W.kitOne K t u = some b ∧ Q (.bl b) H
theorem call_isinst : CallR X (.builtin "isinstance") (rIsi X.K) := by
  intro pins s σ H xs us Q I r h
  obtain ⟨x, t, c, u', b, rfl, ty, ec, e, q⟩ := h
  obtain ⟨u, w', rfl, rx, rc⟩ := vals2 r
  obtain rfl := clsV_rel ec rc
  obtain ⟨Hh, Z, p, hx⟩ := ty.kit I rx
  exact PySem.W.kia_one Z I.kIn p e hx fun tk => ⟨.bl b, H, I.tok tk, rfl, q⟩
noncomputable def rIsi2 (K : PySem.W.Frag) : List V → Hp → VK → Prop := fun xs H Q => ∃ x t p c1 c2 u1 u2 b, xs = [x, .ref p] ∧ H p = some (.tup [c1, c2]) ∧ TyOf K H x t ∧ clsV c1 = some u1 ∧ clsV c2 = some u2 ∧ PySem.W.kitAny K t [u1, u2] = some b ∧ Q (.bl b) H
theorem kit_NoneType_int (K : PySem.W.Frag) : PySem.W.kitOne K (.type "NoneType") (.type "int") = some false := by kernel_rfl
theorem kit_NoneType_bool (K : PySem.W.Frag) : PySem.W.kitOne K (.type "NoneType") (.type "bool") = some false := by kernel_rfl
theorem kit_NoneType_tuple (K : PySem.W.Frag) : PySem.W.kitOne K (.type "NoneType") (.type "tuple") = some false := by kernel_rfl
theorem kit_NoneType_list (K : PySem.W.Frag) : PySem.W.kitOne K (.type "NoneType") (.type "list") = some false := by kernel_rfl
theorem kit_NoneType_str (K : PySem.W.Frag) : PySem.W.kitOne K (.type "NoneType") (.type "str") = some false := by kernel_rfl
theorem kit_NoneType_dict (K : PySem.W.Frag) : PySem.W.kitOne K (.type "NoneType") (.type "dict") = some false := by kernel_rfl
theorem kit_bool_int (K : PySem.W.Frag) : PySem.W.kitOne K (.type "bool") (.type "int") = some true := by kernel_rfl
theorem kit_bool_bool (K : PySem.W.Frag) : PySem.W.kitOne K (.type "bool") (.type "bool") = some true := by kernel_rfl
theorem kit_bool_tuple (K : PySem.W.Frag) : PySem.W.kitOne K (.type "bool") (.type "tuple") = some false := by kernel_rfl
theorem kit_bool_list (K : PySem.W.Frag) : PySem.W.kitOne K (.type "bool") (.type "list") = some false := by kernel_rfl
theorem kit_bool_str (K : PySem.W.Frag) : PySem.W.kitOne K (.type "bool") (.type "str") = some false := by kernel_rfl
theorem kit_bool_dict (K : PySem.W.Frag) : PySem.W.kitOne K (.type "bool") (.type "dict") = some false := by kernel_rfl
theorem kit_int_int (K : PySem.W.Frag) : PySem.W.kitOne K (.type "int") (.type "int") = some true := by kernel_rfl
theorem kit_int_bool (K : PySem.W.Frag) : PySem.W.kitOne K (.type "int") (.type "bool") = some false := by kernel_rfl
theorem kit_int_tuple (K : PySem.W.Frag) : PySem.W.kitOne K (.type "int") (.type "tuple") = some false := by kernel_rfl
theorem kit_int_list (K : PySem.W.Frag) : PySem.W.kitOne K (.type "int") (.type "list") = some false := by kernel_rfl
theorem kit_int_str (K : PySem.W.Frag) : PySem.W.kitOne K (.type "int") (.type "str") = some false := by kernel_rfl
theorem kit_int_dict (K : PySem.W.Frag) : PySem.W.kitOne K (.type "int") (.type "dict") = some false := by kernel_rfl
theorem kit_str_int (K : PySem.W.Frag) : PySem.W.kitOne K (.type "str") (.type "int") = some false := by kernel_rfl
theorem kit_str_bool (K : PySem.W.Frag) : PySem.W.kitOne K (.type "str") (.type "bool") = some false := by kernel_rfl
theorem kit_str_tuple (K : PySem.W.Frag) : PySem.W.kitOne K (.type "str") (.type "tuple") = some false := by kernel_rfl
theorem kit_str_list (K : PySem.W.Frag) : PySem.W.kitOne K (.type "str") (.type "list") = some false := by kernel_rfl
theorem kit_str_str (K : PySem.W.Frag) : PySem.W.kitOne K (.type "str") (.type "str") = some true := by kernel_rfl
theorem kit_str_dict (K : PySem.W.Frag) : PySem.W.kitOne K (.type "str") (.type "dict") = some false := by kernel_rfl
theorem kit_float_int (K : PySem.W.Frag) : PySem.W.kitOne K (.type "float") (.type "int") = some false := by kernel_rfl
theorem kit_float_bool (K : PySem.W.Frag) : PySem.W.kitOne K (.type "float") (.type "bool") = some false := by kernel_rfl
theorem kit_float_tuple (K : PySem.W.Frag) : PySem.W.kitOne K (.type "float") (.type "tuple") = some false := by kernel_rfl
theorem kit_float_list (K : PySem.W.Frag) : PySem.W.kitOne K (.type "float") (.type "list") = some false := by kernel_rfl
theorem kit_float_str (K : PySem.W.Frag) : PySem.W.kitOne K (.type "float") (.type "str") = some false := by kernel_rfl
theorem kit_float_dict (K : PySem.W.Frag) : PySem.W.kitOne K (.type "float") (.type "dict") = some false := by kernel_rfl
theorem kit_list_int (K : PySem.W.Frag) : PySem.W.kitOne K (.type "list") (.type "int") = some false := by kernel_rfl
theorem kit_list_bool (K : PySem.W.Frag) : PySem.W.kitOne K (.type "list") (.type "bool") = some false := by kernel_rfl
theorem kit_list_tuple (K : PySem.W.Frag) : PySem.W.kitOne K (.type "list") (.type "tuple") = some false := by kernel_rfl
theorem kit_list_list (K : PySem.W.Frag) : PySem.W.kitOne K (.type "list") (.type "list") = some true := by kernel_rfl
theorem kit_list_str (K : PySem.W.Frag) : PySem.W.kitOne K (.type "list") (.type "str") = some false := by kernel_rfl
theorem kit_list_dict (K : PySem.W.Frag) : PySem.W.kitOne K (.type "list") (.type "dict") = some false := by kernel_rfl
theorem kit_tuple_int (K : PySem.W.Frag) : PySem.W.kitOne K (.type "tuple") (.type "int") = some false := by kernel_rfl
theorem kit_tuple_bool (K : PySem.W.Frag) : PySem.W.kitOne K (.type "tuple") (.type "bool") = some false := by kernel_rfl
theorem kit_tuple_tuple (K : PySem.W.Frag) : PySem.W.kitOne K (.type "tuple") (.type "tuple") = some true := by kernel_rfl
theorem kit_tuple_list (K : PySem.W.Frag) : PySem.W.kitOne K (.type "tuple") (.type "list") = some false := by kernel_rfl
theorem kit_tuple_str (K : PySem.W.Frag) : PySem.W.kitOne K (.type "tuple") (.type "str") = some false := by kernel_rfl
theorem kit_tuple_dict (K : PySem.W.Frag) : PySem.W.kitOne K (.type "tuple") (.type "dict") = some false := by kernel_rfl
theorem kit_dict_int (K : PySem.W.Frag) : PySem.W.kitOne K (.type "dict") (.type "int") = some false := by kernel_rfl
theorem kit_dict_bool (K : PySem.W.Frag) : PySem.W.kitOne K (.type "dict") (.type "bool") = some false := by kernel_rfl
theorem kit_dict_tuple (K : PySem.W.Frag) : PySem.W.kitOne K (.type "dict") (.type "tuple") = some false := by kernel_rfl
theorem kit_dict_list (K : PySem.W.Frag) : PySem.W.kitOne K (.type "dict") (.type "list") = some false := by kernel_rfl
theorem kit_dict_str (K : PySem.W.Frag) : PySem.W.kitOne K (.type "dict") (.type "str") = some false := by kernel_rfl
theorem kit_dict_dict (K : PySem.W.Frag) : PySem.W.kitOne K (.type "dict") (.type "dict") = some true := by kernel_rfl
noncomputable def isaB (n c : String) : Bool := n == c || (n == "bool" && c == "int")
theorem TyOf.name {K : PySem.W.Frag} {H : Hp} {x : V} {n : String} (ty : TyOf K H x (.type n)) : n = "NoneType" ∨ n = "bool" ∨ n = "int" ∨ n = "str" ∨ n = "float" ∨ n = "list" ∨ n = "tuple" ∨ n = "dict" := by
  cases ty <;> simp
theorem kit_ty {K : PySem.W.Frag} {n c : String} (hn : n = "NoneType" ∨ n = "bool" ∨ n = "int" ∨ n = "str" ∨ n = "float" ∨ n = "list" ∨ n = "tuple" ∨ n = "dict") (hc : c = "int" ∨ c = "bool" ∨ c = "tuple" ∨ c = "list" ∨ c = "str" ∨ c = "dict") :
    PySem.W.kitOne K (.type n) (.type c) = some (isaB n c) := by
  rcases hn with rfl | rfl | rfl | rfl | rfl | rfl | rfl | rfl <;> rcases hc with rfl | rfl | rfl | rfl | rfl | rfl
  · exact kit_NoneType_int K
  · exact kit_NoneType_bool K
  · exact kit_NoneType_tuple K
  · exact kit_NoneType_list K
  · exact kit_NoneType_str K
  · exact kit_NoneType_dict K
  · exact kit_bool_int K
  · exact kit_bool_bool K
  · exact kit_bool_tuple K
  · exact kit_bool_list K
  · exact kit_bool_str K
  · exact kit_bool_dict K
  · exact kit_int_int K
  · exact kit_int_bool K
  · exact kit_int_tuple K
  · exact kit_int_list K
  · exact kit_int_str K
  · exact kit_int_dict K
  · exact kit_str_int K
  · exact kit_str_bool K
  · exact kit_str_tuple K
  · exact kit_str_list K
  · exact kit_str_str K
  · exact kit_str_dict K
  · exact kit_float_int K
  · exact kit_float_bool K
  · exact kit_float_tuple K
  · exact kit_float_list K
  · exact kit_float_str K
  · exact kit_float_dict K
  · exact kit_list_int K
  · exact kit_list_bool K
  · exact kit_list_tuple K
  · exact kit_list_list K
  · exact kit_list_str K
  · exact kit_list_dict K
  · exact kit_tuple_int K
  · exact kit_tuple_bool K
  · exact kit_tuple_tuple K
  · exact kit_tuple_list K
  · exact kit_tuple_str K
  · exact kit_tuple_dict K
  · exact kit_dict_int K
  · exact kit_dict_bool K
  · exact kit_dict_tuple K
  · exact kit_dict_list K
  · exact kit_dict_str K
  · exact kit_dict_dict K
theorem isi {K : PySem.W.Frag} {H : Hp} {x : V} {n c : String} {Q : VK} (ty : TyOf K H x (.type n)) (q : Q (.bl (isaB n c)) H) (hc : c = "int" ∨ c = "bool" ∨ c = "tuple" ∨ c = "list" ∨ c = "str" ∨ c = "dict" := by decide) : rIsi K [x, .ty c] H Q :=
  ⟨x, _, _, _, _, rfl, ty, rfl, kit_ty ty.name hc, q⟩
end
noncomputable def tPar3 (i j l : Nat) (ta : TA) : TS := fun D σ H => ta σ H fun vs H1 => ∃ v w u, vs = [v, w, u] ∧ D.nx (((σ.set i (some v)).set j (some w)).set l (some u)) H1
section
variable {X : Cx} {pos : Pos}
end
section
variable {X : Cx}
end
structure Def (K : PySem.W.Frag) (mg : Str → Option Value) (x : Str) (st : Stmt) (ps : List Str) (f : Addr) (fd : FuncData) : Prop where
  fn : Fun K x x st f fd
  bd : Binds K fd ps []
  mgx : mg x = some (.ref f)
end L2
set_option Elab.async false
set_option linter.all false
set_option maxRecDepth 100000
set_option maxHeartbeats 4000000
namespace L2
open PySem PySem.Spec PyProof.Rows
noncomputable def EO (C : Value) (vs : Array Value) (sl : Array (Option Value)) : Obj := { cls := C, dict := none, data := .fields vs, slots := sl }
structure Flying (h : Heap) (e T : Addr) (C fl : Value) : Prop where
  ex : ∃ vs sl, h.get? e = some (EO C vs sl) ∧ vs[1]? = some (.ref T)
  tr : ∃ oT ts, h.get? T = some oT ∧ oT.data = .fields ts ∧ ts[3]? = some fl
  ne : T ≠ e
section
variable {M : Model} {A : Around} {E : Value → Shared → Prop} {s : Shared} {base : Heap} {env : Env} {outer : List Env} {L e : Addr} {C : Value} {vs : Array Value} {sl : Array (Option Value)} {Q : Unit → Shared → Prop}
structure Noted (fs : List Addr) (h h' : Heap) (e : Addr) (T0 : Option Addr) : Prop where
  keep : ∀ b o, b ∉ fs → b ≠ e → some b ≠ T0 → h.get? b = some o → h'.get? b = some o
  slot : ∀ b o, b ∈ fs → h.get? b = some o → ∃ sl, h'.get? b = some { o with slots := sl }
end
noncomputable def Fly (g : Heap) (H : Hp) (a : Addr) (C : Value) (h : Heap) : Prop := ∃ T, Flying h a T C .none ∧ g.get? a = none ∧ g.get? T = none ∧ H a = none ∧ H T = none
theorem HOk.there {P : Program} {w : World} {H : Hp} {h : Heap} (x : HOk P w H h) {e : Addr} {u : HO} (q : H e = some u) : ∃ o, h.get? e = some o := by
  have ok := x e u q
  cases u with
  | lst xs => obtain ⟨_, _, _, _, z⟩ := ok; exact ⟨_, z⟩
  | tup xs => obtain ⟨_, _, _, o, z, _⟩ := ok; exact ⟨_, z⟩
  | dK kvs => obtain ⟨_, _, _, _, o, _, _, z, _⟩ := ok; exact ⟨_, z⟩
  | dT kvs => obtain ⟨_, _, _, _, o, _, _, z, _⟩ := ok; exact ⟨_, z⟩
  | set S n => obtain ⟨o, _, _, _, z, _⟩ := ok; exact ⟨_, z⟩
  | ins C dx fs => obtain ⟨_, _, _, z, _⟩ := ok; exact ⟨_, z⟩
  | own x => exact ok
  | xd fs => obtain ⟨_, ⟨o, _, _, z, _⟩, _⟩ := ok; exact ⟨_, z⟩
  | rng lo hi => obtain ⟨_, _, _, z⟩ := ok; exact ⟨_, z⟩
  | frz o u => exact ⟨_, ok.1⟩
  | tbl ps => exact ⟨_, ok⟩
  | met f x => exact ⟨_, ok⟩
  | ext φ => exact ok.2.1
noncomputable def CXE (P : Program) (w : World) : CXT := fun outer H s E e s' => ∃ a C H', e = .ref a ∧ Fly s.heap H' a C s'.heap ∧ s'.os = s.os ∧ AllBare s'.gens ∧ Un (frs outer) [] H H' s.heap s'.heap ∧ HOk P w H' s'.heap ∧ E C none H'
section
variable {X : Cx} {pins : List (Addr × Obj)} {σ : St} {H : Hp} {s : Shared}
end
section
variable {P : Program} {w : World} {K : PySem.W.Frag} {mg : Str → Option Value} {base : Heap} {N : List Str} {qual : Str} {scope : Scope} {f : Addr} {cd : Value} {A : Around} {outer : List Env} {s₀ : Shared} {H₀ : Hp} {E : XK}
noncomputable def Raises (X : Cx) (E : XK) : Prop := ∀ (pins : List (Addr × Obj)) (σ : St) (H : Hp) (s : Shared) (C e : Addr) (vs : List Value) (h' : Heap), Inv X pins σ H s → Heap.MadeExcOf s.heap h' e (.ref C) vs → E (.ref C) none H → X.xe (.ref e) { s with heap := h' }
end
end L2
set_option Elab.async false
set_option linter.all false
set_option maxRecDepth 100000
set_option maxHeartbeats 4000000
namespace L2
open PySem PySem.Spec PyProof.Rows
section
variable {P : Program} {w : World} {K : PySem.W.Frag} {mg : Str → Option Value} {base : Heap}
end
section
variable {X : Cx} {st : Stmt} {t : TS}
theorem PS.nox (h : PS X.nox st t) : PS X st t := fun pins s σ H D I hw =>
  wpAny_mono (h pins s σ H D (I.wish _) hw) (fun _ _ q => SP.unwish q) fun _ _ q => q.elim
end
section
variable {X : Cx} {e : Expr} {es : List Expr} {te : TE} {pos : Pos}
noncomputable def tFmt (te : TE) : TE := fun σ H Q => te σ H fun x H1 => (∃ y, x = .str y ∧ y.length ≤ sizeLine ∧ Q (.str y) H1) ∨ (∃ i : Int, x = .int i ∧ i.natAbs < 10 ^ 100 ∧ Q (.str (toString i)) H1)
noncomputable def PJ (X : Cx) (es : List Expr) (t : Str → TE) : Prop :=
  ∀ (acc : Str) (pins : List (Addr × Obj)) (s : Shared) (σ : St) (H : Hp) (Q : VK), Inv X pins σ H s → t acc σ H Q → wpAny (model X.prog X.w) X.A (joinParts acc (evalEach es X.env)) (EP X pins σ Q) X.xe s
noncomputable def jNil : Str → TE := fun acc _ H Q => acc.length ≤ sizeLine ∧ Q (.str acc) H
noncomputable def jCons (te : TE) (t : Str → TE) : Str → TE := fun acc σ H Q => te σ H fun x H1 => ∃ y, x = .str y ∧ (acc ++ y).length ≤ sizeLine ∧ t (acc ++ y) σ H1 Q
end
noncomputable abbrev veMro : List Value := [.type "ValueError", .type "Exception", .type "BaseException", .type "object"]
noncomputable abbrev ExcC (K : PySem.W.Frag) (C : Addr) : Prop := PySem.W.excIn K C veMro "ValueError.__new__" = true
section
variable {X : Cx} {x : Str} {C : Addr} {e : Expr} {te : TE} {np cpos pos : Pos} {E : XK}
noncomputable def tRaise (C : Addr) (E : XK) (te : TE) : TS := fun _ σ H => te σ H fun _ H1 => E (.ref C) none H1
end
end L2
set_option Elab.async false
set_option linter.all false
set_option maxRecDepth 100000
set_option maxHeartbeats 4000000
namespace L2
open PySem PySem.Spec PyProof.Rows
section
variable {X : Cx} {pins : List (Addr × Obj)} {σ σ' : St} {H : Hp} {s : Shared}
theorem Inv.frame {h' : Heap} {m' : Str → Option Value} {t : Nat} (I : Inv X pins σ H s) (sb : ∀ b, b ≠ X.env.locals → h'.get? b = s.heap.get? b) (hn : h'.Ns X.env.locals m')
    (hl : ∀ (i : Nat) (x : Str) (v : V), X.N[i]? = some x → σ'[i]? = some (some v) → Vis X.env.scope x → ∃ u, RelV v u ∧ Look X.env h' m' x u) (len : σ'.length = σ.length) : Inv X pins σ' H { s with heap := h', toks := t } := by
  have neL : ∀ b o, X.s₀.heap.get? b = some o → b ≠ X.env.locals := fun b o e => Nat.ne_of_lt (Nat.lt_of_lt_of_le (Heap.lt_size e) I.ok.above)
  refine ⟨I.ok, I.os, I.bare, ⟨fun b o e n hb hx => ?_, fun b o e n hb hx => ?_, I.base.free, fun b o e hx => ?_, I.base.tups, I.base.frzs, I.base.tbls⟩, ⟨m', hn, hl⟩, fun x c e => ?_, I.free, I.freeC, fun p hp => ?_, fun a o e => ?_, len.trans I.len⟩
  · exact (sb b (neL b o e)).trans (I.base.keep b o e n hb hx)
  · obtain ⟨sl, q⟩ := I.base.slot b o e n hb hx
    exact ⟨sl, (sb b (neL b o e)).trans q⟩
  · obtain ⟨o', q⟩ := I.base.there b o e hx
    exact ⟨o', (sb b (neL b o e)).trans q⟩
  · obtain ⟨v, o, ho, hd⟩ := I.cell x c e
    exact ⟨v, o, (sb c (I.cne x c e)).trans ho, hd⟩
  · obtain ⟨e, n, ne, r⟩ := I.pin p hp
    exact ⟨(sb p.1 ne).trans e, n, ne, r⟩
  · have ne : ∀ b u, H b = some u → b ≠ X.env.locals := fun b u q z => by rw [z, I.free] at q; cases q
    refine (I.hok a o e).stay (fun b u hb q => ?_) (fun _ z => z) fun _ _ z => z
    rcases hb with z | z
    · exact (sb b (ne b o (z ▸ e))).trans q
    · exact (sb b (ne b _ z)).trans q
noncomputable abbrev Cx.marked (X : Cx) (v : Option Value) : Cx := { X with A := X.A.mark v, calm := false, xe := fun _ _ => False }
theorem Inv.mark (I : Inv X pins σ H s) (v : Option Value) : Inv (X.marked v) pins σ H s :=
  ⟨⟨I.ok.mod, I.ok.kind, I.ok.glob, I.ok.blt, I.ok.above, I.ok.inj, I.ok.has, I.ok.cab, (fun z => nomatch z), I.ok.frames, I.ok.stk, I.ok.exf, I.ok.bs, I.ok.bsz, I.ok.noex, I.ok.exfs, I.ok.funs, I.ok.frf⟩, I.os, I.bare, I.base, I.loc, I.cell, I.free, I.freeC, I.pin, I.hok, I.len⟩
noncomputable def excH (a : Addr) (C : Value) : HO := .ext fun h => ∃ vs sl, h.get? a = some (EO C vs sl)
end
section
variable {X : Cx}
noncomputable abbrev TX := St → Hp → (Value → Hp → Prop) → Prop
noncomputable def PX (X : Cx) (body : List Stmt) (tb : TX) : Prop := ∀ (pins : List (Addr × Obj)) (s : Shared) (σ : St) (H : Hp) (R : Value → Hp → Prop), Inv X pins σ H s → tb σ H R →
  wpAny (model X.prog X.w) X.A (execs body X.env) (fun _ _ => False) (fun e s' => ∃ a C H', e = .ref a ∧ Inv X pins σ H' s' ∧ Fly s.heap H' a C s'.heap ∧ R C H') s
noncomputable def tTryX (K : PySem.W.Frag) (CP : Addr) (ie : Nat) (tb : TX) (ts : TS) : TS := fun D σ H => tb σ H fun C H' => PySem.W.exmOne K C (.ref CP) = some true ∧
  ∀ a, H' a = none → ts { nx := fun σ2 H2 => D.nx (σ2.set ie none) H2, rt := fun _ _ => False } (σ.set ie (some (.ref a))) (upd H' a (excH a C))
end
end L2
set_option Elab.async false
set_option linter.all false
set_option maxRecDepth 100000
set_option maxHeartbeats 4000000
namespace L2
open PySem PySem.Spec PyProof.Rows
noncomputable def hidS (h : Heap) (H : Hp) (fs : List Addr) : Heap := PySem.W.hideAll h (trk h H ++ fs)
theorem hidS_get {h : Heap} {H : Hp} {fs : List Addr} {b : Addr} {o : Obj} (e : h.get? b = some o) (n : H b = none) (hf : b ∉ fs) : (hidS h H fs).get? b = some o :=
  PySem.W.hideAll_get _ e fun hm => by
    rcases List.mem_append.mp hm with hm | hm
    · have q : (H b).isSome = true := (List.mem_filter.mp hm).2
      rw [n] at q; simp at q
    · exact hf hm
theorem of_hidS {h : Heap} {H : Hp} {fs : List Addr} {b : Addr} {o : Obj} (e : (hidS h H fs).get? b = some o) : h.get? b = some o ∧ H b = none := by
  have e' : h.get? b = some o := PySem.W.of_hideAll _ e
  refine ⟨e', ?_⟩
  cases q : H b with
  | none => rfl
  | some x =>
    have hm : b ∈ trk h H ++ fs := List.mem_append_left _ (List.mem_filter.mpr ⟨List.mem_range.mpr (Heap.lt_size e'), by simp [q]⟩)
    have z : (hidS h H fs).get? b = none := PySem.W.hideAll_none _ hm
    rw [z] at e; cases e
theorem Mod.keeps {K : PySem.W.Frag} {mg : Str → Option Value} {b b' : Heap} (m : Mod K mg b) (k : ∀ a o, b.get? a = some o → b'.get? a = some o) : Mod K mg b' :=
  ⟨m.kin.keeps k, m.glob.keeps k, let ⟨mb, h1, h2⟩ := m.blt; ⟨mb, h1.keeps k, h2⟩, m.nolimit.keeps k⟩
noncomputable def CellsIn (X : Cx) (σ : St) (b : Heap) : Prop := ∀ (i : Nat) (x : Str) (v : V) (c : Addr), X.N[i]? = some x → σ[i]? = some (some v) → X.env.scope.names.lookup x = some .cell → X.env.cells.lookup x = some c → ∃ u, RelV v u ∧ b.IsCell c (some u)
section
variable {X : Cx} {pins : List (Addr × Obj)} {σ : St} {H : Hp} {s : Shared}
theorem Inv.cellsIn (I : Inv X pins σ H s) (hfn : ∀ x, X.fn x = true) : CellsIn X σ (hidS s.heap H (frs X.stack)) := fun i x v c e1 e2 e3 e4 => by
  obtain ⟨m, hn, hl⟩ := I.loc
  obtain ⟨u, r, l⟩ := hl i x v e1 e2 (.inr (.inl e3))
  rcases l with ⟨l, _⟩ | ⟨_, c', e5, o, ho, hd⟩
  · rw [show X.env.kindOf x = X.env.scope.names.lookup x from rfl, e3] at l; cases l
  · rw [e4] at e5
    cases e5
    refine ⟨u, r, o, hidS_get ho (I.freeC x c e4) fun hm => ?_, hd⟩
    rcases List.mem_cons.mp (I.stkSub c hm) with z | z
    · exact I.cne x c e4 z
    · obtain ⟨_, o', ho', _⟩ := I.ok.funs.mem z
      exact absurd (Heap.lt_size ho') (Nat.not_lt.mpr (I.ok.cab x c (hfn x) e4))
end
section
variable {X : Cx} {CX : CXT} {k : Nat} {f C : Addr} {fd : FuncData} {ps : List Str} {dvs : List V} {ds : List Value} {E : XK} {x m : Str} {p pos apos : Pos} {e o : Expr} {es : List Expr} {ta : TE} {t : TA}
noncomputable def tCallW (X : Cx) (sp : Heap → Sp) (dvs : List V) (E : XK) (t : TA) : TE := fun σ H Q => t σ H fun vs H1 => ∀ b, CellsIn X σ b → sp b (vs ++ dvs) H1 Q E
end
noncomputable def LamO (a : Addr) (fd : FuncData) : HO := .ext fun h => h.get? a = some { cls := .type "function", data := .func fd }
noncomputable def CodO (c : Addr) (qual : Str) : HO := .ext fun h => h.CodeRec (.ref c) qual
noncomputable def cxLam (P : Program) (w : World) (K : PySem.W.Frag) (mg : Str → Option Value) (base : Heap) (N : List Str) (qual : Str) (scope : Scope) (f : Addr) (cd : Value) (cl : List (Str × Addr)) (A : Around) (outer : List Env) (s : Shared) (H : Hp) (E : XK) : Cx where
  prog := P
  w := w
  K := K
  mg := mg
  base := base
  A := A.deeper (PySem.W.envX qual scope s.heap.objs.size f cd cl)
  N := N
  s₀ := s
  H₀ := H
  env := PySem.W.envX qual scope s.heap.objs.size f cd cl
  outer := outer
  stack := PySem.W.envX qual scope s.heap.objs.size f cd cl :: outer
  ex := []
  calm := true
  fn := fun _ => false
  pn := []
  xe := fun e s' => wpAny (model P w) (A.deeper (PySem.W.envX qual scope s.heap.objs.size f cd cl)) (leaving (PySem.W.envX qual scope s.heap.objs.size f cd cl) e) (fun _ s'' => CXE P w outer H s E e s'') (fun e' s'' => CXE P w outer H s E e' s'') s'
structure LamScope (N : List Str) (sc : Scope) (cl : List (Str × Addr)) : Prop where
  kind : sc.kind = .function
  co : sc.isCoroutine = false
  gen : sc.isGenerator = false
  nocell : ∀ y ∈ sc.names, y.2 ≠ .cell
  nm : ∀ x ∈ N, sc.names.lookup x = some .free
  has : ∀ x, sc.names.lookup x = some .free → ∃ c, cl.lookup x = some c
  inj : ∀ x y c, cl.lookup x = some c → cl.lookup y = some c → x = y
section
variable {P : Program} {w : World} {K : PySem.W.Frag} {mg : Str → Option Value} {base : Heap} {N : List Str} {name qual : Str} {params : Arguments} {body : Expr} {scope : Scope} {f c' : Addr} {pm ctv : Value} {cl : List (Str × Addr)} {k : Nat}
end
end L2
set_option Elab.async false
set_option linter.all false
set_option maxRecDepth 100000
set_option maxHeartbeats 4000000
namespace L2
open PySem PySem.Spec PyProof.Rows
section
variable {prog : Program} {w : World} {A : Around} {s : Shared}
noncomputable def ifsT (prog : Program) (w : World) (A : Around) (env : Env) : List Expr → Shared → (Bool → Shared → Prop) → Prop
  | [], s, Q => Q true s
  | [c], s, Q => wpAny (model prog w) A (PySem.isTrue c env (eval c env)) Q (fun _ _ => False) s
  | _, _, _ => False
theorem wpAny_ifs {env : Env} : ∀ {ifs : List Expr} {s : Shared} {Q : Bool → Shared → Prop}, ifsT prog w A env ifs s Q →
    wpAny (model prog w) A (forIn ifs true fun c r => if r = true then do let ok ← PySem.isTrue c env (eval c env); pure (ForInStep.yield ok) else pure (ForInStep.yield r)) Q (fun _ _ => False) s
  | [], s, Q, h => wpAny_tests_nil h
  | [c], s, Q, h => by
    simp only [List.forIn_cons, List.forIn_nil, if_true]
    refine wpAny_bind (wpAny_bind (wpAny_mono h (fun b s1 q => wpAny_pure (wpAny_pure q)) fun _ _ z => z))
  | _ :: _ :: _, _, _, h => h.elim
theorem compLoop_ifs {elt tg iter : Expr} {ifs : List Expr} {scope : Scope} {pos : Pos} {it acc : Value} {env : Env} {R : Result → Shared → Prop} (I : Nat → Shared → Prop)
    (turn : ∀ n s, I n s → wpAny (model prog w) A (pyNext it) (fun r s₁ => match r with
      | none => R (.ok .next) s₁
      | some v => wpAny (model prog w) A (letOwnedTupleGo tg it v) (fun _ s₁' => wpAny (model prog w) A (assign tg env v) (fun _ s₂ => ifsT prog w A env ifs s₂ fun ok s₃ =>
          if ok = true then wpAny (model prog w) A (eval elt env) (fun x s₄ =>
              wpAny (model prog w) A (call (.builtin "list.append") [acc, x]) (fun _ s₅ => ∃ m, m < n ∧ I m s₅) (fun _ _ => False) s₄) (fun _ _ => False) s₃ else ∃ m, m < n ∧ I m s₃) (fun _ _ => False) s₁') (fun _ _ => False) s₁) (fun _ _ => False) s)
    (n : Nat) (h : I n s) : codeAny (model prog w) A (.compLoop (.ListComp elt [⟨tg, iter, ifs, 0⟩] scope pos) 0 it acc env) R s := by
  refine codeAny_loop rfl I (fun n s hI => ?_) n h
  show wpAny _ A ((compTurn (.ListComp elt [⟨tg, iter, ifs, 0⟩] scope pos) 0 it acc env).onRaise (fun x => do noteFrame x env; theTreesLotGoes x)) _ _ s
  refine wpAny_noted ?_
  rw [compTurn_list]
  refine wpAny_bind (wpAny_standAt (wpAny_bind (wpAny_mono (turn n s hI) (fun r s₁ h₁ => ?_) fun _ _ h' => h'.elim)))
  cases r with
  | none => exact wpAny_pure h₁
  | some v =>
    refine wpAny_bind (wpAny_mono h₁ (fun _ s₁' h₁' => ?_) fun _ _ h' => h'.elim)
    refine wpAny_bind (wpAny_mono h₁' (fun _ s₂ h₂ => wpAny_bind (wpAny_mono (wpAny_ifs h₂) (fun ok s₃ h₃ => ?_) fun _ _ h' => h'.elim)) fun _ _ h' => h'.elim)
    cases ok with
    | true => exact wpAny_bind (wpAny_bind (wpAny_mono h₃ (fun x s₄ h₄ => wpAny_bind (wpAny_mono h₄ (fun _ s₅ h₅ => wpAny_pure (wpAny_pure ⟨rfl, h₅⟩)) fun _ _ h' => h'.elim)) fun _ _ h' => h'.elim))
    | false => exact wpAny_pure ⟨rfl, h₃⟩
end
noncomputable def cxCompC (X : Cx) (b : Heap) (N : List Str) (scope : Scope) (cl : List (Str × Addr)) (C : Addr) (fp : List Addr) (s : Shared) (H : Hp) : Cx where
  prog := X.prog
  w := X.w
  K := X.K
  mg := X.mg
  base := b
  A := X.A
  N := N
  s₀ := s
  H₀ := H
  env := compEnvC scope cl C X.env
  outer := X.stack
  stack := X.stack
  ex := fp
  calm := true
  fn := fun _ => false
  pn := []
  xe := fun _ _ => False
noncomputable def outOf (σ : St) (js : List (Option Nat)) : St := js.map fun o => match o with | none => none | some j => (σ[j]?).getD none
structure CompScopeC (X : Cx) (sc : Scope) (N : List Str) (cl : List (Str × Addr)) (js : List (Option Nat)) : Prop where
  kind : sc.kind = .function
  nocell : ∀ y ∈ sc.names, y.2 ≠ .cell
  nm : ∀ y ∈ sc.names, y.2 = .local → sc.names.lookup y.1 = some .local
  has : ∀ y ∈ sc.names, y.2 = .free → ∃ c, cl.lookup y.1 = some c
  sub : ∀ y ∈ cl, X.env.cells.lookup y.1 = some y.2
  len : js.length = N.length
  js : ∀ p ∈ N.zip js, ∀ j, p.2 = some j → X.N[j]? = some p.1 ∧ X.env.scope.names.lookup p.1 = some .cell ∧ ((relabel sc X.env).names.lookup p.1 = some .cell ∨ (relabel sc X.env).names.lookup p.1 = some .free) ∧ ∃ c, cl.lookup p.1 = some c
section
variable {X : Cx} {pins : List (Addr × Obj)} {σ : St} {H : Hp} {s : Shared}
theorem inv_compC {N : List Str} {scope : Scope} {cl : List (Str × Addr)} {js : List (Option Nat)} {fp : List Addr} {h1 : Heap} {tk : Nat} (S : CompScopeC X scope N cl js) (hc : X.calm = true) (hfn : ∀ x, X.fn x = true) (I : Inv X pins σ H s) (hfp : ∀ b ∈ fp, FpOk X pins H b) (hfo : ∀ b ∈ fp, ∃ o, s.heap.get? b = some o)
    (hns : h1.Ns s.heap.objs.size (fun _ => none)) (hk : ∀ b o, s.heap.get? b = some o → h1.get? b = some o) :
    Inv (cxCompC X (hidS s.heap H (frs X.stack ++ fp)) N scope cl s.heap.objs.size fp s H) [] (outOf σ js) H { s with heap := h1, toks := tk } := by
  have sub : ∀ x c, cl.lookup x = some c → X.env.cells.lookup x = some c := fun x c q => S.sub (x, c) (PySem.mem_of_lookup q)
  have rel : ∀ y k, (relabel scope X.env).names.lookup y = some k → (k = .cell ∨ k = .free) → ∃ c, cl.lookup y = some c := fun y k q hk => by
    have m := PySem.mem_of_lookup q
    obtain ⟨⟨n, k'⟩, hm, e⟩ := List.mem_map.mp (show (y, k) ∈ scope.names.map _ from m)
    have := S.nocell _ hm
    dsimp only at e this
    split at e
    · rename_i z
      simp only [Bool.and_eq_true, beq_iff_eq] at z
      cases e
      exact S.has _ hm z.1.1
    · cases e
      rcases hk with hk | hk
      · exact absurd hk this
      · exact S.has _ hm hk
  have e0 := I.env0
  have nfp : ∀ b o, X.base.get? b = some o → b ∉ fp := fun b o q hm => by
    rcases (hfp b hm).2.2.2.1 with z | z
    · exact I.ok.noex b o q z
    · exact absurd (Heap.lt_size (I.ok.bs b o q).1) (Nat.not_lt.mpr z)
  have nst : ∀ b ∈ fp, b ∉ frs X.stack := fun b hb hm => by
    rcases List.mem_cons.mp (I.stkSub b hm) with z | z
    · exact (hfp b hb).2.1 z
    · exact (hfp b hb).2.2.1 z
  have cells : ∀ y c, cl.lookup y = some c → (∃ v, h1.IsCell c v) ∧ H c = none := fun y c q => by
    obtain ⟨v, o, ho, hd⟩ := I.cell y c (sub y c q)
    exact ⟨⟨v, o, hk _ _ ho, hd⟩, I.freeC y c (sub y c q)⟩
  refine ⟨⟨e0.mod.keeps fun b o q => hidS_get (e0.bs b o q).1 (e0.bs b o q).2 fun hm => ?_, S.kind, I.ok.glob, I.ok.blt, Nat.le_refl _, fun y z c q r => I.ok.inj y z c (sub y c q) (sub z c r), fun y hy => ?_, fun y c z => (nomatch z), fun _ => I.ok.hd hc, I.ok.frames, .inl rfl, fun b hb => ⟨?_, fun y c q => ?_⟩, fun b o q => of_hidS q, Nat.le_of_eq (PySem.W.hideAll_size _ _), fun b o q hb => ?_, nst, ?_, I.stkFree⟩,
    rfl, I.bare, Un.kept hk, ⟨_, hns, fun i y v e1 e2 e3 => ?_⟩, fun y c q => (cells y c q).1, I.hok.fresh (Nat.le_refl _), fun y c q => (cells y c q).2, fun p hp => absurd (show p ∈ ([] : List (Addr × Obj)) from hp) (by simp), I.hok.kept hk, ?_⟩
  · rcases List.mem_append.mp hm with hm | hm
    · have z := (e0.funs.mem hm).1
      rw [q] at z; cases z
    · exact nfp b o q hm
  · have hy : (relabel scope X.env).names.lookup y = some .cell ∨ (relabel scope X.env).names.lookup y = some .free := hy
    rcases hy with hy | hy
    · exact rel y _ hy (.inl rfl)
    · exact rel y _ hy (.inr rfl)
  · obtain ⟨o, q⟩ := hfo b hb
    exact Nat.ne_of_lt (Heap.lt_size q)
  · exact (hfp b hb).2.2.2.2.1 y c (sub y c q)
  · have z : (hidS s.heap H (frs X.stack ++ fp)).get? b = none := PySem.W.hideAll_none _ (List.mem_append_right _ (List.mem_append_right _ hb))
    rw [show (cxCompC X (hidS s.heap H (frs X.stack ++ fp)) N scope cl s.heap.objs.size fp s H).base.get? b = none from z] at q; cases q
  · exact PySem.W.funFrames_hide e0.funs fun env he a ha => List.mem_append_right _ (List.mem_append_left _ (List.mem_filterMap.mpr ⟨env, he, ha⟩))
  · have e1 : N[i]? = some y := e1
    obtain ⟨j, hj, hv⟩ : ∃ j, js[i]? = some (some j) ∧ σ[j]? = some (some v) := by
      unfold outOf at e2
      rw [List.getElem?_map] at e2
      cases q : js[i]? with
      | none => rw [q] at e2; cases e2
      | some o =>
        rw [q] at e2
        cases o with
        | none => simp at e2
        | some j =>
          refine ⟨j, rfl, ?_⟩
          have e2 : some ((σ[j]?).getD none) = some (some v) := e2
          cases w : σ[j]? with
          | none => rw [w] at e2; cases e2
          | some u => rw [w] at e2; cases e2; rfl
    have hz : (y, some j) ∈ N.zip js := List.mem_of_getElem? (i := i) (by rw [List.getElem?_zip_eq_some]; exact ⟨e1, hj⟩)
    obtain ⟨f1, f2, f3, c, f4⟩ := S.js _ hz j rfl
    obtain ⟨m, hn, hl⟩ := I.loc
    obtain ⟨u, r, l⟩ := hl j y v f1 hv (.inr (.inl f2))
    rcases l with ⟨l, _⟩ | ⟨_, c', e5, o, ho, hd⟩
    · rw [show X.env.kindOf y = X.env.scope.names.lookup y from rfl, f2] at l; cases l
    · have : c' = c := by
        have := sub y c f4
        rw [e5] at this; cases this; rfl
      subst this
      exact ⟨u, r, .inr ⟨f3, c', f4, o, hk _ _ ho, hd⟩⟩
  · show (js.map _).length = N.length
    rw [List.length_map, S.len]
end
section
variable {X : Cx} {tg iter elt : Expr} {ifs : List Expr} {scope : Scope} {pos : Pos} {wi : TI} {N : List Str} {cl : List (Str × Addr)} {js : List (Option Nat)} {g : TG} {tt : Heap → TT} {te : Heap → TE}
noncomputable def PIfs (X : Cx) : List Expr → TT → Prop
  | [], t => ∀ σ H Q, t σ H Q → Q true H
  | [c], t => PT X c t
  | _, _ => False
noncomputable def tYes : TT := fun _ H Q => Q true H
theorem pifs_nil {X : Cx} : PIfs X [] tYes := fun _ _ _ h => h
noncomputable def tCompC (X : Cx) (js : List (Option Nat)) (wi : TI) (g : TG) (tt : Heap → TT) (te : Heap → TE) : TE := fun σ H Q => wi σ H fun J H1 => ∀ b D, CellsIn X σ b → H1 D = none → ∃ W : Nat → Nat → St → Hp → Prop, (∃ m, W 0 m (outOf σ js) (upd H1 D (.lst []))) ∧
  ∀ i m σ' H', W i m σ' H' → (J.stop i H' ∧ Q (.ref D) H') ∨ (J.go i H' ∧ ∃ Nx : St → Hp → Prop, (∀ σ'' H'', Nx σ'' H'' → ∃ m', m' < m ∧ W (i + 1) m' σ'' H'') ∧ ∀ x H2, J.yld i H' x H2 → g x σ' H2 fun σ3 H3 => tt b σ3 H3 fun ok H3' => if ok = true then te b σ3 H3' fun y H4 => ∃ ys, H4 D = some (.lst ys) ∧ ys.length < sizeLine ∧ Nx σ3 (upd H4 D (.lst (ys ++ [y]))) else Nx σ3 H3')
theorem pe_compC (S : CompScopeC X scope N cl js) (hc : X.calm = true) (hfn : ∀ x, X.fn x = true) (hi : PI X tg iter wi) (hclos : closureFor scope X.env = pure cl) (hg : ∀ b C fp s H, PG (cxCompC X b N scope cl C fp s H) tg g) (hif : ∀ b C fp s H, PIfs (cxCompC X b N scope cl C fp s H) ifs (tt b)) (he : ∀ b C fp s H, PE (cxCompC X b N scope cl C fp s H) elt (te b))
    (hs : ∀ x, foldedSetIterable iter X.env x = pure x := by intro _; rfl) : PE X (.ListComp elt [⟨tg, iter, ifs, 0⟩] scope pos) (tCompC X js wi g tt te) := by
  intro pins s σ H Q I h
  rw [eval_ListComp]
  refine wpAny_comprehension_free (use := none) rfl hs hclos S.kind S.nm (thn (hi pins s σ H _ I h) fun v s1 h1 => thn h1 fun itv s2 h2 => ?_)
  obtain ⟨it, fp, tn, J, H2, e, I2, T, st2, f2, R⟩ := h2
  subst e
  have hD : H2 s2.heap.objs.size = none := I2.fresh
  have old : ∀ b o, s2.heap.get? b = some o → (s2.heap.push { cls := .type "list", data := .seq ([] : List Value).toArray }).get? b = some o := fun b o q => Heap.get?_push_of_some _ q
  have I3 : Inv X pins σ (upd H2 s2.heap.objs.size (.lst [])) { s2 with heap := s2.heap.push { cls := .type "list", data := .seq ([] : List Value).toArray } } := I2.lnew (t' := s2.toks) (ys := []) (its := []) .nil (Nat.zero_le _)
  have fo : ∀ b ∈ fp, ∃ o, (s2.heap.push { cls := .type "list", data := .seq ([] : List Value).toArray }).get? b = some o := fun b hb => by
    obtain ⟨o, q, _⟩ := T.obj _ _ st2 b hb
    exact ⟨o, old b o q⟩
  have fne : ∀ b ∈ fp, b ≠ s2.heap.objs.size := fun b hb => by
    obtain ⟨o, q, _⟩ := T.obj _ _ st2 b hb
    exact Nat.ne_of_lt (Heap.lt_size q)
  have f3 : ∀ b ∈ fp, FpOk X pins (upd H2 s2.heap.objs.size (.lst [])) b := fun b hb => ⟨by rw [upd_ne (fne b hb)]; exact (f2 b hb).1, (f2 b hb).2⟩
  have st3 : tn 0 (s2.heap.push { cls := .type "list", data := .seq ([] : List Value).toArray }) := T.keep _ _ _ st2 fun b _ o q => old b o q
  refine wpAny_newObj_type (wpAny_newFunctionEnv S.nocell (fun y hy => by simp at hy) (fun h₁ hns hsb => ?_) S.kind)
  obtain ⟨s3, hs3⟩ : ∃ s3 : Shared, s3 = { s2 with heap := s2.heap.push { cls := .type "list", data := .seq ([] : List Value).toArray } } := ⟨_, rfl⟩
  obtain ⟨H3, hH3⟩ : ∃ H3, H3 = upd H2 s2.heap.objs.size (.lst []) := ⟨_, rfl⟩
  rw [← hs3, ← hH3] at I3
  rw [← hH3] at f3
  have hh3 : s3.heap = s2.heap.push { cls := .type "list", data := .seq ([] : List Value).toArray } := by rw [hs3]
  have hk₁ : ∀ b o, s3.heap.get? b = some o → h₁.get? b = some o := fun b o q => by
    rw [hh3] at q
    exact hsb.extBut b o (Nat.ne_of_lt (Heap.lt_size q)) (Heap.get?_push_of_some _ q)
  have hns' : h₁.Ns s3.heap.objs.size (fun _ => none) := by rw [hh3]; exact hns
  obtain ⟨W, ⟨m0, w0⟩, turn⟩ := R (hidS s3.heap H3 (frs X.stack ++ fp)) s2.heap.objs.size (fun i x v c e1 e2 e3 e4 => by
    obtain ⟨u, r, o, q, d⟩ := I3.cellsIn hfn i x v c e1 e2 e3 e4
    obtain ⟨q1, q2⟩ := of_hidS q
    refine ⟨u, r, o, hidS_get q1 q2 fun hm => ?_, d⟩
    rcases List.mem_append.mp hm with hm | hm
    · have z : (hidS s3.heap H3 (frs X.stack)).get? c = none := PySem.W.hideAll_none _ (List.mem_append_right _ hm)
      rw [z] at q; cases q
    · exact (f3 c hm).2.2.2.2.1 x c e4 rfl) hD
  rw [← hH3] at w0
  have J0 := inv_compC (js := js) (N := N) (scope := scope) (h1 := h₁) (tk := s2.toks + ([] : List (Str × Value)).length) S hc hfn I3 f3 (fun b hb => by rw [hh3]; exact fo b hb) hns' hk₁
  have st4 : tn 0 h₁ := T.keep _ _ _ st3 fun b hb o q => hk₁ b o (by rw [hh3]; exact q)
  have loop : ∀ s4 : Shared, s4 = { s3 with heap := h₁, toks := s2.toks + ([] : List (Str × Value)).length } →
      codeAny (model X.prog X.w) X.A (.compLoop (.ListComp elt [⟨tg, iter, ifs, 0⟩] scope pos) 0 (.ref it) (.ref s2.heap.objs.size) (compEnvC scope cl s3.heap.objs.size X.env))
        (compPost (model X.prog X.w) X.A X.xe none (EP X pins σ Q) (.ref s2.heap.objs.size) s3.heap.objs.size) s4 := by
    rintro s4 rfl
    have stat : ∀ {H' : Hp}, (∀ b ∈ fp, H' b = none) → ∀ b ∈ fp, FpOk (cxCompC X (hidS s3.heap H3 (frs X.stack ++ fp)) N scope cl s3.heap.objs.size fp s3 H3) [] H' b := fun hn b hb =>
      ⟨hn b hb, by
        obtain ⟨o, q⟩ := fo b hb
        exact Nat.ne_of_lt (Heap.lt_size (by rw [hh3]; exact q)), J0.ok.exfs b hb, .inl hb, fun y c q => (J0.ok.exf b hb).2 y c q, fun p hp => absurd (show p ∈ ([] : List (Addr × Obj)) from hp) (by simp)⟩
    refine compLoop_ifs (fun n s' => ∃ i σ' H', Inv (cxCompC X (hidS s3.heap H3 (frs X.stack ++ fp)) N scope cl s3.heap.objs.size fp s3 H3) [] σ' H' s' ∧ tn i s'.heap ∧ (∀ b ∈ fp, H' b = none) ∧ W i n σ' H') ?_ m0 ⟨0, _, H3, J0, st4, fun b hb => (f3 b hb).1, w0⟩
    rintro n s5 ⟨i, σ5, H5, I5, st5, fr5, w5⟩
    rcases turn i n σ5 H5 w5 with ⟨stop, qn⟩ | ⟨go, Nx, hN, step⟩
    · refine wpAny_mono (T.done (cxCompC X (hidS s3.heap H3 (frs X.stack ++ fp)) N scope cl s3.heap.objs.size fp s3 H3) rfl rfl rfl rfl i [] s5 σ5 H5 (fun _ _ => False) I5 (stat fr5) st5 stop) (fun r s6 ⟨hr, I6⟩ => ?_) fun _ _ z => z
      subst hr
      obtain ⟨m6, n6, _⟩ := id I6.loc
      refine ⟨m6, n6, fun h' hs' => ⟨.ref s2.heap.objs.size, H5, ?_, rfl, qn⟩⟩
      have neC : ∀ b o, s3.heap.get? b = some o → b ≠ s3.heap.objs.size := fun b o q => Nat.ne_of_lt (Heap.lt_size q)
      have B := I6.base
      have kp : ∀ b o, b ≠ s3.heap.objs.size → s6.heap.get? b = some o → h'.get? b = some o := fun b o nb q => hs'.extBut b o nb q
      refine I3.call' (s' := { s6 with heap := h' }) (ch := fp) I6.os ⟨fun b o q n hb hx => kp b o (neC b o q) (B.keep b o q n hb hx), fun b o q n hb hx => ?_, B.free, fun b o q hx => ?_, B.tups, B.frzs, B.tbls⟩ (fun a o q => ?_) I6.bare fun b hb => ⟨(f3 b hb).2.2.2.1, (f3 b hb).2.1, (f3 b hb).2.2.2.2.1, (f3 b hb).2.2.2.2.2⟩
      · obtain ⟨sl, z⟩ := B.slot b o q n hb hx
        exact ⟨sl, kp b _ (neC b o q) z⟩
      · obtain ⟨o', z⟩ := B.there b o q hx
        exact ⟨o', kp b _ (neC b o q) z⟩
      · have ne : ∀ b u, H5 b = some u → b ≠ s3.heap.objs.size := fun b u q z => by
          have fr : H5 s3.heap.objs.size = none := I6.free
          rw [z, fr] at q; cases q
        refine (I6.hok a o q).stay (fun b u hb q' => kp b u ?_ q') (fun _ z => z) fun _ _ z => z
        rcases hb with z | z
        · exact ne b o (z ▸ q)
        · exact ne b _ z
    · refine wpAny_mono (T.item (cxCompC X (hidS s3.heap H3 (frs X.stack ++ fp)) N scope cl s3.heap.objs.size fp s3 H3) rfl rfl rfl rfl i [] s5 σ5 H5 (fun _ _ => False) I5 (stat fr5) st5 go) (fun r s6 ⟨u, hr, h6⟩ => ?_) fun _ _ z => z
      subst hr
      refine wpAny_mono h6 (fun _ s7 ⟨x, H7, I7, r7, y7, st7, fr7⟩ => ?_) fun _ _ z => z
      have I7' := I7.pinned (stat fr7) (T.obj _ _ st7)
      refine wpAny_mono (hg _ _ _ _ _ _ s7 σ5 H7 x u _ I7' r7 (step x H7 y7)) (fun _ s8 ⟨σ8, H8, I8, q8⟩ => ?_) fun _ _ z => z
      have fin : ∀ (s8 : Shared) (H8 : Hp), Inv _ _ σ8 H8 s8 → (∃ m', m' < n ∧ W (i + 1) m' σ8 H8) → ∃ m, m < n ∧ (∃ i σ' H', Inv (cxCompC X (hidS s3.heap H3 (frs X.stack ++ fp)) N scope cl s3.heap.objs.size fp s3 H3) [] σ' H' s8 ∧ tn i s8.heap ∧ (∀ b ∈ fp, H' b = none) ∧ W i m σ' H') := fun s8 H8 I10 ⟨m', hm, w9⟩ => by
        refine ⟨m', hm, i + 1, σ8, _, I10.unpinned, T.keep _ _ _ st7 fun b hb o q => (I10.pin (b, o) (List.mem_append_right _ (List.mem_append_right _ (mem_pinsAt hb q)))).1, fun b hb => ?_, w9⟩
        obtain ⟨o, q, d⟩ := T.obj _ _ st7 b hb
        exact (I10.pin (b, o) (List.mem_append_right _ (List.mem_append_right _ (mem_pinsAt hb q)))).2.1
      have rest : ∀ (ok : Bool) (s8 : Shared) (H8 : Hp), Inv _ _ σ8 H8 s8 → (if ok = true then te (hidS s3.heap H3 (frs X.stack ++ fp)) σ8 H8 fun y H4 => ∃ ys, H4 s2.heap.objs.size = some (.lst ys) ∧ ys.length < sizeLine ∧ Nx σ8 (upd H4 s2.heap.objs.size (.lst (ys ++ [y]))) else Nx σ8 H8) →
          (if ok = true then wpAny (model X.prog X.w) X.A (eval elt (compEnvC scope cl s3.heap.objs.size X.env)) (fun x s₄ =>
              wpAny (model X.prog X.w) X.A (call (.builtin "list.append") [.ref s2.heap.objs.size, x]) (fun _ s₅ => ∃ m, m < n ∧ (∃ i σ' H', Inv (cxCompC X (hidS s3.heap H3 (frs X.stack ++ fp)) N scope cl s3.heap.objs.size fp s3 H3) [] σ' H' s₅ ∧ tn i s₅.heap ∧ (∀ b ∈ fp, H' b = none) ∧ W i m σ' H')) (fun _ _ => False) s₄) (fun _ _ => False) s8
            else ∃ m, m < n ∧ (∃ i σ' H', Inv (cxCompC X (hidS s3.heap H3 (frs X.stack ++ fp)) N scope cl s3.heap.objs.size fp s3 H3) [] σ' H' s8 ∧ tn i s8.heap ∧ (∀ b ∈ fp, H' b = none) ∧ W i m σ' H')) := fun ok s8 H8 I8 q8 => by
        cases ok with
        | false => exact fin s8 H8 I8 (hN _ _ q8)
        | true =>
          refine wpAny_mono (he _ _ _ _ _ _ s8 σ8 H8 _ I8 q8) (fun y s9 ⟨vy, H9, I9, ry, ys, hD9, hz, w9⟩ => ?_) fun _ _ z => z
          obtain ⟨z, its, nn, rr, hl, eo⟩ := I9.lstM hD9
          refine append_at (hsz := by rw [List.size_toArray]; omega) eo fun h10 hs10 hD10 => ?_
          have I10 : Inv _ _ σ8 (upd H9 s2.heap.objs.size (.lst (ys ++ [vy]))) { s9 with heap := h10, toks := s9.toks } := I9.write (x := s2.heap.objs.size) (e := s2.heap.objs.size) (o := .lst (ys ++ [vy])) (by rw [hD9]; exact trivial) (.inl rfl) (fun b o hb q => hs10.extBut b o hb q) ⟨_, hD10⟩
            ⟨by rw [List.length_append, List.length_singleton]; omega, its ++ [y], nn + 1, rr.append (.cons ry .nil), by rw [hD10, List.push_toArray]⟩
          exact fin _ _ I10 (hN _ _ w9)
      have hI := hif (hidS s3.heap H3 (frs X.stack ++ fp)) s3.heap.objs.size fp s3 H3
      match ifs, hI with
      | [], hI => exact rest true s8 H8 I8 (hI _ _ _ q8)
      | [c], hI => exact wpAny_mono (hI _ s8 σ8 H8 _ I8 q8) (fun ok s9 ⟨H9, I9, q9⟩ => rest ok s9 H9 I9 q9) fun _ _ z => z
      | _ :: _ :: _, hI => exact hI.elim
  have e4 : ({ ({ s2 with heap := s2.heap.push { cls := .type "list", data := .seq ([] : List Value).toArray } } : Shared) with heap := h₁, toks := s2.toks + ([] : List (Str × Value)).length } : Shared) = { s3 with heap := h₁, toks := s2.toks + ([] : List (Str × Value)).length } := by rw [hs3]
  have lp := loop _ e4
  have eC : s3.heap.objs.size = (s2.heap.push { cls := .type "list", data := .seq ([] : List Value).toArray }).objs.size := by rw [hh3]
  rw [eC] at lp
  exact codeAny_compStart_list lp (T.self _ 0 _ _ _ st4 lp)
end
section
variable {K : PySem.W.Frag} {a : Addr} {xs : List V} {g : TG} {tt : TT} {te : TE} {Q : VK} {D : Addr} {σ : St} {H : Hp} {J : It}
noncomputable abbrev CT (g : TG) (tt : TT) (te : TE) (D : Addr) (Nx : St → Hp → Prop) (x : V) (σ : St) (H : Hp) : Prop :=
  g x σ H fun σ3 H3 => tt σ3 H3 fun ok H3' => if ok = true then te σ3 H3' fun y H4 => ∃ ys, H4 D = some (.lst ys) ∧ ys.length < sizeLine ∧ Nx σ3 (upd H4 D (.lst (ys ++ [y]))) else Nx σ3 H3'
noncomputable abbrev CW (J : It) (g : TG) (tt : TT) (te : TE) (D : Addr) (Q : VK) (σ : St) (H : Hp) : Prop := ∃ W : Nat → Nat → St → Hp → Prop, (∃ m, W 0 m σ H) ∧
  ∀ i m σ' H', W i m σ' H' → (J.stop i H' ∧ Q (.ref D) H') ∨ (J.go i H' ∧ ∃ Nx : St → Hp → Prop, (∀ σ'' H'', Nx σ'' H'' → ∃ m', m' < m ∧ W (i + 1) m' σ'' H'') ∧ ∀ x H2, J.yld i H' x H2 → CT g tt te D Nx x σ' H2)
theorem comp_tup (Pv : Nat → St → Hp → Prop) (h0 : Pv 0 σ H) (hl : ∀ i σ H, i ≤ xs.length → Pv i σ H → SqT K H a xs)
    (hs : ∀ i x σ H, xs[i]? = some x → Pv i σ H → CT g tt te D (Pv (i + 1)) x σ H) (hd : ∀ σ H, Pv xs.length σ H → Q (.ref D) H) : CW (Itt K a) g tt te D Q σ H := by
  refine ⟨fun i m σ H => m = xs.length - i ∧ i ≤ xs.length ∧ Pv i σ H, ⟨xs.length, by simp, Nat.zero_le _, h0⟩, ?_⟩
  rintro i m σ H ⟨rfl, hi, p⟩
  have q := hl i σ H hi p
  by_cases hlt : i < xs.length
  · refine .inr ⟨⟨xs, xs[i], q, by simp [hlt]⟩, Pv (i + 1), fun σ' H' p' => ⟨xs.length - (i + 1), by omega, rfl, hlt, p'⟩, fun x H' y => ?_⟩
    obtain ⟨e, y⟩ := y
    subst e
    exact hs i x σ _ (y xs q) p
  · have e : i = xs.length := by omega
    subst e
    exact .inl ⟨⟨xs, q, Nat.le_refl _⟩, hd σ H p⟩
theorem comp_list (Pv : Nat → St → Hp → Prop) (h0 : Pv 0 σ H) (hl : ∀ i σ H, i ≤ xs.length → Pv i σ H → SqL K H a xs)
    (hs : ∀ i x σ H, xs[i]? = some x → Pv i σ H → CT g tt te D (Pv (i + 1)) x σ H) (hd : ∀ σ H, Pv xs.length σ H → Q (.ref D) H) : CW (Itl K a) g tt te D Q σ H := by
  refine ⟨fun i m σ H => m = xs.length - i ∧ i ≤ xs.length ∧ Pv i σ H, ⟨xs.length, by simp, Nat.zero_le _, h0⟩, ?_⟩
  rintro i m σ H ⟨rfl, hi, p⟩
  have q := hl i σ H hi p
  by_cases hlt : i < xs.length
  · refine .inr ⟨⟨xs, xs[i], q, by simp [hlt]⟩, Pv (i + 1), fun σ' H' p' => ⟨xs.length - (i + 1), by omega, rfl, hlt, p'⟩, fun x H' y => ?_⟩
    obtain ⟨e, y⟩ := y
    subst e
    exact hs i x σ _ (y xs q) p
  · have e : i = xs.length := by omega
    subst e
    exact .inl ⟨⟨xs, q, Nat.le_refl _⟩, hd σ H p⟩
theorem comp_range {lo : Int} {n : Nat} (Pv : Nat → St → Hp → Prop) (h0 : Pv 0 σ H)
    (hs : ∀ i σ H, i < n → Pv i σ H → CT g tt te D (Pv (i + 1)) (.int (lo + i)) σ H) (hd : ∀ σ H, Pv n σ H → Q (.ref D) H) : CW (Itr lo n) g tt te D Q σ H := by
  refine ⟨fun i m σ H => m = n - i ∧ i ≤ n ∧ Pv i σ H, ⟨n, by simp, Nat.zero_le _, h0⟩, ?_⟩
  rintro i m σ H ⟨rfl, hi, p⟩
  by_cases hlt : i < n
  · refine .inr ⟨hlt, Pv (i + 1), fun σ' H' p' => ⟨n - (i + 1), by omega, rfl, hlt, p'⟩, fun x H' y => ?_⟩
    obtain ⟨e, rfl⟩ := y
    subst e
    exact hs i σ _ hlt p
  · have e : i = n := by omega
    subst e
    exact .inl ⟨Nat.le_refl _, hd σ H p⟩
end
end L2
set_option Elab.async false
set_option linter.all false
set_option maxRecDepth 100000
set_option maxHeartbeats 4000000
namespace L2
open PySem PySem.Spec PyProof.Rows
noncomputable def clOf (sc : Scope) (env : Env) : List (Str × Addr) := (sc.names.filter (·.2 == .free)).reverse.map fun y => (y.1, (env.cells.lookup y.1).getD 0)
theorem closure_go (env : Env) : ∀ (ns : List (Str × NameKind)) (cs : List (Str × Addr)), (∀ y ∈ ns, y.2 = .free → ∃ c, env.cells.lookup y.1 = some c) →
    (forIn ns cs fun (x : Str × NameKind) __s => match x with
        | (name, kind) => if (kind == NameKind.free) = true then do let __do_lift ← cellOf env name; pure (ForInStep.yield ((name, __do_lift) :: __s)) else pure (ForInStep.yield __s)) =
      (pure ((ns.filter (·.2 == .free)).reverse.map (fun y => (y.1, (env.cells.lookup y.1).getD 0)) ++ cs) : Sem (List (Str × Addr)))
  | [], cs, _ => by simp
  | (n, k) :: ns, cs, h => by
    have ih := fun cs => closure_go env ns cs fun y hy => h y (List.mem_cons_of_mem _ hy)
    rw [List.forIn_cons]
    by_cases e : (k == NameKind.free) = true
    · have ek : k = .free := by simpa using e
      obtain ⟨c, hc⟩ := h (n, k) List.mem_cons_self ek
      have e1 : cellOf env n = pure c := by unfold cellOf; simp only at hc; rw [hc]
      dsimp only
      rw [if_pos e, e1, pure_bind, pure_bind]
      dsimp only
      rw [ih, List.filter_cons_of_pos (by simpa using ek)]
      simp only at hc
      simp [hc]
    · dsimp only
      rw [if_neg e, pure_bind]
      dsimp only
      rw [ih, List.filter_cons_of_neg (by simpa using e)]
theorem closure_of {sc : Scope} {env : Env} (h : ∀ y ∈ sc.names, y.2 = .free → ∃ c, env.cells.lookup y.1 = some c) : closureFor sc env = pure (clOf sc env) := by
  unfold closureFor clOf
  have := closure_go env sc.names [] h
  dsimp only
  rw [this]
  simp
noncomputable def compOk (sc out : Scope) (N NX : List Str) (js : List (Option Nat)) : Bool :=
  (sc.kind == .function) && (sc.names.all fun y => y.2 != .cell) && (sc.names.all fun y => y.2 != .local || sc.names.lookup y.1 == some .local) && (sc.names.all fun y => y.2 != .free || out.names.lookup y.1 == some .cell) && (js.length == N.length) &&
  ((N.zip js).all fun p => match p.2 with | none => true | some j => (NX[j]? == some p.1) && (out.names.lookup p.1 == some .cell) && (sc.names.lookup p.1 == some .free))
theorem relabel_free {env : Env} {x : Str} : ∀ (ns : List (Str × NameKind)), ns.lookup x = some .free →
    (ns.map (fun x => match x with | (n, k) => if (k == NameKind.free && env.scope.kind == ScopeKind.function && env.kindOf n == some NameKind.cell) = true then (n, NameKind.cell) else (n, k))).lookup x = some .cell ∨
    (ns.map (fun x => match x with | (n, k) => if (k == NameKind.free && env.scope.kind == ScopeKind.function && env.kindOf n == some NameKind.cell) = true then (n, NameKind.cell) else (n, k))).lookup x = some .free
  | [], h => by cases h
  | (n, k) :: ns, h => by
    rw [List.map_cons]
    dsimp only
    by_cases e : x == n
    · have hk : k = .free := by
        rw [List.lookup_cons, e] at h
        simpa using h
      split
      · left; rw [List.lookup_cons, e]
      · right; rw [List.lookup_cons, e, hk]
    · have e' : (x == n) = false := by simpa using e
      rw [List.lookup_cons, e'] at h
      have ih := relabel_free (env := env) ns h
      split <;> (rw [List.lookup_cons, e']; exact ih)
theorem clOf_has {sc : Scope} {env : Env} {x : Str} (h : (x, NameKind.free) ∈ sc.names) : ∃ c, (clOf sc env).lookup x = some c := by
  have hm : (x, (env.cells.lookup x).getD 0) ∈ clOf sc env := List.mem_map.mpr ⟨(x, .free), by rw [List.mem_reverse, List.mem_filter]; exact ⟨h, by simp⟩, rfl⟩
  cases e : (clOf sc env).lookup x with
  | some c => exact ⟨c, rfl⟩
  | none =>
    have := List.lookup_eq_none_iff.mp e _ hm
    simp at this
section
variable {X : Cx} {tg iter elt : Expr} {ifs : List Expr} {scope : Scope} {pos : Pos} {wi : TI} {N : List Str} {js : List (Option Nat)} {g : TG} {tt : Heap → TT} {te : Heap → TE}
theorem pe_compD (hcb : compOk scope X.env.scope N X.N js = true) (hc : X.calm = true) (hfn : ∀ x, X.fn x = true) (hi : PI X tg iter wi)
    (hg : ∀ b C fp s H, PG (cxCompC X b N scope (clOf scope X.env) C fp s H) tg g) (hif : ∀ b C fp s H, PIfs (cxCompC X b N scope (clOf scope X.env) C fp s H) ifs (tt b)) (he : ∀ b C fp s H, PE (cxCompC X b N scope (clOf scope X.env) C fp s H) elt (te b))
    (hs : ∀ x, foldedSetIterable iter X.env x = pure x := by intro _; rfl) : PE X (.ListComp elt [⟨tg, iter, ifs, 0⟩] scope pos) (tCompC X js wi g tt te) := by
  intro pins s σ H Q I h
  simp only [compOk, Bool.and_eq_true, List.all_eq_true, beq_iff_eq, bne_iff_ne, Bool.or_eq_true] at hcb
  obtain ⟨⟨⟨⟨⟨c1, c2⟩, c3⟩, c4⟩, c5⟩, c6⟩ := hcb
  have env : ∀ y ∈ scope.names, y.2 = .free → ∃ c, X.env.cells.lookup y.1 = some c := fun y hy hf => by
    rcases c4 y hy with z | z
    · exact absurd hf z
    · exact I.ok.has y.1 (.inl z)
  have S : CompScopeC X scope N (clOf scope X.env) js := by
    refine ⟨c1, c2, fun y hy hl => ?_, fun y hy hf => ?_, fun y hy => ?_, c5, fun p hp j hj => ?_⟩
    · rcases c3 y hy with z | z
      · exact absurd hl z
      · exact z
    · exact clOf_has (by obtain ⟨a, b⟩ := y; cases hf; exact hy)
    · obtain ⟨z, hz, rfl⟩ := List.mem_map.mp hy
      rw [List.mem_reverse, List.mem_filter] at hz
      obtain ⟨c, hc⟩ := env z hz.1 (by simpa using hz.2)
      simp only [hc, Option.getD_some]
    · have := c6 p hp
      rw [hj] at this
      simp only [Bool.and_eq_true, beq_iff_eq] at this
      obtain ⟨⟨d1, d2⟩, d3⟩ := this
      refine ⟨d1, d2, ?_, clOf_has (PySem.mem_of_lookup d3)⟩
      exact relabel_free _ d3
  exact pe_compC S hc hfn hi (closure_of env) hg hif he hs pins s σ H Q I h
end
section
variable {X : Cx}
noncomputable def reprV : V → Option Str
  | .int i => some (toString i)
  | .non => some "None"
  | _ => none
end
section
variable {X : Cx} {K : PySem.W.Frag} {pos : Pos}
theorem pg_tupK {es : List Expr} {k : Nat} {t : TGs} {n : Nat} (hK : X.K = K) (hc : X.calm = true) (h : PGs X es t)
    (hn : (assignEach es X.env).length = n := by rfl) (hst : (assignEach es X.env).findIdx? (·.1) = none := by rfl) : PG X (.Tuple es k pos) (gTup K n t) := by
  subst hK
  exact pg_tup hc h hn hst
end
section
variable {X : Cx} {pos : Pos}
end
theorem tCompC_of {X : Cx} {js : List (Option Nat)} {wi : TI} {g : TG} {tt : Heap → TT} {te : Heap → TE} {σ : St} {H : Hp} {Q : VK} (h : wi σ H fun J H1 => ∀ b D, CellsIn X σ b → H1 D = none → CW J g (tt b) (te b) D Q (outOf σ js) (upd H1 D (.lst []))) : tCompC X js wi g tt te σ H Q := h
end L2
set_option Elab.async false
set_option linter.all false
set_option maxRecDepth 100000
set_option maxHeartbeats 4000000
namespace L2
open PySem PySem.Spec PyProof.Rows
inductive Dt where
  | non | bl (b : Bool) | int (i : Int) | str (x : Str) | tup (ds : List Dt) | lst (ds : List Dt)
mutual
noncomputable def Rep (K : PySem.W.Frag) (H : Hp) : Dt → V → Prop
  | .non, v => v = .non
  | .bl b, v => v = .bl b
  | .int i, v => v = .int i
  | .str x, v => v = .str x
  | .tup ds, v => ∃ a xs, v = .ref a ∧ SqT K H a xs ∧ RepL K H ds xs
  | .lst ds, v => ∃ a xs, v = .ref a ∧ SqL K H a xs ∧ RepL K H ds xs
noncomputable def RepL (K : PySem.W.Frag) (H : Hp) : List Dt → List V → Prop
  | [], xs => xs = []
  | d :: ds, xs => ∃ x r, xs = x :: r ∧ Rep K H d x ∧ RepL K H ds r
end
mutual
noncomputable def eqD : Dt → Dt → Bool
  | .non, .non => true
  | .bl a, .bl b => a == b
  | .bl a, .int b => (if a then 1 else 0) == b
  | .int a, .bl b => a == (if b then 1 else 0)
  | .int a, .int b => a == b
  | .str a, .str b => a == b
  | .tup ds, .tup es => eqDL ds es
  | .lst ds, .lst es => eqDL ds es
  | _, _ => false
noncomputable def eqDL : List Dt → List Dt → Bool
  | [], [] => true
  | d :: ds, e :: es => eqD d e && eqDL ds es
  | _, _ => false
end
mutual
noncomputable def dep : Dt → Nat
  | .tup ds => depL ds + 1
  | .lst ds => depL ds + 1
  | _ => 0
noncomputable def depL : List Dt → Nat
  | [] => 0
  | d :: ds => max (dep d) (depL ds)
end
theorem RepL.length {K : PySem.W.Frag} {H : Hp} : ∀ {ds : List Dt} {xs : List V}, RepL K H ds xs → ds.length = xs.length
  | [], xs, h => by cases (show xs = [] from h); rfl
  | d :: ds, xs, h => by
    obtain ⟨x, r, rfl, _, h2⟩ := (show ∃ x r, xs = x :: r ∧ Rep K H d x ∧ RepL K H ds r from h)
    rw [List.length_cons, List.length_cons, h2.length]
mutual
theorem eqD_self : ∀ d : Dt, eqD d d = true
  | .non => rfl
  | .bl a => by show (a == a) = true; simp
  | .int a => by show (a == a) = true; simp
  | .str a => by show (a == a) = true; simp
  | .tup ds => eqDL_self ds
  | .lst ds => eqDL_self ds
theorem eqDL_self : ∀ ds : List Dt, eqDL ds ds = true
  | [] => rfl
  | d :: ds => by show (eqD d d && eqDL ds ds) = true; rw [eqD_self d, eqDL_self ds]; rfl
end
theorem eqDL_range : ∀ ds es : List Dt, eqDL ds es = ((List.range (min ds.length es.length)).all (fun j => eqD (ds.getD j .non) (es.getD j .non)) && ds.length == es.length)
  | [], [] => rfl
  | [], e :: es => rfl
  | d :: ds, [] => rfl
  | d :: ds, e :: es => by
    show (eqD d e && eqDL ds es) = _
    rw [eqDL_range ds es, List.length_cons, List.length_cons, Nat.succ_min_succ, List.range_succ_eq_map, List.all_cons, List.all_map, Bool.and_assoc]
    congr 1
    congr 1
    by_cases h : ds.length = es.length
    · simp [h]
    · simp [h]
section
variable {X : Cx} {pins : List (Addr × Obj)} {σ : St} {H : Hp} {s : Shared}
mutual
theorem Rep.inj (I : Inv X pins σ H s) : ∀ (d e : Dt) {v : V}, Rep X.K H d v → Rep X.K H e v → d = e
  | .non, e, v, h, g => by
    cases (show v = .non from h)
    cases e with
    | non => rfl
    | tup ds => obtain ⟨_, _, z, _⟩ := (show ∃ a xs, V.non = .ref a ∧ _ from g); cases z
    | lst ds => obtain ⟨_, _, z, _⟩ := (show ∃ a xs, V.non = .ref a ∧ _ from g); cases z
    | _ => cases g
  | .bl b, e, v, h, g => by
    cases (show v = .bl b from h)
    cases e with
    | bl c => cases g; rfl
    | tup ds => obtain ⟨_, _, z, _⟩ := (show ∃ a xs, V.bl b = .ref a ∧ _ from g); cases z
    | lst ds => obtain ⟨_, _, z, _⟩ := (show ∃ a xs, V.bl b = .ref a ∧ _ from g); cases z
    | _ => cases g
  | .int b, e, v, h, g => by
    cases (show v = .int b from h)
    cases e with
    | int c => cases g; rfl
    | tup ds => obtain ⟨_, _, z, _⟩ := (show ∃ a xs, V.int b = .ref a ∧ _ from g); cases z
    | lst ds => obtain ⟨_, _, z, _⟩ := (show ∃ a xs, V.int b = .ref a ∧ _ from g); cases z
    | _ => cases g
  | .str b, e, v, h, g => by
    cases (show v = .str b from h)
    cases e with
    | str c => cases g; rfl
    | tup ds => obtain ⟨_, _, z, _⟩ := (show ∃ a xs, V.str b = .ref a ∧ _ from g); cases z
    | lst ds => obtain ⟨_, _, z, _⟩ := (show ∃ a xs, V.str b = .ref a ∧ _ from g); cases z
    | _ => cases g
  | .tup ds, e, v, h, g => by
    obtain ⟨a, xs, rfl, h1, h2⟩ := (show ∃ a xs, v = .ref a ∧ SqT X.K H a xs ∧ RepL X.K H ds xs from h)
    cases e with
    | tup es =>
      obtain ⟨a', ys, z, g1, g2⟩ := (show ∃ a' xs, V.ref a = .ref a' ∧ SqT X.K H a' xs ∧ RepL X.K H es xs from g)
      cases z
      cases I.tuple_inj h1 g1
      rw [RepL.inj I ds es h2 g2]
    | lst es =>
      obtain ⟨a', ys, z, g1, g2⟩ := (show ∃ a' xs, V.ref a = .ref a' ∧ SqL X.K H a' xs ∧ RepL X.K H es xs from g)
      cases z
      obtain ⟨_, _, p1, _⟩ := I.tuple h1
      obtain ⟨_, _, p2, _⟩ := I.list g1
      exact absurd rfl (SeqAt.ne_of_list_tuple p2.isList p1)
    | _ => cases g
  | .lst ds, e, v, h, g => by
    obtain ⟨a, xs, rfl, h1, h2⟩ := (show ∃ a xs, v = .ref a ∧ SqL X.K H a xs ∧ RepL X.K H ds xs from h)
    cases e with
    | lst es =>
      obtain ⟨a', ys, z, g1, g2⟩ := (show ∃ a' xs, V.ref a = .ref a' ∧ SqL X.K H a' xs ∧ RepL X.K H es xs from g)
      cases z
      cases I.list_inj h1 g1
      rw [RepL.inj I ds es h2 g2]
    | tup es =>
      obtain ⟨a', ys, z, g1, g2⟩ := (show ∃ a' xs, V.ref a = .ref a' ∧ SqT X.K H a' xs ∧ RepL X.K H es xs from g)
      cases z
      obtain ⟨_, _, p1, _⟩ := I.tuple g1
      obtain ⟨_, _, p2, _⟩ := I.list h1
      exact absurd rfl (SeqAt.ne_of_list_tuple p2.isList p1)
    | _ => cases g
theorem RepL.inj (I : Inv X pins σ H s) : ∀ (ds es : List Dt) {xs : List V}, RepL X.K H ds xs → RepL X.K H es xs → ds = es
  | [], es, xs, h, g => by
    cases (show xs = [] from h)
    cases es with
    | nil => rfl
    | cons e es => obtain ⟨_, _, z, _⟩ := (show ∃ x r, [] = x :: r ∧ _ from g); cases z
  | d :: ds, es, xs, h, g => by
    obtain ⟨x, r, rfl, h1, h2⟩ := (show ∃ x r, xs = x :: r ∧ Rep X.K H d x ∧ RepL X.K H ds r from h)
    cases es with
    | nil => cases (show x :: r = [] from g)
    | cons e es =>
      obtain ⟨_, _, z, g1, g2⟩ := (show ∃ y q, x :: r = y :: q ∧ Rep X.K H e y ∧ RepL X.K H es q from g)
      cases z
      rw [Rep.inj I d e h1 g1, RepL.inj I ds es h2 g2]
end
theorem in1_units (A : Around) : A.in1.units = A.units + 1 := rfl
mutual
theorem eqAt_D (I : Inv X pins σ H s) : ∀ (d e : Dt) {v u : V} {vv uu : Value} {A : Around}, Rep X.K H d v → Rep X.K H e u → RelV v vv → RelV u uu → A.units + dep d < cLine → SeqAt.EqAt A s vv uu (eqD d e)
  | .tup ds, e, v, u, vv, uu, A, h, g, rv, ru, hu => by
    obtain ⟨a, xs, rfl, h1, h2⟩ := (show ∃ a xs, v = .ref a ∧ SqT X.K H a xs ∧ RepL X.K H ds xs from h)
    cases rv
    have hu0 : A.units < cLine := Nat.lt_of_le_of_lt (Nat.le_add_right _ _) hu
    obtain ⟨j1, _, p0, _⟩ := I.tuple h1
    cases e with
    | non => cases (show u = .non from g); cases ru; exact .tuple_none p0 hu0
    | bl b => cases (show u = .bl b from g); cases ru; exact .tuple_bool _ p0 hu0
    | int b => cases (show u = .int b from g); obtain ⟨t, rfl⟩ := ru; exact .tuple_int _ _ p0 hu0
    | str b => cases (show u = .str b from g); obtain ⟨t, rfl⟩ := ru; exact .tuple_str _ _ p0 hu0
    | tup es =>
        obtain ⟨b, ys, rfl, g1, g2⟩ := (show ∃ a xs, u = .ref a ∧ SqT X.K H a xs ∧ RepL X.K H es xs from g)
        cases ru
        by_cases e : a = b
        · subst e
          cases I.tuple_inj h1 g1
          rw [RepL.inj I ds es h2 g2, show eqD (.tup es) (.tup es) = true from eqD_self _]
          exact .same _
        · obtain ⟨i1, r1, p1, _⟩ := I.tuple h1
          obtain ⟨i2, r2, p2, _⟩ := I.tuple g1
          have hu' : A.units + (depL ds + 1) < cLine := hu
          have l1 := h2.length.trans r1.length
          have l2 := g2.length.trans r2.length
          refine .of_refs e ?_
          rw [show eqD (.tup ds) (.tup es) = eqDL ds es from rfl, eqDL_range]
          have := SeqAt.RcAt.tuples (A := A) p1 p2 (by omega) (e := fun j => eqD (ds.getD j .non) (es.getD j .non)) fun j a1 a2 => by
            have a1' : j < i1.length := by simpa using a1
            have a2' : j < i2.length := by simpa using a2
            have := eqAt_DL I ds es h2 g2 r1 r2 (A := A.in1) (by rw [in1_units]; omega) j a1' a2'
            simpa using this
          rw [List.size_toArray, List.size_toArray, ← l1, ← l2] at this
          exact this
    | lst es =>
        obtain ⟨b, ys, rfl, g1, g2⟩ := (show ∃ a xs, u = .ref a ∧ SqL X.K H a xs ∧ RepL X.K H es xs from g)
        cases ru
        obtain ⟨i2, r2, p2, _⟩ := I.list g1
        exact .tuple_list p0 p2.isList hu0
  | .lst ds, e, v, u, vv, uu, A, h, g, rv, ru, hu => by
    obtain ⟨a, xs, rfl, h1, h2⟩ := (show ∃ a xs, v = .ref a ∧ SqL X.K H a xs ∧ RepL X.K H ds xs from h)
    cases rv
    have hu0 : A.units < cLine := Nat.lt_of_le_of_lt (Nat.le_add_right _ _) hu
    obtain ⟨j1, _, p0, _⟩ := I.list h1
    cases e with
    | non => cases (show u = .non from g); cases ru; exact .list_none p0.isList hu0
    | bl b => cases (show u = .bl b from g); cases ru; exact .list_bool _ p0.isList hu0
    | int b => cases (show u = .int b from g); obtain ⟨t, rfl⟩ := ru; exact .list_int _ _ p0.isList hu0
    | str b => cases (show u = .str b from g); obtain ⟨t, rfl⟩ := ru; exact .list_str _ _ p0.isList hu0
    | lst es =>
        obtain ⟨b, ys, rfl, g1, g2⟩ := (show ∃ a xs, u = .ref a ∧ SqL X.K H a xs ∧ RepL X.K H es xs from g)
        cases ru
        by_cases e : a = b
        · subst e
          cases I.list_inj h1 g1
          rw [RepL.inj I ds es h2 g2, show eqD (.lst es) (.lst es) = true from eqD_self _]
          exact .same _
        · obtain ⟨i1, r1, p1, _⟩ := I.list h1
          obtain ⟨i2, r2, p2, _⟩ := I.list g1
          have hu' : A.units + (depL ds + 1) < cLine := hu
          have l1 := h2.length.trans r1.length
          have l2 := g2.length.trans r2.length
          refine .of_refs e ?_
          rw [show eqD (.lst ds) (.lst es) = eqDL ds es from rfl, eqDL_range]
          by_cases hz : ds.length = es.length
          · have := SeqAt.RcAt.lists (A := A) p1.isList p2.isList (by simp only [List.size_toArray]; omega) (by omega) (e := fun j => eqD (ds.getD j .non) (es.getD j .non)) fun j a1 a2 => by
              have a1' : j < i1.length := by simpa using a1
              have a2' : j < i2.length := by simpa using a2
              have := eqAt_DL I ds es h2 g2 r1 r2 (A := A.in1) (by rw [in1_units]; omega) j a1' a2'
              simpa using this
            rw [List.size_toArray, ← l1] at this
            rw [← hz, Nat.min_self, beq_self_eq_true, Bool.and_true]
            exact this
          · have := SeqAt.RcAt.lists_lengths (A := A) p1.isList p2.isList (by simp only [List.size_toArray, bne_iff_ne]; omega) (by omega)
            rw [show (ds.length == es.length) = false by simpa using hz, Bool.and_false]
            exact this
    | tup es =>
        obtain ⟨b, ys, rfl, g1, g2⟩ := (show ∃ a xs, u = .ref a ∧ SqT X.K H a xs ∧ RepL X.K H es xs from g)
        cases ru
        obtain ⟨i2, r2, p2, _⟩ := I.tuple g1
        exact .list_tuple p0.isList p2 hu0
  | .non, e, v, u, vv, uu, A, h, g, rv, ru, hu => by
    cases (show v = .non from h); cases rv
    have hu0 : A.units < cLine := Nat.lt_of_le_of_lt (Nat.le_add_right _ _) hu
    cases e with
    | non => cases (show u = .non from g); cases ru; exact .same _
    | bl b => cases (show u = .bl b from g); cases ru; exact .none_bool _
    | int b => cases (show u = .int b from g); obtain ⟨t, rfl⟩ := ru; exact .none_int _ _
    | str b => cases (show u = .str b from g); obtain ⟨t, rfl⟩ := ru; exact .none_str _ _
    | tup es =>
        obtain ⟨b, ys, rfl, g1, g2⟩ := (show ∃ a xs, u = .ref a ∧ SqT X.K H a xs ∧ RepL X.K H es xs from g)
        cases ru
        obtain ⟨i2, r2, p2, _⟩ := I.tuple g1
        exact .none_tuple p2 hu0
    | lst es =>
        obtain ⟨b, ys, rfl, g1, g2⟩ := (show ∃ a xs, u = .ref a ∧ SqL X.K H a xs ∧ RepL X.K H es xs from g)
        cases ru
        obtain ⟨i2, r2, p2, _⟩ := I.list g1
        exact .none_list p2.isList hu0
  | .bl a, e, v, u, vv, uu, A, h, g, rv, ru, hu => by
    cases (show v = .bl a from h); cases rv
    have hu0 : A.units < cLine := Nat.lt_of_le_of_lt (Nat.le_add_right _ _) hu
    cases e with
    | non => cases (show u = .non from g); cases ru; exact .bool_none _
    | bl b => cases (show u = .bl b from g); cases ru; exact .bool_bool _ _
    | int b => cases (show u = .int b from g); obtain ⟨t, rfl⟩ := ru; exact .bool_int _ _ _
    | str b => cases (show u = .str b from g); obtain ⟨t, rfl⟩ := ru; exact .bool_str _ _ _
    | tup es =>
        obtain ⟨b, ys, rfl, g1, g2⟩ := (show ∃ a xs, u = .ref a ∧ SqT X.K H a xs ∧ RepL X.K H es xs from g)
        cases ru
        obtain ⟨i2, r2, p2, _⟩ := I.tuple g1
        exact .bool_tuple _ p2 hu0
    | lst es =>
        obtain ⟨b, ys, rfl, g1, g2⟩ := (show ∃ a xs, u = .ref a ∧ SqL X.K H a xs ∧ RepL X.K H es xs from g)
        cases ru
        obtain ⟨i2, r2, p2, _⟩ := I.list g1
        exact .bool_list _ p2.isList hu0
  | .int a, e, v, u, vv, uu, A, h, g, rv, ru, hu => by
    cases (show v = .int a from h); obtain ⟨t', rfl⟩ := rv
    have hu0 : A.units < cLine := Nat.lt_of_le_of_lt (Nat.le_add_right _ _) hu
    cases e with
    | non => cases (show u = .non from g); cases ru; exact .int_none _ _
    | bl b => cases (show u = .bl b from g); cases ru; exact .int_bool _ _ _
    | int b => cases (show u = .int b from g); obtain ⟨t, rfl⟩ := ru; exact .int_int _ _ _ _
    | str b => cases (show u = .str b from g); obtain ⟨t, rfl⟩ := ru; exact .int_str _ _ _ _
    | tup es =>
        obtain ⟨b, ys, rfl, g1, g2⟩ := (show ∃ a xs, u = .ref a ∧ SqT X.K H a xs ∧ RepL X.K H es xs from g)
        cases ru
        obtain ⟨i2, r2, p2, _⟩ := I.tuple g1
        exact .int_tuple _ _ p2 hu0
    | lst es =>
        obtain ⟨b, ys, rfl, g1, g2⟩ := (show ∃ a xs, u = .ref a ∧ SqL X.K H a xs ∧ RepL X.K H es xs from g)
        cases ru
        obtain ⟨i2, r2, p2, _⟩ := I.list g1
        exact .int_list _ _ p2.isList hu0
  | .str a, e, v, u, vv, uu, A, h, g, rv, ru, hu => by
    cases (show v = .str a from h); obtain ⟨t', rfl⟩ := rv
    have hu0 : A.units < cLine := Nat.lt_of_le_of_lt (Nat.le_add_right _ _) hu
    cases e with
    | non => cases (show u = .non from g); cases ru; exact .str_none _ _
    | bl b => cases (show u = .bl b from g); cases ru; exact .str_bool _ _ _
    | int b => cases (show u = .int b from g); obtain ⟨t, rfl⟩ := ru; exact .str_int _ _ _ _
    | str b => cases (show u = .str b from g); obtain ⟨t, rfl⟩ := ru; exact .str_str _ _ _ _
    | tup es =>
        obtain ⟨b, ys, rfl, g1, g2⟩ := (show ∃ a xs, u = .ref a ∧ SqT X.K H a xs ∧ RepL X.K H es xs from g)
        cases ru
        obtain ⟨i2, r2, p2, _⟩ := I.tuple g1
        exact .str_tuple _ _ p2 hu0
    | lst es =>
        obtain ⟨b, ys, rfl, g1, g2⟩ := (show ∃ a xs, u = .ref a ∧ SqL X.K H a xs ∧ RepL X.K H es xs from g)
        cases ru
        obtain ⟨i2, r2, p2, _⟩ := I.list g1
        exact .str_list _ _ p2.isList hu0
theorem eqAt_DL (I : Inv X pins σ H s) : ∀ (ds es : List Dt) {xs ys : List V} {us ws : List Value} {A : Around}, RepL X.K H ds xs → RepL X.K H es ys → Vals xs us → Vals ys ws → A.units + depL ds < cLine →
    ∀ (j : Nat) (h1 : j < us.length) (h2 : j < ws.length), SeqAt.EqAt A s us[j] ws[j] (eqD (ds.getD j .non) (es.getD j .non))
  | [], es, xs, ys, us, ws, A, h, g, rv, ru, hu => fun j h1 h2 => by
    cases (show xs = [] from h)
    cases rv
    exact absurd h1 (Nat.not_lt_zero _)
  | d :: ds, es, xs, ys, us, ws, A, h, g, rv, ru, hu => fun j h1 h2 => by
    obtain ⟨x, r, rfl, hd, hr⟩ := (show ∃ x r, xs = x :: r ∧ Rep X.K H d x ∧ RepL X.K H ds r from h)
    cases es with
    | nil =>
      cases (show ys = [] from g)
      cases ru
      exact absurd h2 (Nat.not_lt_zero _)
    | cons e es =>
      obtain ⟨y, q, rfl, gd, gr⟩ := (show ∃ x r, ys = x :: r ∧ Rep X.K H e x ∧ RepL X.K H es r from g)
      cases rv with
      | cons rv1 rv2 =>
        cases ru with
        | cons ru1 ru2 =>
          have hu' : A.units + max (dep d) (depL ds) < cLine := hu
          cases j with
          | zero => exact eqAt_D I d e hd gd rv1 ru1 (by omega)
          | succ j => exact eqAt_DL I ds es hr gr rv2 ru2 (by omega) j (by simpa using h1) (by simpa using h2)
end
noncomputable def rEqS (K : PySem.W.Frag) : R2 := fun x y H Q => ∃ ds es, ((Rep K H (.tup ds) x ∧ Rep K H (.tup es) y) ∨ (Rep K H (.lst ds) x ∧ Rep K H (.lst es) y)) ∧ depL ds ≤ 100 ∧ Q (.bl (eqDL ds es)) H
noncomputable def rNeS (K : PySem.W.Frag) : R2 := fun x y H Q => ∃ ds es, ((Rep K H (.tup ds) x ∧ Rep K H (.tup es) y) ∨ (Rep K H (.lst ds) x ∧ Rep K H (.lst es) y)) ∧ depL ds ≤ 100 ∧ Q (.bl (!eqDL ds es)) H
theorem hu150 {A : Around} {k : Nat} (hr : Room k A) : A.units + 150 < cLine := by have := hr.un; omega
end
mutual
noncomputable def noL : Dt → Bool
  | .tup ds => noLL ds
  | .lst _ => false
  | _ => true
noncomputable def noLL : List Dt → Bool
  | [] => true
  | d :: ds => noL d && noLL ds
end
noncomputable def TK (H H' : Hp) : Prop := ∀ a xs, Rd H a (.tup xs) → Rd H' a (.tup xs)
theorem TK.sq {K : PySem.W.Frag} {H H' : Hp} (t : TK H H') {a : Addr} {xs : List V} (h : SqT K H a xs) : SqT K H' a xs := by
  rcases h with h | h
  · exact .inl (t a xs h)
  · exact .inr h
theorem TK.refl (H : Hp) : TK H H := fun _ _ h => h
theorem TK.trans {H H1 H2 : Hp} (a : TK H H1) (b : TK H1 H2) : TK H H2 := fun x xs h => b x xs (a x xs h)
theorem Same.tk {H H' : Hp} (s : Same H H') : TK H H' := fun a xs h => by
  rcases h with h | ⟨o, h⟩
  · exact .inl (s a _ h)
  · exact .inr ⟨o, s a _ h⟩
theorem TK.new {H : Hp} {p : Addr} {o : HO} (hp : H p = none) : TK H (upd H p o) := fun a xs h => by
  rcases h with h | ⟨u, h⟩
  · exact .inl (by rw [upd_ne (ne_of_none h hp)]; exact h)
  · exact .inr ⟨u, by rw [upd_ne (ne_of_none h hp)]; exact h⟩
theorem TK.lst {H : Hp} {p : Addr} {xs : List V} {o : HO} (hp : H p = some (.lst xs)) : TK H (upd H p o) := fun a ys h => by
  have ne : ∀ u, H a = some u → u ≠ .lst xs → a ≠ p := fun u e n z => by rw [z, hp] at e; cases e; exact n rfl
  rcases h with h | ⟨u, h⟩
  · exact .inl (by rw [upd_ne (ne _ h (by intro z; cases z))]; exact h)
  · exact .inr ⟨u, by rw [upd_ne (ne _ h (by intro z; cases z))]; exact h⟩
mutual
theorem Rep.mono {K : PySem.W.Frag} {H H' : Hp} (t : TK H H') : ∀ (d : Dt) {v : V}, noL d = true → Rep K H d v → Rep K H' d v
  | .non, v, _, h => h
  | .bl b, v, _, h => h
  | .int i, v, _, h => h
  | .str x, v, _, h => h
  | .lst ds, v, n, h => by cases n
  | .tup ds, v, n, h => by
    obtain ⟨a, xs, e, h1, h2⟩ := (show ∃ a xs, v = .ref a ∧ SqT K H a xs ∧ RepL K H ds xs from h)
    exact ⟨a, xs, e, t.sq h1, RepL.mono t ds n h2⟩
theorem RepL.mono {K : PySem.W.Frag} {H H' : Hp} (t : TK H H') : ∀ (ds : List Dt) {xs : List V}, noLL ds = true → RepL K H ds xs → RepL K H' ds xs
  | [], xs, _, h => h
  | d :: ds, xs, n, h => by
    obtain ⟨x, r, e, h1, h2⟩ := (show ∃ x r, xs = x :: r ∧ Rep K H d x ∧ RepL K H ds r from h)
    have n' : (noL d && noLL ds) = true := n
    rw [Bool.and_eq_true] at n'
    exact ⟨x, r, e, Rep.mono t d n'.1 h1, RepL.mono t ds n'.2 h2⟩
end
theorem RepL.append {K : PySem.W.Frag} {H : Hp} : ∀ {ds es : List Dt} {xs ys : List V}, RepL K H ds xs → RepL K H es ys → RepL K H (ds ++ es) (xs ++ ys)
  | [], es, xs, ys, h, g => by cases (show xs = [] from h); exact g
  | d :: ds, es, xs, ys, h, g => by
    obtain ⟨x, r, rfl, h1, h2⟩ := (show ∃ x r, xs = x :: r ∧ Rep K H d x ∧ RepL K H ds r from h)
    exact ⟨x, r ++ ys, rfl, h1, h2.append g⟩
noncomputable def pD (q : Int × Int) : Dt := .tup [.int q.1, .int q.2]
theorem noLL_pD : ∀ l : List (Int × Int), noLL (l.map pD) = true
  | [] => rfl
  | q :: l => by show (noL (pD q) && noLL (l.map pD)) = true; rw [noLL_pD l]; rfl
theorem rep_pair {K : PySem.W.Frag} {H : Hp} {a : Addr} {x y : Int} (h : H a = some (.tup [.int x, .int y])) : Rep K H (pD (x, y)) (.ref a) := ⟨a, _, rfl, SqT.of h, _, _, rfl, rfl, _, _, rfl, rfl, rfl⟩
theorem repL_pD_get {K : PySem.W.Frag} {H : Hp} : ∀ {l : List (Int × Int)} {xs : List V} {i : Nat} {x : V}, RepL K H (l.map pD) xs → xs[i]? = some x → ∃ q b, l[i]? = some q ∧ x = .ref b ∧ SqT K H b [.int q.1, .int q.2]
  | [], xs, i, x, h, e => by cases (show xs = [] from h); cases e
  | q :: l, xs, i, x, h, e => by
    obtain ⟨y, r, rfl, h1, h2⟩ := (show ∃ y r, xs = y :: r ∧ Rep K H (pD q) y ∧ RepL K H (l.map pD) r from h)
    cases i with
    | zero =>
      have e' : y = x := by simpa using e
      subst e'
      obtain ⟨b, ys, e1, g1, g2⟩ := (show ∃ a xs, y = .ref a ∧ SqT K H a xs ∧ RepL K H [.int q.1, .int q.2] xs from h1)
      obtain ⟨z, r1, rfl, z1, g3⟩ := (show ∃ z r', ys = z :: r' ∧ z = .int q.1 ∧ RepL K H [.int q.2] r' from g2)
      obtain ⟨z', r2, rfl, z2, g4⟩ := (show ∃ z r', r1 = z :: r' ∧ z = V.int q.2 ∧ r' = [] from g3)
      cases z1; cases z2; cases g4
      exact ⟨q, b, by simp, e1, g1⟩
    | succ i =>
      obtain ⟨q', b, h3, h4, h5⟩ := repL_pD_get (l := l) h2 (by simpa using e)
      exact ⟨q', b, by simpa using h3, h4, h5⟩
end L2
set_option Elab.async false
set_option linter.all false
set_option maxRecDepth 100000
set_option maxHeartbeats 4000000
namespace L2
open PySem PySem.Spec PyProof.Rows
section
variable {X : Cx} {pos : Pos}
noncomputable def rNeL (K : PySem.W.Frag) : R2 := fun x y H Q => ∃ ds es, Rep K H (.lst ds) x ∧ Rep K H (.lst es) y ∧ depL ds ≤ 100 ∧ Q (.bl (!eqDL ds es)) H
theorem op_neS (hu : X.A.units + 150 < cLine) : OpR X (compareOp .NotEq) (rNeL X.K) := by
  intro pins s σ H x y v u Q I rv ru h
  obtain ⟨ds, es, h, g, hd, q⟩ := h
  obtain ⟨a, xs, rfl, h1, h2⟩ := (show ∃ a xs, x = .ref a ∧ SqL X.K H a xs ∧ RepL X.K H ds xs from h)
  obtain ⟨b, ys, rfl, g1, g2⟩ := (show ∃ a xs, y = .ref a ∧ SqL X.K H a xs ∧ RepL X.K H es xs from g)
  cases rv; cases ru
  obtain ⟨i1, r1, p1, _⟩ := I.list h1
  obtain ⟨i2, r2, p2, _⟩ := I.list g1
  have l1 := h2.length.trans r1.length
  have l2 := g2.length.trans r2.length
  rw [eqDL_range] at q
  show wpAny (model X.prog X.w) X.A (richCompare .NotEq (.ref a) (.ref b)) _ _ _
  by_cases hz : ds.length = es.length
  · refine SeqAt.RcNeAt.lists p1.isList p2.isList (by simp only [List.size_toArray]; omega) (by omega) (e := fun j => eqD (ds.getD j .non) (es.getD j .non)) (fun j a1 a2 => ?_) _ _ _ _ ⟨.bl _, H, I, rfl, ?_⟩
    · have a1' : j < i1.length := by simpa using a1
      have a2' : j < i2.length := by simpa using a2
      have := eqAt_DL I ds es h2 g2 r1 r2 (A := X.A.in1) (by rw [in1_units]; omega) j a1' a2'
      simpa using this
    · rw [← hz, Nat.min_self, beq_self_eq_true, Bool.and_true] at q
      rw [List.size_toArray, ← l1]
      exact q
  · refine SeqAt.RcNeAt.lists_lengths p1.isList p2.isList (by simp only [List.size_toArray, bne_iff_ne]; omega) (by omega) _ _ _ _ ⟨.bl _, H, I, rfl, ?_⟩
    rw [show (ds.length == es.length) = false by simpa using hz, Bool.and_false] at q
    exact q
noncomputable def tDNew : TE := fun _ H Q => ∀ p, H p = none → Q (.ref p) (upd H p (.dK []))
noncomputable def boolOf : Value → Bool
  | .bool b => b
  | _ => false
noncomputable def rCount : V → List V → Hp → VK → Prop := fun x vs H Q => ∃ (l : Addr) (bs : List Bool), x = .ref l ∧ vs = [.bl true] ∧ H l = some (.lst (bs.map V.bl)) ∧ Q (.int (bs.countP id : Nat)) H
noncomputable def rIndex : V → List V → Hp → VK → Prop := fun x vs H Q => ∃ (l : Addr) (bs : List Bool) (j : Nat), x = .ref l ∧ vs = [.bl true] ∧ H l = some (.lst (bs.map V.bl)) ∧ bs[j]? = some true ∧ (∀ m, m < j → bs[m]? = some false) ∧ j < 1000 ∧ Q (.int (j : Nat)) H
end
end L2
set_option Elab.async false
set_option linter.all false
set_option maxRecDepth 100000
set_option maxHeartbeats 4000000
namespace L2
open PySem PySem.Spec PyProof.Rows
section
variable {X : Cx} {k i : Nat} {x : Str} {p pos pos' : Pos}
noncomputable def xCall0 (X : Cx) (k i : Nat) : TX := fun σ H R => ∃ f fd sp, σ[i]? = some (some (.ref f)) ∧ H f = some (LamO f fd) ∧ FnOk X.prog X.w X.K X.mg X.base (CXE X.prog X.w) k f fd [] sp ∧ Binds X.K fd [] [] ∧ sp [] H (fun _ _ => False) (fun C _ H' => R C H')
end
noncomputable def TabOk (H : Hp) (P : Addr) (q : Str) : Prop := ∃ ps : Array Value, H P = some (.tbl ps) ∧ TriplesOk ps.toList ∧ ∀ pos cv, codeAmong pos ps.toList = some cv → ∃ c, cv = .ref c ∧ H c = some (CodO c q)
noncomputable def SameX (P : Addr) (H H' : Hp) : Prop := ∀ b o, b ≠ P → H b = some o → H' b = some o
structure LamCx (X : Cx) (c P : Addr) : Prop where
  code : X.env.code = .ref c
  hd : PySem.W.CodeHd X.base c P
  bm : X.base.BuiltinsAt X.mg P
section
variable {X : Cx} {c P : Addr} {params : Arguments} {body : Expr} {scope : Scope} {pos : Pos} {clos : List (Str × Addr)}
noncomputable def tLam (mg : Str → Option Value) (P : Addr) (q : Str) (params : Arguments) (body : Expr) (scope : Scope) (clos : List (Str × Addr)) : TE := fun _ H Q => TabOk H P q ∧
  ∀ f c' ctv H', H f = none → SameX P H H' → TabOk H' P q → H' f = some (LamO f (PySem.W.kla_fn "<lambda>" q params body scope clos ((mg "__name__").getD .none) (.ref c') ctv)) → H' c' = some (CodO c' q) → Q (.ref f) H'
end
end L2
set_option Elab.async false
set_option linter.all false
set_option maxRecDepth 100000
set_option maxHeartbeats 4000000
namespace L2
open PySem PySem.Spec PyProof.Rows
noncomputable def lamCk (sc out : Scope) (N NX : List Str) (js : List Nat) : Bool :=
  (sc.kind == .function) && (sc.isCoroutine == false) && (sc.isGenerator == false) && (sc.names.all fun y => y.2 != .cell) && (sc.names.all fun y => y.2 != .free || (out.names.lookup y.1 == some .cell && N.contains y.1)) && (js.length == N.length) &&
  ((N.zip js).all fun p => (NX[p.2]? == some p.1) && (out.names.lookup p.1 == some .cell) && (sc.names.lookup p.1 == some .free))
section
variable {X : Cx} {sc : Scope} {N : List Str} {js : List Nat} {params : Arguments} {body : Expr} {pos : Pos} {c P : Addr}
end
theorem TabOk.kept {H H' : Hp} {P : Addr} {q : Str} (h : TabOk H P q) (k : ∀ b o, H b = some o → (∀ xs, o ≠ .lst xs) → H' b = some o) : TabOk H' P q := by
  obtain ⟨ps, h1, h2, h3⟩ := h
  refine ⟨ps, k _ _ h1 (fun _ z => nomatch z), h2, fun pos cv e => ?_⟩
  obtain ⟨c, e1, e2⟩ := h3 pos cv e
  exact ⟨c, e1, k _ _ e2 (fun _ z => nomatch z)⟩
theorem TabOk.same {H H' : Hp} {P : Addr} {q : Str} (h : TabOk H P q) (s : Same H H') : TabOk H' P q := h.kept fun b o e _ => s b o e
theorem SameX.refl (P : Addr) (H : Hp) : SameX P H H := fun _ _ _ e => e
theorem SameX.trans {P : Addr} {H H1 H2 : Hp} (a : SameX P H H1) (b : SameX P H1 H2) : SameX P H H2 := fun c o hc e => b c o hc (a c o hc e)
theorem SameX.of {P : Addr} {H H1 : Hp} (s : Same H H1) : SameX P H H1 := fun c o _ e => s c o e
theorem SameX.seq {K : PySem.W.Frag} {P a : Addr} {H H' : Hp} {ps : Array Value} {xs : List V} (hP : H P = some (.tbl ps)) (s : SameX P H H') (h : SqL K H a xs) : SqL K H' a xs := by
  rcases h with (h | ⟨o, h⟩) | h
  · exact .inl (.inl (s _ _ (fun z => by rw [z, hP] at h; cases h) h))
  · exact .inl (.inr ⟨o, s _ _ (fun z => by rw [z, hP] at h; cases h) h⟩)
  · exact .inr h
end L2
set_option Elab.async false
set_option linter.all false
set_option maxRecDepth 100000
set_option maxHeartbeats 4000000
namespace L2
open PySem PySem.Spec PyProof.Rows
section
variable {X : Cx} {e : Expr} {te : TE} {pos p1 p2 p3 : Pos} {kk : Nat}
noncomputable def tRev (K : PySem.W.Frag) (te : TE) : TE := fun σ H Q => te σ H fun x H1 => ∃ a xs, x = .ref a ∧ SqL K H1 a xs ∧ ∀ p, H1 p = none → Q (.ref p) (upd H1 p (.lst xs.reverse))
end
end L2
set_option Elab.async false
set_option linter.all false
set_option maxRecDepth 100000
set_option maxHeartbeats 4000000
namespace L2
open PySem PySem.Spec PyProof.Rows
section
variable {prog : Program} {w : World} {A : Around} {E : Value → Shared → Prop} {s : Shared}
noncomputable def zHA (g : Heap) (t1 : Addr) : Heap := g.push { cls := .type "tuple_iterator", data := .fields #[.ref t1, .int 0 0] }
noncomputable def zHB (g : Heap) (t1 t2 : Addr) : Heap := (zHA g t1).push { cls := .type "tuple_iterator", data := .fields #[.ref t2, .int 0 0] }
noncomputable def zHC (g : Heap) (t1 t2 : Addr) : Heap := (zHB g t1 t2).push { cls := .type "tuple", data := .seq #[.ref g.objs.size, .ref (zHA g t1).objs.size] }
noncomputable def zHD (g : Heap) (t1 t2 : Addr) : Heap := (zHC g t1 t2).push { cls := .type "tuple", data := .seq #[.none, .none] }
noncomputable def zHE (g : Heap) (t1 t2 : Addr) : Heap := (zHD g t1 t2).push { cls := .type "zip", data := .fields #[.none, .bool false, .bool false, .ref (zHB g t1 t2).objs.size, .ref (zHC g t1 t2).objs.size] }
end
section
variable {X : Cx} {pins : List (Addr × Obj)} {σ : St} {H : Hp} {s : Shared} {h' : Heap}
end
noncomputable def Itz (K : PySem.W.Frag) (t1 t2 : Addr) : It :=
  ⟨fun i H => ∃ xs ys x y, SqT K H t1 xs ∧ SqT K H t2 ys ∧ xs[i]? = some x ∧ ys[i]? = some y,
   fun i H v H' => ∃ x y p, H p = none ∧ v = .ref p ∧ H' = upd H p (.tup [x, y]) ∧ (∀ xs, SqT K H t1 xs → xs[i]? = some x) ∧ ∀ ys, SqT K H t2 ys → ys[i]? = some y,
   fun i H => ∃ xs ys, SqT K H t1 xs ∧ SqT K H t2 ys ∧ (xs.length ≤ i ∨ ys.length ≤ i)⟩
section
variable {X : Cx} {a b : Expr} {ta : TA} {elts : List Expr} {kk : Nat} {ps p pos : Pos}
noncomputable def iZip (K : PySem.W.Frag) (ta : TA) : TI := fun σ H R => ta σ H fun vs H1 => ∃ t1 t2 xs ys, vs = [.ref t1, .ref t2] ∧ SqT K H1 t1 xs ∧ SqT K H1 t2 ys ∧ R (Itz K t1 t2) H1
end
section
variable {X : Cx}
noncomputable def rAll : List V → Hp → VK → Prop := fun vs H Q => ∃ (l : Addr) (bs : List Bool), vs = [.ref l] ∧ H l = some (.lst (bs.map V.bl)) ∧ Q (.bl (bs.all id)) H
end
end L2
set_option Elab.async false
set_option linter.all false
set_option maxRecDepth 100000
set_option maxHeartbeats 4000000
namespace L2
open PySem PySem.Spec PyProof.Rows
section
variable {X : Cx}
noncomputable def rIsiS (K : PySem.W.Frag) : List V → Hp → VK → Prop := fun vs H Q => ∃ a xs c, vs = [.ref a, .ty c] ∧ SqT K H a xs ∧ (c = "int" ∨ c = "bool" ∨ c = "tuple" ∨ c = "list" ∨ c = "str" ∨ c = "dict") ∧ Q (.bl (isaB "tuple" c)) H
noncomputable def rIsiS2 (K : PySem.W.Frag) : List V → Hp → VK → Prop := fun vs H Q => ∃ a xs p c d, vs = [.ref a, .ref p] ∧ SqT K H a xs ∧ H p = some (.tup [.ty c, .ty d]) ∧ (c = "int" ∨ c = "bool" ∨ c = "tuple" ∨ c = "list" ∨ c = "str" ∨ c = "dict") ∧ (d = "int" ∨ d = "bool" ∨ d = "tuple" ∨ d = "list" ∨ d = "str" ∨ d = "dict") ∧ Q (.bl (isaB "tuple" c || isaB "tuple" d)) H
end
end L2
set_option Elab.async false
set_option linter.all false
set_option maxRecDepth 100000
set_option maxHeartbeats 4000000
namespace L2
open PySem PySem.Spec PyProof.Rows
mutual
noncomputable def toPy : Dt → PyData
  | .non => .none
  | .bl b => .bool b
  | .int i => .int i
  | .str x => .str x
  | .tup ds => .tuple (toPyL ds)
  | .lst ds => .list (toPyL ds)
noncomputable def toPyL : List Dt → List PyData
  | [] => []
  | d :: ds => toPy d :: toPyL ds
end
mutual
noncomputable def okD : Dt → Bool
  | .int i => decide (i.natAbs < 10 ^ 100)
  | .str x => x.cps.toList.all fun c => decide (c < 16 ^ 8)
  | .tup ds => okDL ds
  | .lst ds => okDL ds
  | .non => true
  | .bl _ => true
noncomputable def okDL : List Dt → Bool
  | [] => true
  | d :: ds => okD d && okDL ds
end
mutual
noncomputable def lenD : Dt → Nat
  | .non => 4
  | .bl _ => 5
  | .int _ => 101
  | .str x => 10 * x.length + 2
  | .tup ds => lenDL ds + 3
  | .lst ds => lenDL ds + 3
noncomputable def lenDL : List Dt → Nat
  | [] => 0
  | d :: ds => lenD d + 2 + lenDL ds
end
section
variable {X : Cx} {pins : List (Addr × Obj)} {σ : St} {H : Hp} {s : Shared}
end
noncomputable def shD (d : Dt) : Str := (toPy d).shown
noncomputable def isScB : Dt → Bool
  | .bl _ => true
  | .str _ => true
  | _ => false
noncomputable def rReprD (K : PySem.W.Frag) : List V → Hp → VK → Prop := fun vs H Q => ∃ x d, vs = [x] ∧ Rep K H d x ∧ okD d = true ∧ isScB d = false ∧ lenD d ≤ 1000000 ∧ dep d ≤ 100 ∧ Q (.str (shD d)) H
end L2
set_option Elab.async false
set_option linter.all false
set_option maxRecDepth 100000
set_option maxHeartbeats 4000000
namespace L2
open PySem PySem.Spec PyProof.Rows
section
variable {X : Cx} {tg iter elt : Expr} {ifs : List Expr} {scope : Scope} {pos : Pos} {wi : TI} {N : List Str} {cl : List (Str × Addr)} {js : List (Option Nat)} {g : TG} {tt : Heap → TT} {te : Heap → TE}
theorem ps_setC {iv : Nat} {y : Str} {py spos : Pos} (hN : X.N.Nodup) (hin : X.N[iv]? = some y) (hx : Loc X.env.scope y) (S : CompScopeC X scope N cl js) (hc : X.calm = true) (hfn : ∀ x, X.fn x = true) (hi : PI X tg iter wi) (hclos : closureFor scope X.env = pure cl) (hg : ∀ b C fp s H, PG (cxCompC X b N scope cl C fp s H) tg g) (hif : ∀ b C fp s H, PIfs (cxCompC X b N scope cl C fp s H) ifs (tt b)) (he : ∀ b C fp s H, PE (cxCompC X b N scope cl C fp s H) elt (te b))
    (hsw : swapsWith (.ListComp elt [⟨tg, iter, ifs, 0⟩] scope pos) (some (.Name y py)) spos.line X.env = pure true := by rfl) (hs : ∀ x, foldedSetIterable iter X.env x = pure x := by intro _; rfl) : PS X (.Assign [.Name y py] (.ListComp elt [⟨tg, iter, ifs, 0⟩] scope pos) spos) (tAsg (tCompC X js wi g tt te) (gName iv)) := by
  intro pins s σ H Dd I h
  rw [exec_Assign_Name_used _ _ _ _ hsw]
  refine wpAny_bind (wpAny_standAt (wpAny_bind ?_))
  show wpAny _ X.A (do let _ ← comprehension (.ListComp elt [⟨tg, iter, ifs, 0⟩] scope pos) scope X.env _ (newList []) false (eval iter X.env) (some (assign (.Name y py) X.env))) _ _ s
  refine wpAny_bind (wpAny_mono (wpAny_comprehension_free (use := some (assign (.Name y py) X.env)) (Q := fun _ s' => SP X pins Dd .next s') rfl hs hclos S.kind S.nm (thn (hi pins s σ H _ I h) fun v s1 h1 => thn h1 fun itv s2 h2 => ?_)) (fun _ s' hq => wpAny_pure (wpAny_pure hq)) fun _ _ e => e)
  obtain ⟨it, fp, tn, J, H2, e, I2, T, st2, f2, R⟩ := h2
  subst e
  have hD : H2 s2.heap.objs.size = none := I2.fresh
  have old : ∀ b o, s2.heap.get? b = some o → (s2.heap.push { cls := .type "list", data := .seq ([] : List Value).toArray }).get? b = some o := fun b o q => Heap.get?_push_of_some _ q
  have I3 : Inv X pins σ (upd H2 s2.heap.objs.size (.lst [])) { s2 with heap := s2.heap.push { cls := .type "list", data := .seq ([] : List Value).toArray } } := I2.lnew (t' := s2.toks) (ys := []) (its := []) .nil (Nat.zero_le _)
  have fo : ∀ b ∈ fp, ∃ o, (s2.heap.push { cls := .type "list", data := .seq ([] : List Value).toArray }).get? b = some o := fun b hb => by
    obtain ⟨o, q, _⟩ := T.obj _ _ st2 b hb
    exact ⟨o, old b o q⟩
  have fne : ∀ b ∈ fp, b ≠ s2.heap.objs.size := fun b hb => by
    obtain ⟨o, q, _⟩ := T.obj _ _ st2 b hb
    exact Nat.ne_of_lt (Heap.lt_size q)
  have f3 : ∀ b ∈ fp, FpOk X pins (upd H2 s2.heap.objs.size (.lst [])) b := fun b hb => ⟨by rw [upd_ne (fne b hb)]; exact (f2 b hb).1, (f2 b hb).2⟩
  have st3 : tn 0 (s2.heap.push { cls := .type "list", data := .seq ([] : List Value).toArray }) := T.keep _ _ _ st2 fun b _ o q => old b o q
  refine wpAny_newObj_type (wpAny_newFunctionEnv S.nocell (fun y hy => by simp at hy) (fun h₁ hns hsb => ?_) S.kind)
  obtain ⟨s3, hs3⟩ : ∃ s3 : Shared, s3 = { s2 with heap := s2.heap.push { cls := .type "list", data := .seq ([] : List Value).toArray } } := ⟨_, rfl⟩
  obtain ⟨H3, hH3⟩ : ∃ H3, H3 = upd H2 s2.heap.objs.size (.lst []) := ⟨_, rfl⟩
  rw [← hs3, ← hH3] at I3
  rw [← hH3] at f3
  have hh3 : s3.heap = s2.heap.push { cls := .type "list", data := .seq ([] : List Value).toArray } := by rw [hs3]
  have hk₁ : ∀ b o, s3.heap.get? b = some o → h₁.get? b = some o := fun b o q => by
    rw [hh3] at q
    exact hsb.extBut b o (Nat.ne_of_lt (Heap.lt_size q)) (Heap.get?_push_of_some _ q)
  have hns' : h₁.Ns s3.heap.objs.size (fun _ => none) := by rw [hh3]; exact hns
  obtain ⟨W, ⟨m0, w0⟩, turn⟩ := R (hidS s3.heap H3 (frs X.stack ++ fp)) s2.heap.objs.size (fun i x v c e1 e2 e3 e4 => by
    obtain ⟨u, r, o, q, d⟩ := I3.cellsIn hfn i x v c e1 e2 e3 e4
    obtain ⟨q1, q2⟩ := of_hidS q
    refine ⟨u, r, o, hidS_get q1 q2 fun hm => ?_, d⟩
    rcases List.mem_append.mp hm with hm | hm
    · have z : (hidS s3.heap H3 (frs X.stack)).get? c = none := PySem.W.hideAll_none _ (List.mem_append_right _ hm)
      rw [z] at q; cases q
    · exact (f3 c hm).2.2.2.2.1 x c e4 rfl) hD
  rw [← hH3] at w0
  have J0 := inv_compC (js := js) (N := N) (scope := scope) (h1 := h₁) (tk := s2.toks + ([] : List (Str × Value)).length) S hc hfn I3 f3 (fun b hb => by rw [hh3]; exact fo b hb) hns' hk₁
  have st4 : tn 0 h₁ := T.keep _ _ _ st3 fun b hb o q => hk₁ b o (by rw [hh3]; exact q)
  have loop : ∀ s4 : Shared, s4 = { s3 with heap := h₁, toks := s2.toks + ([] : List (Str × Value)).length } →
      codeAny (model X.prog X.w) X.A (.compLoop (.ListComp elt [⟨tg, iter, ifs, 0⟩] scope pos) 0 (.ref it) (.ref s2.heap.objs.size) (compEnvC scope cl s3.heap.objs.size X.env))
        (compPost (model X.prog X.w) X.A X.xe (some (assign (.Name y py) X.env)) (fun _ s' => SP X pins Dd .next s') (.ref s2.heap.objs.size) s3.heap.objs.size) s4 := by
    rintro s4 rfl
    have stat : ∀ {H' : Hp}, (∀ b ∈ fp, H' b = none) → ∀ b ∈ fp, FpOk (cxCompC X (hidS s3.heap H3 (frs X.stack ++ fp)) N scope cl s3.heap.objs.size fp s3 H3) [] H' b := fun hn b hb =>
      ⟨hn b hb, by
        obtain ⟨o, q⟩ := fo b hb
        exact Nat.ne_of_lt (Heap.lt_size (by rw [hh3]; exact q)), J0.ok.exfs b hb, .inl hb, fun y c q => (J0.ok.exf b hb).2 y c q, fun p hp => absurd (show p ∈ ([] : List (Addr × Obj)) from hp) (by simp)⟩
    refine compLoop_ifs (fun n s' => ∃ i σ' H', Inv (cxCompC X (hidS s3.heap H3 (frs X.stack ++ fp)) N scope cl s3.heap.objs.size fp s3 H3) [] σ' H' s' ∧ tn i s'.heap ∧ (∀ b ∈ fp, H' b = none) ∧ W i n σ' H') ?_ m0 ⟨0, _, H3, J0, st4, fun b hb => (f3 b hb).1, w0⟩
    rintro n s5 ⟨i, σ5, H5, I5, st5, fr5, w5⟩
    rcases turn i n σ5 H5 w5 with ⟨stop, qn⟩ | ⟨go, Nx, hN, step⟩
    · refine wpAny_mono (T.done (cxCompC X (hidS s3.heap H3 (frs X.stack ++ fp)) N scope cl s3.heap.objs.size fp s3 H3) rfl rfl rfl rfl i [] s5 σ5 H5 (fun _ _ => False) I5 (stat fr5) st5 stop) (fun r s6 ⟨hr, I6⟩ => ?_) fun _ _ z => z
      subst hr
      obtain ⟨m6, n6, _⟩ := id I6.loc
      have neC : ∀ b o, s3.heap.get? b = some o → b ≠ s3.heap.objs.size := fun b o q => Nat.ne_of_lt (Heap.lt_size q)
      have B := I6.base
      have ne : ∀ b u, H5 b = some u → b ≠ s3.heap.objs.size := fun b u q z => by
        have fr : H5 s3.heap.objs.size = none := I6.free
        rw [z, fr] at q; cases q
      have IX : Inv X pins σ H5 s6 := by
        refine I3.call' (s' := s6) (ch := fp) I6.os ⟨fun b o q n hb hx => B.keep b o q n hb hx, fun b o q n hb hx => ?_, B.free, fun b o q hx => ?_, B.tups, B.frzs, B.tbls⟩ I6.hok I6.bare fun b hb => ⟨(f3 b hb).2.2.2.1, (f3 b hb).2.1, (f3 b hb).2.2.2.2.1, (f3 b hb).2.2.2.2.2⟩
        · exact B.slot b o q n hb hx
        · exact B.there b o q hx
      have clt : ∀ x c, X.env.cells.lookup x = some c → c ≠ s3.heap.objs.size := fun x c q => by
        obtain ⟨v, o, ho, _⟩ := I3.cell x c q
        exact neC c o ho
      show wpAny _ X.A (assign (.Name y py) X.env (.ref s2.heap.objs.size)) _ X.xe s6
      refine wpAny_assign_Name (store_ok2 (v := .ref s2.heap.objs.size) IX hN hin hx rfl (fun s7 I7 ⟨a, sb, ha⟩ => ⟨m6, n6.sameBut sb (fun z => ?_), fun h' hs' => ⟨σ.set iv (some (.ref s2.heap.objs.size)), H5, ?_, qn⟩⟩) (.inl (hfn y)))
      · rcases ha with e | e
        · exact absurd (e.symm.trans z.symm) (Nat.ne_of_lt I3.lt)
        · exact clt _ _ e z.symm
      · refine I7.call' (s' := { s7 with heap := h' }) (ch := [s3.heap.objs.size]) rfl ⟨fun b o q n hb hx => (hs'.2 b (fun z => hx (by rw [z]; exact List.mem_cons_self))).trans q, fun b o q n hb hx => ⟨o.slots, (hs'.2 b (fun z => hx (by rw [z]; exact List.mem_cons_self))).trans q⟩, fun b o q n hx => n, fun b o q hx => ⟨o, (hs'.2 b (fun z => hx (by rw [z]; exact List.mem_cons_self))).trans q⟩, fun _ _ z => z, fun _ _ _ z => z, fun b ps z => ⟨#[], by simpa using z⟩⟩ (fun a o q => ?_) I7.bare fun b hb => ?_
        · refine (I7.hok a o q).stay (fun b u hb q' => (hs'.2 b ?_).trans q') (fun _ z => z) fun _ _ z => z
          rcases hb with z | z
          · exact ne b o (z ▸ q)
          · exact ne b _ z
        · have eb : b = s3.heap.objs.size := by simpa using hb
          subst eb
          refine ⟨.inr I3.sz, fun z => ?_, fun x c q z => clt x c q z, fun p hp z => neC _ _ (I3.pin p hp).1 z⟩
          exact absurd z.symm (Nat.ne_of_lt I3.lt)
    · refine wpAny_mono (T.item (cxCompC X (hidS s3.heap H3 (frs X.stack ++ fp)) N scope cl s3.heap.objs.size fp s3 H3) rfl rfl rfl rfl i [] s5 σ5 H5 (fun _ _ => False) I5 (stat fr5) st5 go) (fun r s6 ⟨u, hr, h6⟩ => ?_) fun _ _ z => z
      subst hr
      refine wpAny_mono h6 (fun _ s7 ⟨x, H7, I7, r7, y7, st7, fr7⟩ => ?_) fun _ _ z => z
      have I7' := I7.pinned (stat fr7) (T.obj _ _ st7)
      refine wpAny_mono (hg _ _ _ _ _ _ s7 σ5 H7 x u _ I7' r7 (step x H7 y7)) (fun _ s8 ⟨σ8, H8, I8, q8⟩ => ?_) fun _ _ z => z
      have fin : ∀ (s8 : Shared) (H8 : Hp), Inv _ _ σ8 H8 s8 → (∃ m', m' < n ∧ W (i + 1) m' σ8 H8) → ∃ m, m < n ∧ (∃ i σ' H', Inv (cxCompC X (hidS s3.heap H3 (frs X.stack ++ fp)) N scope cl s3.heap.objs.size fp s3 H3) [] σ' H' s8 ∧ tn i s8.heap ∧ (∀ b ∈ fp, H' b = none) ∧ W i m σ' H') := fun s8 H8 I10 ⟨m', hm, w9⟩ => by
        refine ⟨m', hm, i + 1, σ8, _, I10.unpinned, T.keep _ _ _ st7 fun b hb o q => (I10.pin (b, o) (List.mem_append_right _ (List.mem_append_right _ (mem_pinsAt hb q)))).1, fun b hb => ?_, w9⟩
        obtain ⟨o, q, d⟩ := T.obj _ _ st7 b hb
        exact (I10.pin (b, o) (List.mem_append_right _ (List.mem_append_right _ (mem_pinsAt hb q)))).2.1
      have rest : ∀ (ok : Bool) (s8 : Shared) (H8 : Hp), Inv _ _ σ8 H8 s8 → (if ok = true then te (hidS s3.heap H3 (frs X.stack ++ fp)) σ8 H8 fun y H4 => ∃ ys, H4 s2.heap.objs.size = some (.lst ys) ∧ ys.length < sizeLine ∧ Nx σ8 (upd H4 s2.heap.objs.size (.lst (ys ++ [y]))) else Nx σ8 H8) →
          (if ok = true then wpAny (model X.prog X.w) X.A (eval elt (compEnvC scope cl s3.heap.objs.size X.env)) (fun x s₄ =>
              wpAny (model X.prog X.w) X.A (call (.builtin "list.append") [.ref s2.heap.objs.size, x]) (fun _ s₅ => ∃ m, m < n ∧ (∃ i σ' H', Inv (cxCompC X (hidS s3.heap H3 (frs X.stack ++ fp)) N scope cl s3.heap.objs.size fp s3 H3) [] σ' H' s₅ ∧ tn i s₅.heap ∧ (∀ b ∈ fp, H' b = none) ∧ W i m σ' H')) (fun _ _ => False) s₄) (fun _ _ => False) s8
            else ∃ m, m < n ∧ (∃ i σ' H', Inv (cxCompC X (hidS s3.heap H3 (frs X.stack ++ fp)) N scope cl s3.heap.objs.size fp s3 H3) [] σ' H' s8 ∧ tn i s8.heap ∧ (∀ b ∈ fp, H' b = none) ∧ W i m σ' H')) := fun ok s8 H8 I8 q8 => by
        cases ok with
        | false => exact fin s8 H8 I8 (hN _ _ q8)
        | true =>
          refine wpAny_mono (he _ _ _ _ _ _ s8 σ8 H8 _ I8 q8) (fun y s9 ⟨vy, H9, I9, ry, ys, hD9, hz, w9⟩ => ?_) fun _ _ z => z
          obtain ⟨z, its, nn, rr, hl, eo⟩ := I9.lstM hD9
          refine append_at (hsz := by rw [List.size_toArray]; omega) eo fun h10 hs10 hD10 => ?_
          have I10 : Inv _ _ σ8 (upd H9 s2.heap.objs.size (.lst (ys ++ [vy]))) { s9 with heap := h10, toks := s9.toks } := I9.write (x := s2.heap.objs.size) (e := s2.heap.objs.size) (o := .lst (ys ++ [vy])) (by rw [hD9]; exact trivial) (.inl rfl) (fun b o hb q => hs10.extBut b o hb q) ⟨_, hD10⟩
            ⟨by rw [List.length_append, List.length_singleton]; omega, its ++ [y], nn + 1, rr.append (.cons ry .nil), by rw [hD10, List.push_toArray]⟩
          exact fin _ _ I10 (hN _ _ w9)
      have hI := hif (hidS s3.heap H3 (frs X.stack ++ fp)) s3.heap.objs.size fp s3 H3
      match ifs, hI with
      | [], hI => exact rest true s8 H8 I8 (hI _ _ _ q8)
      | [c], hI => exact wpAny_mono (hI _ s8 σ8 H8 _ I8 q8) (fun ok s9 ⟨H9, I9, q9⟩ => rest ok s9 H9 I9 q9) fun _ _ z => z
      | _ :: _ :: _, hI => exact hI.elim
  have e4 : ({ ({ s2 with heap := s2.heap.push { cls := .type "list", data := .seq ([] : List Value).toArray } } : Shared) with heap := h₁, toks := s2.toks + ([] : List (Str × Value)).length } : Shared) = { s3 with heap := h₁, toks := s2.toks + ([] : List (Str × Value)).length } := by rw [hs3]
  have lp := loop _ e4
  have eC : s3.heap.objs.size = (s2.heap.push { cls := .type "list", data := .seq ([] : List Value).toArray }).objs.size := by rw [hh3]
  rw [eC] at lp
  exact codeAny_compStart_list lp (T.self _ 0 _ _ _ st4 lp)
theorem ps_setD {iv : Nat} {y : Str} {py spos : Pos} (hN : X.N.Nodup) (hin : X.N[iv]? = some y) (hx : Loc X.env.scope y) (hcb : compOk scope X.env.scope N X.N js = true) (hc : X.calm = true) (hfn : ∀ x, X.fn x = true) (hi : PI X tg iter wi)
    (hg : ∀ b C fp s H, PG (cxCompC X b N scope (clOf scope X.env) C fp s H) tg g) (hif : ∀ b C fp s H, PIfs (cxCompC X b N scope (clOf scope X.env) C fp s H) ifs (tt b)) (he : ∀ b C fp s H, PE (cxCompC X b N scope (clOf scope X.env) C fp s H) elt (te b))
    (hsw : swapsWith (.ListComp elt [⟨tg, iter, ifs, 0⟩] scope pos) (some (.Name y py)) spos.line X.env = pure true := by rfl) (hs : ∀ x, foldedSetIterable iter X.env x = pure x := by intro _; rfl) : PS X (.Assign [.Name y py] (.ListComp elt [⟨tg, iter, ifs, 0⟩] scope pos) spos) (tAsg (tCompC X js wi g tt te) (gName iv)) := by
  intro pins s σ H Q I h
  simp only [compOk, Bool.and_eq_true, List.all_eq_true, beq_iff_eq, bne_iff_ne, Bool.or_eq_true] at hcb
  obtain ⟨⟨⟨⟨⟨c1, c2⟩, c3⟩, c4⟩, c5⟩, c6⟩ := hcb
  have env : ∀ y ∈ scope.names, y.2 = .free → ∃ c, X.env.cells.lookup y.1 = some c := fun y hy hf => by
    rcases c4 y hy with z | z
    · exact absurd hf z
    · exact I.ok.has y.1 (.inl z)
  have S : CompScopeC X scope N (clOf scope X.env) js := by
    refine ⟨c1, c2, fun y hy hl => ?_, fun y hy hf => ?_, fun y hy => ?_, c5, fun p hp j hj => ?_⟩
    · rcases c3 y hy with z | z
      · exact absurd hl z
      · exact z
    · exact clOf_has (by obtain ⟨a, b⟩ := y; cases hf; exact hy)
    · obtain ⟨z, hz, rfl⟩ := List.mem_map.mp hy
      rw [List.mem_reverse, List.mem_filter] at hz
      obtain ⟨c, hc⟩ := env z hz.1 (by simpa using hz.2)
      simp only [hc, Option.getD_some]
    · have := c6 p hp
      rw [hj] at this
      simp only [Bool.and_eq_true, beq_iff_eq] at this
      obtain ⟨⟨d1, d2⟩, d3⟩ := this
      refine ⟨d1, d2, ?_, clOf_has (PySem.mem_of_lookup d3)⟩
      exact relabel_free _ d3
  exact ps_setC hN hin hx S hc hfn hi (closure_of env) hg hif he hsw hs pins s σ H Q I h
end
end L2
set_option Elab.async false
set_option linter.all false
set_option maxRecDepth 100000
set_option maxHeartbeats 4000000
namespace L2
open PySem PySem.Spec PyProof.Rows
noncomputable def FL (K : PySem.W.Frag) (a : Addr) (g : TG) (tb : TS) (D : Ends) (σ : St) (H : Hp) : Prop := ∃ W : Nat → Nat → St → Hp → Prop, (∃ m, W 0 m σ H) ∧ ∀ i m σ H, W i m σ H →
  ((Itl K a).stop i H ∧ D.nx σ H) ∨ ((Itl K a).go i H ∧ ∃ N : St → Hp → Prop, (∀ σ' H', N σ' H' → ∃ m', m' < m ∧ W (i + 1) m' σ' H') ∧ ∀ x H', (Itl K a).yld i H x H' → g x σ H' fun σ2 H2 => tb { D with nx := N, ct := N, bk := D.nx } σ2 H2)
end L2
set_option Elab.async false
set_option linter.all false
set_option maxRecDepth 100000
set_option maxHeartbeats 4000000
namespace L2
open PySem PySem.Spec PyProof.Rows PySem.W
structure XCls (K : PySem.W.Frag) (C : Addr) : Prop where
  ga : PySem.W.findIn K (.ref C) "__getattribute__" = some (some (.builtin "BaseException.__getattribute__"))
  gt : PySem.W.findIn K (.ref C) "__getattr__" = some none
  hd : PySem.W.hasDictIn K C = true
  cl : PySem.W.findIn K (.ref C) "__class__" = some (some (.builtin "object.__class__"))
  sp : PySem.W.specialIn K (.builtin "object.__class__") "__get__" = some (some (.builtin "getset_descriptor.__get__"))
  tk : PySem.W.takesIn K (.builtin "object.__class__") = some true
  mr : PySem.W.mroIn K C (.type "object") = some true
  sb : PySem.W.subIn K (.ref C) (.type "BaseException") = some true
section
variable {X : Cx}
noncomputable def rIsiX (K : PySem.W.Frag) : List V → Hp → VK → Prop := fun xs H Q => ∃ a C c u b, xs = [.ref a, c] ∧ H a = some (excH a (.ref C)) ∧ XCls K C ∧ clsV c = some u ∧ PySem.W.kitOne K (.ref C) u = some b ∧ Q (.bl b) H
end
end L2
set_option Elab.async false
set_option linter.all false
set_option maxRecDepth 100000
set_option maxHeartbeats 4000000
namespace L2
open PySem PySem.Spec PyProof.Rows
structure RoomM (k : Nat) (A : Around) : Prop where
  dp : A.depth + 3 * k + 5 < recursionLimit
  un : A.units + 16 * k + 200 < cLine
  gd : A.guards = some []
theorem RoomM.of {k : Nat} {A : Around} {v : Option Value} (r : Room k A) : RoomM k (A.mark v) := ⟨r.dp, r.un, r.gd⟩
theorem RoomM.mono {j k : Nat} {A : Around} (r : RoomM k A) (h : j ≤ k) : RoomM j A := ⟨by have := r.dp; omega, by have := r.un; omega, r.gd⟩
noncomputable def unm (A : Around) : Around := { A with handled := none }
structure FnOkM (P : Program) (w : World) (K : PySem.W.Frag) (mg : Str → Option Value) (base : Heap) (k : Nat) (f : Addr) (fd : FuncData) (ps : List Str) (sp : Sp) : Prop where
  len : ∀ vs H Q E, sp vs H Q E → vs.length = ps.length
  run : ∀ (A : Around) (outer : List Env) (s : Shared) (H : Hp) (args : Args) (us : List Value) (vs : List V) (Q : VK) (E : XK), RoomM k A → Env0 P w K mg base A outer s H → BindsTo s fd args (ps.zip us) → Vals vs us → sp vs H Q E →
    codeAny (model P w) A (.call (.ref f) args) (CR CX0 outer P w H s Q E) s
theorem FnOkM.mono {P : Program} {w : World} {K : PySem.W.Frag} {mg : Str → Option Value} {base : Heap} {j k : Nat} {f : Addr} {fd : FuncData} {ps : List Str} {sp : Sp} (F : FnOkM P w K mg base j f fd ps sp) (h : j ≤ k) :
    FnOkM P w K mg base k f fd ps sp := ⟨F.len, fun A outer s H args us vs Q E hr => F.run A outer s H args us vs Q E (hr.mono h)⟩
theorem Env0.unm {P : Program} {w : World} {K : PySem.W.Frag} {mg : Str → Option Value} {base : Heap} {A : Around} {outer : List Env} {s : Shared} {H : Hp} (e : Env0 P w K mg base A outer s H) : Env0 P w K mg base (unm A) outer s H :=
  ⟨e.frames, e.mod, e.bs, e.bsz, e.funs, e.frf, e.hok, e.bare⟩
noncomputable abbrev cxM (P : Program) (w : World) (K : PySem.W.Frag) (mg : Str → Option Value) (base : Heap) (N : List Str) (qual : Str) (scope : Scope) (f : Addr) (cd : Value) (A : Around) (outer : List Env) (s : Shared) (H : Hp) (E : XK) : Cx :=
  (cxOf CX0 P w K mg base N qual scope f cd (unm A) outer s H E).marked A.handled
section
variable {X : Cx} {k : Nat} {f : Addr} {fd : FuncData} {ps : List Str} {sp : Sp} {dvs : List V} {ds : List Value} {x : Str} {p pos : Pos} {e : Expr} {es : List Expr} {t : TA}
end
section
variable {X : Cx} {K : PySem.W.Frag} {o e : Expr} {es : List Expr} {to : TE} {t : TA} {name : Str} {apos cpos : Pos} {T id : String} {r : V → List V → Hp → VK → Prop}
end
section
variable {X : Cx}
noncomputable def rReprB : List V → Hp → VK → Prop := fun xs H Q => ∃ b : Bool, xs = [.bl b] ∧ Q (.str (if b then "True" else "False")) H
end
section
variable {X : Cx} {a b : Expr} {rest : List Expr} {pos : Pos} {ta tb : TE}
noncomputable def tOrI (ta tb : TE) : TE := fun σ H Q => ta σ H fun x H1 => ∃ i : Int, x = .int i ∧ if i = 0 then tb σ H1 Q else Q (.int i) H1
end
section
variable {X : Cx} {x y : Str} {i k : Nat} {p pos pos' py : Pos}
noncomputable def tTryR (K : PySem.W.Frag) (CP : Addr) (ie : Nat) (tb : TX) (ts : TS) : TS := fun D σ H => tb σ H fun C H' => PySem.W.exmOne K C (.ref CP) = some true ∧
  ∀ a, H' a = none → ts { nx := fun σ2 H2 => D.nx (σ2.set ie none) H2, rt := D.rt } (σ.set ie (some (.ref a))) (upd H' a (excH a C))
end
end L2
set_option Elab.async false
set_option linter.all false
set_option maxRecDepth 100000
set_option maxHeartbeats 4000000
namespace L2
open PySem PySem.Spec PyProof.Rows
section
variable {X : Cx}
noncomputable def rIntB : List V → Hp → VK → Prop := fun xs H Q => ∃ b : Bool, xs = [.bl b] ∧ Q (.int (if b then 1 else 0)) H
end
end L2
set_option Elab.async false
set_option linter.all false
set_option maxRecDepth 100000
set_option maxHeartbeats 4000000
namespace L2
open PySem PySem.Spec PyProof.Rows
@[reducible] def boolKind : KeyKind where
  α := Bool
  blt a b := !a && b
  irrefl a := by cases a <;> rfl
  trans a b c h1 h2 := by cases a <;> cases b <;> cases c <;> simp_all
  negTrans a b c h := by cases a <;> cases b <;> cases c <;> simp_all
  total a b h1 h2 := by cases a <;> cases b <;> simp_all
  keyOf v := match v with | .bool x => some x | _ => none
  dflt := false
section
variable {prog : Program} {w : World} {A : Around} {E : Value → Shared → Prop} {s : Shared}
end
section
variable {X : Cx}
noncomputable def rSortedB : List V → Hp → VK → Prop := fun xs H Q => ∃ (l : Addr) (bs : List Bool), xs = [.ref l] ∧ H l = some (.lst (bs.map V.bl)) ∧ bs.length < 64 ∧ ∀ (p : Addr) (bs' : List Bool), H p = none → bs'.Perm bs → bs'.Pairwise (fun a b => (!b && a) = false) → Q (.ref p) (upd H p (.lst (bs'.map V.bl)))
end
end L2
set_option Elab.async false
set_option linter.all false
set_option maxRecDepth 100000
set_option maxHeartbeats 4000000
namespace L2
open PySem PySem.Spec PyProof.Rows
section
variable {X : Cx} {pos : Pos}
noncomputable def intOf : Value → Int
  | .int i _ => i
  | _ => 0
theorem vals_int : ∀ {ns : List Int} {us : List Value}, Vals (ns.map V.int) us → us.map intOf = ns ∧ ∀ u ∈ us, ∃ i t, u = .int i t
  | [], _, r => by cases r; exact ⟨rfl, fun _ h => (nomatch h)⟩
  | n :: ns, _, r => by
    cases r with
    | cons p q =>
      obtain ⟨a, b⟩ := vals_int q
      obtain ⟨t, rfl⟩ := p
      refine ⟨by rw [List.map_cons, a]; rfl, fun u hu => ?_⟩
      rcases List.mem_cons.mp hu with rfl | hu
      · exact ⟨_, _, rfl⟩
      · exact b u hu
noncomputable def rCountI : V → List V → Hp → VK → Prop := fun x vs H Q => ∃ (l : Addr) (ns : List Int) (k : Int), x = .ref l ∧ vs = [.int k] ∧ H l = some (.lst (ns.map V.int)) ∧ Q (.int (ns.countP (fun i => i == k) : Nat)) H
end
end L2
set_option Elab.async false
set_option linter.all false
set_option maxRecDepth 100000
set_option maxHeartbeats 4000000
namespace L2
open PySem PySem.Spec PyProof.Rows
section
variable {X : Cx} {pos : Pos}
theorem items_int : ∀ {us : List Value}, (∀ u ∈ us, ∃ i t, u = .int i t) → ∃ xs : List (Int × Tok), us = xs.map fun p => Value.int p.1 p.2
  | [], _ => ⟨[], rfl⟩
  | u :: us, h => by
    obtain ⟨xs, e⟩ := items_int fun x hx => h x (List.mem_cons_of_mem _ hx)
    obtain ⟨i, t, rfl⟩ := h u List.mem_cons_self
    exact ⟨(i, t) :: xs, by rw [e]; rfl⟩
noncomputable def rMinL : List V → Hp → VK → Prop := fun xs H Q => ∃ (l : Addr) (ns : List Int), xs = [.ref l] ∧ H l = some (.lst (ns.map V.int)) ∧ 0 < ns.length ∧ ∀ m, m ∈ ns → (∀ a ∈ ns, m ≤ a) → Q (.int m) H
theorem call_minL (hc : X.calm = true) : CallR X (.builtin "min") rMinL := by
  intro pins s σ H xs us Q I r h
  obtain ⟨l, ns, rfl, hl, hne, q⟩ := h
  obtain ⟨u, rfl, ru⟩ := vals1 r
  cases ru
  obtain ⟨z, its, n, rr, hn, e⟩ := I.lstM hl
  obtain ⟨e1, e2⟩ := vals_int rr
  obtain ⟨ys, rfl⟩ := items_int e2
  have en : ns = ys.map (·.1) := by
    rw [← e1, List.map_map]
    rfl
  have il : s.heap.IsList l (intItems ys.toArray) := ⟨_, e, rfl, n, by simp [intItems]⟩
  refine min_intList (I.ok.hd hc) il (by rw [en, List.length_map] at hne; simpa using hne) fun v h' tk hv hk => ?_
  obtain ⟨t, rfl⟩ := intItems_at hv
  obtain ⟨h1, h2⟩ := argBest_lt (numAt ys.toArray) (ys.toArray.size - 1)
  have hsz : 0 < ys.toArray.size := by rw [en, List.length_map] at hne; simpa using hne
  refine ⟨.int _, H, I.kept hk, ⟨_, rfl⟩, q _ ?_ fun a ha => ?_⟩
  · rw [en, numAt_eq]
    refine getD_mem ?_
    rw [List.length_map]
    show _ < ys.length
    have z : ys.toArray.size = ys.length := by simp
    omega
  · rw [en] at ha
    obtain ⟨j, hj, rfl⟩ := mem_getD ha
    rw [List.length_map] at hj
    have := h2 j (by simp; omega)
    rw [numAt_eq ys.toArray j] at this
    exact this
end
section
variable {X : Cx}
noncomputable def rNeT (K : PySem.W.Frag) : R2 := fun x y H Q => ∃ ds es, Rep K H (.tup ds) x ∧ Rep K H (.tup es) y ∧ depL ds ≤ 100 ∧ Q (.bl (!eqDL ds es)) H
end
theorem tSeq_gen {t u : TS} {D : Ends} {σ : St} {H : Hp} (h : ∀ R : TS, R = u → tSeq t R D σ H) : tSeq t u D σ H := h u rfl
noncomputable def FR (lo : Int) (n : Nat) (g : TG) (tb : TS) (D : Ends) (σ : St) (H : Hp) : Prop := ∃ W : Nat → Nat → St → Hp → Prop, (∃ m, W 0 m σ H) ∧ ∀ i m σ H, W i m σ H →
      ((Itr lo n).stop i H ∧ D.nx σ H) ∨ ((Itr lo n).go i H ∧ ∃ N : St → Hp → Prop, (∀ σ' H', N σ' H' → ∃ m', m' < m ∧ W (i + 1) m' σ' H') ∧ ∀ x H', (Itr lo n).yld i H x H' → g x σ H' fun σ2 H2 => tb { D with nx := N, ct := N, bk := D.nx } σ2 H2)
theorem tFor_rng {ta : TA} {g : TG} {tb : TS} {D : Ends} {σ : St} {H : Hp} (h : ta σ H fun vs H1 => ∃ j : Int, vs = [.int j] ∧ -(2 ^ 62) ≤ j ∧ j < 2 ^ 62 ∧ FR 0 j.toNat g tb D σ H1) : tFor (iRng1 ta) g tb D σ H := h
theorem fr_of {lo : Int} {n : Nat} {g : TG} {tb : TS} {D : Ends} {σ : St} {H : Hp} (Pv : Nat → St → Hp → Prop) (h0 : Pv 0 σ H)
    (hs : ∀ i σ H, i < n → Pv i σ H → g (.int (lo + i)) σ H fun σ2 H2 => tb { D with nx := Pv (i + 1), ct := Pv (i + 1), bk := D.nx } σ2 H2) (hd : ∀ σ H, Pv n σ H → D.nx σ H) : FR lo n g tb D σ H := for_range Pv h0 hs hd
end L2
set_option Elab.async false
set_option linter.all false
set_option maxRecDepth 100000
set_option maxHeartbeats 4000000
namespace L2
open PySem PySem.Spec PyProof.Rows
noncomputable def OnlyT (Pt : Addr) (H : Hp) : Prop := ∀ b, H b = none ∨ (∃ o xs, H b = some (.frz o (.lst xs))) ∨ (b = Pt ∧ H b = some (.tbl #[]))
end L2
set_option linter.all false
set_option maxHeartbeats 4000000
namespace MM
noncomputable def Cg (n a b : Int) : Prop := n ∣ a - b
theorem Cg.refl (n a : Int) : Cg n a a := ⟨0, by omega⟩
theorem Cg.symm {n a b : Int} (h : Cg n a b) : Cg n b a := by
  obtain ⟨k, h⟩ := h; exact ⟨-k, by grind⟩
theorem Cg.trans {n a b c : Int} (h : Cg n a b) (g : Cg n b c) : Cg n a c := by
  obtain ⟨k, h⟩ := h; obtain ⟨l, g⟩ := g; exact ⟨k + l, by grind⟩
theorem Cg.mul {n a b c d : Int} (h : Cg n a b) (g : Cg n c d) : Cg n (a * c) (b * d) := by
  obtain ⟨k, h⟩ := h; obtain ⟨l, g⟩ := g; exact ⟨a * l + d * k, by grind⟩
theorem Cg.add {n a b c d : Int} (h : Cg n a b) (g : Cg n c d) : Cg n (a + c) (b + d) := by
  obtain ⟨k, h⟩ := h; obtain ⟨l, g⟩ := g; exact ⟨k + l, by grind⟩
theorem Cg.sub {n a b c d : Int} (h : Cg n a b) (g : Cg n c d) : Cg n (a - c) (b - d) := by
  obtain ⟨k, h⟩ := h; obtain ⟨l, g⟩ := g; exact ⟨k - l, by grind⟩
theorem Cg.pow {n a b : Int} (h : Cg n a b) (k : Nat) : Cg n (a ^ k) (b ^ k) := by
  induction k with
  | zero => rw [Int.pow_zero, Int.pow_zero]; exact Cg.refl _ _
  | succ k ih => rw [Int.pow_succ, Int.pow_succ]; exact ih.mul h
theorem cg_mod (n a : Int) : Cg n (a % n) a := ⟨-(a / n), by have := Int.emod_add_mul_ediv a n; grind⟩
theorem cg_eq {n a b : Int} (h : Cg n a b) : a % n = b % n := Int.emod_eq_emod_iff_emod_sub_eq_zero.mpr (Int.emod_eq_zero_of_dvd h)
theorem cg_of {n a b : Int} (h : a % n = b % n) : Cg n a b := Int.dvd_of_emod_eq_zero (Int.emod_eq_emod_iff_emod_sub_eq_zero.mp h)
theorem cg_self {n a b : Int} (h : Cg n a b) (h0 : 0 ≤ a) (h1 : a < n) : a = b % n := by
  have := cg_eq h; rw [Int.emod_eq_of_lt h0 h1] at this; exact this
structure PowInv (base often n done square left : Int) : Prop where
  d0 : 0 ≤ done
  d1 : done < n
  s0 : 0 ≤ square
  s1 : square < n
  l0 : 0 ≤ left
  cg : Cg n (done * square ^ left.toNat) (base ^ often.toNat)
theorem pow_start {base often n : Int} (hn : 0 < n) (ho : 0 ≤ often) : PowInv base often n (1 % n) (base % n) often :=
  ⟨Int.emod_nonneg _ (by omega), Int.emod_lt_of_pos _ hn, Int.emod_nonneg _ (by omega), Int.emod_lt_of_pos _ hn, ho, by
    have := (cg_mod n 1).mul ((cg_mod n base).pow often.toNat)
    rwa [Int.one_mul] at this⟩
theorem sq_pow (a : Int) (k : Nat) : (a * a) ^ k = a ^ (2 * k) := by
  induction k with
  | zero => simp
  | succ k ih => rw [Int.pow_succ, ih, show 2 * (k + 1) = 2 * k + 1 + 1 by omega, Int.pow_succ, Int.pow_succ, Int.mul_assoc]
theorem pow_even {base often n done square left : Int} (hn : 0 < n) (h : PowInv base often n done square left) (hl : left % 2 ≠ 1) : PowInv base often n done (square * square % n) (left / 2) := by
  refine ⟨h.d0, h.d1, Int.emod_nonneg _ (by omega), Int.emod_lt_of_pos _ hn, by have := h.l0; omega, ?_⟩
  have e : left.toNat = 2 * (left / 2).toNat := by have := h.l0; omega
  have := (Cg.refl n done).mul ((cg_mod n (square * square)).pow (left / 2).toNat)
  refine this.trans ?_
  rw [sq_pow, ← e]; exact h.cg
theorem pow_odd {base often n done square left : Int} (hn : 0 < n) (h : PowInv base often n done square left) (hl : left % 2 = 1) : PowInv base often n (done * square % n) (square * square % n) (left / 2) := by
  refine ⟨Int.emod_nonneg _ (by omega), Int.emod_lt_of_pos _ hn, Int.emod_nonneg _ (by omega), Int.emod_lt_of_pos _ hn, by have := h.l0; omega, ?_⟩
  have e : left.toNat = 2 * (left / 2).toNat + 1 := by have := h.l0; omega
  have := (cg_mod n (done * square)).mul ((cg_mod n (square * square)).pow (left / 2).toNat)
  refine this.trans ?_
  have e2 : done * square * (square * square) ^ (left / 2).toNat = done * square ^ left.toNat := by
    rw [e, sq_pow, Int.pow_succ]; grind
  rw [e2]; exact h.cg
theorem pow_end {base often n done square left : Int} (h : PowInv base often n done square left) (hl : ¬ 0 < left) : done = base ^ often.toNat % n := by
  have e : left.toNat = 0 := by omega
  have c := h.cg
  rw [e, Int.pow_zero, Int.mul_one] at c
  exact cg_self c h.d0 h.d1
structure GcdInv (a b great small : Int) : Prop where
  g0 : 0 ≤ great
  s0 : 0 ≤ small
  gb : great ≤ a.natAbs ∨ great ≤ b.natAbs
  sb : small ≤ b.natAbs
  gc : Nat.gcd great.toNat small.toNat = Int.gcd a b
theorem gcd_start (a b : Int) : GcdInv a b (if a < 0 then -a else a) (if b < 0 then -b else b) := by
  have e1 : (if a < 0 then -a else a) = (a.natAbs : Int) := by split <;> omega
  have e2 : (if b < 0 then -b else b) = (b.natAbs : Int) := by split <;> omega
  rw [e1, e2]
  exact ⟨by omega, by omega, .inl (Int.le_refl _), Int.le_refl _, by simp [Int.gcd]⟩
theorem gcd_turn {a b great small : Int} (h : GcdInv a b great small) (hs : 0 < small) : GcdInv a b small (great % small) := by
  have h0 := h.g0
  have l1 := Int.emod_lt_of_pos great hs
  have l2 := Int.emod_nonneg great (show small ≠ 0 by omega)
  have sb := h.sb
  refine ⟨h.s0, l2, .inr h.sb, by omega, ?_⟩
  have e : (great % small).toNat = great.toNat % small.toNat := Int.toNat_emod h.g0 h.s0
  rw [e, ← h.gc, Nat.gcd_comm small.toNat, ← Nat.gcd_rec, Nat.gcd_comm]
theorem gcd_end {a b great small : Int} (h : GcdInv a b great small) (hs : ¬ 0 < small) : great = Int.gcd a b := by
  have s0 := h.s0
  have g0 := h.g0
  have e : small.toNat = 0 := by omega
  have c := h.gc
  rw [e, Nat.gcd_zero_right] at c
  omega
structure UndInv (a n great gt small st : Int) : Prop where
  g0 : 0 < great
  g1 : great ≤ n
  s0 : 0 ≤ small
  s1 : small ≤ n
  cg : Cg n great (gt * a)
  cs : Cg n small (st * a)
  gc : Nat.gcd great.toNat small.toNat = Int.gcd a n
  bd : great * st.natAbs + small * gt.natAbs ≤ n
noncomputable def Undo (a n v : Int) : Prop := 0 ≤ v ∧ v < n ∧ Cg n (v * a) 1
noncomputable def IsPr (n : Int) : Prop := 2 ≤ n ∧ ∀ d, 2 ≤ d → d * d ≤ n → n % d ≠ 0
noncomputable def isPrB (n : Int) : Bool := @decide (IsPr n) (Classical.propDecidable _)
theorem isPrB_iff {n : Int} : isPrB n = true ↔ IsPr n := by unfold isPrB; exact @decide_eq_true_iff _ (Classical.propDecidable _)
theorem isPrB_of {n : Int} (h : IsPr n) : isPrB n = true := isPrB_iff.mpr h
theorem isPrB_not {n : Int} (h : ¬ IsPr n) : isPrB n = false := by
  cases e : isPrB n with
  | false => rfl
  | true => exact absurd (isPrB_iff.mp e) h
theorem sq_mono {a b : Int} (h0 : 0 ≤ a) (h : a ≤ b) : a * a ≤ b * b := Int.mul_le_mul h h h0 (by omega)
theorem pr_all {n : Int} (h : IsPr n) {d : Int} (h2 : 2 ≤ d) (hd : d < n) : n % d ≠ 0 := by
  intro e
  by_cases hs : d * d ≤ n
  · exact h.2 d h2 hs e
  · obtain ⟨k, hk⟩ := Int.dvd_of_emod_eq_zero e
    have n2 := h.1
    have k1 : 0 < k := by
      by_cases hk0 : 0 < k
      · exact hk0
      · have : d * k ≤ 0 := Int.mul_nonpos_of_nonneg_of_nonpos (by omega) (by omega)
        omega
    have k2 : 2 ≤ k := by
      by_cases k2 : 2 ≤ k
      · exact k2
      · have : k = 1 := by omega
        subst this
        omega
    have kd : k < d := by
      by_cases kd : k < d
      · exact kd
      · have := Int.mul_le_mul_of_nonneg_left (show d ≤ k by omega) (show 0 ≤ d by omega)
        omega
    refine h.2 k k2 ?_ ?_
    · have := Int.mul_le_mul_of_nonneg_right (show k ≤ d by omega) (show 0 ≤ k by omega)
      omega
    · rw [hk, Int.mul_emod_left]
theorem pr_dvd {n : Int} (h : IsPr n) {d : Int} (h2 : 2 ≤ d) (hd : d ∣ n) : d = n := by
  have n2 := h.1
  have hle : d ≤ n := Int.le_of_dvd (by omega) hd
  by_cases e : d = n
  · exact e
  · exact absurd (Int.emod_eq_zero_of_dvd hd) (pr_all h h2 (by omega))
theorem pr_coprime {p : Nat} (h : IsPr p) {k : Nat} (hk : ¬ p ∣ k) : Nat.Coprime p k := by
  have hg : Nat.gcd p k = 1 := by
    have hd := Nat.gcd_dvd_left p k
    have p2 := h.1
    by_cases g2 : 2 ≤ Nat.gcd p k
    · have : ((Nat.gcd p k : Nat) : Int) = p := pr_dvd h (by omega) (Int.natCast_dvd_natCast.mpr hd)
      have e : Nat.gcd p k = p := by omega
      exact absurd (e ▸ Nat.gcd_dvd_right p k) hk
    · have : 0 < Nat.gcd p k := Nat.gcd_pos_of_pos_left _ (by omega)
      omega
  exact hg
theorem pr_euclid {p : Nat} (h : IsPr p) {a b : Nat} (hd : p ∣ a * b) (ha : ¬ p ∣ a) : p ∣ b := (pr_coprime h ha).dvd_of_dvd_mul_left hd
noncomputable def ch : Nat → Nat → Nat
  | _, 0 => 1
  | 0, _ + 1 => 0
  | n + 1, k + 1 => ch n k + ch n (k + 1)
theorem ch_zero (n : Nat) : ch n 0 = 1 := by cases n <;> rfl
theorem ch_succ (n k : Nat) : ch (n + 1) (k + 1) = ch n k + ch n (k + 1) := rfl
theorem ch_above : ∀ (n k : Nat), n < k → ch n k = 0
  | 0, k + 1, _ => rfl
  | n + 1, k + 1, h => by rw [ch_succ, ch_above n k (by omega), ch_above n (k + 1) (by omega)]
theorem ch_self : ∀ n, ch n n = 1
  | 0 => rfl
  | n + 1 => by rw [ch_succ, ch_self n, ch_above n (n + 1) (by omega)]
theorem ch_mul (n : Nat) : ∀ k, (k + 1) * ch (n + 1) (k + 1) = (n + 1) * ch n k := by
  induction n with
  | zero =>
    intro k
    cases k with
    | zero => rfl
    | succ k => rw [ch_above 1 (k + 2) (by omega), ch_above 0 (k + 1) (by omega)]; omega
  | succ n ih =>
    intro k
    rw [ch_succ (n + 1) k, Nat.mul_add, ih k]
    cases k with
    | zero => rw [ch_zero, ch_zero]; omega
    | succ j =>
      have := ih j
      have e := ch_succ n j
      rw [e] at this ⊢
      grind
noncomputable def bi (a : Int) (n : Nat) : Nat → Int
  | 0 => 0
  | m + 1 => bi a n m + (ch n m : Int) * a ^ m
theorem bi_step (a : Int) (n : Nat) : ∀ m, bi a (n + 1) (m + 1) = bi a n (m + 1) + a * bi a n m
  | 0 => by simp [bi, ch_zero]
  | m + 1 => by
    rw [show bi a (n + 1) (m + 1 + 1) = bi a (n + 1) (m + 1) + (ch (n + 1) (m + 1) : Int) * a ^ (m + 1) from rfl, bi_step a n m, ch_succ,
      show bi a n (m + 1 + 1) = bi a n (m + 1) + (ch n (m + 1) : Int) * a ^ (m + 1) from rfl, show bi a n (m + 1) = bi a n m + (ch n m : Int) * a ^ m from rfl, Int.pow_succ, Int.natCast_add]
    grind
theorem bi_all (a : Int) : ∀ n : Nat, (a + 1) ^ n = bi a n (n + 1)
  | 0 => by simp [bi, ch_zero]
  | n + 1 => by
    rw [bi_step, show bi a n (n + 1 + 1) = bi a n (n + 1) + (ch n (n + 1) : Int) * a ^ (n + 1) from rfl, ch_above n (n + 1) (by omega), Int.pow_succ, bi_all a n]
    grind
theorem pr_ch {p : Nat} (h : IsPr p) {k : Nat} (h0 : 0 < k) (hk : k < p) : p ∣ ch p k := by
  obtain ⟨n, rfl⟩ : ∃ n, p = n + 1 := ⟨p - 1, by omega⟩
  obtain ⟨j, rfl⟩ : ∃ j, k = j + 1 := ⟨k - 1, by omega⟩
  refine pr_euclid h (a := j + 1) ⟨ch n j, ch_mul n j⟩ fun hd => ?_
  have := Nat.le_of_dvd (by omega) hd
  omega
theorem bi_pr {p : Nat} (h : IsPr p) (a : Int) : ∀ m, m < p → Cg p (bi a p (m + 1)) 1
  | 0, _ => by
    have : bi a p 1 = 1 := by simp [bi, ch_zero]
    rw [this]; exact Cg.refl _ _
  | m + 1, hm => by
    have h1 := bi_pr h a m (by omega)
    obtain ⟨c, hc⟩ := pr_ch h (k := m + 1) (by omega) hm
    have h2 : Cg p ((ch p (m + 1) : Int) * a ^ (m + 1)) 0 := ⟨c * a ^ (m + 1), by rw [hc, Int.natCast_mul]; grind⟩
    have := h1.add h2
    rwa [Int.add_zero] at this
theorem fermat_nat {p : Nat} (h : IsPr p) : ∀ a : Nat, Cg p ((a : Int) ^ p) a
  | 0 => by
    have p2 := h.1
    have : ((0 : Nat) : Int) ^ p = 0 := Int.zero_pow (by omega)
    rw [this]; exact Cg.refl _ _
  | a + 1 => by
    have ih := fermat_nat h a
    have p2 := h.1
    obtain ⟨n, hn⟩ : ∃ n, p = n + 1 := ⟨p - 1, by omega⟩
    have e : ((a + 1 : Nat) : Int) ^ p = bi a p p + (a : Int) ^ p := by
      rw [Int.natCast_add, show ((1 : Nat) : Int) = 1 from rfl, bi_all, show bi (a : Int) p (p + 1) = bi a p p + (ch p p : Int) * (a : Int) ^ p from rfl, ch_self]
      grind
    have e2 := bi_pr h a n (by omega)
    rw [← hn] at e2
    rw [e]
    have := e2.add ih
    rwa [Int.add_comm 1] at this
theorem fermat {p : Int} (h : IsPr p) (a : Int) : Cg p (a ^ p.toNat) a := by
  have p2 := h.1
  obtain ⟨q, rfl⟩ := Int.eq_ofNat_of_zero_le (show 0 ≤ p by omega)
  have h1 := fermat_nat h (a % q).toNat
  have e : (((a % (q : Int)).toNat : Nat) : Int) = a % q := Int.toNat_of_nonneg (Int.emod_nonneg _ (by omega))
  rw [e] at h1
  rw [Int.toNat_natCast]
  exact ((cg_mod (q : Int) a).symm.pow q).trans (h1.trans (cg_mod _ a))
end MM
set_option linter.all false
set_option maxHeartbeats 4000000
namespace MM
noncomputable def prod : List (Int × Int) → Int
  | [] => 1
  | q :: r => q.1 ^ q.2.toNat * prod r
theorem prod_append (l r : List (Int × Int)) : prod (l ++ r) = prod l * prod r := by
  induction l with
  | nil => simp [prod]
  | cons q l ih => rw [List.cons_append, prod, prod, ih, Int.mul_assoc]
structure PartsOk (l : List (Int × Int)) : Prop where
  pr : ∀ q ∈ l, IsPr q.1 ∧ 1 ≤ q.2
  up : l.Pairwise fun a b => a.1 < b.1
noncomputable def Parts (n : Int) (l : List (Int × Int)) : Prop := PartsOk l ∧ prod l = n
theorem pow_pos' {p : Int} (h : 1 ≤ p) (k : Nat) : 1 ≤ p ^ k := by
  induction k with
  | zero => simp
  | succ k ih =>
    rw [Int.pow_succ]
    have := Int.mul_le_mul_of_nonneg_right ih (show 0 ≤ p by omega)
    omega
theorem two_le_pow {p : Int} (h : 2 ≤ p) {k : Nat} (hk : 1 ≤ k) : 2 ≤ p ^ k := by
  obtain ⟨j, rfl⟩ : ∃ j, k = j + 1 := ⟨k - 1, by omega⟩
  rw [Int.pow_succ]
  have h1 := pow_pos' (show 1 ≤ p by omega) j
  have := Int.mul_le_mul_of_nonneg_right h1 (show 0 ≤ p by omega)
  omega
theorem prod_ge {l : List (Int × Int)} (h : ∀ q ∈ l, IsPr q.1 ∧ 1 ≤ q.2) : (2 : Int) ^ l.length ≤ prod l := by
  induction l with
  | nil => simp [prod]
  | cons q l ih =>
    have h1 := ih fun x hx => h x (List.mem_cons_of_mem _ hx)
    have h2 := h q List.mem_cons_self
    have h3 : 2 ≤ q.1 ^ q.2.toNat := two_le_pow h2.1.1 (by omega)
    rw [List.length_cons, Int.pow_succ, prod, Int.mul_comm]
    exact Int.mul_le_mul h3 h1 (Int.pow_nonneg (by decide)) (by omega)
theorem parts_len {l : List (Int × Int)} (h : ∀ q ∈ l, IsPr q.1 ∧ 1 ≤ q.2) (hn : prod l ≤ 10 ^ 9) : l.length < 30 := by
  refine Classical.byContradiction fun hc => ?_
  have h1 := prod_ge h
  have h2 : (2 : Int) ^ 30 ≤ 2 ^ l.length := by
    obtain ⟨k, hk⟩ : ∃ k, l.length = 30 + k := ⟨l.length - 30, by omega⟩
    rw [hk, Int.pow_add]
    have := pow_pos' (show (1 : Int) ≤ 2 by decide) k
    have := Int.mul_le_mul_of_nonneg_left this (show (0 : Int) ≤ 2 ^ 30 by decide)
    omega
  have h3 : (2 : Int) ^ 30 = 1073741824 := by decide
  omega
theorem prod_pos {l : List (Int × Int)} (h : ∀ q ∈ l, IsPr q.1 ∧ 1 ≤ q.2) : 1 ≤ prod l := by
  have := prod_ge h
  have := pow_pos' (show (1 : Int) ≤ 2 by decide) l.length
  omega
structure DivInv (l0 t left o : Int) : Prop where
  l1 : 1 ≤ left
  o0 : 0 ≤ o
  eq : l0 = left * t ^ o.toNat
theorem div_start {l0 t : Int} (h : 1 ≤ l0) : DivInv l0 t l0 0 := ⟨h, Int.le_refl _, by simp⟩
theorem div_turn {l0 t left o : Int} (ht : 2 ≤ t) (h : DivInv l0 t left o) (hd : left % t = 0) : DivInv l0 t (left / t) (o + 1) ∧ left / t < left := by
  have l1 := h.l1
  obtain ⟨k, hk⟩ := Int.dvd_of_emod_eq_zero hd
  have e : left / t = k := by rw [hk, Int.mul_ediv_cancel_left _ (by omega)]
  have k1 : 1 ≤ k := by
    refine Classical.byContradiction fun hc => ?_
    have : t * k ≤ 0 := Int.mul_nonpos_of_nonneg_of_nonpos (by omega) (by omega)
    omega
  rw [e]
  have o0 := h.o0
  refine ⟨⟨k1, by omega, ?_⟩, ?_⟩
  · have e2 : (o + 1).toNat = o.toNat + 1 := by omega
    rw [h.eq, e2, Int.pow_succ, hk]
    grind
  · have := Int.mul_le_mul_of_nonneg_right ht (show 0 ≤ k by omega)
    omega
theorem div_le {l0 t left o : Int} (ht : 2 ≤ t) (h : DivInv l0 t left o) : left ≤ l0 := by
  have := pow_pos' (show 1 ≤ t by omega) o.toNat
  have l1 := h.l1
  have := Int.mul_le_mul_of_nonneg_left this (show 0 ≤ left by omega)
  have e := h.eq
  omega
theorem div_dvd {l0 t left o : Int} (h : DivInv l0 t left o) : left ∣ l0 := ⟨t ^ o.toNat, h.eq⟩
theorem not_dvd_of {a b d : Int} (h : a ∣ b) (hb : b % d ≠ 0) : a % d ≠ 0 := fun e => hb (Int.emod_eq_zero_of_dvd (Int.dvd_trans (Int.dvd_of_emod_eq_zero e) h))
noncomputable def LpEnd (n s r : Int) : Prop := (r = n ∧ ∀ d, s ≤ d → d * d ≤ n → n % d ≠ 0) ∨ (s ≤ r ∧ r * r ≤ n ∧ n % r = 0 ∧ ∀ d, s ≤ d → d < r → n % d ≠ 0)
theorem lp_next {n s r : Int} (hn : 1 < n) (hs : 2 ≤ s) (hb : ∀ d, 2 ≤ d → d < s → n % d ≠ 0) (h : LpEnd n s r) : IsPr r ∧ s ≤ r ∧ r ≤ n ∧ n % r = 0 ∧ ∀ d, 2 ≤ d → d < r → n % d ≠ 0 := by
  have sn : s ≤ n := by
    refine Classical.byContradiction fun hc => hb n (by omega) (by omega) (Int.emod_self ..)
  have pr_of : ∀ r, 2 ≤ r → n % r = 0 → (∀ d, 2 ≤ d → d < r → n % d ≠ 0) → IsPr r := fun r h2 hd ha => ⟨h2, fun d d2 dd e => by
    have dr : d < r := by
      have := Int.mul_le_mul_of_nonneg_right d2 (show 0 ≤ d by omega)
      omega
    exact ha d d2 dr (Int.emod_eq_zero_of_dvd (Int.dvd_trans (Int.dvd_of_emod_eq_zero e) (Int.dvd_of_emod_eq_zero hd)))⟩
  rcases h with ⟨rfl, h⟩ | ⟨h1, h2, h3, h4⟩
  · have p : IsPr r := ⟨by omega, fun d d2 dd => by
      by_cases ds : d < s
      · exact hb d d2 ds
      · exact h d (by omega) dd⟩
    exact ⟨p, sn, Int.le_refl _, Int.emod_self .., fun d d2 dr => pr_all p d2 dr⟩
  · have all : ∀ d, 2 ≤ d → d < r → n % d ≠ 0 := fun d d2 dr => by
      by_cases ds : d < s
      · exact hb d d2 ds
      · exact h4 d (by omega) dr
    refine ⟨pr_of r (by omega) h3 all, h1, ?_, h3, all⟩
    exact Int.le_of_dvd (by omega) (Int.dvd_of_emod_eq_zero h3)
structure PtInv (n : Int) (l : List (Int × Int)) (left t : Int) : Prop where
  l1 : 1 ≤ left
  t2 : 2 ≤ t
  eq : n = prod l * left
  lo : ∀ d, 2 ≤ d → d < t → left % d ≠ 0
  ok : PartsOk l
  le : ∀ q ∈ l, q.1 ≤ t ∧ left % q.1 ≠ 0
theorem pt_start {n : Int} (h : 1 ≤ n) : PtInv n [] n 2 := ⟨h, by omega, by simp [prod], fun d a b => by omega, ⟨fun _ h => (by cases h), List.Pairwise.nil⟩, fun _ h => (by cases h)⟩
theorem pt_le {n : Int} {l : List (Int × Int)} {left t : Int} (h : PtInv n l left t) : left ≤ n := by
  have p := prod_pos h.ok.pr
  have l1 := h.l1
  have := Int.mul_le_mul_of_nonneg_right p (show 0 ≤ left by omega)
  have e := h.eq
  omega
theorem pt_turn {n : Int} {l : List (Int × Int)} {left t r left' o : Int} (h : PtInv n l left t) (pr : IsPr r) (tr : t ≤ r) (rd : left % r = 0) (ra : ∀ d, 2 ≤ d → d < r → left % d ≠ 0) (D : DivInv left r left' o) (hd : left' % r ≠ 0) : PtInv n (l ++ [(r, o)]) left' r ∧ 1 ≤ o ∧ left' < left := by
  have o1 : 1 ≤ o := by
    refine Classical.byContradiction fun hc => ?_
    have o0 := D.o0
    have : o = 0 := by omega
    subst this
    have e := D.eq
    simp at e
    rw [← e] at hd
    exact hd rd
  have lt : left' < left := by
    have h2 := two_le_pow pr.1 (show 1 ≤ o.toNat by omega)
    have l1 := D.l1
    have := Int.mul_le_mul_of_nonneg_left h2 (show 0 ≤ left' by omega)
    have e := D.eq
    omega
  refine ⟨⟨D.l1, pr.1, ?_, fun d a b => not_dvd_of (div_dvd D) (ra d a b), ⟨?_, ?_⟩, ?_⟩, o1, lt⟩
  · rw [prod_append, h.eq, D.eq]; simp only [prod]; grind
  · intro q hq
    rcases List.mem_append.mp hq with hq | hq
    · exact h.ok.pr q hq
    · rw [List.mem_singleton.mp hq]; exact ⟨pr, o1⟩
  · rw [List.pairwise_append]
    refine ⟨h.ok.up, List.pairwise_singleton .., fun a ha b hb => ?_⟩
    rw [List.mem_singleton.mp hb]
    have ⟨a1, a2⟩ := h.le a ha
    refine Classical.byContradiction fun hc => ?_
    have : a.1 = r := by
      show a.1 = r
      have : ¬ a.1 < r := hc
      omega
    rw [this] at a2
    exact a2 rd
  · intro q hq
    rcases List.mem_append.mp hq with hq | hq
    · have ⟨a1, a2⟩ := h.le q hq
      exact ⟨by omega, not_dvd_of (div_dvd D) a2⟩
    · rw [List.mem_singleton.mp hq]; exact ⟨Int.le_refl _, hd⟩
theorem pt_end {n : Int} {l : List (Int × Int)} {left t : Int} (h : PtInv n l left t) (he : ¬ 1 < left) : Parts n l := by
  have l1 := h.l1
  have : left = 1 := by omega
  refine ⟨h.ok, ?_⟩
  rw [h.eq, this, Int.mul_one]
theorem parts_prime {n : Int} {l : List (Int × Int)} (h : Parts n l) : l = [(n, 1)] ↔ IsPr n := by
  constructor
  · intro e
    have := h.1.pr (n, 1) (by rw [e]; simp)
    exact this.1
  · intro hp
    obtain ⟨ok, e⟩ := h
    have n2 := hp.1
    cases l with
    | nil => simp [prod] at e; omega
    | cons q r =>
      have h1 := ok.pr q List.mem_cons_self
      have q2 := h1.1.1
      have hr := prod_pos (l := r) fun x hx => ok.pr x (List.mem_cons_of_mem _ hx)
      have hdv : q.1 ∣ n := by
        obtain ⟨j, hj⟩ : ∃ j, q.2.toNat = j + 1 := ⟨q.2.toNat - 1, by omega⟩
        refine ⟨q.1 ^ j * prod r, ?_⟩
        rw [← e, prod, hj, Int.pow_succ]; grind
      have qn := pr_dvd hp q2 hdv
      obtain ⟨j, hj⟩ : ∃ j, q.2.toNat = j + 1 := ⟨q.2.toNat - 1, by omega⟩
      have e2 : n * (n ^ j * prod r) = n * 1 := by
        rw [Int.mul_one]
        conv => rhs; rw [← e]
        rw [prod, hj, qn, Int.pow_succ]; grind
      have e3 : n ^ j * prod r = 1 := Int.eq_of_mul_eq_mul_left (by omega) e2
      have p1 := pow_pos' (show 1 ≤ n by omega) j
      have hpr : prod r = 1 := by
        have := Int.mul_le_mul_of_nonneg_right p1 (show 0 ≤ prod r by omega)
        omega
      have j0 : j = 0 := by
        refine Classical.byContradiction fun hc => ?_
        have := two_le_pow hp.1 (show 1 ≤ j by omega)
        rw [hpr] at e3
        omega
      have r0 : r = [] := by
        have g := prod_ge (l := r) fun x hx => ok.pr x (List.mem_cons_of_mem _ hx)
        rw [hpr] at g
        cases r with
        | nil => rfl
        | cons y z =>
          rw [List.length_cons, Int.pow_succ] at g
          have := pow_pos' (show (1 : Int) ≤ 2 by decide) z.length
          omega
      have q1 : q.2 = 1 := by omega
      rw [r0]
      obtain ⟨a, b⟩ := q
      simp only at qn q1
      rw [qn, q1]
structure LtInv (n : Int) (l : List (Int × Int)) (left t : Int) : Prop where
  l1 : 1 ≤ left
  t2 : 2 ≤ t
  eq : n = prod l * left
  lo : ∀ d, 2 ≤ d → d < t → left % d ≠ 0
  ok : PartsOk l
  le : ∀ q ∈ l, q.1 < t
  tb : 1 < left → t ≤ left
noncomputable def tryB (n : Nat) : Nat → Nat → Bool
  | 0, _ => true
  | k + 1, d => decide (n % d ≠ 0) && tryB n k (d + 1)
theorem tryB_ok {n : Nat} : ∀ (k d : Nat), tryB n k d = true → ∀ e, d ≤ e → e < d + k → n % e ≠ 0
  | 0, d, _, e, h1, h2 => by omega
  | k + 1, d, h, e, h1, h2 => by
    simp only [tryB, Bool.and_eq_true, decide_eq_true_eq] at h
    by_cases q : e = d
    · rw [q]; exact h.1
    · exact tryB_ok k (d + 1) h.2 e (by omega) (by omega)
theorem pr_try {n k : Nat} (h2 : 2 ≤ n) (hk : n < (k + 2) * (k + 2)) (h : tryB n k 2 = true) : IsPr n := by
  refine ⟨by omega, fun d d2 dd => ?_⟩
  obtain ⟨e, rfl⟩ := Int.eq_ofNat_of_zero_le (show 0 ≤ d by omega)
  have he : e < 2 + k := by
    refine Classical.byContradiction fun hc => ?_
    have : (k + 2) * (k + 2) ≤ e * e := Nat.mul_le_mul (by omega) (by omega)
    have : e * e ≤ n := by exact_mod_cast dd
    omega
  have := tryB_ok k 2 h e (by omega) he
  intro z
  apply this
  have z' : ((n % e : Nat) : Int) = 0 := by rw [Int.natCast_emod]; exact z
  omega
end MM
set_option linter.all false
set_option maxHeartbeats 4000000
namespace MM
theorem mul_pow' (a b : Int) (k : Nat) : (a * b) ^ k = a ^ k * b ^ k := by
  induction k with
  | zero => simp
  | succ k ih => rw [Int.pow_succ, Int.pow_succ, Int.pow_succ, ih]; grind
theorem pow_pow' (a : Int) (x y : Nat) : (a ^ x) ^ y = (a ^ y) ^ x := by
  rw [← Int.pow_mul, ← Int.pow_mul, Nat.mul_comm]
theorem m1 {a x y n : Int} (hx : 0 ≤ x) (hy : 0 ≤ y) : a ^ x.toNat % n * (a ^ y.toNat % n) % n = a ^ (x + y).toNat % n := by
  have e : (x + y).toNat = x.toNat + y.toNat := by omega
  rw [e, Int.pow_add]
  exact cg_eq ((cg_mod n _).mul (cg_mod n _))
theorem m2 (a b : Int) (x : Nat) (n : Int) : (a * b) ^ x % n = a ^ x % n * (b ^ x % n) % n := by
  rw [mul_pow']
  exact cg_eq ((cg_mod n _).mul (cg_mod n _)).symm
theorem m3 (a : Int) (x y : Nat) (n : Int) : (a ^ x % n) ^ y % n = (a ^ y % n) ^ x % n := by
  have h1 := (cg_mod n (a ^ x)).pow y
  have h2 := (cg_mod n (a ^ y)).pow x
  rw [pow_pow'] at h1
  exact cg_eq (h1.trans h2.symm)
theorem parts_le {n : Int} {l : List (Int × Int)} (h : Parts n l) {q : Int × Int} (hq : q ∈ l) : q.1 ≤ n ∧ q.2 ≤ n := by
  obtain ⟨ok, e⟩ := h
  obtain ⟨a, b, rfl⟩ := List.append_of_mem hq
  have h1 := ok.pr q hq
  have pa := prod_pos (l := a) fun x hx => ok.pr x (List.mem_append_left _ hx)
  have pb := prod_pos (l := b) fun x hx => ok.pr x (List.mem_append_right _ (List.mem_cons_of_mem _ hx))
  rw [prod_append, prod] at e
  have q2 := h1.1.1
  have hp : q.1 ≤ q.1 ^ q.2.toNat ∧ q.2 ≤ q.1 ^ q.2.toNat := by
    obtain ⟨j, hj⟩ : ∃ j, q.2.toNat = j + 1 := ⟨q.2.toNat - 1, by omega⟩
    have hq2 : q.2 = ((j : Nat) : Int) + 1 := by omega
    rw [hj]
    have hj1 : ∀ j : Nat, ((j : Nat) : Int) + 1 ≤ q.1 ^ j := by
      intro j
      induction j with
      | zero => simp
      | succ j ih =>
        rw [Int.pow_succ]
        have := Int.mul_le_mul ih q2 (by decide) (Int.pow_nonneg (by omega))
        omega
    constructor
    · rw [Int.pow_succ]
      have := Int.mul_le_mul_of_nonneg_right (pow_pos' (show 1 ≤ q.1 by omega) j) (show 0 ≤ q.1 by omega)
      omega
    · have := hj1 (j + 1)
      omega
  have h2 : q.1 ^ q.2.toNat ≤ q.1 ^ q.2.toNat * prod b := by
    have := Int.mul_le_mul_of_nonneg_left pb (show 0 ≤ q.1 ^ q.2.toNat by omega)
    omega
  have h3 : q.1 ^ q.2.toNat * prod b ≤ prod a * (q.1 ^ q.2.toNat * prod b) := by
    have := Int.mul_le_mul_of_nonneg_right pa (show 0 ≤ q.1 ^ q.2.toNat * prod b by omega)
    omega
  omega
end MM
set_option linter.all false
set_option maxHeartbeats 4000000
namespace MM
theorem pr_int_euclid {p a b : Int} (h : IsPr p) (hd : p ∣ a * b) : p ∣ a ∨ p ∣ b := by
  have p2 := h.1
  obtain ⟨q, rfl⟩ := Int.eq_ofNat_of_zero_le (show 0 ≤ p by omega)
  have hd' : q ∣ a.natAbs * b.natAbs := by
    have := Int.natAbs_dvd_natAbs.mpr hd
    rwa [Int.natAbs_mul] at this
  by_cases ha : q ∣ a.natAbs
  · left; exact Int.natAbs_dvd_natAbs.mp ha
  · right; exact Int.natAbs_dvd_natAbs.mp (pr_euclid h hd' ha)
theorem pr_dvd_pow {p a : Int} (h : IsPr p) {k : Nat} (hd : p ∣ a ^ k) : p ∣ a := by
  induction k with
  | zero =>
    have := Int.le_of_dvd (by decide) (by simpa using hd : p ∣ 1)
    have := h.1
    omega
  | succ k ih =>
    rw [Int.pow_succ] at hd
    rcases pr_int_euclid h hd with z | z
    · exact ih z
    · exact z
theorem pr_dvd_pr {p q : Int} (hp : IsPr p) (hq : IsPr q) (hd : p ∣ q) : p = q := pr_dvd hq hp.1 hd
theorem pr_dvd_prod {p : Int} (h : IsPr p) : ∀ {l : List (Int × Int)}, (∀ q ∈ l, IsPr q.1 ∧ 1 ≤ q.2) → p ∣ prod l → ∃ q ∈ l, q.1 = p
  | [], _, hd => by
    have := Int.le_of_dvd (by decide) (by simpa [prod] using hd : p ∣ 1)
    have := h.1
    omega
  | q :: r, hl, hd => by
    rw [prod] at hd
    rcases pr_int_euclid h hd with z | z
    · exact ⟨q, List.mem_cons_self, (pr_dvd_pr h (hl q List.mem_cons_self).1 (pr_dvd_pow h z)).symm⟩
    · obtain ⟨x, hx, e⟩ := pr_dvd_prod h (fun x hx => hl x (List.mem_cons_of_mem _ hx)) z
      exact ⟨x, List.mem_cons_of_mem _ hx, e⟩
theorem pow_dvd_self {p : Int} {k : Int} (hk : 1 ≤ k) : p ∣ p ^ k.toNat := by
  obtain ⟨j, hj⟩ : ∃ j, k.toNat = j + 1 := ⟨k.toNat - 1, by omega⟩
  rw [hj, Int.pow_succ]
  exact Int.dvd_mul_left ..
theorem mem_dvd_prod {l : List (Int × Int)} (hl : ∀ q ∈ l, IsPr q.1 ∧ 1 ≤ q.2) {q : Int × Int} (hq : q ∈ l) : q.1 ∣ prod l := by
  induction l with
  | nil => cases hq
  | cons x r ih =>
    rw [prod]
    rcases List.mem_cons.mp hq with rfl | hq
    · exact Int.dvd_trans (pow_dvd_self (hl _ List.mem_cons_self).2) (Int.dvd_mul_right ..)
    · exact Int.dvd_trans (ih (fun x hx => hl x (List.mem_cons_of_mem _ hx)) hq) (Int.dvd_mul_left ..)
theorem PartsOk.tail {q : Int × Int} {r : List (Int × Int)} (h : PartsOk (q :: r)) : PartsOk r := ⟨fun x hx => h.pr x (List.mem_cons_of_mem _ hx), (List.pairwise_cons.mp h.up).2⟩
theorem PartsOk.head_not {q : Int × Int} {r : List (Int × Int)} (h : PartsOk (q :: r)) : ¬ q.1 ∣ prod r := fun hd => by
  obtain ⟨x, hx, e⟩ := pr_dvd_prod (h.pr q List.mem_cons_self).1 h.tail.pr hd
  have := (List.pairwise_cons.mp h.up).1 x hx
  omega
theorem parts_unique : ∀ {l m : List (Int × Int)}, PartsOk l → PartsOk m → prod l = prod m → l = m
  | [], [], _, _, _ => rfl
  | [], q :: r, _, hm, e => by
    have := mem_dvd_prod hm.pr (q := q) List.mem_cons_self
    rw [← e] at this
    have := Int.le_of_dvd (by decide) (by simpa [prod] using this : q.1 ∣ 1)
    have := (hm.pr q List.mem_cons_self).1.1
    omega
  | q :: r, [], hl, _, e => by
    have := mem_dvd_prod hl.pr (q := q) List.mem_cons_self
    rw [e] at this
    have := Int.le_of_dvd (by decide) (by simpa [prod] using this : q.1 ∣ 1)
    have := (hl.pr q List.mem_cons_self).1.1
    omega
  | q :: r, x :: y, hl, hm, e => by
    have hq := hl.pr q List.mem_cons_self
    have hx := hm.pr x List.mem_cons_self
    have le1 : x.1 ≤ q.1 := by
      obtain ⟨z, hz, ez⟩ := pr_dvd_prod hq.1 hm.pr (e ▸ mem_dvd_prod hl.pr List.mem_cons_self)
      rcases List.mem_cons.mp hz with rfl | hz
      · omega
      · have := (List.pairwise_cons.mp hm.up).1 z hz
        omega
    have le2 : q.1 ≤ x.1 := by
      obtain ⟨z, hz, ez⟩ := pr_dvd_prod hx.1 hl.pr (e ▸ mem_dvd_prod hm.pr List.mem_cons_self)
      rcases List.mem_cons.mp hz with rfl | hz
      · omega
      · have := (List.pairwise_cons.mp hl.up).1 z hz
        omega
    have e1 : q.1 = x.1 := by omega
    have q2 := hq.1.1
    have n1 := hl.head_not
    have n2 := hm.head_not
    rw [prod, prod, ← e1] at e
    rw [← e1] at n2
    have key : ∀ (a b : Nat) (u v : Int), ¬ q.1 ∣ u → a ≤ b → q.1 ^ a * u = q.1 ^ b * v → a = b ∧ u = v := fun a b u v nu hab hh => by
      obtain ⟨c, rfl⟩ : ∃ c, b = a + c := ⟨b - a, by omega⟩
      rw [Int.pow_add, Int.mul_assoc] at hh
      have pz : q.1 ^ a ≠ 0 := by
        have := pow_pos' (show 1 ≤ q.1 by omega) a
        omega
      have hh := Int.eq_of_mul_eq_mul_left pz hh
      cases c with
      | zero => simpa using hh
      | succ c =>
        exfalso
        apply nu
        rw [hh, Int.pow_succ]
        exact ⟨q.1 ^ c * v, by grind⟩
    have both : q.2.toNat = x.2.toNat ∧ prod r = prod y := by
      rcases Nat.le_total q.2.toNat x.2.toNat with hh | hh
      · exact key _ _ _ _ n1 hh e
      · obtain ⟨a, b⟩ := key _ _ _ _ n2 hh e.symm
        exact ⟨a.symm, b.symm⟩
    have e2 : q.2 = x.2 := by
      have := hq.2; have := hx.2; omega
    rw [parts_unique hl.tail hm.tail both.2]
    obtain ⟨a, b⟩ := q
    obtain ⟨c, d⟩ := x
    simp only at e1 e2
    rw [e1, e2]
theorem Parts.unique {n : Int} {l m : List (Int × Int)} (h : Parts n l) (g : Parts n m) : l = m := parts_unique h.1 g.1 (h.2.trans g.2.symm)
noncomputable def tot : List (Int × Int) → Int
  | [] => 1
  | q :: r => (q.1 - 1) * tot r
noncomputable def red : List (Int × Int) → Int
  | [] => 1
  | q :: r => q.1 ^ (q.2.toNat - 1) * red r
theorem tot_append (l r : List (Int × Int)) : tot (l ++ r) = tot l * tot r := by
  induction l with
  | nil => simp [tot]
  | cons q l ih => rw [List.cons_append, tot, tot, ih, Int.mul_assoc]
theorem red_append (l r : List (Int × Int)) : red (l ++ r) = red l * red r := by
  induction l with
  | nil => simp [red]
  | cons q l ih => rw [List.cons_append, red, red, ih, Int.mul_assoc]
noncomputable def phi (l : List (Int × Int)) : Int := tot l * red l
theorem tot_take {l : List (Int × Int)} {i : Nat} {q : Int × Int} (h : l[i]? = some q) : tot (l.take (i + 1)) = tot (l.take i) * (q.1 - 1) := by
  rw [List.take_succ, h, tot_append]
  simp [tot]
theorem red_take {l : List (Int × Int)} {i : Nat} {q : Int × Int} (h : l[i]? = some q) : red (l.take (i + 1)) = red (l.take i) * q.1 ^ (q.2.toNat - 1) := by
  rw [List.take_succ, h, red_append]
  simp [red]
theorem prod_drop {l : List (Int × Int)} {i : Nat} {q : Int × Int} (h : l[i]? = some q) : prod (l.drop i) = q.1 ^ q.2.toNat * prod (l.drop (i + 1)) := by
  obtain ⟨hi, rfl⟩ := List.getElem?_eq_some_iff.mp h
  rw [List.drop_eq_getElem_cons hi, prod]
theorem pow_pred {p k : Int} (hk : 1 ≤ k) : p ^ k.toNat = p * p ^ (k.toNat - 1) := by
  obtain ⟨j, hj⟩ : ∃ j, k.toNat = j + 1 := ⟨k.toNat - 1, by omega⟩
  rw [hj, Int.pow_succ, Nat.add_sub_cancel, Int.mul_comm]
theorem left_turn {l : List (Int × Int)} {i : Nat} {q : Int × Int} (h : l[i]? = some q) (h2 : 2 ≤ q.1) (hk : 1 ≤ q.2) : red (l.take i) * prod (l.drop i) / q.1 = red (l.take (i + 1)) * prod (l.drop (i + 1)) := by
  rw [prod_drop h, red_take h, pow_pred hk]
  rw [show red (l.take i) * (q.1 * q.1 ^ (q.2.toNat - 1) * prod (l.drop (i + 1))) = q.1 * (red (l.take i) * q.1 ^ (q.2.toNat - 1) * prod (l.drop (i + 1))) by grind]
  rw [Int.mul_ediv_cancel_left _ (by omega)]
theorem tot_red_bound {l : List (Int × Int)} (hl : ∀ q ∈ l, IsPr q.1 ∧ 1 ≤ q.2) : 1 ≤ tot l ∧ 1 ≤ red l ∧ tot l * red l ≤ prod l := by
  induction l with
  | nil => simp [tot, red, prod]
  | cons q r ih =>
    obtain ⟨a, b, c⟩ := ih fun x hx => hl x (List.mem_cons_of_mem _ hx)
    have hq := hl q List.mem_cons_self
    have q2 := hq.1.1
    have pw := pow_pos' (show 1 ≤ q.1 by omega) (q.2.toNat - 1)
    rw [tot, red, prod, pow_pred hq.2]
    have t1 : 1 ≤ (q.1 - 1) * tot r := by
      have := Int.mul_le_mul (show (1 : Int) ≤ q.1 - 1 by omega) a (by omega) (by omega)
      omega
    have t2 : 1 ≤ q.1 ^ (q.2.toNat - 1) * red r := by
      have := Int.mul_le_mul pw b (by omega) (by omega)
      omega
    refine ⟨t1, t2, ?_⟩
    have s1 : (q.1 - 1) * tot r * (q.1 ^ (q.2.toNat - 1) * red r) = ((q.1 - 1) * q.1 ^ (q.2.toNat - 1)) * (tot r * red r) := by grind
    rw [s1]
    refine Int.mul_le_mul (Int.mul_le_mul_of_nonneg_right (by omega) (by omega)) c ?_ ?_
    · have := Int.mul_nonneg (show 0 ≤ tot r by omega) (show 0 ≤ red r by omega)
      omega
    · exact Int.mul_nonneg (by omega) (by omega)
theorem phi_bound {n : Int} {l : List (Int × Int)} (h : Parts n l) : 1 ≤ phi l ∧ phi l ≤ n := by
  obtain ⟨a, b, c⟩ := tot_red_bound h.1.pr
  have := Int.mul_le_mul a b (by omega) (by omega)
  unfold phi
  rw [← h.2]
  omega
noncomputable def geo (x : Int) : Nat → Int
  | 0 => 0
  | n + 1 => geo x n + x ^ n
theorem geo_mul (x : Int) (n : Nat) : (x - 1) * geo x n = x ^ n - 1 := by
  induction n with
  | zero => simp [geo]
  | succ n ih => rw [geo, Int.mul_add, ih, Int.pow_succ]; grind
theorem geo_cg {m x : Int} (h : Cg m x 1) (n : Nat) : Cg m (geo x n) n := by
  induction n with
  | zero => exact Cg.refl _ _
  | succ n ih =>
    rw [geo]
    have h1 := h.pow n
    rw [Int.one_pow] at h1
    have := ih.add h1
    rwa [show ((n + 1 : Nat) : Int) = (n : Int) + 1 by omega]
theorem lift_pr {p x : Int} (hp : 2 ≤ p) {j : Nat} (h1 : Cg p x 1) (h : Cg (p ^ j) x 1) : Cg (p ^ (j + 1)) (x ^ p.toNat) 1 := by
  have g := geo_cg h1 p.toNat
  have e : ((p.toNat : Nat) : Int) = p := by omega
  rw [e] at g
  obtain ⟨u, hu⟩ := g
  obtain ⟨v, hv⟩ := h
  refine ⟨v * (u + 1), ?_⟩
  rw [← geo_mul, hv, Int.pow_succ]
  have : geo x p.toNat = p * (u + 1) := by grind
  rw [this]
  grind
theorem fermat1 {p a : Int} (h : IsPr p) (ha : ¬ p ∣ a) : Cg p (a ^ (p - 1).toNat) 1 := by
  have f := fermat h a
  have p2 := h.1
  obtain ⟨j, hj⟩ : ∃ j, p.toNat = j + 1 := ⟨p.toNat - 1, by omega⟩
  have e : (p - 1).toNat = j := by omega
  rw [hj, Int.pow_succ] at f
  rw [e]
  have f' : p ∣ a * (a ^ j - 1) := by
    have e2 : a * (a ^ j - 1) = a ^ j * a - a := by grind
    rw [e2]; exact f
  rcases pr_int_euclid h f' with z | z
  · exact absurd z ha
  · exact z
theorem euler_pp {p a : Int} (h : IsPr p) (ha : ¬ p ∣ a) : ∀ k : Nat, Cg (p ^ (k + 1)) (a ^ ((p - 1).toNat * p.toNat ^ k)) 1 ∧ Cg p (a ^ ((p - 1).toNat * p.toNat ^ k)) 1
  | 0 => by
    have := fermat1 h ha
    simp only [Nat.pow_zero, Nat.mul_one, Nat.zero_add]
    rw [show p ^ 1 = p by rw [Int.pow_succ, Int.pow_zero, Int.one_mul]]
    exact ⟨this, this⟩
  | k + 1 => by
    obtain ⟨i1, i2⟩ := euler_pp h ha k
    rw [Nat.pow_succ, ← Nat.mul_assoc, Int.pow_mul]
    refine ⟨lift_pr h.1 i2 i1, ?_⟩
    have := i2.pow p.toNat
    rwa [Int.one_pow] at this
theorem cg_pow_dvd {n a : Int} {e f : Nat} (h : Cg n (a ^ e) 1) (hd : e ∣ f) : Cg n (a ^ f) 1 := by
  obtain ⟨c, rfl⟩ := hd
  rw [Int.pow_mul]
  have := h.pow c
  rwa [Int.one_pow] at this
theorem toNat_pow {p : Int} (h : 0 ≤ p) (k : Nat) : (p ^ k).toNat = p.toNat ^ k := by
  obtain ⟨q, rfl⟩ := Int.eq_ofNat_of_zero_le h
  rw [← Int.natCast_pow]
  rfl
theorem phi_part {l : List (Int × Int)} (hl : ∀ q ∈ l, IsPr q.1 ∧ 1 ≤ q.2) {q : Int × Int} (hq : q ∈ l) : (q.1 - 1) * q.1 ^ (q.2.toNat - 1) ∣ phi l := by
  obtain ⟨a, b, rfl⟩ := List.append_of_mem hq
  refine ⟨tot a * tot b * (red a * red b), ?_⟩
  rw [phi, tot_append, red_append, tot, red]
  grind
theorem prod_dvd : ∀ {l : List (Int × Int)} {y : Int}, PartsOk l → (∀ q ∈ l, q.1 ^ q.2.toNat ∣ y) → prod l ∣ y
  | [], y, _, _ => by simp [prod]
  | q :: r, y, h, hy => by
    have h1 := hy q List.mem_cons_self
    have h2 := prod_dvd h.tail fun x hx => hy x (List.mem_cons_of_mem _ hx)
    have nd := h.head_not
    have hp := (h.pr q List.mem_cons_self).1
    have p2 := hp.1
    rw [prod]
    refine Int.natAbs_dvd_natAbs.mp ?_
    rw [Int.natAbs_mul]
    refine Nat.Coprime.mul_dvd_of_dvd_of_dvd ?_ (Int.natAbs_dvd_natAbs.mpr h1) (Int.natAbs_dvd_natAbs.mpr h2)
    rw [Int.natAbs_pow]
    refine Nat.Coprime.pow_left _ ?_
    obtain ⟨m, hm⟩ := Int.eq_ofNat_of_zero_le (show 0 ≤ q.1 by omega)
    rw [hm] at hp nd ⊢
    exact pr_coprime hp fun z => nd (Int.natAbs_dvd_natAbs.mp z)
theorem euler {n a : Int} {l : List (Int × Int)} (h : Parts n l) (hg : Int.gcd a n = 1) : Cg n (a ^ (phi l).toNat) 1 := by
  show n ∣ _
  rw [← h.2]
  refine prod_dvd h.1 fun q hq => ?_
  have hp := h.1.pr q hq
  have p2 := hp.1.1
  have na : ¬ q.1 ∣ a := fun hd => by
    have d2 : q.1 ∣ n := by rw [← h.2]; exact mem_dvd_prod h.1.pr hq
    have := Int.dvd_coe_gcd hd d2
    rw [hg] at this
    have := Int.le_of_dvd (by decide) this
    omega
  have e := (euler_pp hp.1 na (q.2.toNat - 1)).1
  rw [show q.2.toNat - 1 + 1 = q.2.toNat by have := hp.2; omega] at e
  refine cg_pow_dvd e ?_
  have d := phi_part h.1.pr hq
  have b := phi_bound h
  have pw := pow_pos' (show 1 ≤ q.1 by omega) (q.2.toNat - 1)
  have d' := Int.natAbs_dvd_natAbs.mpr d
  have e1 : ((q.1 - 1) * q.1 ^ (q.2.toNat - 1)).natAbs = (q.1 - 1).toNat * q.1.toNat ^ (q.2.toNat - 1) := by
    rw [Int.natAbs_mul, Int.natAbs_pow]
    rw [show (q.1 - 1).natAbs = (q.1 - 1).toNat by omega, show q.1.natAbs = q.1.toNat by omega]
  rw [e1, show (phi l).natAbs = (phi l).toNat by omega] at d'
  exact d'
structure Ord (a n o : Int) : Prop where
  pos : 1 ≤ o
  cg : Cg n (a ^ o.toNat) 1
  least : ∀ e, 1 ≤ e → e < o → ¬ Cg n (a ^ e.toNat) 1
theorem Ord.unique {a n o p : Int} (h : Ord a n o) (g : Ord a n p) : o = p := by
  rcases Int.lt_trichotomy o p with z | z | z
  · exact absurd h.cg (g.least o h.pos z)
  · exact z
  · exact absurd g.cg (h.least p g.pos z)
theorem has_least {Pr : Nat → Prop} : ∀ n, Pr n → ∃ d, Pr d ∧ d ≤ n ∧ ∀ e, e < d → ¬ Pr e := by
  intro n
  induction n using Nat.strongRecOn with
  | _ n ih =>
    intro h
    by_cases q : ∃ m, m < n ∧ Pr m
    · obtain ⟨m, hm, pm⟩ := q
      obtain ⟨d, h1, h2, h3⟩ := ih m hm pm
      exact ⟨d, h1, by omega, h3⟩
    · exact ⟨n, h, Nat.le_refl _, fun e he z => q ⟨e, he, z⟩⟩
theorem has_prime {m : Int} (hm : 2 ≤ m) : ∃ p, IsPr p ∧ p ∣ m := by
  obtain ⟨d, ⟨d2, dd⟩, _, dl⟩ := has_least (Pr := fun d => 2 ≤ d ∧ (d : Int) ∣ m) m.toNat ⟨by omega, by rw [show ((m.toNat : Nat) : Int) = m by omega]; exact Int.dvd_refl _⟩
  refine ⟨d, ⟨by omega, fun e e2 ee z => ?_⟩, dd⟩
  obtain ⟨f, rfl⟩ := Int.eq_ofNat_of_zero_le (show 0 ≤ e by omega)
  have lt : f < d := by
    have : f * f ≤ d := by exact_mod_cast ee
    have : 2 * f ≤ f * f := Nat.mul_le_mul_right f (by omega)
    omega
  exact dl f lt ⟨by omega, Int.dvd_trans (Int.dvd_of_emod_eq_zero z) dd⟩
theorem ord_of {a n o : Int} (ho : 1 ≤ o) (hc : Cg n (a ^ o.toNat) 1) (hq : ∀ q, IsPr q → q ∣ o → ¬ Cg n (a ^ (o / q).toNat) 1) : Ord a n o := by
  refine ⟨ho, hc, ?_⟩
  obtain ⟨d, ⟨d1, dc⟩, dle, dl⟩ := has_least (Pr := fun d => 1 ≤ d ∧ Cg n (a ^ d) 1) o.toNat ⟨by omega, hc⟩
  have dd : d ∣ o.toNat := by
    by_cases z : o.toNat % d = 0
    · exact Nat.dvd_of_mod_eq_zero z
    · exfalso
      have lt : o.toNat % d < d := Nat.mod_lt _ (by omega)
      refine dl _ lt ⟨by omega, ?_⟩
      have e : o.toNat = d * (o.toNat / d) + o.toNat % d := (Nat.div_add_mod _ _).symm
      rw [e, Int.pow_add, Int.pow_mul] at hc
      have h1 := dc.pow (o.toNat / d)
      rw [Int.one_pow] at h1
      have h2 := h1.mul (Cg.refl n (a ^ (o.toNat % d)))
      rw [Int.one_mul] at h2
      exact h2.symm.trans hc
  obtain ⟨m, hm⟩ := dd
  have m1 : 1 ≤ m := by
    cases m with
    | zero => simp at hm; omega
    | succ m => omega
  by_cases m2 : m = 1
  · intro e e1 e2
    refine fun z => dl e.toNat ?_ ⟨by omega, z⟩
    rw [m2] at hm
    omega
  · exfalso
    obtain ⟨p, hp, hpm⟩ := has_prime (show (2 : Int) ≤ (m : Nat) by omega)
    have p2 := hp.1
    obtain ⟨c, hc'⟩ := hpm
    have eo : o = p * (d * c) := by
      have : (o : Int) = ((d * m : Nat) : Int) := by omega
      rw [this, Int.natCast_mul, hc']; grind
    refine hq p hp ⟨d * c, eo⟩ ?_
    rw [eo, Int.mul_ediv_cancel_left _ (by omega)]
    have c0 : 0 ≤ c := by
      refine Classical.byContradiction fun z => ?_
      have := Int.mul_le_mul_of_nonneg_left (show c ≤ -1 by omega) (show 0 ≤ p by omega)
      omega
    refine cg_pow_dvd dc ?_
    obtain ⟨c', rfl⟩ := Int.eq_ofNat_of_zero_le c0
    rw [← Int.natCast_mul]
    exact ⟨c', rfl⟩
structure OrdInv (a n F o : Int) (done : List (Int × Int)) : Prop where
  pos : 1 ≤ o
  dvd : o ∣ F
  cg : Cg n (a ^ o.toNat) 1
  no : ∀ q ∈ done, q.1 ∣ o → ¬ Cg n (a ^ (o / q.1).toNat) 1
theorem ord_start {a n : Int} {l : List (Int × Int)} (h : Parts n l) (hg : Int.gcd a n = 1) : OrdInv a n (phi l) (phi l) [] :=
  ⟨(phi_bound h).1, Int.dvd_refl _, euler h hg, fun _ z => by cases z⟩
theorem div_pos {o p : Int} (ho : 1 ≤ o) (hp : 2 ≤ p) (hd : o % p = 0) : 1 ≤ o / p ∧ o / p < o ∧ o = p * (o / p) := by
  have e : o = p * (o / p) := by have := Int.emod_add_mul_ediv o p; omega
  have h1 : 1 ≤ o / p := by
    refine Classical.byContradiction fun z => ?_
    have := Int.mul_le_mul_of_nonneg_left (show o / p ≤ 0 by omega) (show 0 ≤ p by omega)
    omega
  refine ⟨h1, ?_, e⟩
  have := Int.mul_le_mul_of_nonneg_right hp (show 0 ≤ o / p by omega)
  omega
theorem ord_turn {a n F o : Int} {done : List (Int × Int)} {p : Int} (hd2 : ∀ q ∈ done, 2 ≤ q.1) (h : OrdInv a n F o done) (hp : 2 ≤ p) (hd : o % p = 0) (hc : Cg n (a ^ (o / p).toNat) 1) : OrdInv a n F (o / p) done ∧ o / p < o := by
  obtain ⟨p1, p3, p4⟩ := div_pos h.pos hp hd
  refine ⟨⟨p1, Int.dvd_trans ⟨p, by grind⟩ h.dvd, hc, fun q hq qd z => ?_⟩, p3⟩
  have q2 := hd2 q hq
  obtain ⟨c, hc'⟩ := qd
  have eo : o = q.1 * (p * c) := by rw [p4, hc']; grind
  refine h.no q hq ⟨p * c, eo⟩ ?_
  rw [eo, Int.mul_ediv_cancel_left _ (by omega)]
  rw [hc', Int.mul_ediv_cancel_left _ (by omega)] at z
  refine cg_pow_dvd z ?_
  have c0 : 0 ≤ c := by
    refine Classical.byContradiction fun w => ?_
    have := Int.mul_le_mul_of_nonneg_left (show c ≤ -1 by omega) (show 0 ≤ q.1 by omega)
    omega
  rw [Int.toNat_mul (by omega) c0]
  exact Nat.dvd_mul_left ..
theorem ord_next {a n F o : Int} {done : List (Int × Int)} {q : Int × Int} (h : OrdInv a n F o done) (hn : ¬ (o % q.1 = 0 ∧ Cg n (a ^ (o / q.1).toNat) 1)) : OrdInv a n F o (done ++ [q]) :=
  ⟨h.pos, h.dvd, h.cg, fun x hx xd => by
    rcases List.mem_append.mp hx with hx | hx
    · exact h.no x hx xd
    · rw [List.mem_singleton.mp hx] at xd ⊢
      exact fun z => hn ⟨Int.emod_eq_zero_of_dvd xd, z⟩⟩
theorem ord_end {a n F o : Int} {done : List (Int × Int)} (hF : Parts F done) (h : OrdInv a n F o done) : Ord a n o := by
  refine ord_of h.pos h.cg fun q hq qd => ?_
  obtain ⟨x, hx, rfl⟩ := pr_dvd_prod hq hF.1.pr (by rw [hF.2]; exact Int.dvd_trans qd h.dvd)
  exact h.no x hx qd
theorem cg_one {n x : Int} : x % n = 1 % n ↔ Cg n x 1 := ⟨cg_of, cg_eq⟩
theorem Ord.no_prime {a n o : Int} (h : Ord a n o) {q : Int} (hq : 2 ≤ q) (hd : q ∣ o) : ¬ Cg n (a ^ (o / q).toNat) 1 := by
  obtain ⟨p1, p2, p3⟩ := div_pos h.pos hq (Int.emod_eq_zero_of_dvd hd)
  exact h.least _ p1 p2
end MM
set_option linter.all false
set_option maxHeartbeats 4000000
set_option maxRecDepth 100000
namespace MM
noncomputable def cnt (n : Nat) : Nat → Nat
  | 0 => 0
  | k + 1 => if Nat.gcd (k + 1) n = 1 then cnt n k + 1 else cnt n k
noncomputable def mult (t : Nat) : Nat → Nat → Nat × Nat
  | 0, left => (left, 0)
  | f + 1, left => if left % t = 0 then ((mult t f (left / t)).1, (mult t f (left / t)).2 + 1) else (left, 0)
noncomputable def fac : Nat → Nat → Nat → List (Nat × Nat)
  | 0, _, _ => []
  | f + 1, left, t => if left ≤ 1 then [] else if left < t * t then [(left, 1)] else if left % t = 0 then (t, (mult t 9 left).2) :: fac f (mult t 9 left).1 (t + 1) else fac f left (t + 1)
noncomputable def prodN : List (Nat × Nat) → Nat
  | [] => 1
  | q :: r => q.1 ^ q.2 * prodN r
noncomputable def phiN : List (Nat × Nat) → Nat
  | [] => 1
  | q :: r => (q.1 - 1) * q.1 ^ (q.2 - 1) * phiN r
noncomputable def upN : Nat → List (Nat × Nat) → Bool
  | _, [] => true
  | a, q :: r => decide (a < q.1) && decide (1 ≤ q.2) && decide (2 ≤ q.1) && decide (q.1 < 441) && tryB q.1 (min 19 (q.1 - 2)) 2 && upN q.1 r
noncomputable def okN (n : Nat) : Bool := upN 1 (fac 21 n 2) && decide (prodN (fac 21 n 2) = n) && decide (phiN (fac 21 n 2) = cnt n n)
noncomputable def allN : Nat → Bool
  | 0 => true
  | n + 1 => okN (n + 1) && allN n
noncomputable def cst (l : List (Nat × Nat)) : List (Int × Int) := l.map fun q => ((q.1 : Int), (q.2 : Int))
end MM
set_option linter.all false
set_option maxHeartbeats 4000000
set_option maxRecDepth 100000
namespace MM
namespace K
noncomputable def mult (t : Nat) : Nat → Nat → Nat × Nat
  | 0, left => (left, 0)
  | f + 1, left => if left % t = 0 then ((mult t f (left / t)).1, (mult t f (left / t)).2 + 1) else (left, 0)
noncomputable def fac : Nat → Nat → Nat → List (Nat × Nat)
  | 0, _, _ => []
  | f + 1, left, t => if left ≤ 1 then [] else if left < t * t then [(left, 1)] else if left % t = 0 then (t, (mult t 10 left).2) :: fac f (mult t 10 left).1 (t + 1) else fac f left (t + 1)
noncomputable def prodN : List (Nat × Nat) → Nat
  | [] => 1
  | q :: r => q.1 ^ q.2 * prodN r
noncomputable def phiN : List (Nat × Nat) → Nat
  | [] => 1
  | q :: r => (q.1 - 1) * q.1 ^ (q.2 - 1) * phiN r
noncomputable def upN : Nat → List (Nat × Nat) → Bool
  | _, [] => true
  | a, q :: r => decide (a < q.1) && decide (1 ≤ q.2) && decide (2 ≤ q.1) && decide (q.1 < 1024) && tryB q.1 (min 30 (q.1 - 2)) 2 && upN q.1 r
noncomputable def okN (n : Nat) : Bool := upN 1 (fac 32 n 2) && decide (prodN (fac 32 n 2) = n) && decide (phiN (fac 32 n 2) = cnt n n)
noncomputable def allN : Nat → Bool
  | 0 => true
  | n + 1 => okN (n + 1) && allN n
noncomputable def cst (l : List (Nat × Nat)) : List (Int × Int) := l.map fun q => ((q.1 : Int), (q.2 : Int))
end K
end MM
set_option linter.all false
set_option maxHeartbeats 4000000
namespace MM
theorem div_all {r : Int} (hr : 2 ≤ r) : ∀ (m : Nat) (l0 left o : Int), left.toNat = m → DivInv l0 r left o → ∃ left' o', DivInv l0 r left' o' ∧ left' % r ≠ 0 := by
  intro m
  induction m using Nat.strongRecOn with
  | _ m ih =>
    intro l0 left o e h
    by_cases hd : left % r = 0
    · obtain ⟨h2, lt⟩ := div_turn hr h hd
      have := h2.l1
      exact ih _ (by omega) l0 _ _ rfl h2
    · exact ⟨left, o, h, hd⟩
theorem least_div {n : Int} (hn : 2 ≤ n) : ∃ p, IsPr p ∧ n % p = 0 ∧ ∀ d, 2 ≤ d → d < p → n % d ≠ 0 := by
  obtain ⟨d, ⟨d2, dd⟩, _, dl⟩ := has_least (Pr := fun d => 2 ≤ d ∧ (d : Int) ∣ n) n.toNat ⟨by omega, by rw [show ((n.toNat : Nat) : Int) = n by omega]; exact Int.dvd_refl _⟩
  have lo : ∀ e : Int, 2 ≤ e → e < d → n % e ≠ 0 := fun e e2 ed z => by
    obtain ⟨f, rfl⟩ := Int.eq_ofNat_of_zero_le (show 0 ≤ e by omega)
    exact dl f (by omega) ⟨by omega, Int.dvd_of_emod_eq_zero z⟩
  refine ⟨d, ⟨by omega, fun e e2 ee z => ?_⟩, Int.emod_eq_zero_of_dvd dd, lo⟩
  have lt : e < d := by
    have := Int.mul_le_mul_of_nonneg_right e2 (show 0 ≤ e by omega)
    omega
  exact lo e e2 lt (Int.emod_eq_zero_of_dvd (Int.dvd_trans (Int.dvd_of_emod_eq_zero z) dd))
theorem parts_go {n : Int} : ∀ (m : Nat) (l : List (Int × Int)) (left t : Int), left.toNat = m → PtInv n l left t → ∃ l', Parts n l' := by
  intro m
  induction m using Nat.strongRecOn with
  | _ m ih =>
    intro l left t e h
    by_cases h1 : 1 < left
    · obtain ⟨p, hp, pd, pl⟩ := least_div (show 2 ≤ left by omega)
      obtain ⟨left', o, D, hd⟩ := div_all hp.1 _ left left 0 rfl (div_start (by omega))
      have tp : t ≤ p := Classical.byContradiction fun z => h.lo p hp.1 (by omega) pd
      obtain ⟨I2, o1, lt⟩ := pt_turn h hp tp pd pl D hd
      have := I2.l1
      exact ih _ (by omega) _ _ _ rfl I2
    · exact ⟨l, pt_end h h1⟩
theorem parts_exist {n : Int} (h : 1 ≤ n) : ∃ l, Parts n l := parts_go _ [] n 2 rfl (pt_start h)
theorem ord_exists {a n : Int} (h : 1 ≤ n) (hg : Int.gcd a n = 1) : ∃ o, Ord a n o := by
  obtain ⟨l, hl⟩ := parts_exist h
  have b := phi_bound hl
  obtain ⟨d, ⟨d1, dc⟩, _, dl⟩ := has_least (Pr := fun d => 1 ≤ d ∧ Cg n (a ^ d) 1) (phi l).toNat ⟨by omega, euler hl hg⟩
  exact ⟨d, by omega, by rw [Int.toNat_natCast]; exact dc, fun e e1 e2 z => dl e.toNat (by omega) ⟨by omega, z⟩⟩
structure StepInv (a n o d pw : Int) : Prop where
  d1 : 1 ≤ d
  d2 : d ≤ o
  eq : pw = a ^ d.toNat % n
  no : ∀ e, 1 ≤ e → e < d → ¬ Cg n (a ^ e.toNat) 1
end MM
set_option linter.all false
set_option maxHeartbeats 4000000
namespace MM
noncomputable def mev : List Int → Int → Int
  | [], _ => 1
  | c :: t, x => c + x * mev t x
theorem mev_add (r : Int) : ∀ (t q : List Int), q.length < t.length → ∃ s : List Int, s.length = t.length ∧ ∀ x, mev s x = mev t x + r * mev q x
  | [], q, h => by simp at h
  | a :: t, [], _ => ⟨(a + r) :: t, rfl, fun x => by simp only [mev]; grind⟩
  | a :: t, b :: q, h => by
    obtain ⟨s, e, hs⟩ := mev_add r t q (by simpa using h)
    exact ⟨(a + r * b) :: s, by simp [e], fun x => by simp only [mev]; rw [hs]; grind⟩
theorem mev_div (r : Int) : ∀ (t : List Int) (c : Int), ∃ q : List Int, q.length = t.length ∧ ∀ x, mev (c :: t) x - mev (c :: t) r = (x - r) * mev q x
  | [], c => ⟨[], rfl, fun x => by simp only [mev]; grind⟩
  | b :: t, c => by
    obtain ⟨q, e, hq⟩ := mev_div r t b
    obtain ⟨s, e2, hs⟩ := mev_add r (b :: t) q (by rw [e]; simp)
    refine ⟨s, e2, fun x => ?_⟩
    rw [hs]
    have h1 := hq x
    have e3 : mev (c :: b :: t) x - mev (c :: b :: t) r = (x - r) * mev (b :: t) x + r * (mev (b :: t) x - mev (b :: t) r) := by
      rw [show mev (c :: b :: t) x = c + x * mev (b :: t) x from rfl, show mev (c :: b :: t) r = c + r * mev (b :: t) r from rfl]; grind
    rw [e3, h1]; grind
theorem roots_few {p : Int} (hp : IsPr p) : ∀ (n : Nat) (t : List Int), t.length = n → ∀ xs : List Int, (xs.Pairwise fun a b => ¬ Cg p a b) → (∀ x ∈ xs, Cg p (mev t x) 0) → xs.length ≤ n := by
  intro n
  induction n with
  | zero =>
    intro t ht xs _ h0
    cases t with
    | cons _ _ => simp at ht
    | nil =>
      cases xs with
      | nil => exact Nat.le_refl _
      | cons x xs =>
        have := h0 x List.mem_cons_self
        have : p ∣ 1 := by simpa [mev, Cg] using this
        have := Int.le_of_dvd (by decide) this
        have := hp.1
        omega
  | succ n ih =>
    intro t ht xs hd h0
    cases t with
    | nil => simp at ht
    | cons c t =>
      cases xs with
      | nil => exact Nat.zero_le _
      | cons r xs =>
        obtain ⟨q, e, hq⟩ := mev_div r t c
        have ht' : t.length = n := by simpa using ht
        rw [List.pairwise_cons] at hd
        have := ih q (by rw [e, ht']) xs hd.2 fun s hs => by
          have h1 := (h0 s (List.mem_cons_of_mem _ hs)).sub (h0 r List.mem_cons_self)
          rw [hq s] at h1
          have h2 : p ∣ (s - r) * mev q s := by simpa [Cg] using h1
          rcases pr_int_euclid hp h2 with z | z
          · exact absurd (Cg.symm z) (hd.1 s hs)
          · show p ∣ _; simpa using z
        simp only [List.length_cons]
        omega
theorem mev_rep (x : Int) : ∀ k : Nat, mev (List.replicate k 0) x = x ^ k
  | 0 => by simp [mev]
  | k + 1 => by rw [List.replicate_succ, mev, mev_rep x k, Int.pow_succ]; grind
theorem up_nodup {p : Int} : ∀ (m : Nat) (lo : Int), 0 ≤ lo → lo + m ≤ p → ((List.range m).map fun (i : Nat) => lo + (i : Int)).Pairwise fun a b => ¬ Cg p a b := by
  intro m lo h0 h1
  rw [List.pairwise_map]
  refine List.Pairwise.imp_of_mem (R := fun a b => a < b) ?_ List.pairwise_lt_range
  intro a b ha hb hab hc
  have hb' := List.mem_range.mp hb
  have : p ∣ (lo + (b : Int)) - (lo + a) := hc.symm
  have := Int.le_of_dvd (by omega) this
  omega
theorem not_all {p : Int} (hp : IsPr p) {d : Nat} (h1 : 1 ≤ d) (hd : (d : Int) < p - 1) : ∃ x, 1 ≤ x ∧ x < p ∧ ¬ Cg p (x ^ d) 1 := by
  refine Classical.byContradiction fun hc => ?_
  have all : ∀ x, 1 ≤ x → x < p → Cg p (x ^ d) 1 := fun x a b => Classical.byContradiction fun z => hc ⟨x, a, b, z⟩
  have p2 := hp.1
  obtain ⟨k, rfl⟩ : ∃ k, d = k + 1 := ⟨d - 1, by omega⟩
  have := roots_few hp (k + 1) ((-1) :: List.replicate k 0) (by simp) ((List.range (p - 1).toNat).map fun (i : Nat) => 1 + (i : Int)) (up_nodup _ _ (by decide) (by omega)) fun x hx => by
    obtain ⟨i, hi, rfl⟩ := List.mem_map.mp hx
    have hi := List.mem_range.mp hi
    have h := all (1 + (i : Int)) (by omega) (by omega)
    rw [mev, mev_rep]
    have := h.sub (Cg.refl p 1)
    rw [show (1 : Int) - 1 = 0 by decide] at this
    rw [Int.pow_succ] at this
    rwa [show -1 + (1 + (i : Int)) * (1 + (i : Int)) ^ k = (1 + (i : Int)) ^ k * (1 + (i : Int)) - 1 by grind]
  rw [List.length_map, List.length_range] at this
  omega
theorem Ord.dvd {a n o : Int} (h : Ord a n o) {e : Nat} (hc : Cg n (a ^ e) 1) : o.toNat ∣ e := by
  have op := h.pos
  by_cases z : e % o.toNat = 0
  · exact Nat.dvd_of_mod_eq_zero z
  · exfalso
    have lt : e % o.toNat < o.toNat := Nat.mod_lt _ (by omega)
    refine h.least (e % o.toNat : Nat) (by omega) (by omega) ?_
    rw [Int.toNat_natCast]
    have ee : e = o.toNat * (e / o.toNat) + e % o.toNat := (Nat.div_add_mod _ _).symm
    rw [ee, Int.pow_add, Int.pow_mul] at hc
    have h1 := h.cg.pow (e / o.toNat)
    rw [Int.one_pow] at h1
    have h2 := h1.mul (Cg.refl n (a ^ (e % o.toNat)))
    rw [Int.one_mul] at h2
    exact h2.symm.trans hc
theorem ord_mul {a b n : Int} {x y : Nat} (ha : Ord a n x) (hb : Ord b n y) (hg : Nat.Coprime x y) : Ord (a * b) n ((x * y : Nat) : Int) := by
  have x1 := ha.pos
  have y1 := hb.pos
  have ca := ha.cg
  have cb := hb.cg
  rw [Int.toNat_natCast] at ca cb
  have xy : 1 ≤ x * y := Nat.mul_pos (by omega) (by omega)
  have key : ∀ {a b : Int} {x y : Nat}, Ord a n x → Ord b n y → Nat.Coprime x y → ∀ q : Nat, 2 ≤ q → q ∣ x → ¬ Cg n ((a * b) ^ (x * y / q)) 1 := by
    intro a b x y ha hb hg q q2 qx z
    obtain ⟨c, rfl⟩ := qx
    have cb := hb.cg
    rw [Int.toNat_natCast] at cb
    have c1 : 1 ≤ c := by
      have := ha.pos
      cases c with
      | zero => simp at this
      | succ c => omega
    have e : q * c * y / q = c * y := by rw [Nat.mul_assoc, Nat.mul_div_cancel_left _ (by omega)]
    rw [e, mul_pow'] at z
    have h1 : Cg n (b ^ (c * y)) 1 := cg_pow_dvd cb ⟨c, Nat.mul_comm _ _⟩
    have h2 := (Cg.refl n (a ^ (c * y))).mul h1
    rw [Int.mul_one] at h2
    have h3 := h2.symm.trans z
    have d := ha.dvd h3
    rw [Int.toNat_natCast] at d
    have d2 : q * c ∣ c := hg.dvd_of_dvd_mul_right d
    have := Nat.le_of_dvd (by omega) d2
    have := Nat.mul_le_mul_right c q2
    omega
  refine ord_of (by omega) ?_ fun q hq qd => ?_
  · rw [Int.toNat_natCast, mul_pow']
    have h1 : Cg n (a ^ (x * y)) 1 := cg_pow_dvd ca ⟨y, rfl⟩
    have h2 : Cg n (b ^ (x * y)) 1 := cg_pow_dvd cb ⟨x, Nat.mul_comm _ _⟩
    have := h1.mul h2
    rwa [Int.one_mul] at this
  · have q2 := hq.1
    obtain ⟨r, rfl⟩ := Int.eq_ofNat_of_zero_le (show 0 ≤ q by omega)
    have qd' : r ∣ x * y := Int.natCast_dvd_natCast.mp qd
    rw [show ((x * y : Nat) : Int) / (r : Int) = ((x * y / r : Nat) : Int) from (Int.natCast_ediv _ _).symm, Int.toNat_natCast]
    by_cases hx : r ∣ x
    · exact key ha hb hg r (by omega) hx
    · have hy := pr_euclid hq qd' hx
      have := key hb ha hg.symm r (by omega) hy
      rwa [Int.mul_comm a b, Nat.mul_comm x y]
theorem ord_part {p : Int} (hp : IsPr p) {q : Int} {k : Nat} (hq : IsPr q) (hk : 1 ≤ k) (hd : q ^ k ∣ p - 1) : ∃ y, Ord y p (q ^ k) := by
  have p2 := hp.1
  have q2 := hq.1
  obtain ⟨m, hm⟩ := hd
  obtain ⟨j, rfl⟩ : ∃ j, k = j + 1 := ⟨k - 1, by omega⟩
  have m1 : 1 ≤ m := by
    refine Classical.byContradiction fun z => ?_
    have := pow_pos' (show 1 ≤ q by omega) (j + 1)
    have := Int.mul_le_mul_of_nonneg_left (show m ≤ 0 by omega) (show 0 ≤ q ^ (j + 1) by omega)
    omega
  have qj := pow_pos' (show 1 ≤ q by omega) j
  have em : q ^ (j + 1) * m = q * (q ^ j * m) := by rw [Int.pow_succ]; grind
  have d1 : 1 ≤ q ^ j * m := by
    have := Int.mul_le_mul qj m1 (by decide) (by omega)
    omega
  have d2 : q ^ j * m < p - 1 := by
    have := Int.mul_le_mul_of_nonneg_right q2 (show 0 ≤ q ^ j * m by omega)
    omega
  obtain ⟨x, x1, x2, hx⟩ := not_all hp (d := (q ^ j * m).toNat) (by omega) (by omega)
  have nx : ¬ p ∣ x := fun z => by have := Int.le_of_dvd (by omega) z; omega
  have f := fermat1 hp nx
  have qn : (q ^ (j + 1)).toNat = q.toNat ^ (j + 1) := toNat_pow (by omega) _
  have qn' : (q ^ j).toNat = q.toNat ^ j := toNat_pow (by omega) _
  refine ⟨x ^ m.toNat, ord_of (by have := pow_pos' (show 1 ≤ q by omega) (j + 1); omega) ?_ fun r hr rd => ?_⟩
  · rw [← Int.pow_mul]
    have e : m.toNat * (q ^ (j + 1)).toNat = (p - 1).toNat := by
      have := pow_pos' (show 1 ≤ q by omega) (j + 1)
      rw [hm, Int.toNat_mul (by omega) (by omega), Nat.mul_comm]
    rw [e]; exact f
  · have rq : r = q := pr_dvd_pr hr hq (pr_dvd_pow hr rd)
    subst rq
    rw [← Int.pow_mul]
    have e1 : r ^ (j + 1) / r = r ^ j := by rw [Int.pow_succ, Int.mul_ediv_cancel _ (by omega)]
    rw [e1]
    have e : m.toNat * (r ^ j).toNat = (r ^ j * m).toNat := by rw [Int.toNat_mul (by omega) (by omega), Nat.mul_comm]
    rw [e]; exact hx
theorem ord_parts {p : Int} (hp : IsPr p) : ∀ (l : List (Int × Int)), PartsOk l → prod l ∣ p - 1 → ∃ g, Ord g p (prod l)
  | [], _, _ => ⟨1, by decide, by rw [Int.one_pow]; exact Cg.refl _ _, fun e a b => by simp only [prod] at b; omega⟩
  | q :: l, h, hd => by
    have hq := h.pr q List.mem_cons_self
    have q2 := hq.1.1
    have d1 : q.1 ^ q.2.toNat ∣ p - 1 := Int.dvd_trans ⟨prod l, rfl⟩ hd
    have d2 : prod l ∣ p - 1 := Int.dvd_trans ⟨q.1 ^ q.2.toNat, by rw [prod, Int.mul_comm]⟩ hd
    obtain ⟨y, hy⟩ := ord_part hp hq.1 (by have := hq.2; omega) d1
    obtain ⟨g, hg⟩ := ord_parts hp l h.tail d2
    have e1 := pow_pos' (show 1 ≤ q.1 by omega) q.2.toNat
    have e2 := prod_pos h.tail.pr
    have nd := h.head_not
    obtain ⟨a, ha⟩ := Int.eq_ofNat_of_zero_le (show 0 ≤ q.1 ^ q.2.toNat by omega)
    obtain ⟨b, hb⟩ := Int.eq_ofNat_of_zero_le (show 0 ≤ prod l by omega)
    rw [ha] at hy
    rw [hb] at hg
    have cop : Nat.Coprime a b := by
      have e3 : a = q.1.natAbs ^ q.2.toNat := by rw [← Int.natAbs_pow, ha]; rfl
      have e4 : b = (prod l).natAbs := by rw [hb]; rfl
      rw [e3, e4]
      refine Nat.Coprime.pow_left _ ?_
      obtain ⟨m, hm⟩ := Int.eq_ofNat_of_zero_le (show 0 ≤ q.1 by omega)
      have hp' := hq.1
      rw [hm] at hp' nd ⊢
      exact pr_coprime hp' fun z => nd (Int.natAbs_dvd_natAbs.mp z)
    refine ⟨y * g, ?_⟩
    rw [prod, ha, hb, ← Int.natCast_mul]
    exact ord_mul hy hg cop
theorem Ord.rest {a n o : Int} (h : Ord a n o) : Ord (a % n) n o :=
  ⟨h.pos, ((cg_mod n a).pow _).trans h.cg, fun e e1 e2 z => h.least e e1 e2 (((cg_mod n a).pow _).symm.trans z)⟩
theorem prim_root {p : Int} (hp : IsPr p) : ∃ g, 1 ≤ g ∧ g < p ∧ Ord g p (p - 1) := by
  have p2 := hp.1
  obtain ⟨l, hl⟩ := parts_exist (show 1 ≤ p - 1 by omega)
  obtain ⟨g, hg⟩ := ord_parts hp l hl.1 (by rw [hl.2]; exact Int.dvd_refl _)
  rw [hl.2] at hg
  have hr := hg.rest
  refine ⟨g % p, ?_, Int.emod_lt_of_pos _ (by omega), hr⟩
  have h0 := Int.emod_nonneg g (show p ≠ 0 by omega)
  refine Classical.byContradiction fun z => ?_
  have e : g % p = 0 := by omega
  have c := hr.cg
  rw [e, Int.zero_pow (by omega)] at c
  have : p ∣ 1 := by
    have := Cg.symm c
    simpa [Cg] using this
  have := Int.le_of_dvd (by decide) this
  omega
end MM
set_option linter.all false
set_option maxHeartbeats 4000000
namespace MM
noncomputable def bases (p : Int) : List Int := (List.range (p - 1).toNat).map fun (i : Nat) => 1 + (i : Int)
noncomputable def powersOf (g p : Int) : List Int := (List.range (p - 1).toNat).map fun (i : Nat) => g ^ (i + 1) % p
end MM
set_option linter.all false
set_option maxHeartbeats 4000000
namespace MM
end MM
set_option linter.all false
set_option maxHeartbeats 4000000
namespace MM
noncomputable def valL : List Int → Int
  | [] => 0
  | b :: r => b + 2 * valL r
structure BitInv (o l : Int) (bs : List Int) : Prop where
  l0 : 0 ≤ l
  eq : o = valL bs + 2 ^ bs.length * l
  bit : ∀ b ∈ bs, b = 0 ∨ b = 1
end MM
set_option linter.all false
namespace MM
noncomputable def sg2 (n : Int) : Int := if n % 8 = 3 ∨ n % 8 = 5 then -1 else 1
noncomputable def sgT (a n : Int) : Int := if a % 4 = 3 ∧ n % 4 = 3 then -1 else 1
noncomputable def J (a n : Int) : Int := if a ≤ 0 then (if n = 1 then 1 else 0) else if a % 2 = 0 then sg2 n * J (a / 2) n else if a = 1 then 1 else sgT a n * J (n % a) a
termination_by a.toNat
decreasing_by
  · omega
  · rename_i h _ _
    have := Int.emod_lt_of_pos n (show 0 < a by omega)
    have := Int.emod_nonneg n (show a ≠ 0 by omega)
    omega
theorem J_zero {n : Int} : J 0 n = if n = 1 then 1 else 0 := by rw [J]; rfl
theorem J_even {a n : Int} (h : 0 < a) (e : a % 2 = 0) : J a n = sg2 n * J (a / 2) n := by
  rw [J, if_neg (by omega), if_pos e]
theorem J_one {n : Int} : J 1 n = 1 := by rw [J]; rfl
theorem J_turn {a n : Int} (h : 1 < a) (e : a % 2 ≠ 0) : J a n = sgT a n * J (n % a) a := by
  rw [J, if_neg (by omega), if_neg e, if_neg (by omega)]
theorem sg2_abs (n : Int) : sg2 n = 1 ∨ sg2 n = -1 := by unfold sg2; split <;> simp
theorem sgT_abs (a n : Int) : sgT a n = 1 ∨ sgT a n = -1 := by unfold sgT; split <;> simp
theorem J_abs : ∀ (k : Nat) (a n : Int), a.toNat ≤ k → -1 ≤ J a n ∧ J a n ≤ 1
  | k, a, n, h => by
    by_cases h0 : a ≤ 0
    · rw [J, if_pos h0]; split <;> omega
    · match k, h with
      | 0, h => omega
      | k + 1, h =>
        by_cases h1 : a % 2 = 0
        · rw [J_even (by omega) h1]
          have := J_abs k (a / 2) n (by omega)
          rcases sg2_abs n with e | e <;> rw [e] <;> omega
        · by_cases h2 : a = 1
          · rw [h2, J_one]; omega
          · rw [J_turn (by omega) h1]
            have l := Int.emod_lt_of_pos n (show 0 < a by omega)
            have l2 := Int.emod_nonneg n (show a ≠ 0 by omega)
            have := J_abs k (n % a) a (by omega)
            rcases sgT_abs a n with e | e <;> rw [e] <;> omega
theorem J_b (a n : Int) : -1 ≤ J a n ∧ J a n ≤ 1 := J_abs _ a n (Nat.le_refl _)
structure SgInv (s t b f : Int) : Prop where
  t0 : 0 ≤ t
  tb : t < b
  od : b % 2 = 1
  f1 : f = 1 ∨ f = -1
  eq : f * J t b = s
theorem sg_start {a n : Int} (hn : 0 < n) (ho : n % 2 = 1) : SgInv (J (a % n) n) (a % n) n 1 :=
  ⟨Int.emod_nonneg _ (by omega), Int.emod_lt_of_pos _ hn, ho, .inl rfl, by rw [Int.one_mul]⟩
theorem sg_half {s t b f : Int} (I : SgInv s t b f) (h0 : 0 < t) (h : t % 2 = 0) : SgInv s (t / 2) b (if b % 8 = 3 ∨ b % 8 = 5 then -f else f) := by
  have e := I.eq
  rw [J_even h0 h] at e
  unfold sg2 at e
  refine ⟨by omega, by have := I.tb; omega, I.od, ?_, ?_⟩
  · split
    · rcases I.f1 with h | h <;> omega
    · exact I.f1
  · split
    · rename_i hc
      rw [if_pos hc] at e
      rw [← e, ← Int.mul_assoc]
      congr 1
      omega
    · rename_i hc
      rw [if_neg hc] at e
      rw [← e, Int.one_mul]
theorem sg_turn {s t b f : Int} (I : SgInv s t b f) (h0 : 0 < t) (h : ¬ t % 2 = 0) : SgInv s (b % t) t (if t % 4 = 3 ∧ b % 4 = 3 then -f else f) := by
  have e := I.eq
  refine ⟨Int.emod_nonneg _ (by omega), Int.emod_lt_of_pos _ h0, by omega, ?_, ?_⟩
  · split
    · rcases I.f1 with h | h <;> omega
    · exact I.f1
  · by_cases h1 : t = 1
    · subst h1
      rw [if_neg (by omega), show b % 1 = 0 by omega, J_zero, if_pos rfl]
      rw [J_one] at e
      exact e
    · rw [J_turn (by omega) h] at e
      unfold sgT at e
      split
      · rename_i hc
        rw [if_pos hc] at e
        rw [← e, ← Int.mul_assoc]
        congr 1
        omega
      · rename_i hc
        rw [if_neg hc] at e
        rw [← e, Int.one_mul]
theorem sg_end {s t b f : Int} (I : SgInv s t b f) (h : ¬ 0 < t) : (if b = 1 then f else 0) = s := by
  have e := I.eq
  have t0 := I.t0
  have : t = 0 := by omega
  subst this
  rw [J_zero] at e
  split
  · rename_i hb; rw [if_pos hb, Int.mul_one] at e; exact e
  · rename_i hb; rw [if_neg hb, Int.mul_zero] at e; exact e
end MM
set_option linter.all false
namespace MM
noncomputable def fd {α : Type} (op : α → α → α) (e : α) (f : Nat → α) : List Nat → α
  | [] => e
  | x :: l => op (f x) (fd op e f l)
section
variable {α : Type} {op : α → α → α} {e : α} {f : Nat → α}
theorem fd_mid (hc : ∀ x y, op x y = op y x) (ha : ∀ x y z, op (op x y) z = op x (op y z)) (x : Nat) (m2 : List Nat) : ∀ m1 : List Nat, fd op e f (m1 ++ x :: m2) = op (f x) (fd op e f (m1 ++ m2))
  | [] => rfl
  | y :: m1 => by
    show op (f y) (fd op e f (m1 ++ x :: m2)) = op (f x) (op (f y) (fd op e f (m1 ++ m2)))
    rw [fd_mid hc ha x m2 m1, ← ha, hc (f y), ha]
theorem fd_perm (hc : ∀ x y, op x y = op y x) (ha : ∀ x y z, op (op x y) z = op x (op y z)) : ∀ (l m : List Nat), l.Nodup → (∀ x ∈ l, x ∈ m) → m.length = l.length → fd op e f m = fd op e f l
  | [], m, _, _, hl => by
    cases m with
    | nil => rfl
    | cons a m => simp at hl
  | x :: l, m, hn, hs, hl => by
    obtain ⟨m1, m2, rfl⟩ := List.append_of_mem (hs x List.mem_cons_self)
    rw [List.nodup_cons] at hn
    rw [fd_mid hc ha, fd_perm hc ha l (m1 ++ m2) hn.2 (fun y hy => ?_) (by simp at hl ⊢; omega)]
    · rfl
    · have := hs y (List.mem_cons_of_mem _ hy)
      rcases List.mem_append.mp this with h | h
      · exact List.mem_append_left _ h
      · rcases List.mem_cons.mp h with h | h
        · subst h; exact absurd hy hn.1
        · exact List.mem_append_right _ h
theorem fd_map (σ : Nat → Nat) : ∀ l : List Nat, fd op e (fun k => f (σ k)) l = fd op e f (l.map σ)
  | [] => rfl
  | x :: l => by
    show op _ _ = op _ _
    rw [fd_map σ l]
theorem fd_snoc (hc : ∀ x y, op x y = op y x) (ha : ∀ x y z, op (op x y) z = op x (op y z)) (l : List Nat) (x : Nat) : fd op e f (l ++ [x]) = op (fd op e f l) (f x) := by
  rw [fd_mid hc ha, List.append_nil, hc]
theorem nodup_map {σ : Nat → Nat} : ∀ {l : List Nat}, l.Nodup → (∀ x ∈ l, ∀ y ∈ l, σ x = σ y → x = y) → (l.map σ).Nodup
  | [], _, _ => List.nodup_nil
  | x :: l, hn, hi => by
    rw [List.nodup_cons] at hn
    rw [List.map_cons, List.nodup_cons]
    refine ⟨fun hm => ?_, nodup_map hn.2 fun y hy z hz => hi y (List.mem_cons_of_mem _ hy) z (List.mem_cons_of_mem _ hz)⟩
    obtain ⟨y, hy, e⟩ := List.mem_map.mp hm
    have := hi y (List.mem_cons_of_mem _ hy) x List.mem_cons_self e
    subst this
    exact hn.1 hy
theorem fd_range (hc : ∀ x y, op x y = op y x) (ha : ∀ x y z, op (op x y) z = op x (op y z)) {h : Nat} {σ : Nat → Nat} (hlt : ∀ k, k < h → σ k < h) (hinj : ∀ i j, i < h → j < h → σ i = σ j → i = j) :
    fd op e (fun k => f (σ k)) (List.range h) = fd op e f (List.range h) := by
  rw [fd_map]
  refine (fd_perm hc ha ((List.range h).map σ) (List.range h) (nodup_map List.nodup_range fun x hx y hy e => hinj x y (List.mem_range.mp hx) (List.mem_range.mp hy) e) (fun x hx => ?_) (by simp)).symm
  obtain ⟨k, hk, rfl⟩ := List.mem_map.mp hx
  exact List.mem_range.mpr (hlt k (List.mem_range.mp hk))
end
noncomputable def sm (f : Nat → Nat) (h : Nat) : Nat := fd (· + ·) 0 f (List.range h)
noncomputable def pd (f : Nat → Int) (h : Nat) : Int := fd (· * ·) 1 f (List.range h)
theorem sm_zero (f : Nat → Nat) : sm f 0 = 0 := rfl
theorem sm_succ (f : Nat → Nat) (h : Nat) : sm f (h + 1) = sm f h + f h := by
  unfold sm; rw [List.range_succ, fd_snoc Nat.add_comm Nat.add_assoc]
theorem pd_zero (f : Nat → Int) : pd f 0 = 1 := rfl
theorem pd_succ (f : Nat → Int) (h : Nat) : pd f (h + 1) = pd f h * f h := by
  unfold pd; rw [List.range_succ, fd_snoc Int.mul_comm Int.mul_assoc]
theorem sm_perm {h : Nat} {σ : Nat → Nat} (hlt : ∀ k, k < h → σ k < h) (hinj : ∀ i j, i < h → j < h → σ i = σ j → i = j) (f : Nat → Nat) : sm (fun k => f (σ k)) h = sm f h := fd_range Nat.add_comm Nat.add_assoc hlt hinj
theorem pd_perm {h : Nat} {σ : Nat → Nat} (hlt : ∀ k, k < h → σ k < h) (hinj : ∀ i j, i < h → j < h → σ i = σ j → i = j) (f : Nat → Int) : pd (fun k => f (σ k)) h = pd f h := fd_range Int.mul_comm Int.mul_assoc hlt hinj
theorem sm_congr {f g : Nat → Nat} : ∀ {h : Nat}, (∀ k, k < h → f k = g k) → sm f h = sm g h
  | 0, _ => rfl
  | h + 1, e => by rw [sm_succ, sm_succ, sm_congr fun k hk => e k (by omega), e h (by omega)]
theorem sm_mod {f g : Nat → Nat} : ∀ {h : Nat}, (∀ k, k < h → f k % 2 = g k % 2) → sm f h % 2 = sm g h % 2
  | 0, _ => rfl
  | h + 1, e => by
    have := sm_mod (f := f) (g := g) (h := h) fun k hk => e k (by omega)
    have := e h (by omega)
    rw [sm_succ, sm_succ]; omega
theorem sm_add (f g : Nat → Nat) : ∀ h : Nat, sm (fun k => f k + g k) h = sm f h + sm g h
  | 0 => rfl
  | h + 1 => by rw [sm_succ, sm_succ, sm_succ, sm_add f g h]; omega
theorem sm_const (c : Nat) : ∀ h : Nat, sm (fun _ => c) h = h * c
  | 0 => by simp [sm_zero]
  | h + 1 => by rw [sm_succ, sm_const c h, Nat.succ_mul]
theorem sm_swap (f : Nat → Nat → Nat) : ∀ a b : Nat, sm (fun i => sm (fun j => f i j) b) a = sm (fun j => sm (fun i => f i j) a) b
  | 0, b => by
    rw [sm_zero]
    have : (fun j => sm (fun i => f i j) 0) = fun _ => 0 := rfl
    rw [this, sm_const]; omega
  | a + 1, b => by
    rw [sm_succ, sm_swap f a b, ← sm_add]
    exact sm_congr fun k _ => by rw [sm_succ]
noncomputable def rr (a n k : Nat) : Nat := a * (k + 1) % n
noncomputable def fl (a n k : Nat) : Bool := decide (n / 2 < rr a n k)
noncomputable def ab (a n k : Nat) : Nat := if fl a n k then n - rr a n k else rr a n k
noncomputable def bt (b : Bool) : Nat := if b then 1 else 0
noncomputable def G (a n : Nat) : Nat := sm (fun k => bt (fl a n k)) (n / 2)
theorem rr_pos {a n k : Nat} (hg : Nat.Coprime a n) (hn : n % 2 = 1) (hk : k < n / 2) : 0 < rr a n k := by
  unfold rr
  refine Nat.pos_of_ne_zero fun z => ?_
  have hd : n ∣ a * (k + 1) := Nat.dvd_of_mod_eq_zero z
  have := (Nat.Coprime.symm hg).dvd_of_dvd_mul_left hd
  have := Nat.le_of_dvd (by omega) this
  omega
theorem rr_lt {a n k : Nat} (hn : n % 2 = 1) : rr a n k < n := Nat.mod_lt _ (by omega)
theorem ab_bound {a n k : Nat} (hg : Nat.Coprime a n) (hn : n % 2 = 1) (hk : k < n / 2) : 1 ≤ ab a n k ∧ ab a n k ≤ n / 2 := by
  have h1 := rr_pos hg hn hk
  have h2 := rr_lt (a := a) (k := k) hn
  unfold ab fl
  split <;> rename_i h <;> simp at h <;> omega
theorem mul_inj_mod {a n x y : Nat} (hg : Nat.Coprime a n) (hx : x < n) (hy : y < n) (e : a * x % n = a * y % n) : x = y := by
  have key : ∀ x y : Nat, x ≤ y → y < n → a * x % n = a * y % n → x = y := fun x y hle hy e => by
    have hd : n ∣ a * (y - x) := by
      rw [Nat.mul_sub]
      exact Nat.dvd_of_mod_eq_zero (Nat.sub_mod_eq_zero_of_mod_eq e.symm)
    have := (Nat.Coprime.symm hg).dvd_of_dvd_mul_left hd
    by_cases z : y - x = 0
    · omega
    · have := Nat.le_of_dvd (by omega) this
      omega
  rcases Nat.le_total x y with h | h
  · exact key x y h hy e
  · exact (key y x h hx e.symm).symm
end MM
set_option linter.all false
namespace MM
theorem neg_mod {x n : Nat} (hx : 0 < x) (hn : x < n) (a : Nat) (hR : 0 < a * x % n) : a * (n - x) % n = n - a * x % n := by
  have e : a * (n - x) + a * x = a * n := by rw [← Nat.mul_add, Nat.sub_add_cancel (by omega)]
  have h1 : (a * (n - x) % n + a * x % n) % n = 0 := by
    rw [← Nat.add_mod, e, Nat.mul_mod_left]
  have l1 : a * (n - x) % n < n := Nat.mod_lt _ (by omega)
  have l2 : a * x % n < n := Nat.mod_lt _ (by omega)
  by_cases z : a * (n - x) % n + a * x % n < n
  · rw [Nat.mod_eq_of_lt z] at h1
    omega
  · rw [Nat.mod_eq_sub_mod (by omega), Nat.mod_eq_of_lt (by omega)] at h1
    omega
theorem ab_inj {a n i j : Nat} (hg : Nat.Coprime a n) (hn : n % 2 = 1) (hi : i < n / 2) (hj : j < n / 2) (e : ab a n i = ab a n j) : i = j := by
  have ri := rr_pos hg hn hi
  have rj := rr_pos hg hn hj
  have li := rr_lt (a := a) (k := i) hn
  have lj := rr_lt (a := a) (k := j) hn
  have same : ∀ {i j : Nat}, i < n / 2 → j < n / 2 → rr a n i = rr a n j → i = j := fun {i j} hi hj e => by
    have := mul_inj_mod hg (x := i + 1) (y := j + 1) (by omega) (by omega) e
    omega
  have opp : ∀ {i j : Nat}, i < n / 2 → j < n / 2 → 0 < rr a n j → rr a n i = n - rr a n j → False := fun {i j} hi hj hp e => by
    have hR : 0 < a * (j + 1) % n := hp
    have e2 := neg_mod (x := j + 1) (n := n) (by omega) (by omega) a hR
    have := mul_inj_mod hg (x := i + 1) (y := n - (j + 1)) (by omega) (by omega) (by rw [e2]; exact e)
    omega
  unfold ab at e
  split at e <;> split at e
  · exact same hi hj (by omega)
  · exact (opp (i := j) (j := i) hj hi ri (by omega)).elim
  · exact (opp hi hj rj (by omega)).elim
  · exact same hi hj e
noncomputable def sgi (a n k : Nat) : Nat := ab a n k - 1
theorem sgi_lt {a n : Nat} (hg : Nat.Coprime a n) (hn : n % 2 = 1) : ∀ k, k < n / 2 → sgi a n k < n / 2 := fun k hk => by
  have := ab_bound hg hn hk
  unfold sgi; omega
theorem sgi_inj {a n : Nat} (hg : Nat.Coprime a n) (hn : n % 2 = 1) : ∀ i j, i < n / 2 → j < n / 2 → sgi a n i = sgi a n j → i = j := fun i j hi hj e => by
  have h1 := ab_bound hg hn hi
  have h2 := ab_bound hg hn hj
  unfold sgi at e
  exact ab_inj hg hn hi hj (by omega)
theorem G_mul {a b n : Nat} (ha : Nat.Coprime a n) (hb : Nat.Coprime b n) (hn : n % 2 = 1) : G (a * b) n % 2 = (G a n + G b n) % 2 := by
  have e1 : G a n = sm (fun k => bt (fl a n (sgi b n k))) (n / 2) := (sm_perm (sgi_lt hb hn) (sgi_inj hb hn) fun k => bt (fl a n k)).symm
  rw [e1]
  unfold G
  rw [← sm_add]
  refine sm_mod fun k hk => ?_
  have rb := rr_pos hb hn hk
  have lb := rr_lt (a := b) (k := k) hn
  have bb := ab_bound hb hn hk
  have hs : sgi b n k + 1 = ab b n k := by unfold sgi; omega
  have R : a * b * (k + 1) % n = a * rr b n k % n := by
    unfold rr
    rw [Nat.mul_assoc, Nat.mul_mod a (b * (k + 1)) n, Nat.mul_mod a (b * (k + 1) % n) n, Nat.mod_mod]
  have eF : fl (a * b) n k = decide (n / 2 < a * rr b n k % n) := by unfold fl; rw [show rr (a * b) n k = a * b * (k + 1) % n from rfl, R]
  have eS : fl a n (sgi b n k) = decide (n / 2 < a * ab b n k % n) := by unfold fl; rw [show rr a n (sgi b n k) = a * (sgi b n k + 1) % n from rfl, hs]
  have pos : 0 < a * rr b n k % n := by
    refine Nat.pos_of_ne_zero fun z => ?_
    have hd : n ∣ a * rr b n k := Nat.dvd_of_mod_eq_zero z
    have := Nat.le_of_dvd rb ((Nat.Coprime.symm ha).dvd_of_dvd_mul_left hd)
    omega
  have lR : a * rr b n k % n < n := Nat.mod_lt _ (by omega)
  rw [eF, eS]
  by_cases hf : fl b n k = true
  · have e : ab b n k = n - rr b n k := by unfold ab; rw [if_pos hf]
    rw [e, neg_mod rb lb a pos, hf]
    by_cases z : n / 2 < a * rr b n k % n
    · rw [decide_eq_true z, decide_eq_false (show ¬ n / 2 < n - a * rr b n k % n by omega)]; rfl
    · rw [decide_eq_false z, decide_eq_true (show n / 2 < n - a * rr b n k % n by omega)]; rfl
  · have e : ab b n k = rr b n k := by unfold ab; rw [if_neg hf]
    have hf' : fl b n k = false := by simpa using hf
    rw [e, hf']; rfl
theorem G_mod (a n : Nat) : G (a % n) n = G a n := by
  unfold G
  refine sm_congr fun k _ => ?_
  have : rr (a % n) n k = rr a n k := by
    unfold rr
    rw [Nat.mul_mod (a % n), Nat.mod_mod, ← Nat.mul_mod]
  unfold fl
  rw [this]
theorem G_one {n : Nat} (hn : n % 2 = 1) : G 1 n = 0 := by
  unfold G
  have : sm (fun k => bt (fl 1 n k)) (n / 2) = sm (fun _ => 0) (n / 2) := sm_congr fun k hk => by
    have e : rr 1 n k = k + 1 := by unfold rr; rw [Nat.one_mul]; exact Nat.mod_eq_of_lt (by omega)
    unfold fl
    rw [e, decide_eq_false (by omega)]; rfl
  rw [this, sm_const]; rfl
theorem sm_above (c : Nat) : ∀ h : Nat, sm (fun k => bt (decide (c < k + 1))) h = h - c
  | 0 => by rw [sm_zero]; omega
  | h + 1 => by
    rw [sm_succ, sm_above c h]
    by_cases z : c < h + 1
    · rw [decide_eq_true z]; show h - c + 1 = _; omega
    · rw [decide_eq_false z]; show h - c + 0 = _; omega
theorem G_two {n : Nat} (hn : n % 2 = 1) : G 2 n = n / 2 - n / 2 / 2 := by
  unfold G
  rw [← sm_above (n / 2 / 2) (n / 2)]
  refine sm_congr fun k hk => ?_
  have e : rr 2 n k = 2 * (k + 1) := by unfold rr; exact Nat.mod_eq_of_lt (by omega)
  unfold fl
  rw [e]
  congr 1
  by_cases z : n / 2 < 2 * (k + 1)
  · rw [decide_eq_true z, decide_eq_true (show n / 2 / 2 < k + 1 by omega)]
  · rw [decide_eq_false z, decide_eq_false (show ¬ n / 2 / 2 < k + 1 by omega)]
theorem G_two_mod {n : Nat} (hn : n % 2 = 1) : G 2 n % 2 = if n % 8 = 3 ∨ n % 8 = 5 then 1 else 0 := by
  rw [G_two hn]
  split <;> omega
theorem sm_steps {n : Nat} (hn : 0 < n) (x : Nat) : ∀ H : Nat, sm (fun j => bt (decide (n * (j + 1) ≤ x))) H = min H (x / n)
  | 0 => by rw [sm_zero, Nat.zero_min]
  | H + 1 => by
    rw [sm_succ, sm_steps hn x H]
    have h : n * (H + 1) ≤ x ↔ H + 1 ≤ x / n := by rw [Nat.le_div_iff_mul_le hn, Nat.mul_comm]
    by_cases z : n * (H + 1) ≤ x
    · rw [decide_eq_true z]
      have := h.mp z
      show min H (x / n) + 1 = _
      omega
    · rw [decide_eq_false z]
      have : ¬ H + 1 ≤ x / n := fun w => z (h.mpr w)
      show min H (x / n) + 0 = _
      omega
theorem G_floor {m n : Nat} (hg : Nat.Coprime m n) (hn : n % 2 = 1) (hm : m % 2 = 1) : G m n % 2 = sm (fun k => m * (k + 1) / n) (n / 2) % 2 := by
  have e1 : sm (fun k => k + 1) (n / 2) = sm (fun k => sgi m n k + 1) (n / 2) := (sm_perm (sgi_lt hg hn) (sgi_inj hg hn) fun k => k + 1).symm
  have e2 : sm (fun k => k + 1) (n / 2) % 2 = sm (fun k => m * (k + 1) / n + (bt (fl m n k) + (sgi m n k + 1))) (n / 2) % 2 := sm_mod fun k hk => by
    have hb := ab_bound hg hn hk
    have hl := rr_lt (a := m) (k := k) hn
    have hp := rr_pos hg hn hk
    have hs : sgi m n k + 1 = ab m n k := by unfold sgi; omega
    have d := Nat.div_add_mod (m * (k + 1)) n
    have d2 : n * (m * (k + 1) / n) % 2 = m * (k + 1) / n % 2 := by rw [Nat.mul_mod, hn, Nat.one_mul, Nat.mod_mod]
    have d3 : m * (k + 1) % 2 = (k + 1) % 2 := by rw [Nat.mul_mod, hm, Nat.one_mul, Nat.mod_mod]
    have d4 : m * (k + 1) % n = rr m n k := rfl
    rw [hs]
    unfold ab
    by_cases z : fl m n k = true
    · rw [if_pos z, z]
      show _ = (_ + (1 + _)) % 2
      omega
    · have z' : fl m n k = false := by simpa using z
      rw [if_neg z, z']
      show _ = (_ + (0 + _)) % 2
      omega
  have e3 : sm (fun k => m * (k + 1) / n + (bt (fl m n k) + (sgi m n k + 1))) (n / 2) = sm (fun k => m * (k + 1) / n) (n / 2) + (G m n + sm (fun k => sgi m n k + 1) (n / 2)) := by
    rw [sm_add, sm_add]; rfl
  rw [e3, ← e1] at e2
  omega
theorem lattice {m n : Nat} (hg : Nat.Coprime m n) (hn : n % 2 = 1) (hm : m % 2 = 1) : sm (fun k => m * (k + 1) / n) (n / 2) + sm (fun j => n * (j + 1) / m) (m / 2) = (n / 2) * (m / 2) := by
  have half : ∀ {m n k : Nat}, n % 2 = 1 → m % 2 = 1 → k < n / 2 → m * (k + 1) / n ≤ m / 2 := fun {m n k} hn hm hk => by
    have h1 : 2 * (m * (k + 1)) ≤ m * (n - 1) := by
      rw [← Nat.mul_assoc, Nat.mul_comm 2 m, Nat.mul_assoc]
      exact Nat.mul_le_mul_left m (by omega)
    have h2 : m * (n - 1) ≤ m * n := Nat.mul_le_mul_left m (by omega)
    refine Nat.le_of_lt_succ ((Nat.div_lt_iff_lt_mul (by omega)).mpr ?_)
    have h3 : 2 * ((m / 2).succ * n) = (m + 1) * n := by
      rw [← Nat.mul_assoc]
      congr 1
      omega
    have h4 : (m + 1) * n = m * n + n := by rw [Nat.add_mul, Nat.one_mul]
    omega
  have e1 : sm (fun k => m * (k + 1) / n) (n / 2) = sm (fun k => sm (fun j => bt (decide (n * (j + 1) ≤ m * (k + 1)))) (m / 2)) (n / 2) := sm_congr fun k hk => by
    rw [sm_steps (by omega)]
    have := half hn hm hk
    omega
  have e2 : sm (fun j => n * (j + 1) / m) (m / 2) = sm (fun j => sm (fun k => bt (decide (m * (k + 1) ≤ n * (j + 1)))) (n / 2)) (m / 2) := sm_congr fun j hj => by
    rw [sm_steps (by omega)]
    have := half (m := n) (n := m) hm hn hj
    omega
  rw [e1, e2, sm_swap (fun j k => bt (decide (m * (k + 1) ≤ n * (j + 1)))), ← sm_add]
  have e3 : sm (fun k => sm (fun j => bt (decide (n * (j + 1) ≤ m * (k + 1)))) (m / 2) + sm (fun j => bt (decide (m * (k + 1) ≤ n * (j + 1)))) (m / 2)) (n / 2) = sm (fun _ => m / 2) (n / 2) := sm_congr fun k hk => by
    rw [← sm_add]
    have e4 : sm (fun j => bt (decide (n * (j + 1) ≤ m * (k + 1))) + bt (decide (m * (k + 1) ≤ n * (j + 1)))) (m / 2) = sm (fun _ => 1) (m / 2) := sm_congr fun j hj => by
      have ne : n * (j + 1) ≠ m * (k + 1) := fun e => by
        have hd : n ∣ m * (k + 1) := ⟨j + 1, e.symm⟩
        have := Nat.le_of_dvd (by omega) ((Nat.Coprime.symm hg).dvd_of_dvd_mul_left hd)
        omega
      by_cases z : n * (j + 1) ≤ m * (k + 1)
      · rw [decide_eq_true z, decide_eq_false (show ¬ m * (k + 1) ≤ n * (j + 1) by omega)]; rfl
      · rw [decide_eq_false z, decide_eq_true (show m * (k + 1) ≤ n * (j + 1) by omega)]; rfl
    rw [e4, sm_const, Nat.mul_one]
  rw [e3, sm_const]
theorem G_turn {m n : Nat} (hg : Nat.Coprime m n) (hn : n % 2 = 1) (hm : m % 2 = 1) : (G m n + G n m) % 2 = (n / 2) * (m / 2) % 2 := by
  have h1 := G_floor hg hn hm
  have h2 := G_floor hg.symm hm hn
  have h3 := lattice hg hn hm
  omega
end MM
set_option linter.all false
namespace MM
noncomputable def mo (k : Nat) : Int := if k % 2 = 0 then 1 else -1
theorem mo_add (j k : Nat) : mo (j + k) = mo j * mo k := by
  unfold mo
  have hj : j % 2 = 0 ∨ j % 2 = 1 := by omega
  have hk : k % 2 = 0 ∨ k % 2 = 1 := by omega
  rcases hj with hj | hj <;> rcases hk with hk | hk <;> simp [hj, hk, Nat.add_mod]
theorem mo_mod {j k : Nat} (h : j % 2 = k % 2) : mo j = mo k := by unfold mo; rw [h]
theorem mo_sq (k : Nat) : mo k * mo k = 1 := by unfold mo; split <;> rfl
theorem mo_pm (k : Nat) : mo k = 1 ∨ mo k = -1 := by unfold mo; split <;> simp
noncomputable def SS (a n : Nat) : Int := mo (G a n)
theorem SS_mul {a b n : Nat} (ha : Nat.Coprime a n) (hb : Nat.Coprime b n) (hn : n % 2 = 1) : SS (a * b) n = SS a n * SS b n := by
  unfold SS; rw [← mo_add]; exact mo_mod (G_mul ha hb hn)
theorem SS_mod (a n : Nat) : SS (a % n) n = SS a n := by unfold SS; rw [G_mod]
theorem SS_two {n : Nat} (hn : n % 2 = 1) : SS 2 n = sg2 n := by
  unfold SS sg2
  rw [mo_mod (k := if n % 8 = 3 ∨ n % 8 = 5 then 1 else 0) (by rw [G_two_mod hn]; split <;> rfl)]
  have e : ((n : Int) % 8 = 3 ∨ (n : Int) % 8 = 5) ↔ (n % 8 = 3 ∨ n % 8 = 5) := by omega
  by_cases z : n % 8 = 3 ∨ n % 8 = 5
  · rw [if_pos z, if_pos (e.mpr z)]; rfl
  · rw [if_neg z, if_neg (fun w => z (e.mp w))]; rfl
theorem sgT_mo {m n : Nat} (hm : m % 2 = 1) (hn : n % 2 = 1) : sgT m n = mo ((n / 2) * (m / 2)) := by
  unfold sgT mo
  rw [Nat.mul_mod]
  have h1 : m % 4 = 1 ∨ m % 4 = 3 := by omega
  have h2 : n % 4 = 1 ∨ n % 4 = 3 := by omega
  have e : ((m : Int) % 4 = 3 ∧ (n : Int) % 4 = 3) ↔ (m % 4 = 3 ∧ n % 4 = 3) := by omega
  rcases h1 with h1 | h1 <;> rcases h2 with h2 | h2
  · rw [if_neg (fun w => by have := (e.mp w).1; omega), show n / 2 % 2 = 0 by omega, Nat.zero_mul]; rfl
  · rw [if_neg (fun w => by have := (e.mp w).1; omega), show m / 2 % 2 = 0 by omega]; rfl
  · rw [if_neg (fun w => by have := (e.mp w).2; omega), show n / 2 % 2 = 0 by omega, Nat.zero_mul]; rfl
  · rw [if_pos (e.mpr ⟨h1, h2⟩), show n / 2 % 2 = 1 by omega, show m / 2 % 2 = 1 by omega]; rfl
theorem SS_turn {m n : Nat} (hg : Nat.Coprime m n) (hn : n % 2 = 1) (hm : m % 2 = 1) : SS m n = sgT m n * SS n m := by
  rw [sgT_mo hm hn]
  have h := G_turn hg hn hm
  have e : mo (n / 2 * (m / 2)) = mo (G m n + G n m) := mo_mod h.symm
  rw [e, mo_add]
  unfold SS
  rw [Int.mul_assoc, mo_sq, Int.mul_one]
theorem J_SS : ∀ (a n : Nat), n % 2 = 1 → (Nat.Coprime a n → J a n = SS a n) ∧ (¬ Nat.Coprime a n → J a n = 0) := by
  intro a
  induction a using Nat.strongRecOn with
  | ind a ih =>
    intro n hn
    by_cases h0 : a = 0
    · subst h0
      have e : J ((0 : Nat) : Int) n = if (n : Int) = 1 then 1 else 0 := J_zero
      by_cases h1 : n = 1
      · subst h1
        refine ⟨fun _ => ?_, fun h => absurd (by decide) h⟩
        rw [e]; rfl
      · refine ⟨fun h => absurd (by simpa [Nat.Coprime] using h) h1, fun _ => ?_⟩
        rw [e, if_neg (by omega)]
    · by_cases h2 : a % 2 = 0
      · have e := J_even (a := (a : Int)) (n := n) (by omega) (by omega)
        rw [show (a : Int) / 2 = ((a / 2 : Nat) : Int) by omega] at e
        have ha : a = 2 * (a / 2) := by omega
        have c2 : Nat.Coprime 2 n := by
          unfold Nat.Coprime
          rw [Nat.gcd_rec, hn]
          rfl
        have hc : Nat.Coprime a n ↔ Nat.Coprime (a / 2) n := by
          constructor
          · intro h; rw [ha] at h; exact Nat.Coprime.coprime_mul_left h
          · intro h; rw [ha]; exact Nat.Coprime.mul_left c2 h
        obtain ⟨i1, i2⟩ := ih (a / 2) (by omega) n hn
        refine ⟨fun h => ?_, fun h => ?_⟩
        · rw [e, i1 (hc.mp h), ← SS_two hn, ← SS_mul c2 (hc.mp h) hn, ← ha]
        · rw [e, i2 (fun w => h (hc.mpr w)), Int.mul_zero]
      · by_cases h3 : a = 1
        · subst h3
          refine ⟨fun _ => ?_, fun h => absurd (Nat.coprime_one_left n) h⟩
          show J 1 n = _
          rw [J_one]
          unfold SS
          rw [G_one hn]; rfl
        · have e := J_turn (a := (a : Int)) (n := n) (by omega) (by omega)
          rw [show (n : Int) % a = ((n % a : Nat) : Int) from (Int.natCast_emod n a).symm] at e
          have ho : a % 2 = 1 := by omega
          obtain ⟨i1, i2⟩ := ih (n % a) (Nat.mod_lt _ (by omega)) a ho
          have hc : Nat.Coprime a n ↔ Nat.Coprime (n % a) a := by unfold Nat.Coprime; rw [Nat.gcd_rec a n]
          refine ⟨fun h => ?_, fun h => ?_⟩
          · rw [e, i1 (hc.mp h), SS_mod, ← SS_turn h hn ho]
          · rw [e, i2 (fun w => h (hc.mpr w)), Int.mul_zero]
theorem SS_bot {a m n : Nat} (hm : m % 2 = 1) (hn : n % 2 = 1) (hc : Nat.Coprime a (m * n)) : SS a (m * n) = SS a m * SS a n := by
  have odd : ∀ b : Nat, b % 2 = 1 → Nat.Coprime b (m * n) → SS b (m * n) = SS b m * SS b n := fun b hb hc => by
    have c1 : Nat.Coprime b m := Nat.Coprime.coprime_mul_right_right hc
    have c2 : Nat.Coprime b n := Nat.Coprime.coprime_mul_left_right hc
    have hmn : m * n % 2 = 1 := by rw [Nat.mul_mod, hm, hn]
    rw [SS_turn hc hmn hb, SS_turn c1 hm hb, SS_turn c2 hn hb, SS_mul c1.symm c2.symm hb, sgT_mo hb hmn, sgT_mo hb hm, sgT_mo hb hn]
    have e : mo (m * n / 2 * (b / 2)) = mo (m / 2 * (b / 2) + n / 2 * (b / 2)) := by
      refine mo_mod ?_
      rw [← Nat.add_mul, Nat.mul_mod, Nat.mul_mod (m / 2 + n / 2)]
      congr 2
      have h1 : m = 2 * (m / 2) + 1 := by omega
      have h2 : n = 2 * (n / 2) + 1 := by omega
      have h3 : m * n = 4 * (m / 2 * (n / 2)) + 2 * (m / 2) + 2 * (n / 2) + 1 := by
        have : (2 * (m / 2) + 1) * (2 * (n / 2) + 1) = 4 * (m / 2 * (n / 2)) + 2 * (m / 2) + 2 * (n / 2) + 1 := by
          generalize m / 2 = x
          generalize n / 2 = y
          grind
        rw [← this, ← h1, ← h2]
      omega
    rw [e, mo_add]
    generalize mo (m / 2 * (b / 2)) = x
    generalize mo (n / 2 * (b / 2)) = y
    grind
  by_cases hb : a % 2 = 1
  · exact odd a hb hc
  · have hmn : m * n % 2 = 1 := by rw [Nat.mul_mod, hm, hn]
    have c : Nat.Coprime (a + m * n) (m * n) := by
      unfold Nat.Coprime
      rw [Nat.gcd_comm, Nat.gcd_rec, Nat.add_mod_right, ← Nat.gcd_rec, Nat.gcd_comm]
      exact hc
    have h := odd (a + m * n) (by omega) c
    rw [← SS_mod (a + m * n) (m * n), ← SS_mod (a + m * n) m, ← SS_mod (a + m * n) n, Nat.add_mod_right, Nat.add_mul_mod_self_left, Nat.add_mul_mod_self_right, SS_mod, SS_mod, SS_mod] at h
    exact h
theorem J_nat_mod {a n : Nat} (hn : n % 2 = 1) : (Nat.Coprime a n → J ((a % n : Nat) : Int) n = SS a n) ∧ (¬ Nat.Coprime a n → J ((a % n : Nat) : Int) n = 0) := by
  obtain ⟨h1, h2⟩ := J_SS (a % n) n hn
  have hc : Nat.Coprime (a % n) n ↔ Nat.Coprime a n := by
    unfold Nat.Coprime
    rw [Nat.gcd_comm a n, Nat.gcd_rec n a]
  exact ⟨fun h => by rw [h1 (hc.mpr h), SS_mod], fun h => h2 (fun w => h (hc.mp w))⟩
theorem J_bot_nat {a m n : Nat} (hm : m % 2 = 1) (hn : n % 2 = 1) : J ((a % (m * n) : Nat) : Int) ((m * n : Nat) : Int) = J ((a % m : Nat) : Int) m * J ((a % n : Nat) : Int) n := by
  have hmn : m * n % 2 = 1 := by rw [Nat.mul_mod, hm, hn]
  by_cases hc : Nat.Coprime a (m * n)
  · rw [(J_nat_mod hmn).1 hc, (J_nat_mod hm).1 (Nat.Coprime.coprime_mul_right_right hc), (J_nat_mod hn).1 (Nat.Coprime.coprime_mul_left_right hc), SS_bot hm hn hc]
  · rw [(J_nat_mod hmn).2 hc]
    by_cases c1 : Nat.Coprime a m
    · rw [(J_nat_mod hn).2 fun c2 => hc (Nat.Coprime.mul_right c1 c2), Int.mul_zero]
    · rw [(J_nat_mod hm).2 c1, Int.zero_mul]
theorem J_bot {a m n : Int} (hm : 0 < m) (hn : 0 < n) (om : m % 2 = 1) (on : n % 2 = 1) : J (a % (m * n)) (m * n) = J (a % m) m * J (a % n) n := by
  obtain ⟨m, rfl⟩ := Int.eq_ofNat_of_zero_le (show 0 ≤ m by omega)
  obtain ⟨n, rfl⟩ := Int.eq_ofNat_of_zero_le (show 0 ≤ n by omega)
  have hmn : (0 : Int) < (m : Int) * n := Int.mul_pos hm hn
  obtain ⟨b, hb⟩ := Int.eq_ofNat_of_zero_le (Int.emod_nonneg a (show (m : Int) * n ≠ 0 by omega))
  have e1 : a % (m : Int) = ((b % m : Nat) : Int) := by rw [Int.natCast_emod, ← hb, Int.emod_emod_of_dvd _ ⟨n, rfl⟩]
  have e2 : a % (n : Int) = ((b % n : Nat) : Int) := by rw [Int.natCast_emod, ← hb, Int.emod_emod_of_dvd _ ⟨m, Int.mul_comm _ _⟩]
  have lt := Int.emod_lt_of_pos a hmn
  have e3 : b % (m * n) = b := Nat.mod_eq_of_lt (by rw [hb] at lt; exact_mod_cast lt)
  have h := J_bot_nat (a := b) (m := m) (n := n) (by omega) (by omega)
  rw [e3] at h
  rw [e1, e2, hb, ← h]
  rfl
end MM
set_option linter.all false
namespace MM
theorem pd_cg {p : Int} {f g : Nat → Int} : ∀ {h : Nat}, (∀ k, k < h → Cg p (f k) (g k)) → Cg p (pd f h) (pd g h)
  | 0, _ => Cg.refl _ _
  | h + 1, e => by rw [pd_succ, pd_succ]; exact (pd_cg fun k hk => e k (by omega)).mul (e h (by omega))
theorem pd_mul (f g : Nat → Int) : ∀ h : Nat, pd (fun k => f k * g k) h = pd f h * pd g h
  | 0 => rfl
  | h + 1 => by rw [pd_succ, pd_succ, pd_succ, pd_mul f g h]; grind
theorem pd_const (c : Int) : ∀ h : Nat, pd (fun _ => c) h = c ^ h
  | 0 => by rw [pd_zero, Int.pow_zero]
  | h + 1 => by rw [pd_succ, pd_const c h, Int.pow_succ]
theorem pd_mo (f : Nat → Nat) : ∀ h : Nat, pd (fun k => mo (f k)) h = mo (sm f h)
  | 0 => rfl
  | h + 1 => by rw [pd_succ, sm_succ, pd_mo f h, mo_add]
theorem pd_not {p : Int} (hp : IsPr p) {f : Nat → Int} : ∀ {h : Nat}, (∀ k, k < h → ¬ p ∣ f k) → ¬ p ∣ pd f h
  | 0, _ => fun z => by
    rw [pd_zero] at z
    have := Int.le_of_dvd (by decide) z
    have := hp.1
    omega
  | h + 1, e => fun z => by
    rw [pd_succ] at z
    rcases pr_int_euclid hp z with z | z
    · exact pd_not hp (fun k hk => e k (by omega)) z
    · exact e h (by omega) z
theorem pr_odd_nat {p : Nat} (hp : IsPr p) (h3 : 3 ≤ p) : p % 2 = 1 := by
  by_cases h4 : p = 3
  · omega
  · have := hp.2 2 (by decide) (by omega)
    omega
theorem pr_cop {p a : Nat} (hp : IsPr p) (ha : ¬ p ∣ a) : Nat.Coprime a p := (pr_coprime hp ha).symm
theorem gauss {p a : Nat} (hp : IsPr p) (h3 : 3 ≤ p) (ha : ¬ p ∣ a) : Cg p ((a : Int) ^ (p / 2)) (SS a p) := by
  have ho := pr_odd_nat hp h3
  have hc := pr_cop hp ha
  have e1 : pd (fun k => ((k + 1 : Nat) : Int)) (p / 2) = pd (fun k => ((sgi a p k + 1 : Nat) : Int)) (p / 2) := (pd_perm (sgi_lt hc ho) (sgi_inj hc ho) fun k => ((k + 1 : Nat) : Int)).symm
  have e2 : Cg p (pd (fun k => (a : Int) * ((k + 1 : Nat) : Int)) (p / 2)) (pd (fun k => mo (bt (fl a p k)) * ((sgi a p k + 1 : Nat) : Int)) (p / 2)) := pd_cg fun k hk => by
    have hb := ab_bound hc ho hk
    have hl := rr_lt (a := a) (k := k) ho
    have hs : sgi a p k + 1 = ab a p k := by unfold sgi; omega
    have d : Cg p ((a : Int) * ((k + 1 : Nat) : Int)) ((rr a p k : Nat) : Int) := by
      have : ((rr a p k : Nat) : Int) = ((a : Int) * ((k + 1 : Nat) : Int)) % p := by
        unfold rr
        rw [Int.natCast_emod, Int.natCast_mul]
      rw [this]
      exact (cg_mod _ _).symm
    refine d.trans ?_
    rw [hs]
    unfold ab
    by_cases z : fl a p k = true
    · rw [if_pos z, z]
      show Cg p _ (-1 * _)
      refine ⟨1, ?_⟩
      rw [Int.natCast_sub (by omega)]
      omega
    · have z' : fl a p k = false := by simpa using z
      rw [if_neg z, z']
      show Cg p _ (1 * _)
      rw [Int.one_mul]
      exact Cg.refl _ _
  rw [pd_mul, pd_mul, pd_const, pd_mo, ← e1] at e2
  have hP : ¬ (p : Int) ∣ pd (fun k => ((k + 1 : Nat) : Int)) (p / 2) := pd_not hp fun k hk z => by
    have := Int.le_of_dvd (by omega) z
    omega
  have e3 : (p : Int) ∣ ((a : Int) ^ (p / 2) - mo (sm (fun k => bt (fl a p k)) (p / 2))) * pd (fun k => ((k + 1 : Nat) : Int)) (p / 2) := by
    have : ((a : Int) ^ (p / 2) - mo (sm (fun k => bt (fl a p k)) (p / 2))) * pd (fun k => ((k + 1 : Nat) : Int)) (p / 2) = (a : Int) ^ (p / 2) * pd (fun k => ((k + 1 : Nat) : Int)) (p / 2) - mo (sm (fun k => bt (fl a p k)) (p / 2)) * pd (fun k => ((k + 1 : Nat) : Int)) (p / 2) := by rw [Int.sub_mul]
    rw [this]
    exact e2
  rcases pr_int_euclid hp e3 with z | z
  · exact z
  · exact absurd z hP
noncomputable def EE (a p : Int) : Int := if (a % p) ^ ((p - 1) / 2).toNat % p < 2 then (a % p) ^ ((p - 1) / 2).toNat % p else -1
theorem EE_J {a p : Int} (hp : IsPr p) (h3 : 3 ≤ p) : EE a p = J (a % p) p := by
  obtain ⟨p, rfl⟩ := Int.eq_ofNat_of_zero_le (show 0 ≤ p by omega)
  obtain ⟨b, hb⟩ := Int.eq_ofNat_of_zero_le (Int.emod_nonneg a (show (p : Int) ≠ 0 by omega))
  have ho := pr_odd_nat hp (by omega)
  have hl := Int.emod_lt_of_pos a (show (0 : Int) < p by omega)
  unfold EE
  rw [hb] at hl ⊢
  have eh : (((p : Int) - 1) / 2).toNat = p / 2 := by omega
  rw [eh]
  have bm : b % p = b := Nat.mod_eq_of_lt (by omega)
  by_cases hd : p ∣ b
  · have b0 : b = 0 := by
      by_cases z : b = 0
      · exact z
      · have := Nat.le_of_dvd (by omega) hd; omega
    subst b0
    have hz : ((0 : Nat) : Int) ^ (p / 2) % p = 0 := by
      have : p / 2 = (p / 2 - 1) + 1 := by omega
      rw [this, Int.pow_succ]
      simp
    rw [hz, if_pos (by decide)]
    show _ = J 0 p
    rw [J_zero, if_neg (by omega)]
  · have hg := gauss hp (by omega) hd
    have hJ := (J_SS b p ho).1 (pr_cop hp hd)
    rw [hJ]
    have e := cg_eq hg
    show (if (b : Int) ^ (p / 2) % p < 2 then (b : Int) ^ (p / 2) % p else -1) = _
    rw [e]
    rcases mo_pm (G b p) with h | h
    · rw [show SS b p = 1 from h, Int.emod_eq_of_lt (by decide) (by omega), if_pos (by decide)]
    · rw [show SS b p = -1 from h]
      have : (-1 : Int) % p = p - 1 := by
        rw [show (-1 : Int) = (p - 1) + (-1) * p by omega, Int.add_mul_emod_self_right, Int.emod_eq_of_lt (by omega) (by omega)]
      rw [this, if_neg (by omega)]
noncomputable def prodI : List Int → Int
  | [] => 1
  | p :: l => p * prodI l
noncomputable def EEs (a : Int) : List Int → Int
  | [] => 1
  | p :: l => EE a p * EEs a l
theorem prodI_odd : ∀ {l : List Int}, (∀ p ∈ l, IsPr p ∧ 3 ≤ p) → 0 < prodI l ∧ prodI l % 2 = 1
  | [], _ => ⟨by decide, by decide⟩
  | p :: l, h => by
    obtain ⟨h1, h2⟩ := prodI_odd fun q hq => h q (List.mem_cons_of_mem _ hq)
    obtain ⟨hp, h3⟩ := h p List.mem_cons_self
    have ho : p % 2 = 1 := by
      obtain ⟨q, rfl⟩ := Int.eq_ofNat_of_zero_le (show 0 ≤ p by omega)
      have := pr_odd_nat (p := q) hp (by omega)
      omega
    refine ⟨Int.mul_pos (by omega) h1, ?_⟩
    show p * prodI l % 2 = 1
    rw [Int.mul_emod, ho, h2]; rfl
theorem J_EEs (a : Int) : ∀ {l : List Int}, (∀ p ∈ l, IsPr p ∧ 3 ≤ p) → J (a % prodI l) (prodI l) = EEs a l
  | [], _ => by
    show J (a % 1) 1 = 1
    rw [show a % 1 = 0 by omega, J_zero, if_pos rfl]
  | p :: l, h => by
    obtain ⟨hp, h3⟩ := h p List.mem_cons_self
    have hl : ∀ q ∈ l, IsPr q ∧ 3 ≤ q := fun q hq => h q (List.mem_cons_of_mem _ hq)
    obtain ⟨h1, h2⟩ := prodI_odd hl
    have ho : p % 2 = 1 := by
      obtain ⟨q, rfl⟩ := Int.eq_ofNat_of_zero_le (show 0 ≤ p by omega)
      have := pr_odd_nat (p := q) hp (by omega)
      omega
    show J (a % (p * prodI l)) (p * prodI l) = EE a p * EEs a l
    rw [J_bot (by omega) h1 ho h2, EE_J hp h3, J_EEs a hl]
theorem EE_pm {a p : Int} (hp : IsPr p) (h3 : 3 ≤ p) (h : a % p ≠ 0) : EE a p = 1 ∨ EE a p = -1 := by
  rw [EE_J hp h3]
  obtain ⟨p, rfl⟩ := Int.eq_ofNat_of_zero_le (show 0 ≤ p by omega)
  obtain ⟨b, hb⟩ := Int.eq_ofNat_of_zero_le (Int.emod_nonneg a (show (p : Int) ≠ 0 by omega))
  have ho := pr_odd_nat hp (by omega)
  have hl := Int.emod_lt_of_pos a (show (0 : Int) < p by omega)
  rw [hb] at hl h ⊢
  have hd : ¬ p ∣ b := fun z => by
    have hb0 : b ≠ 0 := fun w => h (by rw [w]; rfl)
    have := Nat.le_of_dvd (by omega) z
    omega
  rw [(J_SS b p ho).1 (pr_cop hp hd)]
  exact mo_pm _
end MM
set_option linter.all false
namespace MM
noncomputable def tw (m : Int) : Nat := if m ≤ 0 then 0 else if m % 2 = 0 then tw (m / 2) + 1 else 0
termination_by m.toNat
decreasing_by omega
noncomputable def op (m : Int) : Int := if m ≤ 0 then m else if m % 2 = 0 then op (m / 2) else m
termination_by m.toNat
decreasing_by omega
theorem tw_even {m : Int} (h : 0 < m) (e : m % 2 = 0) : tw m = tw (m / 2) + 1 := by rw [tw, if_neg (by omega), if_pos e]
theorem tw_odd {m : Int} (e : ¬ m % 2 = 0) : tw m = 0 := by
  rw [tw]; split
  · rfl
  · rfl
theorem op_even {m : Int} (h : 0 < m) (e : m % 2 = 0) : op m = op (m / 2) := by rw [op, if_neg (by omega), if_pos e]
theorem op_odd {m : Int} (e : ¬ m % 2 = 0) : op m = m := by
  rw [op]; split
  · rfl
  · rfl
theorem tw_le : ∀ (k : Nat) {m : Int}, m < 2 ^ k → tw m ≤ k
  | 0, m, h => by
    rw [tw, if_pos (by have e : (2 : Int) ^ 0 = 1 := rfl
                       omega)]
    exact Nat.le_refl _
  | k + 1, m, h => by
    by_cases h0 : m ≤ 0
    · rw [tw, if_pos h0]; omega
    · by_cases e : m % 2 = 0
      · rw [tw_even (by omega) e]
        have h4 : (2 : Int) ^ (k + 1) = 2 * 2 ^ k := by rw [Int.pow_succ]; omega
        have := tw_le k (m := m / 2) (by omega)
        omega
      · rw [tw_odd e]; omega
structure HvInv (m o : Int) (s : Int) : Prop where
  o0 : 0 < o
  ol : o ≤ m
  s0 : 0 ≤ s
  oe : op o = op m
  se : (tw o : Int) + s = tw m
theorem hv_start {m : Int} (h : 0 < m) : HvInv m m 0 := ⟨h, Int.le_refl _, Int.le_refl _, rfl, by omega⟩
theorem hv_turn {m o s : Int} (I : HvInv m o s) (e : o % 2 = 0) : HvInv m (o / 2) (s + 1) := by
  have o0 := I.o0
  have se := I.se
  have oe := I.oe
  have ol := I.ol
  have s0 := I.s0
  rw [tw_even o0 e] at se
  rw [op_even o0 e] at oe
  exact ⟨by omega, by omega, by omega, oe, by omega⟩
theorem hv_end {m o s : Int} (I : HvInv m o s) (e : ¬ o % 2 = 0) : o = op m ∧ s = tw m := by
  have se := I.se
  have oe := I.oe
  rw [tw_odd e] at se
  rw [op_odd e] at oe
  exact ⟨oe, by omega⟩
theorem op_pos {m : Int} (h : 0 < m) : ∀ (k : Nat), m.toNat ≤ k → 0 < op m ∧ op m ≤ m := by
  intro k
  induction k generalizing m with
  | zero => intro hk; omega
  | succ k ih =>
    intro hk
    by_cases e : m % 2 = 0
    · rw [op_even h e]
      have := ih (m := m / 2) (by omega) (by omega)
      omega
    · rw [op_odd e]; omega
noncomputable def hvs (n : Int) : Nat → Int → Bool
  | 0, _ => false
  | s + 1, p => decide (p = n - 1) || hvs n s (p * p % n)
noncomputable def halvB (n b : Int) : Bool := decide (b ^ (op (n - 1)).toNat % n = 1) || hvs n (tw (n - 1)) (b ^ (op (n - 1)).toNat % n)
end MM
set_option linter.all false
namespace MM
theorem nat_rep {a n : Int} (hn : 0 < n) : ∃ b m : Nat, n = m ∧ a % n = b ∧ b < m := by
  obtain ⟨m, rfl⟩ := Int.eq_ofNat_of_zero_le (show 0 ≤ n by omega)
  obtain ⟨b, hb⟩ := Int.eq_ofNat_of_zero_le (Int.emod_nonneg a (show (m : Int) ≠ 0 by omega))
  have := Int.emod_lt_of_pos a hn
  exact ⟨b, m, rfl, hb, by rw [hb] at this; exact_mod_cast this⟩
theorem J_top {a b n : Int} (hn : 0 < n) (ho : n % 2 = 1) : J (a * b % n) n = J (a % n) n * J (b % n) n := by
  obtain ⟨x, m, rfl, hx, lx⟩ := nat_rep (a := a) hn
  obtain ⟨y, m', e, hy, ly⟩ := nat_rep (a := b) hn
  have e : m = m' := by exact_mod_cast e
  subst e
  have om : m % 2 = 1 := by omega
  have exy : a * b % (m : Int) = ((x * y % m : Nat) : Int) := by
    rw [Int.natCast_emod, Int.natCast_mul, ← hx, ← hy, ← Int.mul_emod]
  rw [exy, hx, hy]
  have A := J_SS x m om
  have B := J_SS y m om
  have C := J_nat_mod (a := x * y) om
  by_cases cx : Nat.Coprime x m
  · by_cases cy : Nat.Coprime y m
    · rw [C.1 (Nat.Coprime.mul_left cx cy), A.1 cx, B.1 cy, SS_mul cx cy om]
    · rw [C.2 (fun z => cy (Nat.Coprime.coprime_mul_left z)), B.2 cy, Int.mul_zero]
  · rw [C.2 (fun z => cx (Nat.Coprime.coprime_mul_right z)), A.2 cx, Int.zero_mul]
theorem J_one_mod {n : Int} (hn : 0 < n) : J (1 % n) n = 1 := by
  by_cases h : n = 1
  · subst h; show J 0 1 = 1; rw [J_zero]; rfl
  · rw [Int.emod_eq_of_lt (by decide) (by omega), J_one]
theorem J_pow {a n : Int} (hn : 0 < n) (ho : n % 2 = 1) : ∀ k : Nat, J (a ^ k % n) n = J (a % n) n ^ k
  | 0 => by rw [Int.pow_zero, Int.pow_zero, J_one_mod hn]
  | k + 1 => by rw [Int.pow_succ, Int.pow_succ, J_top hn ho, J_pow hn ho k]
theorem odd_pow {e : Int} (he : e = 1 ∨ e = -1) {k : Nat} (hk : k % 2 = 1) : e ^ k = e := by
  rcases he with rfl | rfl
  · rw [Int.one_pow]
  · rw [show k = 2 * (k / 2) + 1 by omega, Int.pow_succ, Int.pow_mul]
    show (1 : Int) ^ (k / 2) * -1 = -1
    rw [Int.one_pow]; rfl
theorem neg_pow (k : Nat) : (-1 : Int) ^ k = mo k := by
  induction k with
  | zero => rfl
  | succ k ih => rw [Int.pow_succ, ih, mo_add]; rfl
theorem op_tw : ∀ (k : Nat) {m : Int}, m.toNat ≤ k → 0 < m → m = op m * 2 ^ tw m ∧ op m % 2 = 1
  | 0, m, h, h0 => by omega
  | k + 1, m, h, h0 => by
    by_cases e : m % 2 = 0
    · obtain ⟨h1, h2⟩ := op_tw k (m := m / 2) (by omega) (by omega)
      rw [op_even h0 e, tw_even h0 e]
      refine ⟨?_, h2⟩
      rw [Int.pow_succ, ← Int.mul_assoc, ← h1]
      omega
    · rw [op_odd e, tw_odd e]
      refine ⟨by omega, by omega⟩
theorem hvs_ex {n : Int} : ∀ (s : Nat) (x : Int), hvs n s x = true → ∃ r, r < s ∧ Cg n (x ^ 2 ^ r) (-1)
  | 0, x, h => by cases h
  | s + 1, x, h => by
    have h : (decide (x = n - 1) || hvs n s (x * x % n)) = true := h
    rw [Bool.or_eq_true] at h
    rcases h with h | h
    · have h : x = n - 1 := by simpa using h
      refine ⟨0, by omega, ?_⟩
      rw [h]
      refine ⟨1, ?_⟩
      show (n - 1) ^ 1 - -1 = n * 1
      rw [Int.pow_succ, Int.pow_zero]
      omega
    · obtain ⟨r, hr, c⟩ := hvs_ex s _ h
      refine ⟨r + 1, by omega, ?_⟩
      have c2 : Cg n ((x * x % n) ^ 2 ^ r) ((x * x) ^ 2 ^ r) := (cg_mod n _).pow _
      rw [sq_pow] at c2
      rw [show 2 ^ (r + 1) = 2 * 2 ^ r by rw [Nat.pow_succ]; omega]
      exact c2.symm.trans c
theorem primes_of_odd : ∀ (k : Nat) {n : Int}, n.toNat ≤ k → 0 < n → n % 2 = 1 → ∃ ps : List Int, (∀ p ∈ ps, IsPr p ∧ 3 ≤ p) ∧ prodI ps = n
  | 0, n, h, h0, _ => by omega
  | k + 1, n, h, h0, ho => by
    by_cases h1 : n = 1
    · exact ⟨[], fun _ h => (by cases h), h1.symm⟩
    · obtain ⟨p, hp, hd⟩ := has_prime (m := n) (by omega)
      obtain ⟨q, hq⟩ := hd
      have p2 := hp.1
      have q0 : 0 < q := by
        refine Classical.byContradiction fun z => ?_
        have := Int.mul_le_mul_of_nonneg_left (show q ≤ 0 by omega) (show 0 ≤ p by omega)
        omega
      have p3 : 3 ≤ p := by
        refine Classical.byContradiction fun z => ?_
        have : p = 2 := by omega
        rw [this] at hq
        omega
      have oq : q % 2 = 1 := by
        have : p * q % 2 = 1 := by rw [← hq]; exact ho
        rw [Int.mul_emod] at this
        have h1 : q % 2 = 0 ∨ q % 2 = 1 := by omega
        rcases h1 with h1 | h1
        · rw [h1, Int.mul_zero] at this; cases this
        · exact h1
      have lt : q < n := by
        have := Int.mul_le_mul_of_nonneg_right p3 (show 0 ≤ q by omega)
        omega
      obtain ⟨ps, h1, h2⟩ := primes_of_odd k (n := q) (by omega) q0 oq
      refine ⟨p :: ps, fun x hx => ?_, by show p * prodI ps = n; rw [h2, hq]⟩
      rcases List.mem_cons.mp hx with rfl | hx
      · exact ⟨hp, p3⟩
      · exact h1 x hx
theorem cg_dvd {m n a b : Int} (h : Cg n a b) (hd : m ∣ n) : Cg m a b := Int.dvd_trans hd h
theorem EE_cg {b p : Int} (hp : IsPr p) (h3 : 3 ≤ p) (hb : ¬ p ∣ b) : Cg p (b ^ ((p - 1) / 2).toNat) (EE b p) ∧ (EE b p = 1 ∨ EE b p = -1) := by
  have hz : b % p ≠ 0 := fun z => hb (Int.dvd_of_emod_eq_zero z)
  have pm := EE_pm hp h3 hz
  refine ⟨?_, pm⟩
  have hm : Cg p (b ^ ((p - 1) / 2).toNat) ((b % p) ^ ((p - 1) / 2).toNat) := (cg_mod p b).symm.pow _
  refine hm.trans ?_
  obtain ⟨x, m, rfl, hx, lx⟩ := nat_rep (a := b) (n := p) (by omega)
  have nd : ¬ m ∣ x := fun z => hz (by rw [hx]; obtain ⟨c, hc⟩ := z; by_cases w : x = 0
                                       · rw [w]; rfl
                                       · have := Nat.le_of_dvd (by omega) ⟨c, hc⟩; omega)
  have g := gauss hp (by omega) nd
  rw [EE_J hp h3, hx]
  have ho := pr_odd_nat hp (by omega)
  rw [(J_SS x m ho).1 (pr_cop hp nd), show (((m : Int) - 1) / 2).toNat = m / 2 by omega]
  exact g
theorem pm_eq {p e f : Int} (h3 : 3 ≤ p) (he : e = 1 ∨ e = -1) (hf : f = 1 ∨ f = -1) (h : Cg p e f) : e = f := by
  rcases he with rfl | rfl <;> rcases hf with rfl | rfl
  · rfl
  · have := Int.le_of_dvd (by decide) h; omega
  · obtain ⟨c, hc⟩ := h
    have : p ∣ 2 := ⟨-c, by rw [Int.mul_neg]; omega⟩
    have := Int.le_of_dvd (by decide) this
    omega
  · rfl
theorem halv_pr {p b : Int} {o r : Nat} (hp : IsPr p) (h3 : 3 ≤ p) (ho : o % 2 = 1) (hc : Cg p (b ^ (o * 2 ^ r)) (-1)) : ∃ k : Nat, p = 1 + 2 ^ (r + 1) * (k : Int) ∧ EE b p = mo k := by
  have n1 : ¬ Cg p (-1) 1 := fun z => by
    have := pm_eq h3 (.inr rfl) (.inl rfl) z
    cases this
  have hb : ¬ p ∣ b := fun z => by
    have h1 : p ∣ b ^ (o * 2 ^ r) := by
      have : o * 2 ^ r = (o * 2 ^ r - 1) + 1 := by
        have := Nat.mul_pos (show 0 < o by omega) (Nat.two_pow_pos r)
        omega
      rw [this, Int.pow_succ]
      exact Int.dvd_trans z (Int.dvd_mul_left _ _)
    have h2 : p ∣ (-1 : Int) := by
      have := Int.dvd_sub h1 hc
      rwa [Int.sub_sub_self] at this
    have h3' : p ∣ 1 := by
      obtain ⟨c, hc⟩ := h2
      exact ⟨-c, by rw [Int.mul_neg]; omega⟩
    have := Int.le_of_dvd (by decide) h3'
    omega
  have c1 : Cg p ((b ^ o) ^ 2 ^ r) (-1) := by rw [← Int.pow_mul]; exact hc
  have c2 : Cg p ((b ^ o) ^ 2 ^ (r + 1)) 1 := by
    rw [Nat.pow_succ, Int.pow_mul]
    exact (c1.pow 2).trans (Cg.refl _ _)
  have hO : Ord (b ^ o) p ((2 ^ (r + 1) : Nat) : Int) := by
    refine ord_of (by have := Nat.two_pow_pos (r + 1); omega) (by rw [Int.toNat_natCast]; exact c2) fun q hq hd => ?_
    have q2 : q = 2 := by
      have hd' : q ∣ (2 : Int) ^ (r + 1) := by rw [Int.natCast_pow] at hd; exact hd
      exact pr_dvd_pr hq (by exact ⟨by decide, fun d h1 h2 => by
        have := sq_mono (show (0 : Int) ≤ 2 by decide) h1
        omega⟩) (pr_dvd_pow hq hd')
    rw [q2]
    have : (((2 ^ (r + 1) : Nat) : Int) / 2).toNat = 2 ^ r := by rw [Nat.pow_succ]; omega
    rw [this]
    exact fun z => n1 (c1.symm.trans z)
  have f1 : Cg p ((b ^ o) ^ (p - 1).toNat) 1 := fermat1 hp (fun z => hb (pr_dvd_pow hp z))
  have hd := hO.dvd f1
  rw [Int.toNat_natCast] at hd
  obtain ⟨k, hk⟩ := hd
  have hpk : p = 1 + 2 ^ (r + 1) * (k : Int) := by
    have : ((p - 1).toNat : Int) = ((2 ^ (r + 1) * k : Nat) : Int) := by rw [hk]
    rw [Int.natCast_mul, Int.natCast_pow] at this
    have e : ((2 : Nat) : Int) = 2 := rfl
    rw [e] at this
    omega
  refine ⟨k, hpk, ?_⟩
  obtain ⟨ec, epm⟩ := EE_cg hp h3 hb
  have hh : ((p - 1) / 2).toNat = 2 ^ r * k := by
    have h1 : (p - 1).toNat = 2 * (2 ^ r * k) := by rw [hk, Nat.pow_succ]; grind
    omega
  rw [hh] at ec
  have c3 : Cg p (b ^ (2 ^ r * k * o)) (EE b p ^ o) := by rw [Int.pow_mul]; exact ec.pow o
  rw [odd_pow epm ho] at c3
  have c4 : Cg p (b ^ (2 ^ r * k * o)) ((-1) ^ k) := by
    rw [show 2 ^ r * k * o = o * 2 ^ r * k by grind, Int.pow_mul]
    exact hc.pow k
  rw [neg_pow] at c4
  exact pm_eq h3 epm (mo_pm k) (c3.symm.trans c4)
theorem halv_all {b : Int} {o r : Nat} (ho : o % 2 = 1) : ∀ (ps : List Int), (∀ p ∈ ps, IsPr p ∧ 3 ≤ p) → (∀ p ∈ ps, Cg p (b ^ (o * 2 ^ r)) (-1)) → ∃ M : Nat, prodI ps = 1 + 2 ^ (r + 1) * (M : Int) ∧ EEs b ps = mo M
  | [], _, _ => ⟨0, by show (1 : Int) = _; omega, rfl⟩
  | p :: ps, h1, h2 => by
    obtain ⟨M, hM, eM⟩ := halv_all ho ps (fun q hq => h1 q (List.mem_cons_of_mem _ hq)) (fun q hq => h2 q (List.mem_cons_of_mem _ hq))
    obtain ⟨hp, h3⟩ := h1 p List.mem_cons_self
    obtain ⟨k, hk, ek⟩ := halv_pr hp h3 ho (h2 p List.mem_cons_self)
    refine ⟨k + M + 2 ^ (r + 1) * (k * M), ?_, ?_⟩
    · show p * prodI ps = _
      rw [hM, hk]
      have e : (((k + M + 2 ^ (r + 1) * (k * M) : Nat)) : Int) = k + M + 2 ^ (r + 1) * ((k : Int) * M) := by
        rw [Int.natCast_add, Int.natCast_add, Int.natCast_mul, Int.natCast_mul, Int.natCast_pow]; rfl
      rw [e]
      generalize (2 : Int) ^ (r + 1) = t
      grind
    · show EE b p * EEs b ps = _
      rw [ek, eM, ← mo_add]
      refine mo_mod ?_
      have : 2 ^ (r + 1) * (k * M) % 2 = 0 := by rw [Nat.pow_succ, Nat.mul_comm _ 2, Nat.mul_assoc]; exact Nat.mul_mod_right ..
      omega
noncomputable def powL (n b : Int) : Bool := decide (b ^ (n - 1).toNat % n = 1)
noncomputable def sgnL (n b : Int) : Bool := !(decide (J (b % n) n = 0)) && decide (b ^ ((n - 1) / 2).toNat % n = J (b % n) n % n)
theorem one_mod {n : Int} (h : 3 ≤ n) : (1 : Int) % n = 1 := Int.emod_eq_of_lt (by omega) (by omega)
theorem sgn_of {n b : Int} (h3 : 3 ≤ n) (hJ : J (b % n) n = 1 ∨ J (b % n) n = -1) (hc : Cg n (b ^ ((n - 1) / 2).toNat) (J (b % n) n)) : sgnL n b = true := by
  unfold sgnL
  rw [decide_eq_true (cg_eq hc), decide_eq_false (by rcases hJ with h | h <;> rw [h] <;> decide)]; rfl
theorem sgn_pow {n b : Int} (h3 : 3 ≤ n) (ho : n % 2 = 1) (h : sgnL n b = true) : powL n b = true := by
  unfold sgnL at h
  rw [Bool.and_eq_true, Bool.not_eq_true', decide_eq_false_iff_not, decide_eq_true_eq] at h
  have c := (cg_of h.2).pow 2
  have hb := J_b (b % n) n
  have e : J (b % n) n ^ 2 = 1 := by
    have : J (b % n) n = 1 ∨ J (b % n) n = -1 := by have := h.1; omega
    rcases this with w | w <;> rw [w] <;> rfl
  rw [e, ← Int.pow_mul, show ((n - 1) / 2).toNat * 2 = (n - 1).toNat by omega] at c
  unfold powL
  exact decide_eq_true (by rw [cg_eq c, one_mod h3])
theorem halv_sgn {n b : Int} (h3 : 3 ≤ n) (ho : n % 2 = 1) (h : halvB n b = true) : sgnL n b = true := by
  obtain ⟨hm, oo⟩ := op_tw _ (Nat.le_refl _) (show 0 < n - 1 by omega)
  have op0 := (op_pos (m := n - 1) (by omega) _ (Nat.le_refl _)).1
  obtain ⟨o, hO⟩ := Int.eq_ofNat_of_zero_le (show 0 ≤ op (n - 1) by omega)
  unfold halvB at h
  rw [hO] at h hm oo op0
  have hm : n - 1 = (o : Int) * 2 ^ tw (n - 1) := hm
  have oo' : o % 2 = 1 := by have : (o : Int) % 2 = 1 := oo; omega
  have h : (decide (b ^ o % n = 1) || hvs n (tw (n - 1)) (b ^ o % n)) = true := h
  generalize tw (n - 1) = s at hm h
  have s1 : 1 ≤ s := by
    cases s with
    | zero => rw [Int.pow_zero, Int.mul_one] at hm; omega
    | succ s => omega
  obtain ⟨t, rfl⟩ : ∃ t, s = t + 1 := ⟨s - 1, by omega⟩
  have hh : ((n - 1) / 2).toNat = o * 2 ^ t := by
    rw [Int.pow_succ, ← Int.mul_assoc] at hm
    have e : (n - 1) / 2 = ((o * 2 ^ t : Nat) : Int) := by
      rw [Int.natCast_mul, Int.natCast_pow]
      have : (((2 : Nat) : Int) ^ t) = 2 ^ t := rfl
      rw [this]
      omega
    rw [e, Int.toNat_natCast]
  rw [Bool.or_eq_true] at h
  rcases h with h | h
  · have c : Cg n (b ^ o) 1 := cg_of (by rw [one_mod h3]; simpa using h)
    have e := J_pow (a := b) (n := n) (by omega) ho o
    rw [cg_eq c, J_one_mod (by omega)] at e
    have jb := J_b (b % n) n
    have jo : J (b % n) n = 1 := by
      have z : J (b % n) n ≠ 0 := fun w => by
        rw [w, show o = (o - 1) + 1 by omega, Int.pow_succ, Int.mul_zero] at e
        cases e
      have hpm : J (b % n) n = 1 ∨ J (b % n) n = -1 := by omega
      rw [odd_pow hpm oo'] at e
      exact e.symm
    refine sgn_of h3 (.inl jo) ?_
    rw [jo, hh, Int.pow_mul]
    have := c.pow (2 ^ t)
    rwa [Int.one_pow] at this
  · obtain ⟨r, hr, c⟩ := hvs_ex _ _ h
    have c1 : Cg n (b ^ (o * 2 ^ r)) (-1) := by
      rw [Int.pow_mul]
      exact ((cg_mod n _).symm.pow _).trans c
    obtain ⟨ps, hps, hprod⟩ := primes_of_odd _ (Nat.le_refl _) (show 0 < n by omega) ho
    have dv : ∀ {l : List Int} {p : Int}, p ∈ l → p ∣ prodI l := by
      intro l
      induction l with
      | nil => intro p h; cases h
      | cons q l ih =>
        intro p h
        rcases List.mem_cons.mp h with rfl | h
        · exact Int.dvd_mul_right ..
        · exact Int.dvd_trans (ih h) (Int.dvd_mul_left ..)
    obtain ⟨M, hM, eM⟩ := halv_all (b := b) (r := r) oo' ps hps (fun p hp => cg_dvd c1 (hprod ▸ dv hp))
    have jE := J_EEs b hps
    rw [hprod] at hM jE
    rw [eM] at jE
    obtain ⟨u, hu⟩ : ∃ u, t = r + u := ⟨t - r, by omega⟩
    subst hu
    have hMu : M = o * 2 ^ u := by
      have e1 : (2 : Int) ^ (r + 1) * M = 2 ^ (r + 1) * ((o * 2 ^ u : Nat) : Int) := by
        rw [Int.natCast_mul, Int.natCast_pow]
        have : (((2 : Nat) : Int) ^ u) = 2 ^ u := rfl
        rw [this]
        have : (2 : Int) ^ (r + u + 1) = 2 ^ (r + 1) * 2 ^ u := by rw [← Int.pow_add]; congr 1; omega
        rw [this] at hm
        have e2 : (2 : Int) ^ (r + 1) * M = n - 1 := by omega
        rw [e2, hm]
        generalize (2 : Int) ^ (r + 1) = x
        generalize (2 : Int) ^ u = y
        grind
      have p0 : (2 : Int) ^ (r + 1) ≠ 0 := by
        have := Int.pow_pos (n := 2) (m := r + 1) (by decide)
        omega
      exact_mod_cast Int.eq_of_mul_eq_mul_left p0 e1
    have hJ : J (b % n) n = mo (2 ^ u) := by
      rw [jE]
      refine mo_mod ?_
      rw [hMu, Nat.mul_mod, oo', Nat.one_mul, Nat.mod_mod]
    refine sgn_of h3 (by rw [hJ]; exact mo_pm _) ?_
    rw [hJ, hh, ← neg_pow, show o * 2 ^ (r + u) = o * 2 ^ r * 2 ^ u by rw [Nat.pow_add, Nat.mul_assoc], Int.pow_mul]
    exact c1.pow _
theorem hvs_pr {p : Int} (hp : IsPr p) (h3 : 3 ≤ p) : ∀ (s : Nat) (x : Int), 0 ≤ x → x < p → Cg p (x ^ 2 ^ s) 1 → x = 1 ∨ hvs p s x = true
  | 0, x, x0, x1, h => by
    left
    have := cg_eq h
    rw [Nat.pow_zero, Int.pow_succ, Int.pow_zero, Int.one_mul, one_mod h3, Int.emod_eq_of_lt x0 x1] at this
    exact this
  | s + 1, x, x0, x1, h => by
    have y0 := Int.emod_nonneg (x * x) (show p ≠ 0 by omega)
    have y1 := Int.emod_lt_of_pos (x * x) (show 0 < p by omega)
    have c : Cg p ((x * x % p) ^ 2 ^ s) 1 := by
      refine ((cg_mod p _).pow _).trans ?_
      rw [sq_pow, show 2 * 2 ^ s = 2 ^ (s + 1) by rw [Nat.pow_succ]; omega]
      exact h
    show _ ∨ (decide (x = p - 1) || hvs p s (x * x % p)) = true
    rcases hvs_pr hp h3 s _ y0 y1 c with e | e
    · have hd : p ∣ (x - 1) * (x + 1) := by
        have : Cg p (x * x) 1 := cg_of (by rw [e, one_mod h3])
        obtain ⟨z, hz⟩ := this
        exact ⟨z, by rw [← hz]; grind⟩
      rcases pr_int_euclid hp hd with w | w
      · left
        by_cases z : x = 0
        · subst z
          obtain ⟨v, hv⟩ := w
          have : p ∣ 1 := ⟨-v, by rw [Int.mul_neg]; omega⟩
          have := Int.le_of_dvd (by decide) this
          omega
        · by_cases z1 : x = 1
          · exact z1
          · have := Int.le_of_dvd (by omega) w
            omega
      · right
        have := Int.le_of_dvd (by omega) w
        rw [decide_eq_true (show x = p - 1 by omega)]; rfl
    · right; rw [e, Bool.or_true]
theorem pr_looks {p b : Int} (hp : IsPr p) (h3 : 3 ≤ p) (b1 : 1 ≤ b) (b2 : b < p) : halvB p b = true ∧ sgnL p b = true ∧ powL p b = true := by
  have ho : p % 2 = 1 := by
    obtain ⟨q, rfl⟩ := Int.eq_ofNat_of_zero_le (show 0 ≤ p by omega)
    have := pr_odd_nat (p := q) hp (by omega)
    omega
  have hb : ¬ p ∣ b := fun z => by have := Int.le_of_dvd (by omega) z; omega
  have h1 : halvB p b = true := by
    obtain ⟨hm, _⟩ := op_tw _ (Nat.le_refl _) (show 0 < p - 1 by omega)
    have op0 := (op_pos (m := p - 1) (by omega) _ (Nat.le_refl _)).1
    have c : Cg p ((b ^ (op (p - 1)).toNat % p) ^ 2 ^ tw (p - 1)) 1 := by
      refine ((cg_mod p _).pow _).trans ?_
      rw [← Int.pow_mul]
      have e : (op (p - 1)).toNat * 2 ^ tw (p - 1) = (p - 1).toNat := by
        have : (((op (p - 1)).toNat * 2 ^ tw (p - 1) : Nat) : Int) = p - 1 := by
          rw [Int.natCast_mul, Int.natCast_pow, Int.toNat_of_nonneg (by omega)]
          exact hm.symm
        omega
      rw [e]
      exact fermat1 hp hb
    unfold halvB
    rcases hvs_pr hp h3 _ _ (Int.emod_nonneg _ (by omega)) (Int.emod_lt_of_pos _ (by omega)) c with w | w
    · rw [decide_eq_true w]; rfl
    · rw [w, Bool.or_true]
  have h2 := halv_sgn h3 ho h1
  exact ⟨h1, h2, sgn_pow h3 ho h2⟩
end MM
set_option linter.all false
set_option maxHeartbeats 4000000
namespace MM
noncomputable abbrev PZ := Int × Int
noncomputable def pm (d : Int) (P Q : PZ) : PZ := (P.1 * Q.1 + d * P.2 * Q.2, P.1 * Q.2 + P.2 * Q.1)
noncomputable def pw (d : Int) (P : PZ) : Nat → PZ
  | 0 => (1, 0)
  | k + 1 => pm d (pw d P k) P
noncomputable def CP (n : Int) (P Q : PZ) : Prop := Cg n P.1 Q.1 ∧ Cg n P.2 Q.2
theorem CP.refl (n : Int) (P : PZ) : CP n P P := ⟨Cg.refl _ _, Cg.refl _ _⟩
theorem CP.symm {n : Int} {P Q : PZ} (h : CP n P Q) : CP n Q P := ⟨h.1.symm, h.2.symm⟩
theorem CP.trans {n : Int} {P Q R : PZ} (h : CP n P Q) (g : CP n Q R) : CP n P R := ⟨h.1.trans g.1, h.2.trans g.2⟩
theorem CP.mul {n d : Int} {P P' Q Q' : PZ} (h : CP n P P') (g : CP n Q Q') : CP n (pm d P Q) (pm d P' Q') :=
  ⟨(h.1.mul g.1).add (((Cg.refl n d).mul h.2).mul g.2), (h.1.mul g.2).add (h.2.mul g.1)⟩
theorem CP.pw {n d : Int} {P P' : PZ} (h : CP n P P') : ∀ k, CP n (pw d P k) (pw d P' k)
  | 0 => CP.refl _ _
  | k + 1 => (CP.pw h k).mul h
noncomputable def rp (n : Int) (P : PZ) : PZ := (P.1 % n, P.2 % n)
structure Rst (n : Int) (P : PZ) : Prop where
  a0 : 0 ≤ P.1
  a1 : P.1 < n
  b0 : 0 ≤ P.2
  b1 : P.2 < n
theorem Rst.of {n : Int} (hn : 0 < n) (P : PZ) : Rst n (rp n P) := ⟨Int.emod_nonneg _ (by omega), Int.emod_lt_of_pos _ hn, Int.emod_nonneg _ (by omega), Int.emod_lt_of_pos _ hn⟩
theorem Rst.rp {n : Int} {P : PZ} (h : Rst n P) : rp n P = P := Prod.ext (Int.emod_eq_of_lt h.a0 h.a1) (Int.emod_eq_of_lt h.b0 h.b1)
structure PPInv (d n : Int) (P : PZ) (often : Int) (done square : PZ) (left : Int) : Prop where
  rd : Rst n done
  rs : Rst n square
  l0 : 0 ≤ left
  cg : CP n (pm d done (pw d square left.toNat)) (pw d P often.toNat)
end MM
set_option linter.all false
set_option maxHeartbeats 4000000
namespace MM
noncomputable def pa (A B : PZ) : PZ := (A.1 + B.1, A.2 + B.2)
noncomputable def ps (c : Int) (A : PZ) : PZ := (c * A.1, c * A.2)
noncomputable def bip (d : Int) (A : PZ) (n : Nat) : Nat → PZ
  | 0 => (0, 0)
  | m + 1 => pa (bip d A n m) (ps (ch n m) (pw d A m))
end MM
set_option linter.all false
set_option maxHeartbeats 4000000
set_option maxRecDepth 100000
namespace MM
theorem nbN {x n : Int} (h : 1 ≤ x ∧ x ≤ n) (h2 : n ≤ 1000000000) : x.natAbs < 10 ^ 100 := by omega
theorem nbL {x : Int} (h : 1 ≤ x) (h2 : x ≤ 1000000000) : (x - 1).natAbs < 10 ^ 100 := by omega
theorem nbM {x y n : Int} (h : 1 ≤ x ∧ x ≤ n) (g : 1 ≤ y ∧ y ≤ n) (h2 : n ≤ 1000000000) : (x * y).natAbs < 10 ^ 99 := by
  have a := Int.mul_le_mul h.2 g.2 (by omega) (by omega)
  have b := Int.mul_le_mul h.1 g.1 (by omega) (by omega)
  have c := Int.mul_le_mul h2 h2 (by omega) (by omega)
  omega
theorem lt99 {x : Int} (h : x.natAbs < 10 ^ 99) : x.natAbs < 10 ^ 100 := by omega
theorem pos1 {n : Int} (h : 3 ≤ n) : 1 ≤ n := by omega
theorem posl {n : Int} (h : 3 ≤ n) : 0 < n - 1 := by omega
theorem pos2 {p : Int} (h : 2 ≤ p) : 1 ≤ p := by omega
theorem pos2l {p : Int} (h : 2 ≤ p) : 0 < p - 1 := by omega
noncomputable def pr1 (g : Int → Int) : List (Int × Int) → Int
  | [] => 1
  | q :: r => g q.1 * pr1 g r
theorem pr1_append (g : Int → Int) (l r : List (Int × Int)) : pr1 g (l ++ r) = pr1 g l * pr1 g r := by
  induction l with
  | nil => simp [pr1]
  | cons q l ih => rw [List.cons_append, pr1, pr1, ih, Int.mul_assoc]
theorem pr1_take {g : Int → Int} {l : List (Int × Int)} {i : Nat} {q : Int × Int} (h : l[i]? = some q) : pr1 g (l.take (i + 1)) = pr1 g (l.take i) * g q.1 := by
  rw [List.take_succ, h, pr1_append]
  show _ * (g q.1 * 1) = _
  rw [Int.mul_one]
noncomputable def gp (n : Int) (p : Int) : Int := Int.gcd (n - 1) (p - 1)
noncomputable def gh (n : Int) (p : Int) : Int := Int.gcd (op (n - 1)) (op (p - 1))
noncomputable def mpow (n : Int) (l : List (Int × Int)) : Int := pr1 (gp n) l
noncomputable def hm (o m : Int) : Nat → Int
  | 0 => o
  | j + 1 => hm o m j + o * m ^ j
noncomputable def mhal (n : Int) (l : List (Int × Int)) (k : Nat) : Int := hm (pr1 (gh n) l) (2 ^ l.length) k
noncomputable def IsMn (l : List (Int × Int)) (k : Nat) : Prop := (∃ q ∈ l, tw (q.1 - 1) = k) ∧ ∀ q ∈ l, k ≤ tw (q.1 - 1)
theorem IsMn.unique {l : List (Int × Int)} {k j : Nat} (h : IsMn l k) (g : IsMn l j) : k = j := by
  obtain ⟨⟨q, hq, e⟩, h2⟩ := h
  obtain ⟨⟨r, hr, f⟩, g2⟩ := g
  have := h2 r hr
  have := g2 q hq
  omega
theorem op_le {m : Int} (h : 0 < m) : 0 < op m ∧ op m ≤ m := op_pos h _ (Nat.le_refl _)
theorem pr1_bound {g : Int → Int} {l : List (Int × Int)} (hl : ∀ q ∈ l, IsPr q.1 ∧ 1 ≤ q.2) (hg : ∀ q ∈ l, 1 ≤ g q.1 ∧ g q.1 ≤ q.1) : 1 ≤ pr1 g l ∧ pr1 g l ≤ prod l := by
  induction l with
  | nil => exact ⟨Int.le_refl _, Int.le_refl _⟩
  | cons q r ih =>
    obtain ⟨a, b⟩ := ih (fun x hx => hl x (List.mem_cons_of_mem _ hx)) (fun x hx => hg x (List.mem_cons_of_mem _ hx))
    obtain ⟨c, d⟩ := hg q List.mem_cons_self
    have e := hl q List.mem_cons_self
    have f : q.1 ≤ q.1 ^ q.2.toNat := by
      have := pow_dvd_self (p := q.1) e.2
      have h1 := pow_pos' (show 1 ≤ q.1 by have := e.1.1; omega) q.2.toNat
      exact Int.le_of_dvd (by omega) this
    have m1 := Int.mul_le_mul c a (by omega) (by omega)
    have m2 := Int.mul_le_mul (show g q.1 ≤ q.1 ^ q.2.toNat by omega) b (by omega) (by omega)
    exact ⟨m1, m2⟩
theorem gcd_bound {a b : Int} (h : 0 < b) : 1 ≤ (Int.gcd a b : Int) ∧ (Int.gcd a b : Int) ≤ b := by
  have h1 : 0 < Int.gcd a b := Int.gcd_pos_of_ne_zero_right _ (by omega)
  have h2 := Int.le_of_dvd h (Int.gcd_dvd_right a b)
  omega
theorem gp_bound {n p : Int} (h : 2 ≤ p) : 1 ≤ gp n p ∧ gp n p ≤ p := by
  have := gcd_bound (a := n - 1) (show 0 < p - 1 by omega)
  unfold gp
  omega
theorem gh_bound {n p : Int} (h : 2 ≤ p) : 1 ≤ gh n p ∧ gh n p ≤ p := by
  have := op_le (show 0 < p - 1 by omega)
  have := gcd_bound (a := op (n - 1)) (show 0 < op (p - 1) by omega)
  unfold gh
  omega
theorem take_pr {l : List (Int × Int)} (hl : ∀ q ∈ l, IsPr q.1 ∧ 1 ≤ q.2) (i : Nat) : prod (l.take i) ≤ prod l ∧ 1 ≤ prod (l.take i) := by
  have e : prod l = prod (l.take i) * prod (l.drop i) := by rw [← prod_append, List.take_append_drop]
  have a := prod_pos fun q hq => hl q (List.mem_of_mem_take (i := i) hq)
  have b := prod_pos fun q hq => hl q (List.mem_of_mem_drop (i := i) hq)
  have := Int.mul_le_mul_of_nonneg_left b (show 0 ≤ prod (l.take i) by omega)
  omega
theorem gp_take {n m : Int} {l : List (Int × Int)} (h : Parts n l) (i : Nat) : 1 ≤ pr1 (gp m) (l.take i) ∧ pr1 (gp m) (l.take i) ≤ n := by
  have a := pr1_bound (g := gp m) (fun q hq => h.1.pr q (List.mem_of_mem_take (i := i) hq)) fun q hq => gp_bound (h.1.pr q (List.mem_of_mem_take hq)).1.1
  have b := take_pr h.1.pr i
  have := h.2
  omega
theorem gh_take {n m : Int} {l : List (Int × Int)} (h : Parts n l) (i : Nat) : 1 ≤ pr1 (gh m) (l.take i) ∧ pr1 (gh m) (l.take i) ≤ n := by
  have a := pr1_bound (g := gh m) (fun q hq => h.1.pr q (List.mem_of_mem_take (i := i) hq)) fun q hq => gh_bound (h.1.pr q (List.mem_of_mem_take hq)).1.1
  have b := take_pr h.1.pr i
  have := h.2
  omega
theorem two_tw : ∀ (k : Nat) {m : Int}, m.toNat ≤ k → 0 < m → (2 : Int) ^ tw m ≤ m
  | 0, m, h, h0 => by omega
  | k + 1, m, h, h0 => by
    by_cases e : m % 2 = 0
    · rw [tw_even h0 e, Int.pow_succ]
      have := two_tw k (m := m / 2) (by omega) (by omega)
      omega
    · rw [tw_odd e]
      show 1 ≤ m
      omega
theorem two_le {k j : Nat} (h : k ≤ j) : (2 : Int) ^ k ≤ 2 ^ j := by
  obtain ⟨d, rfl⟩ : ∃ d, j = k + d := ⟨j - k, by omega⟩
  rw [Int.pow_add]
  have a := pow_pos' (show (1 : Int) ≤ 2 by decide) k
  have b := pow_pos' (show (1 : Int) ≤ 2 by decide) d
  have := Int.mul_le_mul_of_nonneg_left b (show 0 ≤ (2 : Int) ^ k by omega)
  omega
theorem pow_len {l : List (Int × Int)} (hl : ∀ q ∈ l, IsPr q.1 ∧ 1 ≤ q.2) {j : Nat} (hj : ∀ q ∈ l, j ≤ tw (q.1 - 1)) : ((2 : Int) ^ j) ^ l.length ≤ prod l := by
  induction l with
  | nil => exact Int.le_refl _
  | cons q r ih =>
    have a := ih (fun x hx => hl x (List.mem_cons_of_mem _ hx)) (fun x hx => hj x (List.mem_cons_of_mem _ hx))
    have e := hl q List.mem_cons_self
    have q2 := e.1.1
    have f : q.1 ≤ q.1 ^ q.2.toNat := by
      have := pow_dvd_self (p := q.1) e.2
      have h1 := pow_pos' (show 1 ≤ q.1 by omega) q.2.toNat
      exact Int.le_of_dvd (by omega) this
    have g := two_tw _ (Nat.le_refl _) (show 0 < q.1 - 1 by omega)
    have h := two_le (hj q List.mem_cons_self)
    have z := pow_pos' (show (1 : Int) ≤ 2 ^ j from pow_pos' (by decide) j) r.length
    rw [List.length_cons, Int.pow_succ, prod, Int.mul_comm]
    exact Int.mul_le_mul (by omega) a (by omega) (by omega)
theorem pow_swap (a b : Nat) : ((2 : Int) ^ a) ^ b = (2 ^ b) ^ a := by rw [← Int.pow_mul, ← Int.pow_mul, Nat.mul_comm]
theorem found_bound {n : Int} {l : List (Int × Int)} (h : Parts n l) {k : Nat} (hk : IsMn l k) {j : Nat} (hj : j ≤ k) : 1 ≤ ((2 : Int) ^ l.length) ^ j ∧ ((2 : Int) ^ l.length) ^ j ≤ n := by
  refine ⟨pow_pos' (pow_pos' (by decide) _) _, ?_⟩
  rw [pow_swap]
  have := pow_len h.1.pr (j := j) fun q hq => Nat.le_trans hj (hk.2 q hq)
  rw [h.2] at this
  exact this
theorem mn_le {n : Int} {l : List (Int × Int)} (h : Parts n l) (hn : n ≤ 10 ^ 9) {k : Nat} (hk : IsMn l k) : k ≤ 30 := by
  obtain ⟨⟨q, hq, rfl⟩, _⟩ := hk
  refine tw_le 30 ?_
  have := mem_dvd_prod h.1.pr hq
  have h1 := prod_pos h.1.pr
  have := Int.le_of_dvd (by omega) this
  have := h.2
  have e : (2 : Int) ^ 30 = 1073741824 := by decide
  omega
theorem more_bound {n : Int} {l : List (Int × Int)} (h : Parts n l) (i : Nat) (hi : i ≤ l.length) : 1 ≤ (2 : Int) ^ i ∧ (2 : Int) ^ i ≤ n := by
  have a := prod_ge h.1.pr
  have b := two_le hi
  have := h.2
  exact ⟨pow_pos' (by decide) _, by omega⟩
theorem hm_bound {o m b : Int} (h0 : 1 ≤ o) : ∀ (j : Nat), (∀ i, i < j → 1 ≤ m ^ i ∧ o * m ^ i ≤ b) → o ≤ b → 1 ≤ hm o m j ∧ hm o m j ≤ (j + 1) * b
  | 0, _, hb => by
    simp only [hm]
    omega
  | j + 1, h, hb => by
    obtain ⟨a, c⟩ := hm_bound h0 j (fun i hi => h i (by omega)) hb
    obtain ⟨d, e⟩ := h j (by omega)
    have f := Int.mul_le_mul h0 d (by omega) (by omega)
    simp only [hm]
    have z : ((j + 1 : Nat) : Int) + 1 = (j : Int) + 1 + 1 := by omega
    rw [z, Int.add_mul ((j : Int) + 1) 1 b]
    omega
theorem mhal_bound {n : Int} {l : List (Int × Int)} (h : Parts n l) (h3 : 1 ≤ n) (hn : n ≤ 10 ^ 9) {k : Nat} (hk : IsMn l k) {j : Nat} (hj : j ≤ k) : 1 ≤ hm (pr1 (gh n) l) (2 ^ l.length) j ∧ hm (pr1 (gh n) l) (2 ^ l.length) j ≤ 10 ^ 20 := by
  have o := gh_take (m := n) h l.length
  rw [List.take_length] at o
  have hb := hm_bound (o := pr1 (gh n) l) (m := 2 ^ l.length) (b := 10 ^ 18) o.1 j (fun i hi => by
    have f := found_bound h hk (show i ≤ k by omega)
    have m1 := Int.mul_le_mul o.2 f.2 (by omega) (by omega)
    have m2 := Int.mul_le_mul hn hn (by omega) (by decide)
    refine ⟨f.1, ?_⟩
    have e : (10 : Int) ^ 9 * 10 ^ 9 = 10 ^ 18 := by decide
    omega) (by have : (10 : Int) ^ 9 ≤ 10 ^ 18 := by decide
               omega)
  have k30 := mn_le h hn hk
  refine ⟨hb.1, Int.le_trans hb.2 ?_⟩
  have := Int.mul_le_mul_of_nonneg_right (show ((j : Int) + 1) ≤ 100 by omega) (show (0 : Int) ≤ 10 ^ 18 by decide)
  have e : (100 : Int) * 10 ^ 18 = 10 ^ 20 := by decide
  omega
end MM
namespace MM
theorem prime_le {n : Int} {l : List (Int × Int)} (h : Parts n l) {q : Int × Int} (hq : q ∈ l) : q.1 ≤ n := by
  have a := mem_dvd_prod h.1.pr hq
  have b := prod_pos h.1.pr
  rw [h.2] at a b
  exact Int.le_of_dvd b a
theorem op_bnd {n p : Int} (h : 2 ≤ p) (g : p ≤ n) : 1 ≤ op (p - 1) ∧ op (p - 1) ≤ n := by
  have := op_le (show 0 < p - 1 by omega)
  omega
theorem gp_in {n m p : Int} (h : 2 ≤ p) (g : p ≤ n) : 1 ≤ gp m p ∧ gp m p ≤ n := by
  have := gp_bound (n := m) h
  omega
theorem gh_in {n m p : Int} (h : 2 ≤ p) (g : p ≤ n) : 1 ≤ gh m p ∧ gh m p ≤ n := by
  have := gh_bound (n := m) h
  omega
theorem rng_ok {k : Nat} (h : k ≤ 30) : -(2 ^ 62) ≤ (k : Int) ∧ (k : Int) < 2 ^ 62 := by omega
end MM
set_option Elab.async false
set_option linter.all false
set_option maxRecDepth 100000
namespace MM
noncomputable def pl (n : Int) : List (Int × Int) := @dite _ (1 ≤ n) (Classical.propDecidable _) (fun h => Classical.choose (parts_exist h)) (fun _ => [])
noncomputable def pmul (f : Int → Int) : List (Int × Int) → Int
  | [] => 1
  | q :: r => f q.1 * pmul f r
noncomputable def mf : Nat → Int → Int
  | 0, _ => 1
  | k + 1, p => phi (pl (p - 1)) * pmul (mf k) (pl (p - 1))
theorem part_half {p : Int} {l : List (Int × Int)} {j : Nat} (hp : IsPr p) (hj : p ≤ 2 ^ (j + 1)) (hl : Parts (p - 1) l) {q : Int × Int} (hq : q ∈ l) : q.1 ≤ 2 ^ j := by
  have hqp := (hl.1.pr q hq).1
  have q2 := hqp.1
  have p2 := hp.1
  have hd : q.1 ∣ p - 1 := by rw [← hl.2]; exact mem_dvd_prod hl.1.pr hq
  have hle := Int.le_of_dvd (by omega) hd
  rw [Int.pow_succ] at hj
  by_cases e : q.1 = 2
  · omega
  · have odd : p % 2 = 1 := by
      by_cases h4 : 4 ≤ p
      · have := hp.2 2 (by omega) (by omega)
        omega
      · omega
    obtain ⟨m, hm⟩ : ∃ m, p - 1 = 2 * m := ⟨(p - 1) / 2, by omega⟩
    rw [hm] at hd
    rcases pr_int_euclid hqp hd with h | h
    · have := Int.le_of_dvd (by omega) h
      omega
    · have := Int.le_of_dvd (by omega) h
      omega
end MM
set_option Elab.async false
set_option linter.all false
set_option maxRecDepth 100000
namespace MM
noncomputable def BaseOk (b p : Int) (l : List (Int × Int)) : Prop := ∀ q ∈ l, ¬ Cg p (b ^ ((p - 1) / q.1).toNat) 1
noncomputable def baseB (b p : Int) (l : List (Int × Int)) : Bool := @decide (BaseOk b p l) (Classical.propDecidable _)
theorem baseB_of {b p : Int} {l : List (Int × Int)} (h : BaseOk b p l) : baseB b p l = true := by unfold baseB; exact @decide_eq_true _ (Classical.propDecidable _) h
theorem baseB_not {b p : Int} {l : List (Int × Int)} (h : ¬ BaseOk b p l) : baseB b p l = false := by unfold baseB; exact @decide_eq_false _ (Classical.propDecidable _) h
theorem base_ord {b p : Int} {l : List (Int × Int)} (hp : IsPr p) (hl : Parts (p - 1) l) (b1 : 1 ≤ b) (b2 : b < p) : BaseOk b p l ↔ Ord b p (p - 1) := by
  have p2 := hp.1
  have nd : ¬ p ∣ b := fun z => by have := Int.le_of_dvd (by omega) z; omega
  constructor
  · intro h
    refine ord_of (by omega) (fermat1 hp nd) fun q hq qd => ?_
    obtain ⟨x, hx, rfl⟩ := pr_dvd_prod hq hl.1.pr (by rw [hl.2]; exact qd)
    exact h x hx
  · intro h q hq
    exact h.no_prime (hl.1.pr q hq).1.1 (by rw [← hl.2]; exact mem_dvd_prod hl.1.pr hq)
noncomputable def triedB (p : Int) (l : List (Int × Int)) (i : Nat) : List Int := ((List.range i).map fun (j : Nat) => 1 + (j : Int)).filter fun b => baseB b p l
noncomputable def failP (b p : Int) (l : List (Int × Int)) : List (Int × Int) := l.filter fun q => decide (b ^ ((p - 1) / q.1).toNat % p = 1)
end MM
set_option Elab.async false
set_option linter.all false
set_option maxRecDepth 100000
namespace MM
noncomputable def od (p b : Int) : Int := @dite _ (∃ o, Ord b p o) (Classical.propDecidable _) (fun h => Classical.choose h) (fun _ => 0)
noncomputable def ordL (p : Int) (i : Nat) : List Int := (List.range i).map fun (j : Nat) => od p (1 + (j : Int))
end MM
set_option Elab.async false
set_option linter.all false
namespace MM
theorem otw {m : Int} (h : 0 < m) : m = op m * 2 ^ tw m ∧ op m % 2 = 1 := op_tw _ (Nat.le_refl _) h
noncomputable def smm (m : Int) : Nat → Int
  | 0 => 1
  | j + 1 => smm m j + m ^ j
theorem hm_smm (o m : Int) : ∀ k, hm o m k = o * smm m k
  | 0 => by show o = o * 1; omega
  | k + 1 => by show hm o m k + o * m ^ k = o * (smm m k + m ^ k); rw [hm_smm o m k, Int.mul_add]
theorem smm_pos {m : Int} (h : 0 ≤ m) : ∀ k, 1 ≤ smm m k
  | 0 => Int.le_refl _
  | k + 1 => by show 1 ≤ smm m k + m ^ k; have := smm_pos h k; have : 0 ≤ m ^ k := Int.pow_nonneg h; omega
theorem p2_pos (j : Nat) : (1 : Int) ≤ 2 ^ j := by
  have := two_le (Nat.zero_le j)
  simpa using this
theorem smm_le {r : Nat} : ∀ k, 1 ≤ k → (2 : Int) ^ r * smm (2 ^ (r + 1)) k ≤ (2 ^ (r + 1)) ^ k
  | 0, h => by omega
  | 1, _ => by
    show (2 : Int) ^ r * (1 + (2 ^ (r + 1)) ^ 0) ≤ (2 ^ (r + 1)) ^ 1
    rw [Int.pow_zero, Int.pow_succ _ 0, Int.pow_zero, Int.one_mul, Int.pow_succ]
    omega
  | k + 2, _ => by
    have ih := smm_le (r := r) (k + 1) (by omega)
    show (2 : Int) ^ r * (smm (2 ^ (r + 1)) (k + 1) + (2 ^ (r + 1)) ^ (k + 1)) ≤ (2 ^ (r + 1)) ^ (k + 1 + 1)
    rw [Int.pow_succ ((2 : Int) ^ (r + 1)) (k + 1), Int.mul_add]
    have hp : (0 : Int) ≤ (2 ^ (r + 1)) ^ (k + 1) := Int.pow_nonneg (by have := p2_pos (r + 1); omega)
    have h1 := p2_pos r
    have e : (2 : Int) ^ (r + 1) = 2 ^ r * 2 := Int.pow_succ 2 r
    generalize (2 : Int) ^ (r + 1) = M at *
    generalize (2 : Int) ^ r = h at *
    generalize M ^ (k + 1) = X at *
    generalize smm M (k + 1) = S at *
    have : X * 1 ≤ X * h := Int.mul_le_mul_of_nonneg_left h1 hp
    have e2 : X * M = X * h + X * h := by rw [e]; grind
    have e3 : h * X = X * h := Int.mul_comm _ _
    omega
theorem pr1_mono {g f : Int → Int} : ∀ {l : List (Int × Int)}, (∀ q ∈ l, 0 ≤ g q.1 ∧ g q.1 ≤ f q.1) → 0 ≤ pr1 g l ∧ pr1 g l ≤ pr1 f l
  | [], _ => ⟨by show (0 : Int) ≤ 1; decide, Int.le_refl _⟩
  | q :: r, h => by
    obtain ⟨h1, h2⟩ := h q (List.mem_cons_self ..)
    obtain ⟨i1, i2⟩ := pr1_mono (l := r) fun x hx => h x (List.mem_cons_of_mem _ hx)
    exact ⟨Int.mul_nonneg h1 i1, Int.mul_le_mul h2 i2 i1 (by omega)⟩
theorem pr1_mul (c : Int) (g : Int → Int) : ∀ l : List (Int × Int), pr1 (fun p => c * g p) l = c ^ l.length * pr1 g l
  | [] => by show (1 : Int) = c ^ 0 * 1; simp
  | q :: r => by
    show c * g q.1 * pr1 (fun p => c * g p) r = c ^ (r.length + 1) * (g q.1 * pr1 g r)
    rw [pr1_mul c g r, Int.pow_succ]
    grind
theorem tot_pr1 : ∀ l : List (Int × Int), tot l = pr1 (fun p => p - 1) l
  | [] => rfl
  | q :: r => by show (q.1 - 1) * tot r = (q.1 - 1) * pr1 _ r; rw [tot_pr1 r]
theorem pow_self_le {p : Int} (h : 2 ≤ p) {e : Int} (he : 1 ≤ e) : p ≤ p ^ e.toNat := by
  obtain ⟨k, hk⟩ : ∃ k, e.toNat = k + 1 := ⟨e.toNat - 1, by omega⟩
  rw [hk, Int.pow_succ]
  have := Int.mul_le_mul_of_nonneg_right (show (1 : Int) ≤ p ^ k from Int.pow_pos (by omega)) (show 0 ≤ p by omega)
  omega
theorem tot_lt : ∀ {l : List (Int × Int)}, (∀ q ∈ l, IsPr q.1 ∧ 1 ≤ q.2) → 1 ≤ tot l ∧ tot l ≤ prod l ∧ (l ≠ [] → tot l + 1 ≤ prod l)
  | [], _ => ⟨Int.le_refl _, Int.le_refl _, fun h => absurd rfl h⟩
  | q :: r, h => by
    obtain ⟨h1, h2⟩ := h q (List.mem_cons_self ..)
    obtain ⟨i1, i2, _⟩ := tot_lt (l := r) fun x hx => h x (List.mem_cons_of_mem _ hx)
    have p2 := h1.1
    have pe := pow_self_le p2 h2
    have a1 : (q.1 - 1) * tot r ≤ (q.1 - 1) * prod r := Int.mul_le_mul_of_nonneg_left i2 (by omega)
    have a2 : q.1 * prod r ≤ q.1 ^ q.2.toNat * prod r := Int.mul_le_mul_of_nonneg_right pe (by omega)
    have a3 : (q.1 - 1) * prod r = q.1 * prod r - prod r := by grind
    have a4 : 1 * 1 ≤ (q.1 - 1) * tot r := Int.mul_le_mul (by omega) i1 (by decide) (by omega)
    show 1 ≤ (q.1 - 1) * tot r ∧ (q.1 - 1) * tot r ≤ q.1 ^ q.2.toNat * prod r ∧ (_ → (q.1 - 1) * tot r + 1 ≤ q.1 ^ q.2.toNat * prod r)
    exact ⟨by omega, by omega, fun _ => by omega⟩
theorem odd_in : ∀ {l : List (Int × Int)}, (∀ q ∈ l, IsPr q.1 ∧ 1 ≤ q.2) → prod l % 2 = 1 → ∀ q ∈ l, q.1 % 2 = 1 ∧ 3 ≤ q.1
  | [], _, _, q, hq => by cases hq
  | a :: r, h, ho, q, hq => by
    have e : prod (a :: r) = a.1 ^ a.2.toNat * prod r := rfl
    rw [e, Int.mul_emod] at ho
    obtain ⟨h1, h2⟩ := h a (List.mem_cons_self ..)
    have m1 : a.1 ^ a.2.toNat % 2 = 1 := by
      rcases Int.emod_two_eq (a.1 ^ a.2.toNat) with z | z
      · rw [z, Int.zero_mul] at ho; cases ho
      · exact z
    have m2 : prod r % 2 = 1 := by
      rcases Int.emod_two_eq (prod r) with z | z
      · rw [z, Int.mul_zero] at ho; cases ho
      · exact z
    rcases List.mem_cons.mp hq with rfl | hq
    · have oo : q.1 % 2 = 1 := by
        rcases Int.emod_two_eq q.1 with z | z
        · obtain ⟨k, hk⟩ : ∃ k, q.2.toNat = k + 1 := ⟨q.2.toNat - 1, by omega⟩
          rw [hk, Int.pow_succ, Int.mul_emod, z, Int.mul_zero] at m1
          cases m1
        · exact z
      have := h1.1
      exact ⟨oo, by omega⟩
    · exact odd_in (fun x hx => h x (List.mem_cons_of_mem _ hx)) m2 q hq
structure Odd1 (n : Int) (l : List (Int × Int)) (k : Nat) : Prop where
  pa : Parts n l
  mn : IsMn l k
  n3 : 3 ≤ n
  no : n % 2 = 1
section
variable {n : Int} {l : List (Int × Int)} {k : Nat}
theorem Odd1.odd (h : Odd1 n l k) : ∀ q ∈ l, q.1 % 2 = 1 ∧ 3 ≤ q.1 := odd_in h.pa.1.pr (by rw [h.pa.2]; exact h.no)
theorem Odd1.ne (h : Odd1 n l k) : l ≠ [] := fun z => by have := h.pa.2; rw [z] at this; have t2 := h.n3; have t3 : (1 : Int) = n := this; omega
theorem Odd1.k1 (h : Odd1 n l k) : 1 ≤ k := by
  obtain ⟨q, hq, e⟩ := h.mn.1
  obtain ⟨o, p3⟩ := h.odd q hq
  rw [← e, tw_even (by omega) (by omega)]
  omega
theorem Odd1.part (h : Odd1 n l k) {q : Int × Int} (hq : q ∈ l) : 1 ≤ gh n q.1 ∧ gh n q.1 ≤ op (q.1 - 1) ∧ (2 : Int) ^ k * gh n q.1 ≤ q.1 - 1 := by
  obtain ⟨o, p3⟩ := h.odd q hq
  obtain ⟨e, _⟩ := otw (show 0 < q.1 - 1 by omega)
  have o0 := (op_le (show 0 < q.1 - 1 by omega)).1
  obtain ⟨g1, g2⟩ := gcd_bound (a := op (n - 1)) o0
  refine ⟨g1, g2, ?_⟩
  have t := two_le (h.mn.2 q hq)
  have := Int.mul_le_mul t g2 (by omega) (by have := p2_pos (tw (q.1 - 1)); omega)
  rw [Int.mul_comm (2 ^ tw _)] at this
  rw [← e] at this
  exact this
theorem Odd1.len (h : Odd1 n l k) : ∃ r, l.length = r + 1 := ⟨l.length - 1, by have := List.length_pos_iff.mpr h.ne; omega⟩
theorem Odd1.half (h : Odd1 n l k) {r : Nat} (hr : l.length = r + 1) : (2 : Int) ^ r * mhal n l k ≤ pr1 (fun p => 2 ^ k * gh n p) l := by
  unfold mhal
  rw [hm_smm, pr1_mul, pow_swap, hr]
  have s := smm_le (r := r) k h.k1
  have o1 := (pr1_mono (f := fun p => op (p - 1)) fun q hq => ⟨by have := (h.part hq).1; omega, (h.part hq).2.1⟩ : 0 ≤ pr1 (gh n) l ∧ _).1
  have := Int.mul_le_mul_of_nonneg_right s o1
  have e : (2 : Int) ^ r * (pr1 (gh n) l * smm (2 ^ (r + 1)) k) = 2 ^ r * smm (2 ^ (r + 1)) k * pr1 (gh n) l := by grind
  rw [e]
  exact this
theorem Odd1.hal1 (h : Odd1 n l k) : 1 ≤ mhal n l k := by
  unfold mhal
  rw [hm_smm]
  have s := smm_pos (m := (2 : Int) ^ l.length) (by have := p2_pos l.length; omega) k
  have o : 1 ≤ pr1 (gh n) l := by
    have := (pr1_mono (g := fun _ => 1) (f := gh n) (l := l) fun q hq => ⟨by decide, (h.part hq).1⟩).2
    have e : ∀ l : List (Int × Int), pr1 (fun _ => 1) l = 1 := fun l => by
      induction l with
      | nil => rfl
      | cons q r ih => show 1 * pr1 _ r = 1; rw [ih]; rfl
    rw [e] at this
    exact this
  have := Int.mul_le_mul o s (by decide) (by omega)
  omega
theorem Odd1.part0 (h : Odd1 n l k) {q : Int × Int} (hq : q ∈ l) : 0 ≤ (2 : Int) ^ k * gh n q.1 := Int.mul_nonneg (by have := p2_pos k; omega) (by have := (h.part hq).1; omega)
theorem Odd1.totle (h : Odd1 n l k) : pr1 (fun p => 2 ^ k * gh n p) l ≤ tot l := by
  rw [tot_pr1]
  exact (pr1_mono fun q hq => ⟨h.part0 hq, (h.part hq).2.2⟩).2
end
end MM
set_option Elab.async false
set_option linter.all false
namespace MM
theorem odd_dvd {d : Int} (hd : d % 2 = 1) : ∀ (k : Nat) {m : Int}, d ∣ m * 2 ^ k → d ∣ m
  | 0, m, h => by rwa [Int.pow_zero, Int.mul_one] at h
  | k + 1, m, h => by
    rw [Int.pow_succ, ← Int.mul_assoc] at h
    obtain ⟨c, hc⟩ := h
    have c2 : c % 2 = 0 := by
      have e : (d * c) % 2 = 0 := by rw [← hc]; omega
      rw [Int.mul_emod, hd, Int.one_mul] at e
      omega
    refine odd_dvd hd k ⟨c / 2, ?_⟩
    have e2 : c = c / 2 * 2 := by omega
    have e3 : d * c = d * (c / 2) * 2 := by
      rw [Int.mul_assoc, ← e2]
    omega
theorem two_odd_dvd {d m : Int} {k : Nat} (hd : d % 2 = 1) (h1 : d ∣ m) (h2 : (2 : Int) ^ k ∣ m) : 2 ^ k * d ∣ m := by
  obtain ⟨c, rfl⟩ := h2
  rw [Int.mul_comm] at h1
  exact Int.mul_dvd_mul (Int.dvd_refl _) (odd_dvd hd k h1)
theorem odd_quot {g t : Int} (hg : 1 ≤ g) (ht : t % 2 = 1) (h : g ∣ t) (hlt : g < t) : 3 * g ≤ t := by
  obtain ⟨c, rfl⟩ := h
  have c2 : c % 2 = 1 := by
    rw [Int.mul_emod] at ht
    rcases Int.emod_two_eq c with z | z
    · rw [z, Int.mul_zero] at ht; cases ht
    · exact z
  have c1 : 1 < c := by
    refine Classical.byContradiction fun hc => ?_
    have := Int.mul_le_mul_of_nonneg_left (show c ≤ 1 by omega) (show 0 ≤ g by omega)
    omega
  have := Int.mul_le_mul_of_nonneg_left (show 3 ≤ c by omega) (show 0 ≤ g by omega)
  omega
theorem cgp {k : Nat} {a : Int} (h : Cg (2 ^ k) a 1) : ∀ e : Nat, Cg (2 ^ k) (a ^ e) 1
  | 0 => by rw [Int.pow_zero]; exact ⟨0, by simp⟩
  | e + 1 => by
    have := (cgp h e).mul h
    rwa [Int.mul_one, ← Int.pow_succ] at this
theorem cg_prodl {k : Nat} : ∀ {l : List (Int × Int)}, (∀ q ∈ l, Cg (2 ^ k) q.1 1) → Cg (2 ^ k) (prod l) 1
  | [], _ => ⟨0, by simp [prod]⟩
  | q :: r, h => by
    have := (cgp (h q (List.mem_cons_self ..)) q.2.toNat).mul (cg_prodl (l := r) fun x hx => h x (List.mem_cons_of_mem _ hx))
    rwa [Int.mul_one] at this
theorem pr1_eq {g f : Int → Int} : ∀ {l : List (Int × Int)}, (∀ q ∈ l, 1 ≤ g q.1 ∧ g q.1 ≤ f q.1) → pr1 f l ≤ pr1 g l → ∀ q ∈ l, g q.1 = f q.1
  | [], _, _, q, hq => by cases hq
  | a :: r, h, e, q, hq => by
    obtain ⟨h1, h2⟩ := h a (List.mem_cons_self ..)
    have hr : ∀ x ∈ r, 1 ≤ g x.1 ∧ g x.1 ≤ f x.1 := fun x hx => h x (List.mem_cons_of_mem _ hx)
    have m := (pr1_mono (l := r) fun x hx => ⟨by have := (hr x hx).1; omega, (hr x hx).2⟩).2
    have p1 : 1 ≤ pr1 g r := by
      have := (pr1_mono (g := fun _ => 1) (f := g) (l := r) fun x hx => ⟨by decide, (hr x hx).1⟩).2
      have e : ∀ l : List (Int × Int), pr1 (fun _ => 1) l = 1 := fun l => by
        induction l with
        | nil => rfl
        | cons q r ih => show 1 * pr1 _ r = 1; rw [ih]; rfl
      rw [e] at this
      exact this
    have e' : f a.1 * pr1 f r ≤ g a.1 * pr1 g r := e
    have ea : g a.1 = f a.1 := by
      refine Classical.byContradiction fun z => ?_
      have a1 := Int.mul_le_mul (show g a.1 + 1 ≤ f a.1 by omega) m (by omega) (by omega)
      have a2 : (g a.1 + 1) * pr1 g r = g a.1 * pr1 g r + pr1 g r := by grind
      omega
    have er : pr1 f r ≤ pr1 g r := by
      refine Classical.byContradiction fun z => ?_
      have a1 := Int.mul_le_mul_of_nonneg_left (show pr1 g r + 1 ≤ pr1 f r by omega) (show 0 ≤ f a.1 by omega)
      rw [ea] at e'
      have a2 : f a.1 * (pr1 g r + 1) = f a.1 * pr1 g r + f a.1 := by grind
      omega
    rcases List.mem_cons.mp hq with rfl | hq
    · exact ea
    · exact pr1_eq hr er q hq
section
variable {n : Int} {l : List (Int × Int)} {k : Nat}
theorem Odd1.lvl (h : Odd1 n l k) {q : Int × Int} (hq : q ∈ l) : (2 : Int) ^ k ∣ q.1 - 1 := by
  obtain ⟨o, p3⟩ := h.odd q hq
  obtain ⟨e, _⟩ := otw (show 0 < q.1 - 1 by omega)
  rw [e]
  refine Int.dvd_trans ?_ (Int.dvd_mul_left _ _)
  have lv := h.mn.2 q hq
  refine ⟨2 ^ (tw (q.1 - 1) - k), ?_⟩
  rw [← Int.pow_add, Nat.add_sub_cancel' lv]
theorem Odd1.lvn (h : Odd1 n l k) : (2 : Int) ^ k ∣ n - 1 := by
  have := cg_prodl (k := k) (l := l) fun q hq => h.lvl hq
  rw [h.pa.2] at this
  exact this
theorem gh_dvd {n p : Int} (h : 0 < n - 1) (hp : 0 < p - 1) : gh n p ∣ n - 1 ∧ gh n p ∣ op (p - 1) ∧ gh n p ∣ p - 1 ∧ gh n p % 2 = 1 := by
  obtain ⟨e1, _⟩ := otw h
  obtain ⟨e2, o2⟩ := otw hp
  have d1 : gh n p ∣ op (n - 1) := Int.gcd_dvd_left ..
  have d2 : gh n p ∣ op (p - 1) := Int.gcd_dvd_right ..
  refine ⟨by rw [e1]; exact Int.dvd_trans d1 (Int.dvd_mul_right _ _), d2, ?_, ?_⟩
  · have := Int.dvd_trans d2 (Int.dvd_mul_right (op (p - 1)) (2 ^ tw (p - 1)))
    rwa [← e2] at this
  · obtain ⟨c, hc⟩ := d2
    rw [hc, Int.mul_emod] at o2
    rcases Int.emod_two_eq (gh n p) with z | z
    · rw [z, Int.zero_mul] at o2; cases o2
    · exact z
theorem Odd1.gp_ge (h : Odd1 n l k) {q : Int × Int} (hq : q ∈ l) : (2 : Int) ^ k * gh n q.1 ≤ gp n q.1 := by
  obtain ⟨o, p3⟩ := h.odd q hq
  have n3 := h.n3
  obtain ⟨d1, d2, d3, od⟩ := gh_dvd (n := n) (p := q.1) (by omega) (by omega)
  have a := two_odd_dvd od d1 h.lvn
  have b := two_odd_dvd od d3 (h.lvl hq)
  have g1 := (gcd_bound (a := n - 1) (show 0 < q.1 - 1 by omega)).1
  exact Int.le_of_dvd (by unfold gp; omega) (Int.dvd_coe_gcd a b)
theorem Odd1.gp_b (h : Odd1 n l k) {q : Int × Int} (hq : q ∈ l) : 1 ≤ gp n q.1 ∧ gp n q.1 ≤ q.1 - 1 := by
  obtain ⟨o, p3⟩ := h.odd q hq
  exact gcd_bound (a := n - 1) (show 0 < q.1 - 1 by omega)
theorem Odd1.hal_pow (h : Odd1 n l k) : mhal n l k ≤ mpow n l := by
  obtain ⟨r, hr⟩ := h.len
  have a := h.half hr
  have b := (pr1_mono (g := fun p => 2 ^ k * gh n p) (f := gp n) fun q hq => ⟨h.part0 hq, h.gp_ge hq⟩).2
  have c := Int.mul_le_mul_of_nonneg_right (p2_pos r) (show 0 ≤ mhal n l k by have := h.hal1; omega)
  unfold mpow
  omega
theorem red_ge : ∀ {l : List (Int × Int)}, (∀ q ∈ l, IsPr q.1 ∧ 1 ≤ q.2) → 1 ≤ red l ∧ (red l = 1 → ∀ q ∈ l, q.2 = 1)
  | [], _ => ⟨Int.le_refl _, fun _ q hq => by cases hq⟩
  | a :: r, h => by
    obtain ⟨h1, h2⟩ := h a (List.mem_cons_self ..)
    obtain ⟨i1, i2⟩ := red_ge (l := r) fun x hx => h x (List.mem_cons_of_mem _ hx)
    have p2 := h1.1
    have pw : 1 ≤ a.1 ^ (a.2.toNat - 1) := Int.pow_pos (by omega)
    have m := Int.mul_le_mul pw i1 (by decide) (by omega)
    refine ⟨by show 1 ≤ a.1 ^ (a.2.toNat - 1) * red r; omega, fun e q hq => ?_⟩
    have e' : a.1 ^ (a.2.toNat - 1) * red r = 1 := e
    have m1 : a.1 ^ (a.2.toNat - 1) * 1 ≤ a.1 ^ (a.2.toNat - 1) * red r := Int.mul_le_mul_of_nonneg_left i1 (by omega)
    have m2 : 1 * red r ≤ a.1 ^ (a.2.toNat - 1) * red r := Int.mul_le_mul_of_nonneg_right pw (by omega)
    rcases List.mem_cons.mp hq with rfl | hq
    · refine Classical.byContradiction fun z => ?_
      have := two_le_pow p2 (show 1 ≤ q.2.toNat - 1 by omega)
      omega
    · exact i2 (by omega) q hq
theorem Odd1.pow_phi (h : Odd1 n l k) : mpow n l ≤ phi l ∧ (mpow n l = phi l ↔ ∀ q ∈ l, q.2 ≤ 1 ∧ (n - 1) % (q.1 - 1) = 0) := by
  obtain ⟨r1, r2⟩ := red_ge h.pa.1.pr
  obtain ⟨t1, _, _⟩ := tot_lt h.pa.1.pr
  have b : mpow n l ≤ tot l := by
    rw [tot_pr1]
    exact (pr1_mono fun q hq => ⟨by have := (h.gp_b hq).1; omega, (h.gp_b hq).2⟩).2
  have c : tot l * 1 ≤ phi l := Int.mul_le_mul_of_nonneg_left r1 (by omega)
  refine ⟨by omega, fun e => ?_, fun e => ?_⟩
  · have et : tot l = phi l := by omega
    have er : red l = 1 := by
      have e2 : tot l * red l = tot l * 1 := by rw [Int.mul_one]; exact et.symm
      exact Int.eq_of_mul_eq_mul_left (by omega) e2
    have eg := pr1_eq (g := gp n) (f := fun p => p - 1) (l := l) (fun q hq => h.gp_b hq) (by rw [← tot_pr1]; show tot l ≤ mpow n l; omega)
    intro q hq
    refine ⟨by have := r2 er q hq; omega, ?_⟩
    have eq : gp n q.1 = q.1 - 1 := eg q hq
    have d : gp n q.1 ∣ n - 1 := Int.gcd_dvd_left ..
    rw [eq] at d
    exact Int.emod_eq_zero_of_dvd d
  · have er : red l = 1 := by
      have : ∀ l : List (Int × Int), (∀ q ∈ l, q.2 ≤ 1) → red l = 1 := by
        intro l
        induction l with
        | nil => intro _; rfl
        | cons q r ih =>
          intro hq
          show q.1 ^ (q.2.toNat - 1) * red r = 1
          rw [ih fun x hx => hq x (List.mem_cons_of_mem _ hx), show q.2.toNat - 1 = 0 by have := hq q (List.mem_cons_self ..); omega]
          simp
      exact this l fun q hq => (e q hq).1
    have ge : tot l ≤ mpow n l := by
      rw [tot_pr1]
      refine (pr1_mono (g := fun p => p - 1) (f := gp n) fun q hq => ?_).2
      obtain ⟨o, p3⟩ := h.odd q hq
      refine ⟨by omega, ?_⟩
      have d : q.1 - 1 ∣ n - 1 := Int.dvd_of_emod_eq_zero (e q hq).2
      have := Int.dvd_coe_gcd d (Int.dvd_refl (q.1 - 1))
      exact Int.le_of_dvd (h.gp_b hq).1 this
    unfold phi
    rw [er, Int.mul_one]
    omega
theorem Odd1.prime (h : Odd1 n l k) (hp : IsPr n) : mhal n l k = n - 1 := by
  have e := (parts_prime h.pa).mpr hp
  have n3 := h.n3
  subst e
  have hk : tw (n - 1) = k := by
    obtain ⟨q, hq, e⟩ := h.mn.1
    have : q = (n, 1) := by simpa using hq
    rw [this] at e
    exact e
  unfold mhal
  rw [hm_smm]
  have s : ∀ k, smm (2 ^ 1) k = (2 : Int) ^ k := fun k => by
    induction k with
    | zero => rfl
    | succ k ih => show smm (2 ^ 1) k + (2 ^ 1) ^ k = _; rw [ih, show ((2 : Int) ^ 1) = 2 from rfl, Int.pow_succ]; omega
  have g : pr1 (gh n) [(n, 1)] = op (n - 1) := by
    show gh n n * 1 = _
    rw [Int.mul_one]
    unfold gh
    rw [Int.gcd_self]
    have := (op_le (show 0 < n - 1 by omega)).1
    omega
  show pr1 (gh n) [(n, 1)] * smm (2 ^ 1) k = _
  rw [s, g, ← hk]
  exact ((otw (show 0 < n - 1 by omega)).1).symm
theorem Odd1.quarter (h : Odd1 n l k) (hnp : ¬ IsPr n) : 4 * mhal n l k ≤ n - 1 := by
  obtain ⟨r, hr⟩ := h.len
  have hf := h.half hr
  have ht := h.totle
  obtain ⟨_, _, tl⟩ := tot_lt h.pa.1.pr
  have tl := tl h.ne
  rw [h.pa.2] at tl
  have m1 := h.hal1
  by_cases r2 : 2 ≤ r
  · have := Int.mul_le_mul_of_nonneg_right (two_le r2) (show 0 ≤ mhal n l k by omega)
    have e4 : (2 : Int) ^ 2 = 4 := rfl
    rw [e4] at this
    omega
  by_cases r0 : r = 0
  · subst r0
    obtain ⟨q, rfl⟩ := List.length_eq_one_iff.mp hr
    have pq := h.pa.2
    have e1 : q.1 ^ q.2.toNat * 1 = n := pq
    obtain ⟨hp, he⟩ := h.pa.1.pr q (List.mem_cons_self ..)
    obtain ⟨_, p3⟩ := h.odd q (List.mem_cons_self ..)
    have pt := (h.part (List.mem_cons_self ..)).2.2
    have e2 : pr1 (fun p => 2 ^ k * gh n p) [q] = 2 ^ k * gh n q.1 * 1 := rfl
    have e3 : (2 : Int) ^ 0 * mhal n [q] k = mhal n [q] k := by rw [Int.pow_zero, Int.one_mul]
    have q2 : 2 ≤ q.2 := by
      refine Classical.byContradiction fun z => hnp ?_
      have : q.2.toNat = 1 := by omega
      rw [this, Int.pow_succ, Int.pow_zero, Int.one_mul, Int.mul_one] at e1
      rw [← e1]
      exact hp
    have pp : q.1 * q.1 ≤ q.1 ^ q.2.toNat := by
      obtain ⟨j, hj⟩ : ∃ j, q.2.toNat = j + 2 := ⟨q.2.toNat - 2, by omega⟩
      rw [hj, Int.pow_succ, Int.pow_succ]
      have : (1 : Int) ≤ q.1 ^ j := Int.pow_pos (by omega)
      have a1 := Int.mul_le_mul_of_nonneg_right this (show 0 ≤ q.1 by omega)
      have a2 := Int.mul_le_mul_of_nonneg_right a1 (show 0 ≤ q.1 by omega)
      rw [Int.one_mul] at a2
      exact a2
    have a3 := Int.mul_le_mul_of_nonneg_left (show (4 : Int) ≤ q.1 + 1 by omega) (show 0 ≤ q.1 - 1 by omega)
    have a4 : (q.1 - 1) * (q.1 + 1) = q.1 * q.1 - 1 := by grind
    omega
  · have r1 : r = 1 := by omega
    subst r1
    obtain ⟨a, b, rfl⟩ : ∃ a b, l = [a, b] := by
      match l, hr with
      | [a, b], _ => exact ⟨a, b, rfl⟩
    have ha : a ∈ [a, b] := List.mem_cons_self ..
    have hb : b ∈ [a, b] := List.mem_cons_of_mem _ (List.mem_cons_self ..)
    have lt : a.1 < b.1 := by
      have := h.pa.1.up
      rw [List.pairwise_cons] at this
      exact this.1 b (List.mem_cons_self ..)
    obtain ⟨hpa, hea⟩ := h.pa.1.pr a ha
    obtain ⟨hpb, heb⟩ := h.pa.1.pr b hb
    obtain ⟨oa, a3⟩ := h.odd a ha
    obtain ⟨ob, b3⟩ := h.odd b hb
    obtain ⟨ga, ga2, pa⟩ := h.part ha
    obtain ⟨gb, gb2, pb⟩ := h.part hb
    have za := h.part0 ha
    have zb := h.part0 hb
    have en : a.1 ^ a.2.toNat * (b.1 ^ b.2.toNat * 1) = n := h.pa.2
    rw [Int.mul_one] at en
    have hf' : 2 * mhal n [a, b] k ≤ 2 ^ k * gh n a.1 * (2 ^ k * gh n b.1) := by
      have e1 : pr1 (fun p => 2 ^ k * gh n p) [a, b] = 2 ^ k * gh n a.1 * (2 ^ k * gh n b.1 * 1) := rfl
      rw [e1, Int.mul_one] at hf
      exact hf
    clear hf ht tl
    have ab : (a.1 - 1) * (b.1 - 1) = a.1 * b.1 - a.1 - b.1 + 1 := by grind
    have AB : 2 ^ k * gh n a.1 * (2 ^ k * gh n b.1) ≤ (a.1 - 1) * (b.1 - 1) := Int.mul_le_mul pa pb zb (by omega)
    have ea := pow_self_le hpa.1 hea
    have eb := pow_self_le hpb.1 heb
    have npos : a.1 * b.1 ≤ n := by rw [← en]; exact Int.mul_le_mul ea eb (by omega) (by omega)
    have ab0 : 3 * 3 ≤ a.1 * b.1 := Int.mul_le_mul a3 b3 (by decide) (by omega)
    have key : ∀ (c : Int), 2 ≤ c → c * (2 ^ k * gh n a.1 * (2 ^ k * gh n b.1)) ≤ (a.1 - 1) * (b.1 - 1) → 4 * mhal n [a, b] k ≤ n - 1 := by
      intro c c2 hc
      have := Int.mul_le_mul_of_nonneg_right c2 (show 0 ≤ 2 ^ k * gh n a.1 * (2 ^ k * gh n b.1) from Int.mul_nonneg za zb)
      omega
    by_cases sq : a.2 = 1 ∧ b.2 = 1
    · obtain ⟨sa, sb⟩ := sq
      have en2 : a.1 * b.1 = n := by
        rw [sa, sb] at en
        have e1 : (1 : Int).toNat = 1 := rfl
        rw [e1, Int.pow_succ, Int.pow_zero, Int.one_mul, Int.pow_succ, Int.pow_zero, Int.one_mul] at en
        exact en
      obtain ⟨eA, oA⟩ := otw (show 0 < a.1 - 1 by omega)
      obtain ⟨eB, oB⟩ := otw (show 0 < b.1 - 1 by omega)
      have big : ∀ (q : Int × Int), 3 ≤ q.1 → 1 ≤ gh n q.1 → gh n q.1 ≤ op (q.1 - 1) → k < tw (q.1 - 1) → 2 * (2 ^ k * gh n q.1) ≤ q.1 - 1 := by
        intro q q3 g1 g2 hk
        obtain ⟨e, _⟩ := otw (show 0 < q.1 - 1 by omega)
        have t := two_le (show k + 1 ≤ tw (q.1 - 1) from hk)
        rw [Int.pow_succ] at t
        have := Int.mul_le_mul t g2 (by omega) (by have := p2_pos (tw (q.1 - 1)); omega)
        rw [Int.mul_comm (2 ^ tw _), ← e] at this
        have e5 : 2 ^ k * 2 * gh n q.1 = 2 * (2 ^ k * gh n q.1) := by grind
        omega
      by_cases ka : k < tw (a.1 - 1)
      · refine key 2 (Int.le_refl _) ?_
        have := Int.mul_le_mul (big a a3 ga ga2 ka) pb zb (by omega)
        have e6 : 2 * (2 ^ k * gh n a.1) * (2 ^ k * gh n b.1) = 2 * (2 ^ k * gh n a.1 * (2 ^ k * gh n b.1)) := by grind
        omega
      by_cases kb : k < tw (b.1 - 1)
      · refine key 2 (Int.le_refl _) ?_
        have := Int.mul_le_mul pa (big b b3 gb gb2 kb) (by omega) (by omega)
        have e6 : 2 ^ k * gh n a.1 * (2 * (2 ^ k * gh n b.1)) = 2 * (2 ^ k * gh n a.1 * (2 ^ k * gh n b.1)) := by grind
        omega
      have kae : tw (a.1 - 1) = k := by have := h.mn.2 a ha; omega
      have kbe : tw (b.1 - 1) = k := by have := h.mn.2 b hb; omega
      rw [kae] at eA
      rw [kbe] at eB
      obtain ⟨d1, d2, d3, od1⟩ := gh_dvd (n := n) (p := a.1) (by omega) (by omega)
      obtain ⟨f1, f2, f3, od2⟩ := gh_dvd (n := n) (p := b.1) (by omega) (by omega)
      have third : ∀ (q : Int × Int), 1 ≤ gh n q.1 → gh n q.1 ∣ op (q.1 - 1) → op (q.1 - 1) % 2 = 1 → q.1 - 1 = op (q.1 - 1) * 2 ^ k → gh n q.1 < op (q.1 - 1) → 3 * (2 ^ k * gh n q.1) ≤ q.1 - 1 := by
        intro q g1 g2 o e hlt
        have := odd_quot g1 o g2 hlt
        have := Int.mul_le_mul_of_nonneg_right this (show (0 : Int) ≤ 2 ^ k by have := p2_pos k; omega)
        have e7 : 3 * gh n q.1 * 2 ^ k = 3 * (2 ^ k * gh n q.1) := by grind
        omega
      by_cases la : gh n a.1 < op (a.1 - 1)
      · refine key 3 (by decide) ?_
        have := Int.mul_le_mul (third a ga d2 oA eA la) pb zb (by omega)
        have e6 : 3 * (2 ^ k * gh n a.1) * (2 ^ k * gh n b.1) = 3 * (2 ^ k * gh n a.1 * (2 ^ k * gh n b.1)) := by grind
        omega
      by_cases lb : gh n b.1 < op (b.1 - 1)
      · refine key 3 (by decide) ?_
        have := Int.mul_le_mul pa (third b gb f2 oB eB lb) (by omega) (by omega)
        have e6 : 2 ^ k * gh n a.1 * (3 * (2 ^ k * gh n b.1)) = 3 * (2 ^ k * gh n a.1 * (2 ^ k * gh n b.1)) := by grind
        omega
      exfalso
      have ea1 : gh n a.1 = op (a.1 - 1) := by omega
      have eb1 : gh n b.1 = op (b.1 - 1) := by omega
      rw [ea1] at d1 d3 od1
      rw [eb1] at f1 f3 od2
      have e8 : n - 1 = (a.1 - 1) * b.1 + (b.1 - 1) := by rw [← en2]; grind
      have e9 : n - 1 = (b.1 - 1) * a.1 + (a.1 - 1) := by rw [← en2]; grind
      have x1 : op (a.1 - 1) ∣ b.1 - 1 := by
        rw [e8] at d1
        exact (Int.dvd_add_right (Int.dvd_trans d3 (Int.dvd_mul_right _ _))).mp d1
      have x2 : op (b.1 - 1) ∣ a.1 - 1 := by
        rw [e9] at f1
        exact (Int.dvd_add_right (Int.dvd_trans f3 (Int.dvd_mul_right _ _))).mp f1
      rw [eB] at x1
      rw [eA] at x2
      have y1 := Int.le_of_dvd (by omega) (odd_dvd od1 k x1)
      have y2 := Int.le_of_dvd (by omega) (odd_dvd od2 k x2)
      have y3 : op (a.1 - 1) = op (b.1 - 1) := by omega
      rw [y3, ← eB] at eA
      omega
    · -- a prime twice
      have big : 3 * (a.1 * b.1) ≤ n := by
        have sq2 : ∀ (q : Int × Int), IsPr q.1 → 3 ≤ q.1 → 2 ≤ q.2 → 3 * q.1 ≤ q.1 ^ q.2.toNat := by
          intro q hp q3 q2
          obtain ⟨j, hj⟩ : ∃ j, q.2.toNat = j + 2 := ⟨q.2.toNat - 2, by omega⟩
          rw [hj, Int.pow_succ, Int.pow_succ]
          have : (1 : Int) ≤ q.1 ^ j := Int.pow_pos (by omega)
          have a1 := Int.mul_le_mul this q3 (by decide) (by omega)
          have a2 := Int.mul_le_mul_of_nonneg_right a1 (show 0 ≤ q.1 by omega)
          rw [Int.one_mul] at a2
          exact a2
        rw [← en]
        by_cases a2 : a.2 = 1
        · have := Int.mul_le_mul ea (sq2 b hpb b3 (by omega)) (by omega) (by omega)
          have e6 : a.1 * (3 * b.1) = 3 * (a.1 * b.1) := by grind
          omega
        · have := Int.mul_le_mul (sq2 a hpa a3 (by omega)) eb (by omega) (by omega)
          have e6 : 3 * a.1 * b.1 = 3 * (a.1 * b.1) := by grind
          omega
      omega
noncomputable def liesL (n : Int) (l : List (Int × Int)) : Bool := decide (l.length ≠ 1) && l.all fun q => decide (q.2 ≤ 1) && decide ((n - 1) % (q.1 - 1) = 0)
theorem Odd1.lies (h : Odd1 n l k) : liesL n l = (!isPrB n && decide (mpow n l = phi l)) := by
  have e := h.pow_phi.2
  have ea : (l.all fun q => decide (q.2 ≤ 1) && decide ((n - 1) % (q.1 - 1) = 0)) = decide (mpow n l = phi l) := by
    by_cases z : mpow n l = phi l
    · rw [decide_eq_true z, List.all_eq_true]
      intro q hq
      obtain ⟨z1, z2⟩ := e.mp z q hq
      rw [decide_eq_true z1, decide_eq_true z2]; rfl
    · rw [decide_eq_false z]
      refine Bool.eq_false_iff.mpr fun w => z (e.mpr fun q hq => ?_)
      have := List.all_eq_true.mp w q hq
      simpa using this
  unfold liesL
  rw [ea]
  by_cases z : mpow n l = phi l
  · rw [decide_eq_true z, Bool.and_true, Bool.and_true]
    by_cases hp : IsPr n
    · rw [isPrB_of hp, (parts_prime h.pa).mpr hp]; rfl
    · rw [isPrB_not hp]
      refine decide_eq_true fun hl => hp ?_
      obtain ⟨q, rfl⟩ := List.length_eq_one_iff.mp hl
      obtain ⟨z1, _⟩ := e.mp z q (List.mem_cons_self ..)
      obtain ⟨hq, h1⟩ := h.pa.1.pr q (List.mem_cons_self ..)
      have e1 : q.1 ^ q.2.toNat * 1 = n := h.pa.2
      rw [show q.2.toNat = 1 by omega, Int.pow_succ, Int.pow_zero, Int.one_mul, Int.mul_one] at e1
      rw [← e1]
      exact hq
  · rw [decide_eq_false z, Bool.and_false, Bool.and_false]
end
end MM
set_option Elab.async false
set_option linter.all false
set_option maxRecDepth 100000
namespace MM
theorem cof {a b p : Int} (hp : IsPr p) (h : Cg p (a ^ b.toNat) 1) (hb : 1 ≤ b.toNat) : ¬ p ∣ a := fun z => by
  have d : p ∣ a ^ b.toNat := by
    obtain ⟨k, hk⟩ : ∃ k, b.toNat = k + 1 := ⟨b.toNat - 1, by omega⟩
    rw [hk, Int.pow_succ]
    exact Int.dvd_trans z (Int.dvd_mul_left _ _)
  have := Int.dvd_sub d h
  rw [show a ^ b.toNat - (a ^ b.toNat - 1) = 1 by omega] at this
  have := Int.le_of_dvd (by decide) this
  have := hp.1
  omega
theorem gcd_prW {p a : Int} (hp : IsPr p) (h : ¬ p ∣ a) : Int.gcd a p = 1 := by
  have g1 : (Int.gcd a p : Int) ∣ p := Int.gcd_dvd_right ..
  have g2 : (Int.gcd a p : Int) ∣ a := Int.gcd_dvd_left ..
  have p2 := hp.1
  have g0 : 0 < Int.gcd a p := Int.gcd_pos_of_ne_zero_right _ (by omega)
  by_cases z : Int.gcd a p = 1
  · exact z
  · have := pr_dvd hp (show (2 : Int) ≤ (Int.gcd a p : Int) by omega) g1
    rw [this] at g2
    exact absurd g2 h
theorem pock {n q a : Int} {k : Int} (hn : n = 2 * k * q + 1) (hk : 1 ≤ k) (hq : IsPr q) (hqq : n < q * q) (h1 : a ^ (n - 1).toNat % n = 1) (h2 : Int.gcd (a ^ (2 * k).toNat % n - 1) n = 1) : IsPr n := by
  have q2 := hq.1
  have kq : 1 * 2 ≤ k * q := Int.mul_le_mul hk q2 (by decide) (by omega)
  have ekq : 2 * k * q = 2 * (k * q) := by grind
  refine ⟨by omega, fun d d2 dd hd => ?_⟩
  obtain ⟨p, hp, pn, pl⟩ := least_div (show 2 ≤ n by omega)
  have pd : p ≤ d := by
    refine Classical.byContradiction fun z => ?_
    exact pl d d2 (by omega) hd
  have p2 := hp.1
  have pp : p * p ≤ n := Int.le_trans (Int.mul_le_mul pd pd (by omega) (by omega)) dd
  have pdn : p ∣ n := Int.dvd_of_emod_eq_zero pn
  have c1 : Cg p (a ^ (n - 1).toNat) 1 := by
    have : Cg n (a ^ (n - 1).toNat) 1 := cg_of (by rw [h1]; exact (Int.emod_eq_of_lt (by decide) (by omega)).symm)
    exact Int.dvd_trans pdn this
  have pa : ¬ p ∣ a := cof hp c1 (by omega)
  obtain ⟨o, ho⟩ := ord_exists (show 1 ≤ p by omega) (gcd_prW hp pa)
  have o1 := ho.dvd c1
  have o2 := ho.dvd (fermat1 hp pa)
  have o3 : ¬ o.toNat ∣ (2 * k).toNat := fun z => by
    obtain ⟨c, hc⟩ := z
    have e : Cg p (a ^ (2 * k).toNat) 1 := by
      rw [hc]
      exact cg_pow_dvd ho.cg ⟨c, rfl⟩
    have e2 : p ∣ a ^ (2 * k).toNat % n - 1 := by
      have : Cg p (a ^ (2 * k).toNat % n) (a ^ (2 * k).toNat) := Int.dvd_trans pdn (cg_mod n _)
      exact this.trans e
    have := Int.dvd_coe_gcd e2 pdn
    rw [h2] at this
    have := Int.le_of_dvd (by decide) this
    omega
  have e1 : (n - 1).toNat = (2 * k).toNat * q.toNat := by
    rw [← Int.toNat_mul (by omega) (by omega)]
    congr 1
    omega
  rw [e1] at o1
  have qo : q.toNat ∣ o.toNat := by
    refine Classical.byContradiction fun z => o3 ?_
    have cop : Nat.Coprime o.toNat q.toNat := by
      have g : ¬ q ∣ (o.toNat : Int) := fun w => z (by
        obtain ⟨c, hc⟩ := w
        refine ⟨c.toNat, ?_⟩
        have c0 : 0 ≤ c := by
          refine Classical.byContradiction fun v => ?_
          have := Int.mul_le_mul_of_nonneg_left (show c ≤ -1 by omega) (show 0 ≤ q by omega)
          omega
        have e5 : ((q.toNat * c.toNat : Nat) : Int) = o.toNat := by
          rw [Int.natCast_mul, Int.toNat_of_nonneg (by omega), Int.toNat_of_nonneg c0]
          exact hc.symm
        omega)
      have := gcd_prW hq g
      unfold Nat.Coprime
      rw [← this]
      show _ = Nat.gcd (o.toNat : Int).natAbs q.natAbs
      congr 1
      omega
    exact Nat.Coprime.dvd_of_dvd_mul_right cop o1
  have qp := Nat.le_of_dvd (by omega) (Nat.dvd_trans qo o2)
  have := Int.mul_le_mul (show q + 1 ≤ p by omega) (show q + 1 ≤ p by omega) (by omega) (by omega)
  have e9 : (q + 1) * (q + 1) = q * q + 2 * q + 1 := by grind
  omega
noncomputable def pmF : Nat → Nat → Nat → Nat → Nat → Nat
  | 0, _, _, _, d => d
  | f + 1, b, e, n, d => if e = 0 then d else pmF f (b * b % n) (e / 2) n (if e % 2 = 1 then d * b % n else d)
theorem pmF_ok : ∀ (f b e n d : Nat), e < 2 ^ f → pmF f b e n d % n = d * b ^ e % n
  | 0, b, e, n, d, h => by
    have : e = 0 := by simpa using h
    subst this
    simp [pmF]
  | f + 1, b, e, n, d, h => by
    unfold pmF
    by_cases z : e = 0
    · rw [if_pos z, z]; simp
    · rw [if_neg z]
      have h2 : e / 2 < 2 ^ f := by rw [Nat.pow_succ] at h; omega
      rw [pmF_ok f _ _ n _ h2]
      have e2 : (b * b % n) ^ (e / 2) % n = (b ^ 2) ^ (e / 2) % n := by rw [Nat.pow_mod, Nat.mod_mod, ← Nat.pow_mod, Nat.pow_two]
      by_cases o : e % 2 = 1
      · rw [if_pos o, Nat.mul_mod, e2, ← Nat.mul_mod, ← Nat.pow_mul, Nat.mod_mul_mod, Nat.mul_assoc]
        congr 2
        rw [Nat.mul_comm b, ← Nat.pow_succ]
        congr 1
        omega
      · rw [if_neg o, Nat.mul_mod, e2, ← Nat.mul_mod, ← Nat.pow_mul]
        congr 2
        congr 1
        omega
theorem pmI {b e n r : Nat} (he : e < 2 ^ 128) (h : pmF 128 b e n 1 % n = r) : ((b : Int) ^ e) % (n : Int) = r := by
  rw [pmF_ok _ _ _ _ _ he, Nat.one_mul] at h
  rw [← h, Int.natCast_emod, Int.natCast_pow]
theorem no_prime {n : Nat} (h3 : 3 ≤ n) (ho : n % 2 = 1) (hb : n - 1 < 2 ^ 128) (h : pmF 128 2 (n - 1) n 1 % n ≠ 1) : ¬ IsPr (n : Int) := fun hp => by
  have nd : ¬ (n : Int) ∣ 2 := fun z => by
    have := Int.le_of_dvd (by decide) z
    omega
  have f := cg_eq (fermat1 hp nd)
  rw [Int.emod_eq_of_lt (show (0 : Int) ≤ 1 by decide) (by omega)] at f
  have e := pmI (b := 2) (n := n) hb rfl
  rw [show ((n : Int) - 1).toNat = n - 1 by omega] at f
  have e2 : ((2 : Nat) : Int) = 2 := rfl
  rw [e2, f] at e
  exact h (by omega)
noncomputable def noneB (q : Nat) : Nat → Nat → Bool
  | _, 0 => true
  | k, j + 1 => decide (pmF 128 2 (2 * k * q) (2 * k * q + 1) 1 % (2 * k * q + 1) ≠ 1) && noneB q (k + 1) j
theorem noneB_ok {q : Nat} (hq : 2 ≤ q) : ∀ (j k : Nat), 1 ≤ k → 2 * (k + j) * q < 2 ^ 128 → noneB q k j = true → ∀ i, k ≤ i → i < k + j → ¬ IsPr (2 * (i : Int) * q + 1)
  | 0, k, _, _, _, i, h1, h2 => by omega
  | j + 1, k, hk, hb, h, i, h1, h2 => by
    unfold noneB at h
    obtain ⟨ha, hr⟩ := Bool.and_eq_true_iff.mp h
    by_cases e : i = k
    · subst e
      have kq : 1 * 2 ≤ i * q := Nat.mul_le_mul hk hq
      have ek : 2 * i * q = 2 * (i * q) := Nat.mul_assoc ..
      have lt : 2 * i * q ≤ 2 * (i + (j + 1)) * q := Nat.mul_le_mul_right q (by omega)
      have := no_prime (n := 2 * i * q + 1) (by omega) (by omega) (by omega) (of_decide_eq_true ha)
      rwa [show ((2 * i * q + 1 : Nat) : Int) = 2 * (i : Int) * q + 1 by rw [Int.natCast_add, Int.natCast_mul, Int.natCast_mul]; rfl] at this
    · exact noneB_ok hq j (k + 1) (by omega) (by rwa [show k + 1 + j = k + (j + 1) by omega]) hr i (by omega) (by omega)
theorem pock2 {q k : Nat} (hq : IsPr (q : Int)) (hk : 1 ≤ k) (hqq : 2 * k * q + 1 < q * q) (hb : 2 * k * q < 2 ^ 128) (h1 : pmF 128 2 (2 * k * q) (2 * k * q + 1) 1 % (2 * k * q + 1) = 1)
    (h2 : Nat.gcd (pmF 128 2 (2 * k) (2 * k * q + 1) 1 % (2 * k * q + 1) - 1) (2 * k * q + 1) = 1) (h0 : 1 ≤ pmF 128 2 (2 * k) (2 * k * q + 1) 1 % (2 * k * q + 1)) : IsPr (2 * (k : Int) * q + 1) := by
  have q2 := hq.1
  have kq : 2 * k * 1 ≤ 2 * k * q := Nat.mul_le_mul_left _ (by omega)
  have ec : ((2 * k * q + 1 : Nat) : Int) = 2 * (k : Int) * q + 1 := by rw [Int.natCast_add, Int.natCast_mul, Int.natCast_mul]; rfl
  have e1 := pmI (b := 2) hb h1
  have e2 := pmI (b := 2) (e := 2 * k) (n := 2 * k * q + 1) (by omega) rfl
  refine pock (a := 2) rfl (by omega) hq (by rw [← ec]; exact_mod_cast hqq) ?_ ?_
  · rw [← ec, show ((2 * k * q + 1 : Nat) : Int) - 1 = ((2 * k * q : Nat) : Int) by omega, Int.toNat_natCast]
    exact e1
  · rw [← ec, show (2 * (k : Int)).toNat = 2 * k by omega]
    have e3 : ((2 : Nat) : Int) = 2 := rfl
    rw [← e3, e2]
    rw [show ((pmF 128 2 (2 * k) (2 * k * q + 1) 1 % (2 * k * q + 1) : Nat) : Int) - 1 = ((pmF 128 2 (2 * k) (2 * k * q + 1) 1 % (2 * k * q + 1) - 1 : Nat) : Int) by omega]
    exact h2
end MM
set_option Elab.async false
set_option linter.all false
set_option maxRecDepth 100000
set_option maxHeartbeats 4000000
namespace MM
noncomputable def divB (n : Nat) : Nat → Nat → Bool
  | 0, _ => false
  | k + 1, d => (decide (n % d = 0) && decide (d * d ≤ n)) || divB n k (d + 1)
theorem divB_ok {n : Nat} : ∀ (k d : Nat), 2 ≤ d → divB n k d = true → ¬ IsPr (n : Int)
  | 0, _, _, h => by cases h
  | k + 1, d, hd, h => by
    unfold divB at h
    rcases Bool.or_eq_true_iff.mp h with z | z
    · obtain ⟨a, b⟩ := Bool.and_eq_true_iff.mp z
      have a := of_decide_eq_true a
      have b := of_decide_eq_true b
      intro hp
      refine hp.2 d (by omega) (by exact_mod_cast b) ?_
      rw [← Int.natCast_emod, a]; rfl
    · exact divB_ok k (d + 1) (by omega) z
noncomputable def nonB : Nat → Nat → Bool
  | _, 0 => true
  | n, j + 1 => (decide (n < 2) || divB n 1000 2) && nonB (n + 1) j
theorem nonB_ok : ∀ (j n : Nat), nonB n j = true → ∀ i, n ≤ i → i < n + j → ¬ IsPr (i : Int)
  | 0, _, _, i, h1, h2 => by omega
  | j + 1, n, h, i, h1, h2 => by
    unfold nonB at h
    obtain ⟨a, b⟩ := Bool.and_eq_true_iff.mp h
    by_cases e : i = n
    · subst e
      rcases Bool.or_eq_true_iff.mp a with z | z
      · intro hp
        have := of_decide_eq_true z
        have := hp.1
        omega
      · exact divB_ok _ _ (by decide) z
    · exact nonB_ok j (n + 1) b i (by omega) (by omega)
noncomputable def PrT (f : Nat) : Nat := [0, 2, 11, 101, 1009, 10007, 100003, 1000003, 10000019, 100000007, 1000030001, 10024030073, 100026300079, 1000321900609, 10000399000723, 100003807000267, 1000004070000281, 10000128004839829, 100000008010237009, 1000000086907020733, 10000001410367831263, 100000006165498233271, 1000000002839517886249, 10000000100255687317171, 100000000000234328761483, 1000000000120352551348573, 10000000000123482421407637, 100000000003140126581704627, 1000000000005000260768975773, 10000000000029161770003353953].getD f 0
noncomputable def KT (f : Nat) : Nat := [0, 0, 0, 0, 0, 0, 0, 0, 0, 0, 5000, 5012, 50013, 50016, 500019, 500019, 5000020, 4999914, 49998504, 49880142, 498801447, 499868565, 4998685356, 4998391065, 49983910149, 49998005082, 499980050766, 499980965739, 4999809657258, 4999979650096].getD f 0
theorem pt1 : IsPr ((2 : Nat) : Int) := pr_try (n := 2) (k := 0) (by decide) (by decide) (by decide +kernel)
theorem pt2 : IsPr ((11 : Nat) : Int) := pr_try (n := 11) (k := 2) (by decide) (by decide) (by decide +kernel)
theorem pt3 : IsPr ((101 : Nat) : Int) := pr_try (n := 101) (k := 9) (by decide) (by decide) (by decide +kernel)
theorem pt4 : IsPr ((1009 : Nat) : Int) := pr_try (n := 1009) (k := 30) (by decide) (by decide) (by decide +kernel)
theorem pt5 : IsPr ((10007 : Nat) : Int) := pr_try (n := 10007) (k := 99) (by decide) (by decide) (by decide +kernel)
theorem pt6 : IsPr ((100003 : Nat) : Int) := pr_try (n := 100003) (k := 315) (by decide) (by decide) (by decide +kernel)
theorem pt7 : IsPr ((1000003 : Nat) : Int) := pr_try (n := 1000003) (k := 999) (by decide) (by decide) (by decide +kernel)
theorem pt8 : IsPr ((10000019 : Nat) : Int) := pr_try (n := 10000019) (k := 3161) (by decide) (by decide) (by decide +kernel)
theorem pt9 : IsPr ((100000007 : Nat) : Int) := pr_try (n := 100000007) (k := 9999) (by decide) (by decide) (by decide +kernel)
theorem pt10 : IsPr ((1000030001 : Nat) : Int) := pock2 (q := 100003) (k := 5000) pt6 (by decide) (by decide +kernel) (by decide +kernel) (by decide +kernel) (by decide +kernel) (by decide +kernel)
theorem pt11 : IsPr ((10024030073 : Nat) : Int) := pock2 (q := 1000003) (k := 5012) pt7 (by decide) (by decide +kernel) (by decide +kernel) (by decide +kernel) (by decide +kernel) (by decide +kernel)
theorem pt12 : IsPr ((100026300079 : Nat) : Int) := pock2 (q := 1000003) (k := 50013) pt7 (by decide) (by decide +kernel) (by decide +kernel) (by decide +kernel) (by decide +kernel) (by decide +kernel)
theorem pt13 : IsPr ((1000321900609 : Nat) : Int) := pock2 (q := 10000019) (k := 50016) pt8 (by decide) (by decide +kernel) (by decide +kernel) (by decide +kernel) (by decide +kernel) (by decide +kernel)
theorem pt14 : IsPr ((10000399000723 : Nat) : Int) := pock2 (q := 10000019) (k := 500019) pt8 (by decide) (by decide +kernel) (by decide +kernel) (by decide +kernel) (by decide +kernel) (by decide +kernel)
theorem pt15 : IsPr ((100003807000267 : Nat) : Int) := pock2 (q := 100000007) (k := 500019) pt9 (by decide) (by decide +kernel) (by decide +kernel) (by decide +kernel) (by decide +kernel) (by decide +kernel)
theorem pt16 : IsPr ((1000004070000281 : Nat) : Int) := pock2 (q := 100000007) (k := 5000020) pt9 (by decide) (by decide +kernel) (by decide +kernel) (by decide +kernel) (by decide +kernel) (by decide +kernel)
theorem pt17 : IsPr ((10000128004839829 : Nat) : Int) := pock2 (q := 1000030001) (k := 4999914) pt10 (by decide) (by decide +kernel) (by decide +kernel) (by decide +kernel) (by decide +kernel) (by decide +kernel)
theorem pt18 : IsPr ((100000008010237009 : Nat) : Int) := pock2 (q := 1000030001) (k := 49998504) pt10 (by decide) (by decide +kernel) (by decide +kernel) (by decide +kernel) (by decide +kernel) (by decide +kernel)
theorem pt19 : IsPr ((1000000086907020733 : Nat) : Int) := pock2 (q := 10024030073) (k := 49880142) pt11 (by decide) (by decide +kernel) (by decide +kernel) (by decide +kernel) (by decide +kernel) (by decide +kernel)
theorem pt20 : IsPr ((10000001410367831263 : Nat) : Int) := pock2 (q := 10024030073) (k := 498801447) pt11 (by decide) (by decide +kernel) (by decide +kernel) (by decide +kernel) (by decide +kernel) (by decide +kernel)
theorem pt21 : IsPr ((100000006165498233271 : Nat) : Int) := pock2 (q := 100026300079) (k := 499868565) pt12 (by decide) (by decide +kernel) (by decide +kernel) (by decide +kernel) (by decide +kernel) (by decide +kernel)
theorem pt22 : IsPr ((1000000002839517886249 : Nat) : Int) := pock2 (q := 100026300079) (k := 4998685356) pt12 (by decide) (by decide +kernel) (by decide +kernel) (by decide +kernel) (by decide +kernel) (by decide +kernel)
theorem pt23 : IsPr ((10000000100255687317171 : Nat) : Int) := pock2 (q := 1000321900609) (k := 4998391065) pt13 (by decide) (by decide +kernel) (by decide +kernel) (by decide +kernel) (by decide +kernel) (by decide +kernel)
theorem pt24 : IsPr ((100000000000234328761483 : Nat) : Int) := pock2 (q := 1000321900609) (k := 49983910149) pt13 (by decide) (by decide +kernel) (by decide +kernel) (by decide +kernel) (by decide +kernel) (by decide +kernel)
theorem pt25 : IsPr ((1000000000120352551348573 : Nat) : Int) := pock2 (q := 10000399000723) (k := 49998005082) pt14 (by decide) (by decide +kernel) (by decide +kernel) (by decide +kernel) (by decide +kernel) (by decide +kernel)
theorem pt26 : IsPr ((10000000000123482421407637 : Nat) : Int) := pock2 (q := 10000399000723) (k := 499980050766) pt14 (by decide) (by decide +kernel) (by decide +kernel) (by decide +kernel) (by decide +kernel) (by decide +kernel)
theorem pt27 : IsPr ((100000000003140126581704627 : Nat) : Int) := pock2 (q := 100003807000267) (k := 499980965739) pt15 (by decide) (by decide +kernel) (by decide +kernel) (by decide +kernel) (by decide +kernel) (by decide +kernel)
theorem pt28 : IsPr ((1000000000005000260768975773 : Nat) : Int) := pock2 (q := 100003807000267) (k := 4999809657258) pt15 (by decide) (by decide +kernel) (by decide +kernel) (by decide +kernel) (by decide +kernel) (by decide +kernel)
theorem pt29 : IsPr ((10000000000029161770003353953 : Nat) : Int) := pock2 (q := 1000004070000281) (k := 4999979650096) pt16 (by decide) (by decide +kernel) (by decide +kernel) (by decide +kernel) (by decide +kernel) (by decide +kernel)
structure Made (f : Nat) : Prop where
  pr : IsPr (PrT f : Int)
  eq : (PrT f : Int) = 2 * (KT f : Int) * (PrT ((f + 3) / 2) : Int) + 1
  k1 : 10 ^ (f - 1) / (2 * PrT ((f + 3) / 2)) + 1 ≤ KT f
  qq : 2 * KT f * PrT ((f + 3) / 2) + 1 < PrT ((f + 3) / 2) * PrT ((f + 3) / 2)
  no : f ≤ 16 → ∀ k, 10 ^ (f - 1) / (2 * PrT ((f + 3) / 2)) + 1 ≤ k → k < KT f → ¬ IsPr (2 * (k : Int) * (PrT ((f + 3) / 2) : Int) + 1)
theorem made10 : Made 10 := ⟨pt10, by decide +kernel, by decide +kernel, by decide +kernel, fun _ k h1 h2 => noneB_ok (q := 100003) (by decide) 0 5000 (by decide) (by decide +kernel) (by decide +kernel) k h1 h2⟩
theorem made11 : Made 11 := ⟨pt11, by decide +kernel, by decide +kernel, by decide +kernel, fun _ k h1 h2 => noneB_ok (q := 1000003) (by decide) 12 5000 (by decide) (by decide +kernel) (by decide +kernel) k h1 h2⟩
theorem made12 : Made 12 := ⟨pt12, by decide +kernel, by decide +kernel, by decide +kernel, fun _ k h1 h2 => noneB_ok (q := 1000003) (by decide) 13 50000 (by decide) (by decide +kernel) (by decide +kernel) k h1 h2⟩
theorem made13 : Made 13 := ⟨pt13, by decide +kernel, by decide +kernel, by decide +kernel, fun _ k h1 h2 => noneB_ok (q := 10000019) (by decide) 16 50000 (by decide) (by decide +kernel) (by decide +kernel) k h1 h2⟩
theorem made14 : Made 14 := ⟨pt14, by decide +kernel, by decide +kernel, by decide +kernel, fun _ k h1 h2 => noneB_ok (q := 10000019) (by decide) 19 500000 (by decide) (by decide +kernel) (by decide +kernel) k h1 h2⟩
theorem made15 : Made 15 := ⟨pt15, by decide +kernel, by decide +kernel, by decide +kernel, fun _ k h1 h2 => noneB_ok (q := 100000007) (by decide) 19 500000 (by decide) (by decide +kernel) (by decide +kernel) k h1 h2⟩
theorem made16 : Made 16 := ⟨pt16, by decide +kernel, by decide +kernel, by decide +kernel, fun _ k h1 h2 => noneB_ok (q := 100000007) (by decide) 20 5000000 (by decide) (by decide +kernel) (by decide +kernel) k h1 h2⟩
theorem made17 : Made 17 := ⟨pt17, by decide +kernel, by decide +kernel, by decide +kernel, fun h => absurd h (by decide)⟩
theorem made18 : Made 18 := ⟨pt18, by decide +kernel, by decide +kernel, by decide +kernel, fun h => absurd h (by decide)⟩
theorem made19 : Made 19 := ⟨pt19, by decide +kernel, by decide +kernel, by decide +kernel, fun h => absurd h (by decide)⟩
theorem made20 : Made 20 := ⟨pt20, by decide +kernel, by decide +kernel, by decide +kernel, fun h => absurd h (by decide)⟩
theorem made21 : Made 21 := ⟨pt21, by decide +kernel, by decide +kernel, by decide +kernel, fun h => absurd h (by decide)⟩
theorem made22 : Made 22 := ⟨pt22, by decide +kernel, by decide +kernel, by decide +kernel, fun h => absurd h (by decide)⟩
theorem made23 : Made 23 := ⟨pt23, by decide +kernel, by decide +kernel, by decide +kernel, fun h => absurd h (by decide)⟩
theorem made24 : Made 24 := ⟨pt24, by decide +kernel, by decide +kernel, by decide +kernel, fun h => absurd h (by decide)⟩
theorem made25 : Made 25 := ⟨pt25, by decide +kernel, by decide +kernel, by decide +kernel, fun h => absurd h (by decide)⟩
theorem made26 : Made 26 := ⟨pt26, by decide +kernel, by decide +kernel, by decide +kernel, fun h => absurd h (by decide)⟩
theorem made27 : Made 27 := ⟨pt27, by decide +kernel, by decide +kernel, by decide +kernel, fun h => absurd h (by decide)⟩
theorem made28 : Made 28 := ⟨pt28, by decide +kernel, by decide +kernel, by decide +kernel, fun h => absurd h (by decide)⟩
theorem made29 : Made 29 := ⟨pt29, by decide +kernel, by decide +kernel, by decide +kernel, fun h => absurd h (by decide)⟩
theorem madeT_all {f : Nat} (h1 : 10 ≤ f) (h2 : f ≤ 29) : Made f := by
  have h : f = 10 ∨ f = 11 ∨ f = 12 ∨ f = 13 ∨ f = 14 ∨ f = 15 ∨ f = 16 ∨ f = 17 ∨ f = 18 ∨ f = 19 ∨ f = 20 ∨ f = 21 ∨ f = 22 ∨ f = 23 ∨ f = 24 ∨ f = 25 ∨ f = 26 ∨ f = 27 ∨ f = 28 ∨ f = 29 := by omega
  rcases h with rfl | rfl | rfl | rfl | rfl | rfl | rfl | rfl | rfl | rfl | rfl | rfl | rfl | rfl | rfl | rfl | rfl | rfl | rfl | rfl
  · exact made10
  · exact made11
  · exact made12
  · exact made13
  · exact made14
  · exact made15
  · exact made16
  · exact made17
  · exact made18
  · exact made19
  · exact made20
  · exact made21
  · exact made22
  · exact made23
  · exact made24
  · exact made25
  · exact made26
  · exact made27
  · exact made28
  · exact made29
structure Tried (f : Nat) : Prop where
  pr : IsPr (PrT f : Int)
  le : 10 ^ (f - 1) ≤ PrT f
  no : ∀ m, 10 ^ (f - 1) ≤ m → m < PrT f → ¬ IsPr (m : Int)
theorem tried1 : Tried 1 := ⟨pt1, by decide +kernel, nonB_ok 1 1 (by decide +kernel)⟩
theorem tried2 : Tried 2 := ⟨pt2, by decide +kernel, nonB_ok 1 10 (by decide +kernel)⟩
theorem tried3 : Tried 3 := ⟨pt3, by decide +kernel, nonB_ok 1 100 (by decide +kernel)⟩
theorem tried4 : Tried 4 := ⟨pt4, by decide +kernel, nonB_ok 9 1000 (by decide +kernel)⟩
theorem tried5 : Tried 5 := ⟨pt5, by decide +kernel, nonB_ok 7 10000 (by decide +kernel)⟩
theorem tried6 : Tried 6 := ⟨pt6, by decide +kernel, nonB_ok 3 100000 (by decide +kernel)⟩
theorem tried7 : Tried 7 := ⟨pt7, by decide +kernel, nonB_ok 3 1000000 (by decide +kernel)⟩
theorem tried8 : Tried 8 := ⟨pt8, by decide +kernel, nonB_ok 19 10000000 (by decide +kernel)⟩
theorem tried9 : Tried 9 := ⟨pt9, by decide +kernel, nonB_ok 7 100000000 (by decide +kernel)⟩
theorem triedT_all {f : Nat} (h1 : 1 ≤ f) (h2 : f ≤ 9) : Tried f := by
  have h : f = 1 ∨ f = 2 ∨ f = 3 ∨ f = 4 ∨ f = 5 ∨ f = 6 ∨ f = 7 ∨ f = 8 ∨ f = 9 := by omega
  rcases h with rfl | rfl | rfl | rfl | rfl | rfl | rfl | rfl | rfl
  · exact tried1
  · exact tried2
  · exact tried3
  · exact tried4
  · exact tried5
  · exact tried6
  · exact tried7
  · exact tried8
  · exact tried9
theorem ptT_le {f : Nat} (h1 : 1 ≤ f) (h2 : f ≤ 29) : 2 ≤ PrT f ∧ PrT f ≤ 10 ^ 29 ∧ (2 ≤ f → 3 ≤ PrT f) := by
  have h : f = 1 ∨ f = 2 ∨ f = 3 ∨ f = 4 ∨ f = 5 ∨ f = 6 ∨ f = 7 ∨ f = 8 ∨ f = 9 ∨ f = 10 ∨ f = 11 ∨ f = 12 ∨ f = 13 ∨ f = 14 ∨ f = 15 ∨ f = 16 ∨ f = 17 ∨ f = 18 ∨ f = 19 ∨ f = 20 ∨ f = 21 ∨ f = 22 ∨ f = 23 ∨ f = 24 ∨ f = 25 ∨ f = 26 ∨ f = 27 ∨ f = 28 ∨ f = 29 := by omega
  rcases h with rfl | rfl | rfl | rfl | rfl | rfl | rfl | rfl | rfl | rfl | rfl | rfl | rfl | rfl | rfl | rfl | rfl | rfl | rfl | rfl | rfl | rfl | rfl | rfl | rfl | rfl | rfl | rfl | rfl <;> exact ⟨by decide, by decide, by decide⟩
end MM
set_option Elab.async false
set_option linter.all false
set_option maxRecDepth 100000
set_option maxHeartbeats 4000000
namespace PP
open PySem L2 MM
noncomputable def top (i : Nat) : Stmt := PySem.Challenge.pw_primepapers_k90_whole_looks.main.body.getD i (.Pass ⟨0, 0, 0, 0⟩)
structure Txt (K : PySem.W.Frag) (mg : Str → Option Value) (t1 t2 t3 t4 : Tok) : Prop where
  mg_MOST : mg "MOST" = some (.int 1000000000000000000000000000000 t1)
  mg_MOST_TRIED : mg "MOST_TRIED" = some (.int 1000000000 t2)
  mg_MOST_FIGURES : mg "MOST_FIGURES" = some (.int 30 t3)
  mg_FIGURES_TRIED : mg "FIGURES_TRIED" = some (.int 9 t4)
  no_len : mg "len" = none
  no_isinstance : mg "isinstance" = none
  no_int : mg "int" = none
  no_bool : mg "bool" = none
  no_range : mg "range" = none
  no_abs : mg "abs" = none
  no_max : mg "max" = none
  no_min : mg "min" = none
  no_tuple : mg "tuple" = none
section
variable {P : Program} {w : World} {K : PySem.W.Frag} {mg : Str → Option Value} {base : Heap} {t1 t2 t3 t4 : Tok} {f : Addr} {fd : FuncData}
noncomputable abbrev s_is_whole : Stmt := top 7
theorem sc_is_whole : FnScope ["thing"] ["thing"] (defScope s_is_whole) := ⟨rfl, rfl, rfl, by decide +kernel, rfl, by decide +kernel, by decide +kernel⟩
noncomputable abbrev Df_is_whole (K : PySem.W.Frag) (mg : Str → Option Value) (f : Addr) (fd : FuncData) : Prop := Def K mg "is_whole" s_is_whole ["thing"] f fd
noncomputable def isWh : V → Bool
  | .int _ => true
  | _ => false
noncomputable def spWhole (K : PySem.W.Frag) : Sp := fun vs H Q _ => ∃ x n, vs = [x] ∧ TyOf K H x (.type n) ∧ Q (.bl (isWh x)) H
theorem ok_is_whole (D : Df_is_whole K mg f fd) (T : Txt K mg t1 t2 t3 t4) : FnOk P w K mg base CX0 1 f fd ["thing"] (spWhole K) := by
  refine D.fn.ok sc_is_whole (fun vs H Q E h => ?_) (fun cdv A outer s H vs Q E hr h => ?_)
  · obtain ⟨x, n, rfl, _⟩ := h
    rfl
  · obtain ⟨x, n, rfl, ty, k⟩ := h
    refine ⟨_, (pss_one (ps_ret (pe_and (pe_callB call_isinst (by rfl) T.no_isinstance PyProof.Rows.boot_isinstance (pa_cons (pv 0) (pa_cons (pe_bltn (v := .ty "int") rfl T.no_int PyProof.Rows.boot_int rfl) pa_nil))) (pe_one (pe_not (pe_callB call_isinst (by rfl) T.no_isinstance PyProof.Rows.boot_isinstance (pa_cons (pv 0) (pa_cons (pe_bltn (v := .ty "bool") rfl T.no_bool PyProof.Rows.boot_bool rfl) pa_nil)))))))), ?_⟩
    have e0 : L2.start ["thing"] [x] = [some x] := rfl
    rw [e0]
    simp only [tSeq, tIfS, tTest, tRet, tRetN, tNext, tDrop, tAsg, tPar, tPar3, tAug, tVar, tC, tOp, tUn, rI, rI0, rU, tB, tAnd, tOr, tNot, tAndV, tOrV, tNotV, tIf, gName, gNil, gCons, gTup, gSub, tCB, tCons, tNil, tCall, tChain, ipI, tIsN, tNotN, tBM, tyV, tTup, tLst, rAppend, rCat, scal_ii, scal_bb, scal_ss, scal_ni, scal_in, rEq, rNe, List.getElem?_cons_zero, List.getElem?_cons_succ, List.set_cons_zero, List.set_cons_succ, eq_self, and_assoc, Option.some.injEq, V.int.injEq, V.bl.injEq, V.ref.injEq, V.str.injEq, List.cons.injEq, exists_eq_left', exists_eq_left, exists_and_left, List.nil_append, List.cons_append, List.append_nil, true_and, and_true, decide_eq_true_eq, Bool.not_eq_true', decide_eq_false_iff_not, if_true, if_false, Bool.not_true, Bool.not_false, Bool.false_eq_true, reduceCtorEq, decide_true, decide_false, ite_true, ite_false, rSetL, rIxL, tRaise, jCons, jNil, tFmt, tDNew, rCount, rIndex, tCont, tBreak, Int.reduceToNat, Int.reducePow]
    refine isi ty ⟨_, rfl, ?_⟩
    have ty' := ty
    cases ty' <;> first | exact iteF k | (refine iteT ?_; refine isi (by assumption) ⟨_, rfl, ?_⟩; exact k)
noncomputable abbrev s_is_between : Stmt := top 8
theorem sc_is_between : FnScope ["thing", "least", "most"] ["thing", "least", "most"] (defScope s_is_between) := ⟨rfl, rfl, rfl, by decide +kernel, rfl, by decide +kernel, by decide +kernel⟩
noncomputable abbrev Df_is_between (K : PySem.W.Frag) (mg : Str → Option Value) (f : Addr) (fd : FuncData) : Prop := Def K mg "is_between" s_is_between ["thing", "least", "most"] f fd
noncomputable def isBet : V → Int → Int → Bool
  | .int i, lo, hi => decide (lo ≤ i) && decide (i ≤ hi)
  | _, _, _ => false
noncomputable def spBetween (K : PySem.W.Frag) : Sp := fun vs H Q _ => ∃ x n lo hi, vs = [x, .int lo, .int hi] ∧ TyOf K H x (.type n) ∧ Q (.bl (isBet x lo hi)) H
theorem ok_is_between (D : Df_is_between K mg f fd) (T : Txt K mg t1 t2 t3 t4) {f1 fd1} (D_is_whole : Df_is_whole K mg f1 fd1) : FnOk P w K mg base CX0 2 f fd ["thing", "least", "most"] (spBetween K) := by
  have G_is_whole : FnOk P w K mg base CX0 1 _ _ _ _ := ok_is_whole D_is_whole T
  refine D.fn.ok sc_is_between (fun vs H Q E h => ?_) (fun cdv A outer s H vs Q E hr h => ?_)
  · obtain ⟨x, n, lo, hi, rfl, _⟩ := h
    rfl
  · obtain ⟨x, n, lo, hi, rfl, ty, k⟩ := h
    refine ⟨_, (pss_one (ps_ret (pe_and (pe_call (G_is_whole.mono (by decide)) hr rfl D_is_whole.mgx D_is_whole.fn.kp D_is_whole.bd .nil pass0 (pa_cons (pv 0) pa_nil)) (pe_one (pe_chain op_le op_le (pv 1) (pv 0) (pv 2)))))), ?_⟩
    have e0 : L2.start ["thing", "least", "most"] [x, .int lo, .int hi] = [some (x), some (.int lo), some (.int hi)] := rfl
    rw [e0]; clear e0
    simp only [tSeq, tIfS, tTest, tRet, tRetN, tNext, tDrop, tAsg, tPar, tPar3, tAug, tVar, tC, tOp, tUn, rI, rI0, rU, tB, tAnd, tOr, tNot, tAndV, tOrV, tNotV, tIf, gName, gNil, gCons, gTup, gSub, tCB, tCons, tNil, tCall, tChain, ipI, tIsN, tNotN, tBM, tyV, tTup, tLst, rAppend, rCat, scal_ii, scal_bb, scal_ss, scal_ni, scal_in, rEq, rNe, List.getElem?_cons_zero, List.getElem?_cons_succ, List.set_cons_zero, List.set_cons_succ, eq_self, and_assoc, Option.some.injEq, V.int.injEq, V.bl.injEq, V.ref.injEq, V.str.injEq, List.cons.injEq, exists_eq_left', exists_eq_left, exists_and_left, List.nil_append, List.cons_append, List.append_nil, true_and, and_true, decide_eq_true_eq, Bool.not_eq_true', decide_eq_false_iff_not, if_true, if_false, Bool.not_true, Bool.not_false, Bool.false_eq_true, reduceCtorEq, decide_true, decide_false, ite_true, ite_false, rSetL, rIxL, tRaise, jCons, jNil, tFmt, tDNew, rCount, rIndex, tCont, tBreak, Int.reduceToNat, Int.reducePow]
    refine ⟨x, n, rfl, ty, _, rfl, ?_⟩
    cases x
    case int i =>
      refine iteT ⟨_, rfl, ?_⟩
      by_cases hl : lo ≤ i
      · rw [if_pos (by simpa using hl)]
        have e : isBet (.int i) lo hi = decide (i ≤ hi) := by simp [isBet, hl]
        rw [e] at k
        simp only [tSeq, tIfS, tTest, tRet, tRetN, tNext, tDrop, tAsg, tPar, tPar3, tAug, tVar, tC, tOp, tUn, rI, rI0, rU, tB, tAnd, tOr, tNot, tAndV, tOrV, tNotV, tIf, gName, gNil, gCons, gTup, gSub, tCB, tCons, tNil, tCall, tChain, ipI, tIsN, tNotN, tBM, tyV, tTup, tLst, rAppend, rCat, scal_ii, scal_bb, scal_ss, scal_ni, scal_in, rEq, rNe, List.getElem?_cons_zero, List.getElem?_cons_succ, List.set_cons_zero, List.set_cons_succ, eq_self, and_assoc, Option.some.injEq, V.int.injEq, V.bl.injEq, V.ref.injEq, V.str.injEq, List.cons.injEq, exists_eq_left', exists_eq_left, exists_and_left, List.nil_append, List.cons_append, List.append_nil, true_and, and_true, decide_eq_true_eq, Bool.not_eq_true', decide_eq_false_iff_not, if_true, if_false, Bool.not_true, Bool.not_false, Bool.false_eq_true, reduceCtorEq, decide_true, decide_false, ite_true, ite_false, rSetL, rIxL, tRaise, jCons, jNil, tFmt, tDNew, rCount, rIndex, tCont, tBreak, Int.reduceToNat, Int.reducePow]
        exact k
      · rw [if_neg (by simpa using hl)]
        have e : isBet (.int i) lo hi = false := by simp [isBet, hl]
        rw [e] at k
        exact k
    all_goals exact iteF k
noncomputable abbrev s_want_between : Stmt := top 9
theorem sc_want_between : FnScope ["thing", "least", "most", "name"] ["thing", "least", "most", "name"] (defScope s_want_between) := ⟨rfl, rfl, rfl, by decide +kernel, rfl, by decide +kernel, by decide +kernel⟩
noncomputable abbrev Df_want_between (K : PySem.W.Frag) (mg : Str → Option Value) (f : Addr) (fd : FuncData) : Prop := Def K mg "want_between" s_want_between ["thing", "least", "most", "name"] f fd
noncomputable def spWantB : Sp := fun vs H Q _ => ∃ (i lo hi : Int) (nm : Str), vs = [.int i, .int lo, .int hi, .str nm] ∧ (lo ≤ i ∧ i ≤ hi) ∧ Q .non H
theorem ok_want_between (D : Df_want_between K mg f fd) (T : Txt K mg t1 t2 t3 t4) {f1 fd1 f2 fd2} (D_is_whole : Df_is_whole K mg f1 fd1) (D_is_between : Df_is_between K mg f2 fd2) : FnOk P w K mg base CX0 3 f fd ["thing", "least", "most", "name"] spWantB := by
  have G_is_between : FnOk P w K mg base CX0 2 _ _ _ _ := ok_is_between D_is_between T D_is_whole
  refine D.fn.ok sc_want_between (fun vs H Q E h => ?_) (fun cdv A outer s H vs Q E hr h => ?_)
  · obtain ⟨i, lo, hi, nm, rfl, _⟩ := h
    rfl
  · obtain ⟨i, lo, hi, nm, rfl, hb, k⟩ := h
    refine ⟨_, (pss_one (ps_if (pt_not (pt_val (pe_call (G_is_between.mono (by decide)) hr rfl D_is_between.mgx D_is_between.fn.kp D_is_between.bd .nil pass0 (pa_cons (pv 0) (pa_cons (pv 1) (pa_cons (pv 2) pa_nil))))))
 (pss_one ps_never)
 pss_nil)), ?_⟩
    have e0 : L2.start ["thing", "least", "most", "name"] [.int i, .int lo, .int hi, .str nm] = [some (.int i), some (.int lo), some (.int hi), some (.str nm)] := rfl
    rw [e0]; clear e0
    simp only [tSeq, tIfS, tTest, tRet, tRetN, tNext, tDrop, tAsg, tPar, tPar3, tAug, tVar, tC, tOp, tUn, rI, rI0, rU, tB, tAnd, tOr, tNot, tAndV, tOrV, tNotV, tIf, gName, gNil, gCons, gTup, gSub, tCB, tCons, tNil, tCall, tChain, ipI, tIsN, tNotN, tBM, tyV, tTup, tLst, rAppend, rCat, scal_ii, scal_bb, scal_ss, scal_ni, scal_in, rEq, rNe, List.getElem?_cons_zero, List.getElem?_cons_succ, List.set_cons_zero, List.set_cons_succ, eq_self, and_assoc, Option.some.injEq, V.int.injEq, V.bl.injEq, V.ref.injEq, V.str.injEq, List.cons.injEq, exists_eq_left', exists_eq_left, exists_and_left, List.nil_append, List.cons_append, List.append_nil, true_and, and_true, decide_eq_true_eq, Bool.not_eq_true', decide_eq_false_iff_not, if_true, if_false, Bool.not_true, Bool.not_false, Bool.false_eq_true, reduceCtorEq, decide_true, decide_false, ite_true, ite_false, rSetL, rIxL, tRaise, jCons, jNil, tFmt, tDNew, rCount, rIndex, tCont, tBreak, Int.reduceToNat, Int.reducePow]
    refine ⟨.int i, "int", lo, hi, rfl, .int _, _, rfl, ?_⟩
    have e : isBet (.int i) lo hi = true := by simp [isBet, hb]
    rw [e]
    exact k
noncomputable abbrev s_want_tried : Stmt := top 11
theorem sc_want_tried : FnScope ["thing", "name"] ["thing", "name"] (defScope s_want_tried) := ⟨rfl, rfl, rfl, by decide +kernel, rfl, by decide +kernel, by decide +kernel⟩
noncomputable abbrev Df_want_tried (K : PySem.W.Frag) (mg : Str → Option Value) (f : Addr) (fd : FuncData) : Prop := Def K mg "want_tried" s_want_tried ["thing", "name"] f fd
noncomputable abbrev s_want_far : Stmt := top 12
theorem sc_want_far : FnScope ["thing", "name"] ["thing", "name"] (defScope s_want_far) := ⟨rfl, rfl, rfl, by decide +kernel, rfl, by decide +kernel, by decide +kernel⟩
noncomputable abbrev Df_want_far (K : PySem.W.Frag) (mg : Str → Option Value) (f : Addr) (fd : FuncData) : Prop := Def K mg "want_far" s_want_far ["thing", "name"] f fd
noncomputable def spWant (lo hi : Int) : Sp := fun vs H Q _ => ∃ (i : Int) (nm : Str), vs = [.int i, .str nm] ∧ (lo ≤ i ∧ i ≤ hi) ∧ Q .non H
theorem ok_want_tried (D : Df_want_tried K mg f fd) (T : Txt K mg t1 t2 t3 t4) {f1 fd1 f2 fd2 f3 fd3} (D_is_whole : Df_is_whole K mg f1 fd1) (D_is_between : Df_is_between K mg f2 fd2) (D_want_between : Df_want_between K mg f3 fd3) : FnOk P w K mg base CX0 4 f fd ["thing", "name"] (spWant 1 (10 ^ 9)) := by
  have G_want_between : FnOk P w K mg base CX0 3 _ _ _ _ := ok_want_between D_want_between T D_is_whole D_is_between
  refine D.fn.ok sc_want_tried (fun vs H Q E h => ?_) (fun cdv A outer s H vs Q E hr h => ?_)
  · obtain ⟨i, nm, rfl, _⟩ := h
    rfl
  · obtain ⟨i, nm, rfl, hb, k⟩ := h
    refine ⟨_, (pss_one (ps_expr (pe_call (G_want_between.mono (by decide)) hr rfl D_want_between.mgx D_want_between.fn.kp D_want_between.bd .nil pass0 (pa_cons (pv 0) (pa_cons pe_int (pa_cons (pe_glob (v := .int _) rfl T.mg_MOST_TRIED ⟨_, rfl⟩) (pa_cons (pv 1) pa_nil))))))), ?_⟩
    have e0 : L2.start ["thing", "name"] [.int i, .str nm] = [some (.int i), some (.str nm)] := rfl
    rw [e0]; clear e0
    simp only [tSeq, tIfS, tTest, tRet, tRetN, tNext, tDrop, tAsg, tPar, tPar3, tAug, tVar, tC, tOp, tUn, rI, rI0, rU, tB, tAnd, tOr, tNot, tAndV, tOrV, tNotV, tIf, gName, gNil, gCons, gTup, gSub, tCB, tCons, tNil, tCall, tChain, ipI, tIsN, tNotN, tBM, tyV, tTup, tLst, rAppend, rCat, scal_ii, scal_bb, scal_ss, scal_ni, scal_in, rEq, rNe, List.getElem?_cons_zero, List.getElem?_cons_succ, List.set_cons_zero, List.set_cons_succ, eq_self, and_assoc, Option.some.injEq, V.int.injEq, V.bl.injEq, V.ref.injEq, V.str.injEq, List.cons.injEq, exists_eq_left', exists_eq_left, exists_and_left, List.nil_append, List.cons_append, List.append_nil, true_and, and_true, decide_eq_true_eq, Bool.not_eq_true', decide_eq_false_iff_not, if_true, if_false, Bool.not_true, Bool.not_false, Bool.false_eq_true, reduceCtorEq, decide_true, decide_false, ite_true, ite_false, rSetL, rIxL, tRaise, jCons, jNil, tFmt, tDNew, rCount, rIndex, tCont, tBreak, Int.reduceToNat, Int.reducePow]
    exact ⟨i, _, _, nm, rfl, hb, k⟩
theorem ok_want_far (D : Df_want_far K mg f fd) (T : Txt K mg t1 t2 t3 t4) {f1 fd1 f2 fd2 f3 fd3} (D_is_whole : Df_is_whole K mg f1 fd1) (D_is_between : Df_is_between K mg f2 fd2) (D_want_between : Df_want_between K mg f3 fd3) : FnOk P w K mg base CX0 4 f fd ["thing", "name"] (spWant (-(10 ^ 30)) (10 ^ 30)) := by
  have G_want_between : FnOk P w K mg base CX0 3 _ _ _ _ := ok_want_between D_want_between T D_is_whole D_is_between
  refine D.fn.ok sc_want_far (fun vs H Q E h => ?_) (fun cdv A outer s H vs Q E hr h => ?_)
  · obtain ⟨i, nm, rfl, _⟩ := h
    rfl
  · obtain ⟨i, nm, rfl, hb, k⟩ := h
    refine ⟨_, (pss_one (ps_expr (pe_call (G_want_between.mono (by decide)) hr rfl D_want_between.mgx D_want_between.fn.kp D_want_between.bd .nil pass0 (pa_cons (pv 0) (pa_cons (pe_un un_neg (pe_glob (v := .int _) rfl T.mg_MOST ⟨_, rfl⟩)) (pa_cons (pe_glob (v := .int _) rfl T.mg_MOST ⟨_, rfl⟩) (pa_cons (pv 1) pa_nil))))))), ?_⟩
    have e0 : L2.start ["thing", "name"] [.int i, .str nm] = [some (.int i), some (.str nm)] := rfl
    rw [e0]; clear e0
    simp only [tSeq, tIfS, tTest, tRet, tRetN, tNext, tDrop, tAsg, tPar, tPar3, tAug, tVar, tC, tOp, tUn, rI, rI0, rU, tB, tAnd, tOr, tNot, tAndV, tOrV, tNotV, tIf, gName, gNil, gCons, gTup, gSub, tCB, tCons, tNil, tCall, tChain, ipI, tIsN, tNotN, tBM, tyV, tTup, tLst, rAppend, rCat, scal_ii, scal_bb, scal_ss, scal_ni, scal_in, rEq, rNe, List.getElem?_cons_zero, List.getElem?_cons_succ, List.set_cons_zero, List.set_cons_succ, eq_self, and_assoc, Option.some.injEq, V.int.injEq, V.bl.injEq, V.ref.injEq, V.str.injEq, List.cons.injEq, exists_eq_left', exists_eq_left, exists_and_left, List.nil_append, List.cons_append, List.append_nil, true_and, and_true, decide_eq_true_eq, Bool.not_eq_true', decide_eq_false_iff_not, if_true, if_false, Bool.not_true, Bool.not_false, Bool.false_eq_true, reduceCtorEq, decide_true, decide_false, ite_true, ite_false, rSetL, rIxL, tRaise, jCons, jNil, tFmt, tDNew, rCount, rIndex, tCont, tBreak, Int.reduceToNat, Int.reducePow]
    exact ⟨i, _, _, nm, rfl, hb, k⟩
noncomputable abbrev s_power_rest : Stmt := top 19
theorem sc_power_rest : FnScope ["base", "often", "n", "done", "square", "left"] ["base", "often", "n"] (defScope s_power_rest) := ⟨rfl, rfl, rfl, by decide +kernel, rfl, by decide +kernel, by decide +kernel⟩
noncomputable abbrev Df_power_rest (K : PySem.W.Frag) (mg : Str → Option Value) (f : Addr) (fd : FuncData) : Prop := Def K mg "power_rest" s_power_rest ["base", "often", "n"] f fd
noncomputable def spPower : Sp := fun vs H Q _ => ∃ (b o n : Int), vs = [.int b, .int o, .int n] ∧ (b.natAbs < 10 ^ 100 ∧ 0 ≤ o ∧ 0 < n ∧ n ≤ 10 ^ 40) ∧ Q (.int (b ^ o.toNat % n)) H
theorem ok_power_rest (D : Df_power_rest K mg f fd) (T : Txt K mg t1 t2 t3 t4) : FnOk P w K mg base CX0 1 f fd ["base", "often", "n"] spPower := by
  refine D.fn.ok sc_power_rest (fun vs H Q E h => ?_) (fun cdv A outer s H vs Q E hr h => ?_)
  · obtain ⟨b, o, n, rfl, _⟩ := h
    rfl
  · obtain ⟨b, o, n, rfl, ⟨hb, ho, hn, hn2⟩, k⟩ := h
    refine ⟨_, (pss_cons (ps_set (i := 3) sc_power_rest.nd rfl (by first | exact Or.inl rfl | exact Or.inr rfl) (pe_op op_mod pe_int (pv 2)))
 (pss_cons (ps_set (i := 4) sc_power_rest.nd rfl (by first | exact Or.inl rfl | exact Or.inr rfl) (pe_op op_mod (pv 0) (pv 2)))
 (pss_cons (ps_set (i := 5) sc_power_rest.nd rfl (by first | exact Or.inl rfl | exact Or.inr rfl) (pv 1))
 (pss_cons (ps_while PassesOwn.never (pt_cmpR op_gt (pv 5) pe_int (nomark _))
 (pss_cons (ps_if (pt_cmpR op_eq (pe_op op_mod (pv 5) pe_int) pe_int (nomark _))
 (pss_one (ps_set (i := 3) sc_power_rest.nd rfl (by first | exact Or.inl rfl | exact Or.inr rfl) (pe_op op_mod (pe_op op_mulB (pv 3) (pv 4)) (pv 2))))
 pss_nil)
 (pss_cons (ps_set (i := 4) sc_power_rest.nd rfl (by first | exact Or.inl rfl | exact Or.inr rfl) (pe_op op_mod (pe_op op_mulB (pv 4) (pv 4)) (pv 2)))
 (pss_one (ps_set (i := 5) sc_power_rest.nd rfl (by first | exact Or.inl rfl | exact Or.inr rfl) (pe_op op_fdivB (pv 5) pe_int))))))
 (pss_one (ps_ret (pv 3))))))), ?_⟩
    have e0 : L2.start ["base", "often", "n", "done", "square", "left"] [.int b, .int o, .int n] = [some (.int b), some (.int o), some (.int n), none, none, none] := rfl
    rw [e0]; clear e0
    simp only [tSeq, tIfS, tTest, tRet, tRetN, tNext, tDrop, tAsg, tPar, tPar3, tAug, tVar, tC, tOp, tUn, rI, rI0, rU, tB, tAnd, tOr, tNot, tAndV, tOrV, tNotV, tIf, gName, gNil, gCons, gTup, gSub, tCB, tCons, tNil, tCall, tChain, ipI, tIsN, tNotN, tBM, tyV, tTup, tLst, rAppend, rCat, scal_ii, scal_bb, scal_ss, scal_ni, scal_in, rEq, rNe, List.getElem?_cons_zero, List.getElem?_cons_succ, List.set_cons_zero, List.set_cons_succ, eq_self, and_assoc, Option.some.injEq, V.int.injEq, V.bl.injEq, V.ref.injEq, V.str.injEq, List.cons.injEq, exists_eq_left', exists_eq_left, exists_and_left, List.nil_append, List.cons_append, List.append_nil, true_and, and_true, decide_eq_true_eq, Bool.not_eq_true', decide_eq_false_iff_not, if_true, if_false, Bool.not_true, Bool.not_false, Bool.false_eq_true, reduceCtorEq, decide_true, decide_false, ite_true, ite_false, rSetL, rIxL, tRaise, jCons, jNil, tFmt, tDNew, rCount, rIndex, tCont, tBreak, Int.reduceToNat, Int.reducePow]
    refine ⟨hn, hn, ?_⟩
    refine ⟨fun m σ H' => H' = H ∧ ∃ d q l, m = l.toNat ∧ σ = [some (.int b), some (.int o), some (.int n), some (.int d), some (.int q), some (.int l)] ∧ PowInv b o n d q l,
      ⟨_, rfl, _, _, _, rfl, rfl, pow_start hn ho⟩, ?_⟩
    rintro m σ H' ⟨rfl, d, q, l, rfl, rfl, I⟩
    simp only [tSeq, tIfS, tTest, tRet, tRetN, tNext, tDrop, tAsg, tPar, tPar3, tAug, tVar, tC, tOp, tUn, rI, rI0, rU, tB, tAnd, tOr, tNot, tAndV, tOrV, tNotV, tIf, gName, gNil, gCons, gTup, gSub, tCB, tCons, tNil, tCall, tChain, ipI, tIsN, tNotN, tBM, tyV, tTup, tLst, rAppend, rCat, scal_ii, scal_bb, scal_ss, scal_ni, scal_in, rEq, rNe, List.getElem?_cons_zero, List.getElem?_cons_succ, List.set_cons_zero, List.set_cons_succ, eq_self, and_assoc, Option.some.injEq, V.int.injEq, V.bl.injEq, V.ref.injEq, V.str.injEq, List.cons.injEq, exists_eq_left', exists_eq_left, exists_and_left, List.nil_append, List.cons_append, List.append_nil, true_and, and_true, decide_eq_true_eq, Bool.not_eq_true', decide_eq_false_iff_not, if_true, if_false, Bool.not_true, Bool.not_false, Bool.false_eq_true, reduceCtorEq, decide_true, decide_false, ite_true, ite_false, rSetL, rIxL, tRaise, jCons, jNil, tFmt, tDNew, rCount, rIndex, tCont, tBreak, Int.reduceToNat, Int.reducePow]
    have i0 := I.d0; have i1 := I.d1; have i2 := I.s0; have i3 := I.s1; have i4 := I.l0
    refine ite2 (fun hl => ?_) (fun hl => ?_)
    · refine ⟨fun σ' H2 => H2 = H' ∧ ∃ d' q' l', l'.toNat < l.toNat ∧ σ' = [some (.int b), some (.int o), some (.int n), some (.int d'), some (.int q'), some (.int l')] ∧ PowInv b o n d' q' l',
        fun σ' H2 ⟨e, d', q', l', hlt, e2, J⟩ => ⟨_, hlt, e, d', q', l', rfl, e2, J⟩, ?_⟩
      have c1 : CMulB d q := .inr ⟨by omega, by omega⟩
      have c2 : CMulB q q := .inr ⟨by omega, by omega⟩
      have c3 : CDivB l 2 := ⟨by decide, by decide⟩
      refine ⟨by decide, ?_⟩
      refine ite2 (fun ho => ?_) (fun ho => ?_)
      · exact ⟨c1, hn, c2, hn, c3, rfl, _, _, _, by omega, rfl, pow_odd hn I ho⟩
      · exact ⟨c2, hn, c3, rfl, _, _, _, by omega, rfl, pow_even hn I ho⟩
    · have e := pow_end I hl
      rw [← e] at k
      exact k
noncomputable abbrev O_want_between (P : Program) (w : World) (K : PySem.W.Frag) (mg : Str → Option Value) (base : Heap) : Prop := ∃ f fd, Df_want_between K mg f fd ∧ FnOk P w K mg base CX0 3 f fd ["thing", "least", "most", "name"] (spWantB)
noncomputable abbrev O_want_tried (P : Program) (w : World) (K : PySem.W.Frag) (mg : Str → Option Value) (base : Heap) : Prop := ∃ f fd, Df_want_tried K mg f fd ∧ FnOk P w K mg base CX0 4 f fd ["thing", "name"] (spWant 1 (10 ^ 9))
noncomputable abbrev O_want_far (P : Program) (w : World) (K : PySem.W.Frag) (mg : Str → Option Value) (base : Heap) : Prop := ∃ f fd, Df_want_far K mg f fd ∧ FnOk P w K mg base CX0 4 f fd ["thing", "name"] (spWant (-(10 ^ 30)) (10 ^ 30))
noncomputable abbrev O_power_rest (P : Program) (w : World) (K : PySem.W.Frag) (mg : Str → Option Value) (base : Heap) : Prop := ∃ f fd, Df_power_rest K mg f fd ∧ FnOk P w K mg base CX0 1 f fd ["base", "often", "n"] (spPower)
noncomputable abbrev s_greatest_in_both : Stmt := top 20
theorem sc_greatest_in_both : FnScope ["one", "other", "great", "small"] ["one", "other"] (defScope s_greatest_in_both) := ⟨rfl, rfl, rfl, by decide +kernel, rfl, by decide +kernel, by decide +kernel⟩
noncomputable abbrev Df_greatest_in_both (K : PySem.W.Frag) (mg : Str → Option Value) (f : Addr) (fd : FuncData) : Prop := Def K mg "greatest_in_both" s_greatest_in_both ["one", "other"] f fd
noncomputable def spGreat : Sp := fun vs H Q _ => ∃ (a b : Int), vs = [.int a, .int b] ∧ (a.natAbs < 10 ^ 100 ∧ b.natAbs < 10 ^ 100) ∧ Q (.int (Int.gcd a b)) H
theorem ok_greatest_in_both (D : Df_greatest_in_both K mg f fd) (T : Txt K mg t1 t2 t3 t4) : FnOk P w K mg base CX0 1 f fd ["one", "other"] spGreat := by
  refine D.fn.ok sc_greatest_in_both (fun vs H Q E h => ?_) (fun cdv A outer s H vs Q E hr h => ?_)
  · obtain ⟨a, b, rfl, _⟩ := h
    rfl
  · obtain ⟨a, b, rfl, ⟨ha, hb⟩, k⟩ := h
    refine ⟨_, (pss_cons (ps_set (i := 2) sc_greatest_in_both.nd rfl (by first | exact Or.inl rfl | exact Or.inr rfl) (pe_callB call_abs (by rfl) T.no_abs PyProof.Rows.boot_abs (pa_cons (pv 0) pa_nil)))
 (pss_cons (ps_set (i := 3) sc_greatest_in_both.nd rfl (by first | exact Or.inl rfl | exact Or.inr rfl) (pe_callB call_abs (by rfl) T.no_abs PyProof.Rows.boot_abs (pa_cons (pv 1) pa_nil)))
 (pss_cons (ps_while PassesOwn.never (pt_cmpR op_gt (pv 3) pe_int (nomark _))
 (pss_one (ps_par (i := 2) (j := 3) rfl sc_greatest_in_both.nd rfl rfl (by decide) rfl rfl (pa_cons (pv 3) (pa_cons (pe_op op_mod (pv 2) (pv 3)) pa_nil)) (by first | rfl | with_unfolding_all rfl))))
 (pss_one (ps_ret (pv 2)))))), ?_⟩
    have e0 : L2.start ["one", "other", "great", "small"] [.int a, .int b] = [some (.int a), some (.int b), none, none] := rfl
    rw [e0]; clear e0
    simp only [tSeq, tIfS, tTest, tRet, tRetN, tNext, tDrop, tAsg, tPar, tPar3, tAug, tVar, tC, tOp, tUn, rI, rI0, rU, tB, tAnd, tOr, tNot, tAndV, tOrV, tNotV, tIf, gName, gNil, gCons, gTup, gSub, tCB, tCons, tNil, tCall, tChain, ipI, tIsN, tNotN, tBM, tyV, tTup, tLst, rAppend, rCat, scal_ii, scal_bb, scal_ss, scal_ni, scal_in, rEq, rNe, List.getElem?_cons_zero, List.getElem?_cons_succ, List.set_cons_zero, List.set_cons_succ, eq_self, and_assoc, Option.some.injEq, V.int.injEq, V.bl.injEq, V.ref.injEq, V.str.injEq, List.cons.injEq, exists_eq_left', exists_eq_left, exists_and_left, List.nil_append, List.cons_append, List.append_nil, true_and, and_true, decide_eq_true_eq, Bool.not_eq_true', decide_eq_false_iff_not, if_true, if_false, Bool.not_true, Bool.not_false, Bool.false_eq_true, reduceCtorEq, decide_true, decide_false, ite_true, ite_false, rSetL, rIxL, tRaise, jCons, jNil, tFmt, tDNew, rCount, rIndex, tCont, tBreak, Int.reduceToNat, Int.reducePow]
    refine ⟨fun m σ H' => H' = H ∧ ∃ g s, m = s.toNat ∧ σ = [some (.int a), some (.int b), some (.int g), some (.int s)] ∧ GcdInv a b g s,
      ⟨_, rfl, _, _, rfl, rfl, gcd_start a b⟩, ?_⟩
    rintro m σ H' ⟨rfl, g, s, rfl, rfl, I⟩
    simp only [tSeq, tIfS, tTest, tRet, tRetN, tNext, tDrop, tAsg, tPar, tPar3, tAug, tVar, tC, tOp, tUn, rI, rI0, rU, tB, tAnd, tOr, tNot, tAndV, tOrV, tNotV, tIf, gName, gNil, gCons, gTup, gSub, tCB, tCons, tNil, tCall, tChain, ipI, tIsN, tNotN, tBM, tyV, tTup, tLst, rAppend, rCat, scal_ii, scal_bb, scal_ss, scal_ni, scal_in, rEq, rNe, List.getElem?_cons_zero, List.getElem?_cons_succ, List.set_cons_zero, List.set_cons_succ, eq_self, and_assoc, Option.some.injEq, V.int.injEq, V.bl.injEq, V.ref.injEq, V.str.injEq, List.cons.injEq, exists_eq_left', exists_eq_left, exists_and_left, List.nil_append, List.cons_append, List.append_nil, true_and, and_true, decide_eq_true_eq, Bool.not_eq_true', decide_eq_false_iff_not, if_true, if_false, Bool.not_true, Bool.not_false, Bool.false_eq_true, reduceCtorEq, decide_true, decide_false, ite_true, ite_false, rSetL, rIxL, tRaise, jCons, jNil, tFmt, tDNew, rCount, rIndex, tCont, tBreak, Int.reduceToNat, Int.reducePow]
    refine ite2 (fun hl => ?_) (fun hl => ?_)
    · refine ⟨fun σ' H2 => H2 = H' ∧ ∃ g' s', s'.toNat < s.toNat ∧ σ' = [some (.int a), some (.int b), some (.int g'), some (.int s')] ∧ GcdInv a b g' s',
        fun σ' H2 ⟨e, g', s', hlt, e2, J⟩ => ⟨_, hlt, e, g', s', rfl, e2, J⟩, ?_⟩
      have l1 := Int.emod_lt_of_pos g hl
      have l2 := Int.emod_nonneg g (show s ≠ 0 by omega)
      exact ⟨hl, rfl, _, _, by omega, rfl, gcd_turn I hl⟩
    · have e := gcd_end I hl
      rw [← e] at k
      exact k
noncomputable abbrev O_greatest_in_both (P : Program) (w : World) (K : PySem.W.Frag) (mg : Str → Option Value) (base : Heap) : Prop := ∃ f fd, Df_greatest_in_both K mg f fd ∧ FnOk P w K mg base CX0 1 f fd ["one", "other"] (spGreat)
noncomputable abbrev s_least_part : Stmt := top 17
theorem sc_least_part : FnScope ["number", "start", "tried"] ["number", "start"] (defScope s_least_part) := ⟨rfl, rfl, rfl, by decide +kernel, rfl, by decide +kernel, by decide +kernel⟩
noncomputable abbrev Df_least_part (K : PySem.W.Frag) (mg : Str → Option Value) (f : Addr) (fd : FuncData) : Prop := Def K mg "least_part" s_least_part ["number", "start"] f fd
noncomputable def LpInv (n s t : Int) : Prop := s ≤ t ∧ ∀ d, s ≤ d → d < t → n % d ≠ 0
noncomputable def spLeast : Sp := fun vs H Q _ => ∃ (n s : Int), vs = [.int n, .int s] ∧ (0 ≤ n ∧ n ≤ 10 ^ 9 ∧ 2 ≤ s ∧ s ≤ 10 ^ 9 + 1) ∧ ∀ r, LpEnd n s r → Q (.int r) H
theorem ok_least_part (D : Df_least_part K mg f fd) (T : Txt K mg t1 t2 t3 t4) : FnOk P w K mg base CX0 1 f fd ["number", "start"] spLeast := by
  refine D.fn.ok sc_least_part (fun vs H Q E h => ?_) (fun cdv A outer s H vs Q E hr h => ?_)
  · obtain ⟨a, n, rfl, _⟩ := h
    rfl
  · obtain ⟨n, s, rfl, ⟨h0, h1, h2, h3⟩, k⟩ := h
    refine ⟨_, (pss_cons (ps_set (i := 2) sc_least_part.nd rfl (by first | exact Or.inl rfl | exact Or.inr rfl) (pv 1))
 (pss_cons (ps_while PassesOwn.never (pt_cmpR op_le (pe_op op_mulB (pv 2) (pv 2)) (pv 0) (nomark _))
 (pss_cons (ps_if (pt_cmpR op_eq (pe_op op_mod (pv 0) (pv 2)) pe_int (nomark _))
 (pss_one (ps_ret (pv 2)))
 pss_nil)
 (pss_one (ps_aug (i := 2) sc_least_part.nd rfl (Or.inl rfl) pe_int ip_add))))
 (pss_one (ps_ret (pv 0))))), ?_⟩
    have e0 : L2.start ["number", "start", "tried"] [.int n, .int s] = [some (.int n), some (.int s), none] := rfl
    rw [e0]; clear e0
    simp only [tSeq, tIfS, tTest, tRet, tRetN, tNext, tDrop, tAsg, tPar, tPar3, tAug, tVar, tC, tOp, tUn, rI, rI0, rU, tB, tAnd, tOr, tNot, tAndV, tOrV, tNotV, tIf, gName, gNil, gCons, gTup, gSub, tCB, tCons, tNil, tCall, tChain, ipI, tIsN, tNotN, tBM, tyV, tTup, tLst, rAppend, rCat, scal_ii, scal_bb, scal_ss, scal_ni, scal_in, rEq, rNe, List.getElem?_cons_zero, List.getElem?_cons_succ, List.set_cons_zero, List.set_cons_succ, eq_self, and_assoc, Option.some.injEq, V.int.injEq, V.bl.injEq, V.ref.injEq, V.str.injEq, List.cons.injEq, exists_eq_left', exists_eq_left, exists_and_left, List.nil_append, List.cons_append, List.append_nil, true_and, and_true, decide_eq_true_eq, Bool.not_eq_true', decide_eq_false_iff_not, if_true, if_false, Bool.not_true, Bool.not_false, Bool.false_eq_true, reduceCtorEq, decide_true, decide_false, ite_true, ite_false, rSetL, rIxL, tRaise, jCons, jNil, tFmt, tDNew, rCount, rIndex, tCont, tBreak, Int.reduceToNat, Int.reducePow]
    refine ⟨fun m σ H' => H' = H ∧ ∃ t, m = (10 ^ 10 - t).toNat ∧ σ = [some (.int n), some (.int s), some (.int t)] ∧ LpInv n s t ∧ t ≤ 10 ^ 9 + 2,
      ⟨_, rfl, _, rfl, rfl, ⟨Int.le_refl _, fun d a b => by omega⟩, by omega⟩, ?_⟩
    rintro m σ H' ⟨rfl, t, rfl, rfl, ⟨I1, I2⟩, I3⟩
    simp only [tSeq, tIfS, tTest, tRet, tRetN, tNext, tDrop, tAsg, tPar, tPar3, tAug, tVar, tC, tOp, tUn, rI, rI0, rU, tB, tAnd, tOr, tNot, tAndV, tOrV, tNotV, tIf, gName, gNil, gCons, gTup, gSub, tCB, tCons, tNil, tCall, tChain, ipI, tIsN, tNotN, tBM, tyV, tTup, tLst, rAppend, rCat, scal_ii, scal_bb, scal_ss, scal_ni, scal_in, rEq, rNe, List.getElem?_cons_zero, List.getElem?_cons_succ, List.set_cons_zero, List.set_cons_succ, eq_self, and_assoc, Option.some.injEq, V.int.injEq, V.bl.injEq, V.ref.injEq, V.str.injEq, List.cons.injEq, exists_eq_left', exists_eq_left, exists_and_left, List.nil_append, List.cons_append, List.append_nil, true_and, and_true, decide_eq_true_eq, Bool.not_eq_true', decide_eq_false_iff_not, if_true, if_false, Bool.not_true, Bool.not_false, Bool.false_eq_true, reduceCtorEq, decide_true, decide_false, ite_true, ite_false, rSetL, rIxL, tRaise, jCons, jNil, tFmt, tDNew, rCount, rIndex, tCont, tBreak, Int.reduceToNat, Int.reducePow]
    refine ⟨.inr ⟨by omega, by omega⟩, ?_⟩
    refine ite2 (fun hl => ?_) (fun hl => ?_)
    · refine ⟨fun σ' H2 => H2 = H' ∧ ∃ t', (10 ^ 10 - t').toNat < (10 ^ 10 - t).toNat ∧ σ' = [some (.int n), some (.int s), some (.int t')] ∧ LpInv n s t' ∧ t' ≤ 10 ^ 9 + 2,
        fun σ' H2 ⟨e, t', hlt, e2, J⟩ => ⟨_, hlt, e, t', rfl, e2, J⟩, ?_⟩
      have t2 : t ≤ n := by
        have := Int.mul_le_mul_of_nonneg_right (show (1 : Int) ≤ t by omega) (show 0 ≤ t by omega)
        omega
      refine ⟨by omega, ?_⟩
      refine ite2 (fun hd => ?_) (fun hd => ?_)
      · exact k t (.inr ⟨I1, hl, hd, I2⟩)
      · refine ⟨rfl, t + 1, by omega, rfl, ⟨by omega, fun d a b => ?_⟩, by omega⟩
        by_cases e : d = t
        · rw [e]; exact hd
        · exact I2 d a (by omega)
    · refine k n (.inl ⟨rfl, fun d a b => I2 d a ?_⟩)
      refine Classical.byContradiction fun hc => hl ?_
      have := sq_mono (show 0 ≤ t by omega) (show t ≤ d by omega)
      omega
noncomputable abbrev O_least_part (P : Program) (w : World) (K : PySem.W.Frag) (mg : Str → Option Value) (base : Heap) : Prop := ∃ f fd, Df_least_part K mg f fd ∧ FnOk P w K mg base CX0 1 f fd ["number", "start"] (spLeast)
noncomputable abbrev s_is_prime : Stmt := top 14
theorem sc_is_prime : FnScope ["number"] ["number"] (defScope s_is_prime) := ⟨rfl, rfl, rfl, by decide +kernel, rfl, by decide +kernel, by decide +kernel⟩
noncomputable abbrev Df_is_prime (K : PySem.W.Frag) (mg : Str → Option Value) (f : Addr) (fd : FuncData) : Prop := Def K mg "is_prime" s_is_prime ["number"] f fd
noncomputable def spIsPrime : Sp := fun vs H Q _ => ∃ (n : Int), vs = [.int n] ∧ (0 ≤ n ∧ n ≤ 10 ^ 9) ∧ Q (.bl (isPrB n)) H
theorem lp_prime {n r : Int} (hn : 1 < n) (h : LpEnd n 2 r) : r = n ↔ IsPr n := by
  constructor
  · intro e
    rcases h with ⟨_, h⟩ | ⟨h1, h2, h3, h4⟩
    · exact ⟨by omega, h⟩
    · subst e
      have := Int.mul_le_mul_of_nonneg_right (show (2 : Int) ≤ r by omega) (show 0 ≤ r by omega)
      omega
  · intro hp
    rcases h with ⟨h, _⟩ | ⟨h1, h2, h3, h4⟩
    · exact h
    · exact absurd h3 (hp.2 r h1 h2)
theorem ok_is_prime (D : Df_is_prime K mg f fd) (T : Txt K mg t1 t2 t3 t4) (o1 : O_want_between P w K mg base) (o2 : O_least_part P w K mg base) : FnOk P w K mg base CX0 5 f fd ["number"] spIsPrime := by
  obtain ⟨_, _, D_want_between, G_want_between⟩ := o1
  obtain ⟨_, _, D_least_part, G_least_part⟩ := o2
  refine D.fn.ok sc_is_prime (fun vs H Q E h => ?_) (fun cdv A outer s H vs Q E hr h => ?_)
  · obtain ⟨n, rfl, _⟩ := h
    rfl
  · obtain ⟨n, rfl, hb, k⟩ := h
    refine ⟨_, (pss_cons (ps_expr (pe_call (G_want_between.mono (by decide)) hr rfl D_want_between.mgx D_want_between.fn.kp D_want_between.bd .nil pass0 (pa_cons (pv 0) (pa_cons pe_int (pa_cons (pe_glob (v := .int _) rfl T.mg_MOST_TRIED ⟨_, rfl⟩) (pa_cons pe_str pa_nil))))))
 (pss_one (ps_ret (pe_and (pe_cmpR op_gt (pv 0) pe_int (nomark _)) (pe_one (pe_cmpR op_eq (pe_call (G_least_part.mono (by decide)) hr rfl D_least_part.mgx D_least_part.fn.kp D_least_part.bd .nil pass0 (pa_cons (pv 0) (pa_cons pe_int pa_nil))) (pv 0) (nomark _))))))), ?_⟩
    have e0 : L2.start ["number"] [.int n] = [some (.int n)] := rfl
    rw [e0]; clear e0
    simp only [tSeq, tIfS, tTest, tRet, tRetN, tNext, tDrop, tAsg, tPar, tPar3, tAug, tVar, tC, tOp, tUn, rI, rI0, rU, tB, tAnd, tOr, tNot, tAndV, tOrV, tNotV, tIf, gName, gNil, gCons, gTup, gSub, tCB, tCons, tNil, tCall, tChain, ipI, tIsN, tNotN, tBM, tyV, tTup, tLst, rAppend, rCat, scal_ii, scal_bb, scal_ss, scal_ni, scal_in, rEq, rNe, List.getElem?_cons_zero, List.getElem?_cons_succ, List.set_cons_zero, List.set_cons_succ, eq_self, and_assoc, Option.some.injEq, V.int.injEq, V.bl.injEq, V.ref.injEq, V.str.injEq, List.cons.injEq, exists_eq_left', exists_eq_left, exists_and_left, List.nil_append, List.cons_append, List.append_nil, true_and, and_true, decide_eq_true_eq, Bool.not_eq_true', decide_eq_false_iff_not, if_true, if_false, Bool.not_true, Bool.not_false, Bool.false_eq_true, reduceCtorEq, decide_true, decide_false, ite_true, ite_false, rSetL, rIxL, tRaise, jCons, jNil, tFmt, tDNew, rCount, rIndex, tCont, tBreak, Int.reduceToNat, Int.reducePow]
    refine ⟨n, 0, _, _, rfl, ⟨by omega, by omega⟩, ?_⟩
    refine ite2 (fun hl => ?_) (fun hl => ?_)
    · refine ⟨n, 2, rfl, ⟨by omega, by omega, by omega, by omega⟩, fun r hr => ?_⟩
      simp only [tSeq, tIfS, tTest, tRet, tRetN, tNext, tDrop, tAsg, tPar, tPar3, tAug, tVar, tC, tOp, tUn, rI, rI0, rU, tB, tAnd, tOr, tNot, tAndV, tOrV, tNotV, tIf, gName, gNil, gCons, gTup, gSub, tCB, tCons, tNil, tCall, tChain, ipI, tIsN, tNotN, tBM, tyV, tTup, tLst, rAppend, rCat, scal_ii, scal_bb, scal_ss, scal_ni, scal_in, rEq, rNe, List.getElem?_cons_zero, List.getElem?_cons_succ, List.set_cons_zero, List.set_cons_succ, eq_self, and_assoc, Option.some.injEq, V.int.injEq, V.bl.injEq, V.ref.injEq, V.str.injEq, List.cons.injEq, exists_eq_left', exists_eq_left, exists_and_left, List.nil_append, List.cons_append, List.append_nil, true_and, and_true, decide_eq_true_eq, Bool.not_eq_true', decide_eq_false_iff_not, if_true, if_false, Bool.not_true, Bool.not_false, Bool.false_eq_true, reduceCtorEq, decide_true, decide_false, ite_true, ite_false, rSetL, rIxL, tRaise, jCons, jNil, tFmt, tDNew, rCount, rIndex, tCont, tBreak, Int.reduceToNat, Int.reducePow]
      have e := lp_prime hl hr
      by_cases hp : IsPr n
      · rw [isPrB_of hp] at k
        rw [decide_eq_true (e.mpr hp)]
        exact k
      · rw [isPrB_not hp] at k
        rw [decide_eq_false (fun z => hp (e.mp z))]
        exact k
    · have e : ¬ IsPr n := fun h => by have := h.1; omega
      rw [isPrB_not e] at k
      exact k
noncomputable abbrev O_is_prime (P : Program) (w : World) (K : PySem.W.Frag) (mg : Str → Option Value) (base : Heap) : Prop := ∃ f fd, Df_is_prime K mg f fd ∧ FnOk P w K mg base CX0 5 f fd ["number"] (spIsPrime)
noncomputable abbrev s_want_odd : Stmt := top 10
theorem sc_want_odd : FnScope ["thing", "least", "most", "name"] ["thing", "least", "most", "name"] (defScope s_want_odd) := ⟨rfl, rfl, rfl, by decide +kernel, rfl, by decide +kernel, by decide +kernel⟩
noncomputable abbrev Df_want_odd (K : PySem.W.Frag) (mg : Str → Option Value) (f : Addr) (fd : FuncData) : Prop := Def K mg "want_odd" s_want_odd ["thing", "least", "most", "name"] f fd
noncomputable def spWantO : Sp := fun vs H Q _ => ∃ (i lo hi : Int) (nm : Str), vs = [.int i, .int lo, .int hi, .str nm] ∧ (lo ≤ i ∧ i ≤ hi ∧ i % 2 = 1) ∧ Q .non H
theorem ok_want_odd (D : Df_want_odd K mg f fd) (T : Txt K mg t1 t2 t3 t4) {f1 fd1 f2 fd2} (D_is_whole : Df_is_whole K mg f1 fd1) (D_is_between : Df_is_between K mg f2 fd2) : FnOk P w K mg base CX0 3 f fd ["thing", "least", "most", "name"] spWantO := by
  have G_is_between : FnOk P w K mg base CX0 2 _ _ _ _ := ok_is_between D_is_between T D_is_whole
  refine D.fn.ok sc_want_odd (fun vs H Q E h => ?_) (fun cdv A outer s H vs Q E hr h => ?_)
  · obtain ⟨i, lo, hi, nm, rfl, _⟩ := h
    rfl
  · obtain ⟨i, lo, hi, nm, rfl, ⟨h1, h2, h3⟩, k⟩ := h
    refine ⟨_, (pss_one (ps_if (PW.pt (pw_or (pt_not (pt_val (pe_call (G_is_between.mono (by decide)) hr rfl D_is_between.mgx D_is_between.fn.kp D_is_between.bd .nil pass0 (pa_cons (pv 0) (pa_cons (pv 1) (pa_cons (pv 2) pa_nil)))))) (pw_or1 (pt_cmpR op_eq (pe_op op_mod (pv 0) pe_int) pe_int (nomark _)))))
 (pss_one ps_never)
 pss_nil)), ?_⟩
    have e0 : L2.start ["thing", "least", "most", "name"] [.int i, .int lo, .int hi, .str nm] = [some (.int i), some (.int lo), some (.int hi), some (.str nm)] := rfl
    rw [e0]; clear e0
    simp only [tSeq, tIfS, tTest, tRet, tRetN, tNext, tDrop, tAsg, tPar, tPar3, tAug, tVar, tC, tOp, tUn, rI, rI0, rU, tB, tAnd, tOr, tNot, tAndV, tOrV, tNotV, tIf, gName, gNil, gCons, gTup, gSub, tCB, tCons, tNil, tCall, tChain, ipI, tIsN, tNotN, tBM, tyV, tTup, tLst, rAppend, rCat, scal_ii, scal_bb, scal_ss, scal_ni, scal_in, rEq, rNe, List.getElem?_cons_zero, List.getElem?_cons_succ, List.set_cons_zero, List.set_cons_succ, eq_self, and_assoc, Option.some.injEq, V.int.injEq, V.bl.injEq, V.ref.injEq, V.str.injEq, List.cons.injEq, exists_eq_left', exists_eq_left, exists_and_left, List.nil_append, List.cons_append, List.append_nil, true_and, and_true, decide_eq_true_eq, Bool.not_eq_true', decide_eq_false_iff_not, if_true, if_false, Bool.not_true, Bool.not_false, Bool.false_eq_true, reduceCtorEq, decide_true, decide_false, ite_true, ite_false, rSetL, rIxL, tRaise, jCons, jNil, tFmt, tDNew, rCount, rIndex, tCont, tBreak, Int.reduceToNat, Int.reducePow]
    refine ⟨.int i, "int", lo, hi, rfl, .int _, _, rfl, ?_⟩
    have e : isBet (.int i) lo hi = true := by simp [isBet, h1, h2]
    rw [e, if_neg (by decide)]
    refine ⟨by decide, ?_⟩
    rw [if_neg (by omega)]
    exact k
noncomputable abbrev O_want_odd (P : Program) (w : World) (K : PySem.W.Frag) (mg : Str → Option Value) (base : Heap) : Prop := ∃ f fd, Df_want_odd K mg f fd ∧ FnOk P w K mg base CX0 3 f fd ["thing", "least", "most", "name"] (spWantO)
noncomputable abbrev s_want_look : Stmt := top 27
theorem sc_want_look : FnScope ["n", "base"] ["n", "base"] (defScope s_want_look) := ⟨rfl, rfl, rfl, by decide +kernel, rfl, by decide +kernel, by decide +kernel⟩
noncomputable abbrev Df_want_look (K : PySem.W.Frag) (mg : Str → Option Value) (f : Addr) (fd : FuncData) : Prop := Def K mg "want_look" s_want_look ["n", "base"] f fd
noncomputable def spLook : Sp := fun vs H Q _ => ∃ (n b : Int), vs = [.int n, .int b] ∧ (3 ≤ n ∧ n ≤ 10 ^ 30 ∧ n % 2 = 1 ∧ 1 ≤ b ∧ b ≤ n - 1) ∧ Q .non H
theorem ok_want_look (D : Df_want_look K mg f fd) (T : Txt K mg t1 t2 t3 t4) (o1 : O_want_odd P w K mg base) (o2 : O_want_between P w K mg base) : FnOk P w K mg base CX0 4 f fd ["n", "base"] spLook := by
  obtain ⟨_, _, D_want_odd, G_want_odd⟩ := o1
  obtain ⟨_, _, D_want_between, G_want_between⟩ := o2
  refine D.fn.ok sc_want_look (fun vs H Q E h => ?_) (fun cdv A outer s H vs Q E hr h => ?_)
  · obtain ⟨n, b, rfl, _⟩ := h
    rfl
  · obtain ⟨n, b, rfl, ⟨h1, h2, h3, h4, h5⟩, k⟩ := h
    refine ⟨_, (pss_cons (ps_expr (pe_call (G_want_odd.mono (by decide)) hr rfl D_want_odd.mgx D_want_odd.fn.kp D_want_odd.bd .nil pass0 (pa_cons (pv 0) (pa_cons pe_int (pa_cons (pe_glob (v := .int _) rfl T.mg_MOST ⟨_, rfl⟩) (pa_cons pe_str pa_nil))))))
 (pss_one (ps_expr (pe_call (G_want_between.mono (by decide)) hr rfl D_want_between.mgx D_want_between.fn.kp D_want_between.bd .nil pass0 (pa_cons (pv 1) (pa_cons pe_int (pa_cons (pe_op op_sub (pv 0) pe_int) (pa_cons pe_str pa_nil)))))))), ?_⟩
    have e0 : L2.start ["n", "base"] [.int n, .int b] = [some (.int n), some (.int b)] := rfl
    rw [e0]; clear e0
    simp only [tSeq, tIfS, tTest, tRet, tRetN, tNext, tDrop, tAsg, tPar, tPar3, tAug, tVar, tC, tOp, tUn, rI, rI0, rU, tB, tAnd, tOr, tNot, tAndV, tOrV, tNotV, tIf, gName, gNil, gCons, gTup, gSub, tCB, tCons, tNil, tCall, tChain, ipI, tIsN, tNotN, tBM, tyV, tTup, tLst, rAppend, rCat, scal_ii, scal_bb, scal_ss, scal_ni, scal_in, rEq, rNe, List.getElem?_cons_zero, List.getElem?_cons_succ, List.set_cons_zero, List.set_cons_succ, eq_self, and_assoc, Option.some.injEq, V.int.injEq, V.bl.injEq, V.ref.injEq, V.str.injEq, List.cons.injEq, exists_eq_left', exists_eq_left, exists_and_left, List.nil_append, List.cons_append, List.append_nil, true_and, and_true, decide_eq_true_eq, Bool.not_eq_true', decide_eq_false_iff_not, if_true, if_false, Bool.not_true, Bool.not_false, Bool.false_eq_true, reduceCtorEq, decide_true, decide_false, ite_true, ite_false, rSetL, rIxL, tRaise, jCons, jNil, tFmt, tDNew, rCount, rIndex, tCont, tBreak, Int.reduceToNat, Int.reducePow]
    exact ⟨n, 3, _, _, rfl, ⟨h1, by omega, h3⟩, b, 1, _, _, rfl, ⟨h4, h5⟩, k⟩
noncomputable abbrev O_want_look (P : Program) (w : World) (K : PySem.W.Frag) (mg : Str → Option Value) (base : Heap) : Prop := ∃ f fd, Df_want_look K mg f fd ∧ FnOk P w K mg base CX0 4 f fd ["n", "base"] (spLook)
noncomputable abbrev s_by_powers : Stmt := top 22
theorem sc_by_powers : FnScope ["n", "base"] ["n", "base"] (defScope s_by_powers) := ⟨rfl, rfl, rfl, by decide +kernel, rfl, by decide +kernel, by decide +kernel⟩
noncomputable abbrev Df_by_powers (K : PySem.W.Frag) (mg : Str → Option Value) (f : Addr) (fd : FuncData) : Prop := Def K mg "by_powers" s_by_powers ["n", "base"] f fd
theorem ok_by_powers (D : Df_by_powers K mg f fd) (T : Txt K mg t1 t2 t3 t4) (o1 : O_want_look P w K mg base) (o3 : O_power_rest P w K mg base) : FnOk P w K mg base CX0 5 f fd ["n", "base"] (fun vs H Q _ => ∃ (n b : Int), vs = [.int n, .int b] ∧ (3 ≤ n ∧ n ≤ 10 ^ 30 ∧ n % 2 = 1 ∧ 1 ≤ b ∧ b ≤ n - 1) ∧ Q (.bl (powL n b)) H) := by
  obtain ⟨_, _, D_want_look, G_want_look⟩ := o1
  obtain ⟨_, _, D_power_rest, G_power_rest⟩ := o3
  refine D.fn.ok sc_by_powers (fun vs H Q E h => ?_) (fun cdv A outer s H vs Q E hr h => ?_)
  · obtain ⟨n, b, rfl, _⟩ := h
    rfl
  · obtain ⟨n, b, rfl, hb, k⟩ := h
    refine ⟨_, (pss_cons (ps_expr (pe_call (G_want_look.mono (by decide)) hr rfl D_want_look.mgx D_want_look.fn.kp D_want_look.bd .nil pass0 (pa_cons (pv 0) (pa_cons (pv 1) pa_nil))))
 (pss_one (ps_ret (pe_cmpR op_eq (pe_call (G_power_rest.mono (by decide)) hr rfl D_power_rest.mgx D_power_rest.fn.kp D_power_rest.bd .nil pass0 (pa_cons (pv 1) (pa_cons (pe_op op_sub (pv 0) pe_int) (pa_cons (pv 0) pa_nil)))) pe_int (nomark _))))), ?_⟩
    have e0 : L2.start ["n", "base"] [.int n, .int b] = [some (.int n), some (.int b)] := rfl
    rw [e0]; clear e0
    simp only [tSeq, tIfS, tTest, tRet, tRetN, tNext, tDrop, tAsg, tPar, tPar3, tAug, tVar, tC, tOp, tUn, rI, rI0, rU, tB, tAnd, tOr, tNot, tAndV, tOrV, tNotV, tIf, gName, gNil, gCons, gTup, gSub, tCB, tCons, tNil, tCall, tChain, ipI, tIsN, tNotN, tBM, tyV, tTup, tLst, rAppend, rCat, scal_ii, scal_bb, scal_ss, scal_ni, scal_in, rEq, rNe, List.getElem?_cons_zero, List.getElem?_cons_succ, List.set_cons_zero, List.set_cons_succ, eq_self, and_assoc, Option.some.injEq, V.int.injEq, V.bl.injEq, V.ref.injEq, V.str.injEq, List.cons.injEq, exists_eq_left', exists_eq_left, exists_and_left, List.nil_append, List.cons_append, List.append_nil, true_and, and_true, decide_eq_true_eq, Bool.not_eq_true', decide_eq_false_iff_not, if_true, if_false, Bool.not_true, Bool.not_false, Bool.false_eq_true, reduceCtorEq, decide_true, decide_false, ite_true, ite_false, rSetL, rIxL, tRaise, jCons, jNil, tFmt, tDNew, rCount, rIndex, tCont, tBreak, Int.reduceToNat, Int.reducePow]
    refine ⟨n, b, rfl, hb, b, _, n, rfl, ⟨by omega, by omega, by omega, by omega⟩, ?_⟩
    simp only [tSeq, tIfS, tTest, tRet, tRetN, tNext, tDrop, tAsg, tPar, tPar3, tAug, tVar, tC, tOp, tUn, rI, rI0, rU, tB, tAnd, tOr, tNot, tAndV, tOrV, tNotV, tIf, gName, gNil, gCons, gTup, gSub, tCB, tCons, tNil, tCall, tChain, ipI, tIsN, tNotN, tBM, tyV, tTup, tLst, rAppend, rCat, scal_ii, scal_bb, scal_ss, scal_ni, scal_in, rEq, rNe, List.getElem?_cons_zero, List.getElem?_cons_succ, List.set_cons_zero, List.set_cons_succ, eq_self, and_assoc, Option.some.injEq, V.int.injEq, V.bl.injEq, V.ref.injEq, V.str.injEq, List.cons.injEq, exists_eq_left', exists_eq_left, exists_and_left, List.nil_append, List.cons_append, List.append_nil, true_and, and_true, decide_eq_true_eq, Bool.not_eq_true', decide_eq_false_iff_not, if_true, if_false, Bool.not_true, Bool.not_false, Bool.false_eq_true, reduceCtorEq, decide_true, decide_false, ite_true, ite_false, rSetL, rIxL, tRaise, jCons, jNil, tFmt, tDNew, rCount, rIndex, tCont, tBreak, Int.reduceToNat, Int.reducePow]
    exact k
noncomputable def spByP : Sp := fun vs H Q _ => ∃ (n b : Int), vs = [.int n, .int b] ∧ (3 ≤ n ∧ n ≤ 10 ^ 30 ∧ n % 2 = 1 ∧ 1 ≤ b ∧ b ≤ n - 1) ∧ Q (.bl (powL n b)) H
noncomputable abbrev O_by_powers (P : Program) (w : World) (K : PySem.W.Frag) (mg : Str → Option Value) (base : Heap) : Prop := ∃ f fd, Df_by_powers K mg f fd ∧ FnOk P w K mg base CX0 5 f fd ["n", "base"] (spByP)
noncomputable abbrev s_halved : Stmt := top 30
theorem sc_halved : FnScope ["number", "odd", "often"] ["number"] (defScope s_halved) := ⟨rfl, rfl, rfl, by decide +kernel, rfl, by decide +kernel, by decide +kernel⟩
noncomputable abbrev Df_halved (K : PySem.W.Frag) (mg : Str → Option Value) (f : Addr) (fd : FuncData) : Prop := Def K mg "halved" s_halved ["number"] f fd
noncomputable def spHalved : Sp := fun vs H Q _ => ∃ (m : Int), vs = [.int m] ∧ 0 < m ∧ ∀ p, H p = none → Q (.ref p) (upd H p (.tup [.int (op m), .int (tw m)]))
theorem ok_halved (D : Df_halved K mg f fd) (T : Txt K mg t1 t2 t3 t4) : FnOk P w K mg base CX0 1 f fd ["number"] spHalved := by
  refine D.fn.ok sc_halved (fun vs H Q E h => ?_) (fun cdv A outer s H vs Q E hr h => ?_)
  · obtain ⟨m, rfl, _⟩ := h
    rfl
  · obtain ⟨m, rfl, hm, k⟩ := h
    refine ⟨_, (pss_cons (ps_set (i := 1) sc_halved.nd rfl (by first | exact Or.inl rfl | exact Or.inr rfl) (pv 0))
 (pss_cons (ps_set (i := 2) sc_halved.nd rfl (by first | exact Or.inl rfl | exact Or.inr rfl) pe_int)
 (pss_cons (ps_while PassesOwn.never (pt_cmpR op_eq (pe_op op_mod (pv 1) pe_int) pe_int (nomark _))
 (pss_cons (ps_set (i := 1) sc_halved.nd rfl (by first | exact Or.inl rfl | exact Or.inr rfl) (pe_op op_fdivB (pv 1) pe_int))
 (pss_one (ps_aug (i := 2) sc_halved.nd rfl (Or.inl rfl) pe_int ip_add))))
 (pss_one (ps_ret (pe_tup (pa_cons (pv 1) (pa_cons (pv 2) pa_nil)))))))), ?_⟩
    have e0 : L2.start ["number", "odd", "often"] [.int m] = [some (.int m), none, none] := rfl
    rw [e0]; clear e0
    simp only [tSeq, tIfS, tTest, tRet, tRetN, tNext, tDrop, tAsg, tPar, tPar3, tAug, tVar, tC, tOp, tUn, rI, rI0, rU, tB, tAnd, tOr, tNot, tAndV, tOrV, tNotV, tIf, gName, gNil, gCons, gTup, gSub, tCB, tCons, tNil, tCall, tChain, ipI, tIsN, tNotN, tBM, tyV, tTup, tLst, rAppend, rCat, scal_ii, scal_bb, scal_ss, scal_ni, scal_in, rEq, rNe, List.getElem?_cons_zero, List.getElem?_cons_succ, List.set_cons_zero, List.set_cons_succ, eq_self, and_assoc, Option.some.injEq, V.int.injEq, V.bl.injEq, V.ref.injEq, V.str.injEq, List.cons.injEq, exists_eq_left', exists_eq_left, exists_and_left, List.nil_append, List.cons_append, List.append_nil, true_and, and_true, decide_eq_true_eq, Bool.not_eq_true', decide_eq_false_iff_not, if_true, if_false, Bool.not_true, Bool.not_false, Bool.false_eq_true, reduceCtorEq, decide_true, decide_false, ite_true, ite_false, rSetL, rIxL, tRaise, jCons, jNil, tFmt, tDNew, rCount, rIndex, tCont, tBreak, Int.reduceToNat, Int.reducePow]
    obtain ⟨W, hW⟩ : ∃ W : Nat → St → Hp → Prop, ∀ j σ H', W j σ H' ↔ ∃ o s, j = o.toNat ∧ σ = [some (.int m), some (.int o), some (.int s)] ∧ HvInv m o s ∧ H' = H := ⟨_, fun _ _ _ => Iff.rfl⟩
    refine ⟨W, ⟨_, (hW _ _ _).mpr ⟨_, _, rfl, rfl, hv_start hm, rfl⟩⟩, ?_⟩
    intro j σ H' hw
    obtain ⟨o, s', rfl, rfl, I, rfl⟩ := (hW _ _ _).mp hw
    clear hw
    have o0 := I.o0
    simp only [tSeq, tIfS, tTest, tRet, tRetN, tNext, tDrop, tAsg, tPar, tPar3, tAug, tVar, tC, tOp, tUn, rI, rI0, rU, tB, tAnd, tOr, tNot, tAndV, tOrV, tNotV, tIf, gName, gNil, gCons, gTup, gSub, tCB, tCons, tNil, tCall, tChain, ipI, tIsN, tNotN, tBM, tyV, tTup, tLst, rAppend, rCat, scal_ii, scal_bb, scal_ss, scal_ni, scal_in, rEq, rNe, List.getElem?_cons_zero, List.getElem?_cons_succ, List.set_cons_zero, List.set_cons_succ, eq_self, and_assoc, Option.some.injEq, V.int.injEq, V.bl.injEq, V.ref.injEq, V.str.injEq, List.cons.injEq, exists_eq_left', exists_eq_left, exists_and_left, List.nil_append, List.cons_append, List.append_nil, true_and, and_true, decide_eq_true_eq, Bool.not_eq_true', decide_eq_false_iff_not, if_true, if_false, Bool.not_true, Bool.not_false, Bool.false_eq_true, reduceCtorEq, decide_true, decide_false, ite_true, ite_false, rSetL, rIxL, tRaise, jCons, jNil, tFmt, tDNew, rCount, rIndex, tCont, tBreak, Int.reduceToNat, Int.reducePow]
    refine ⟨by decide, ?_⟩
    refine ite2 (fun he => ?_) (fun he => ?_)
    · refine ⟨fun σ' H2 => ∃ m', m' < o.toNat ∧ W m' σ' H2, fun _ _ h => h, ?_⟩
      exact ⟨⟨by decide, by decide⟩, _, by omega, (hW _ _ _).mpr ⟨_, _, rfl, rfl, hv_turn I he, rfl⟩⟩
    · obtain ⟨e1, e2⟩ := hv_end I he
      refine ⟨by show 2 ≤ sizeLine; decide, fun p hp => ?_⟩
      rw [e1, e2]
      exact k p hp
noncomputable abbrev O_halved (P : Program) (w : World) (K : PySem.W.Frag) (mg : Str → Option Value) (base : Heap) : Prop := ∃ f fd, Df_halved K mg f fd ∧ FnOk P w K mg base CX0 1 f fd ["number"] (spHalved)
noncomputable abbrev s_lets_by_halves : Stmt := top 29
theorem sc_lets_by_halves : FnScope ["n", "base", "odd", "often", "power", "step"] ["n", "base"] (defScope s_lets_by_halves) := ⟨rfl, rfl, rfl, by decide +kernel, rfl, by decide +kernel, by decide +kernel⟩
noncomputable abbrev Df_lets_by_halves (K : PySem.W.Frag) (mg : Str → Option Value) (f : Addr) (fd : FuncData) : Prop := Def K mg "lets_by_halves" s_lets_by_halves ["n", "base"] f fd
noncomputable def spLets : Sp := fun vs H Q _ => ∃ (n b : Int), vs = [.int n, .int b] ∧ (3 ≤ n ∧ n ≤ 10 ^ 30 ∧ b.natAbs < 10 ^ 100) ∧ ∀ H', Same H H' → Q (.bl (halvB n b)) H'
theorem ok_lets_by_halves (D : Df_lets_by_halves K mg f fd) (T : Txt K mg t1 t2 t3 t4) (o1 : O_halved P w K mg base) (o2 : O_power_rest P w K mg base) : FnOk P w K mg base CX0 2 f fd ["n", "base"] spLets := by
  obtain ⟨_, _, D_halved, G_halved⟩ := o1
  obtain ⟨_, _, D_power_rest, G_power_rest⟩ := o2
  refine D.fn.ok sc_lets_by_halves (fun vs H Q E h => ?_) (fun cdv A outer s H vs Q E hr h => ?_)
  · obtain ⟨n, b, rfl, _⟩ := h
    rfl
  · obtain ⟨n, b, rfl, ⟨n3, n4, hb⟩, k⟩ := h
    refine ⟨_, (pss_cons (ps_asg (pe_call (G_halved.mono (by decide)) hr rfl D_halved.mgx D_halved.fn.kp D_halved.bd .nil pass0 (pa_cons (pe_op op_sub (pv 0) pe_int) pa_nil)) (pg_tup rfl (pgs_cons (pg_name (i := 2) sc_lets_by_halves.nd rfl (by first | exact Or.inl rfl | exact Or.inr rfl)) (pgs_cons (pg_name (i := 3) sc_lets_by_halves.nd rfl (by first | exact Or.inl rfl | exact Or.inr rfl)) pgs_nil))))
 (pss_cons (ps_set (i := 4) sc_lets_by_halves.nd rfl (by first | exact Or.inl rfl | exact Or.inr rfl) (pe_call (G_power_rest.mono (by decide)) hr rfl D_power_rest.mgx D_power_rest.fn.kp D_power_rest.bd .nil pass0 (pa_cons (pv 1) (pa_cons (pv 2) (pa_cons (pv 0) pa_nil)))))
 (pss_cons (ps_if (pt_cmpR op_eq (pv 4) pe_int (nomark _))
 (pss_one (ps_ret pe_bl))
 pss_nil)
 (pss_cons (ps_for PassesOwn.never rfl (pi_range1 rfl T.no_range (pa_cons (pv 3) pa_nil)) (pg_name (i := 5) sc_lets_by_halves.nd rfl (by first | exact Or.inl rfl | exact Or.inr rfl))
 (pss_cons (ps_if (pt_cmpR op_eq (pv 4) (pe_op op_sub (pv 0) pe_int) (nomark _))
 (pss_one (ps_ret pe_bl))
 pss_nil)
 (pss_one (ps_set (i := 4) sc_lets_by_halves.nd rfl (by first | exact Or.inl rfl | exact Or.inr rfl) (pe_op op_mod (pe_op op_mulB (pv 4) (pv 4)) (pv 0))))))
 (pss_one (ps_ret pe_bl)))))), ?_⟩
    have e0 : L2.start ["n", "base", "odd", "often", "power", "step"] [.int n, .int b] = [some (.int n), some (.int b), none, none, none, none] := rfl
    rw [e0]; clear e0
    simp only [tSeq, tIfS, tTest, tRet, tRetN, tNext, tDrop, tAsg, tPar, tPar3, tAug, tVar, tC, tOp, tUn, rI, rI0, rU, tB, tAnd, tOr, tNot, tAndV, tOrV, tNotV, tIf, gName, gNil, gCons, gTup, gSub, tCB, tCons, tNil, tCall, tChain, ipI, tIsN, tNotN, tBM, tyV, tTup, tLst, rAppend, rCat, scal_ii, scal_bb, scal_ss, scal_ni, scal_in, rEq, rNe, List.getElem?_cons_zero, List.getElem?_cons_succ, List.set_cons_zero, List.set_cons_succ, eq_self, and_assoc, Option.some.injEq, V.int.injEq, V.bl.injEq, V.ref.injEq, V.str.injEq, List.cons.injEq, exists_eq_left', exists_eq_left, exists_and_left, List.nil_append, List.cons_append, List.append_nil, true_and, and_true, decide_eq_true_eq, Bool.not_eq_true', decide_eq_false_iff_not, if_true, if_false, Bool.not_true, Bool.not_false, Bool.false_eq_true, reduceCtorEq, decide_true, decide_false, ite_true, ite_false, rSetL, rIxL, tRaise, jCons, jNil, tFmt, tDNew, rCount, rIndex, tCont, tBreak, Int.reduceToNat, Int.reducePow]
    have opp := op_pos (m := n - 1) (by omega) _ (Nat.le_refl _)
    have twl : tw (n - 1) ≤ 100 := tw_le 100 (by have : (10 : Int) ^ 30 ≤ 2 ^ 100 := by decide
                                                 omega)
    refine ⟨n - 1, rfl, by omega, fun p hp => ?_⟩
    simp only [tSeq, tIfS, tTest, tRet, tRetN, tNext, tDrop, tAsg, tPar, tPar3, tAug, tVar, tC, tOp, tUn, rI, rI0, rU, tB, tAnd, tOr, tNot, tAndV, tOrV, tNotV, tIf, gName, gNil, gCons, gTup, gSub, tCB, tCons, tNil, tCall, tChain, ipI, tIsN, tNotN, tBM, tyV, tTup, tLst, rAppend, rCat, scal_ii, scal_bb, scal_ss, scal_ni, scal_in, rEq, rNe, List.getElem?_cons_zero, List.getElem?_cons_succ, List.set_cons_zero, List.set_cons_succ, eq_self, and_assoc, Option.some.injEq, V.int.injEq, V.bl.injEq, V.ref.injEq, V.str.injEq, List.cons.injEq, exists_eq_left', exists_eq_left, exists_and_left, List.nil_append, List.cons_append, List.append_nil, true_and, and_true, decide_eq_true_eq, Bool.not_eq_true', decide_eq_false_iff_not, if_true, if_false, Bool.not_true, Bool.not_false, Bool.false_eq_true, reduceCtorEq, decide_true, decide_false, ite_true, ite_false, rSetL, rIxL, tRaise, jCons, jNil, tFmt, tDNew, rCount, rIndex, tCont, tBreak, Int.reduceToNat, Int.reducePow]
    refine ⟨_, SqT.of upd_same, rfl, ?_⟩
    have s1 : Same H (upd H p (.tup [.int (op (n - 1)), .int (tw (n - 1))])) := fun b o e => by rw [upd_ne (ne_of_none e hp)]; exact e
    generalize upd H p (.tup [.int (op (n - 1)), .int (tw (n - 1))]) = H1 at s1 ⊢
    simp only [tSeq, tIfS, tTest, tRet, tRetN, tNext, tDrop, tAsg, tPar, tPar3, tAug, tVar, tC, tOp, tUn, rI, rI0, rU, tB, tAnd, tOr, tNot, tAndV, tOrV, tNotV, tIf, gName, gNil, gCons, gTup, gSub, tCB, tCons, tNil, tCall, tChain, ipI, tIsN, tNotN, tBM, tyV, tTup, tLst, rAppend, rCat, scal_ii, scal_bb, scal_ss, scal_ni, scal_in, rEq, rNe, List.getElem?_cons_zero, List.getElem?_cons_succ, List.set_cons_zero, List.set_cons_succ, eq_self, and_assoc, Option.some.injEq, V.int.injEq, V.bl.injEq, V.ref.injEq, V.str.injEq, List.cons.injEq, exists_eq_left', exists_eq_left, exists_and_left, List.nil_append, List.cons_append, List.append_nil, true_and, and_true, decide_eq_true_eq, Bool.not_eq_true', decide_eq_false_iff_not, if_true, if_false, Bool.not_true, Bool.not_false, Bool.false_eq_true, reduceCtorEq, decide_true, decide_false, ite_true, ite_false, rSetL, rIxL, tRaise, jCons, jNil, tFmt, tDNew, rCount, rIndex, tCont, tBreak, Int.reduceToNat, Int.reducePow]
    refine ⟨b, _, n, rfl, ⟨hb, by omega, by omega, by omega⟩, ?_⟩
    simp only [tSeq, tIfS, tTest, tRet, tRetN, tNext, tDrop, tAsg, tPar, tPar3, tAug, tVar, tC, tOp, tUn, rI, rI0, rU, tB, tAnd, tOr, tNot, tAndV, tOrV, tNotV, tIf, gName, gNil, gCons, gTup, gSub, tCB, tCons, tNil, tCall, tChain, ipI, tIsN, tNotN, tBM, tyV, tTup, tLst, rAppend, rCat, scal_ii, scal_bb, scal_ss, scal_ni, scal_in, rEq, rNe, List.getElem?_cons_zero, List.getElem?_cons_succ, List.set_cons_zero, List.set_cons_succ, eq_self, and_assoc, Option.some.injEq, V.int.injEq, V.bl.injEq, V.ref.injEq, V.str.injEq, List.cons.injEq, exists_eq_left', exists_eq_left, exists_and_left, List.nil_append, List.cons_append, List.append_nil, true_and, and_true, decide_eq_true_eq, Bool.not_eq_true', decide_eq_false_iff_not, if_true, if_false, Bool.not_true, Bool.not_false, Bool.false_eq_true, reduceCtorEq, decide_true, decide_false, ite_true, ite_false, rSetL, rIxL, tRaise, jCons, jNil, tFmt, tDNew, rCount, rIndex, tCont, tBreak, Int.reduceToNat, Int.reducePow]
    have kk := k H1 s1
    unfold halvB at kk
    have p0 := Int.emod_nonneg (b ^ (op (n - 1)).toNat) (show n ≠ 0 by omega)
    have p1 := Int.emod_lt_of_pos (b ^ (op (n - 1)).toNat) (show 0 < n by omega)
    generalize b ^ (op (n - 1)).toNat % n = p at kk p0 p1 ⊢
    refine ite2 (fun h1 => ?_) (fun h1 => ?_)
    · rw [decide_eq_true h1] at kk
      exact kk
    · rw [decide_eq_false h1, Bool.false_or] at kk
      generalize tw (n - 1) = s' at kk twl ⊢
      refine ⟨_, rfl, _, rfl, by omega, by omega, for_range (n := s') (fun j σ H' => H' = H1 ∧ j ≤ s' ∧ ∃ q v, σ = [some (.int n), some (.int b), some (.int (op (n - 1))), some (.int s'), some (.int q), v] ∧ 0 ≤ q ∧ q < n ∧ hvs n (s' - j) q = hvs n s' p) ⟨rfl, Nat.zero_le _, p, none, rfl, p0, p1, rfl⟩ ?_ ?_⟩
      · rintro j σ H' hj ⟨rfl, _, q, v, rfl, q0, q1, hq⟩
        simp only [tSeq, tIfS, tTest, tRet, tRetN, tNext, tDrop, tAsg, tPar, tPar3, tAug, tVar, tC, tOp, tUn, rI, rI0, rU, tB, tAnd, tOr, tNot, tAndV, tOrV, tNotV, tIf, gName, gNil, gCons, gTup, gSub, tCB, tCons, tNil, tCall, tChain, ipI, tIsN, tNotN, tBM, tyV, tTup, tLst, rAppend, rCat, scal_ii, scal_bb, scal_ss, scal_ni, scal_in, rEq, rNe, List.getElem?_cons_zero, List.getElem?_cons_succ, List.set_cons_zero, List.set_cons_succ, eq_self, and_assoc, Option.some.injEq, V.int.injEq, V.bl.injEq, V.ref.injEq, V.str.injEq, List.cons.injEq, exists_eq_left', exists_eq_left, exists_and_left, List.nil_append, List.cons_append, List.append_nil, true_and, and_true, decide_eq_true_eq, Bool.not_eq_true', decide_eq_false_iff_not, if_true, if_false, Bool.not_true, Bool.not_false, Bool.false_eq_true, reduceCtorEq, decide_true, decide_false, ite_true, ite_false, rSetL, rIxL, tRaise, jCons, jNil, tFmt, tDNew, rCount, rIndex, tCont, tBreak, Int.reduceToNat, Int.reducePow]
        have es : s' - j = (s' - (j + 1)) + 1 := by omega
        rw [es] at hq
        refine ite2 (fun h2 => ?_) (fun h2 => ?_)
        · have e : hvs n (s' - (j + 1) + 1) q = true := by
            show (decide (q = n - 1) || _) = true
            rw [decide_eq_true h2]; rfl
          rw [← hq, e] at kk
          exact kk
        · refine ⟨.inr ⟨by omega, by omega⟩, by omega, ?_⟩
          have e : hvs n (s' - (j + 1)) (q * q % n) = hvs n s' p := by
            rw [← hq]
            show _ = (decide (q = n - 1) || _)
            rw [decide_eq_false h2]; rfl
          exact ⟨by omega, Int.emod_nonneg _ (by omega), Int.emod_lt_of_pos _ (by omega), e⟩
      · rintro σ H' ⟨rfl, _, q, v, rfl, q0, q1, hq⟩
        simp only [tSeq, tIfS, tTest, tRet, tRetN, tNext, tDrop, tAsg, tPar, tPar3, tAug, tVar, tC, tOp, tUn, rI, rI0, rU, tB, tAnd, tOr, tNot, tAndV, tOrV, tNotV, tIf, gName, gNil, gCons, gTup, gSub, tCB, tCons, tNil, tCall, tChain, ipI, tIsN, tNotN, tBM, tyV, tTup, tLst, rAppend, rCat, scal_ii, scal_bb, scal_ss, scal_ni, scal_in, rEq, rNe, List.getElem?_cons_zero, List.getElem?_cons_succ, List.set_cons_zero, List.set_cons_succ, eq_self, and_assoc, Option.some.injEq, V.int.injEq, V.bl.injEq, V.ref.injEq, V.str.injEq, List.cons.injEq, exists_eq_left', exists_eq_left, exists_and_left, List.nil_append, List.cons_append, List.append_nil, true_and, and_true, decide_eq_true_eq, Bool.not_eq_true', decide_eq_false_iff_not, if_true, if_false, Bool.not_true, Bool.not_false, Bool.false_eq_true, reduceCtorEq, decide_true, decide_false, ite_true, ite_false, rSetL, rIxL, tRaise, jCons, jNil, tFmt, tDNew, rCount, rIndex, tCont, tBreak, Int.reduceToNat, Int.reducePow]
        rw [Nat.sub_self] at hq
        rw [← hq] at kk
        exact kk
noncomputable abbrev O_lets_by_halves (P : Program) (w : World) (K : PySem.W.Frag) (mg : Str → Option Value) (base : Heap) : Prop := ∃ f fd, Df_lets_by_halves K mg f fd ∧ FnOk P w K mg base CX0 2 f fd ["n", "base"] (spLets)
noncomputable abbrev s_by_halves : Stmt := top 23
theorem sc_by_halves : FnScope ["n", "base"] ["n", "base"] (defScope s_by_halves) := ⟨rfl, rfl, rfl, by decide +kernel, rfl, by decide +kernel, by decide +kernel⟩
noncomputable abbrev Df_by_halves (K : PySem.W.Frag) (mg : Str → Option Value) (f : Addr) (fd : FuncData) : Prop := Def K mg "by_halves" s_by_halves ["n", "base"] f fd
noncomputable def spByH : Sp := fun vs H Q _ => ∃ (n b : Int), vs = [.int n, .int b] ∧ (3 ≤ n ∧ n ≤ 10 ^ 30 ∧ n % 2 = 1 ∧ 1 ≤ b ∧ b ≤ n - 1) ∧ ∀ H', Same H H' → Q (.bl (halvB n b)) H'
theorem ok_by_halves (D : Df_by_halves K mg f fd) (T : Txt K mg t1 t2 t3 t4) (o1 : O_want_look P w K mg base) (o3 : O_lets_by_halves P w K mg base) : FnOk P w K mg base CX0 5 f fd ["n", "base"] spByH := by
  obtain ⟨_, _, D_want_look, G_want_look⟩ := o1
  obtain ⟨_, _, D_lets_by_halves, G_lets_by_halves⟩ := o3
  refine D.fn.ok sc_by_halves (fun vs H Q E h => ?_) (fun cdv A outer s H vs Q E hr h => ?_)
  · obtain ⟨n, b, rfl, _⟩ := h
    rfl
  · obtain ⟨n, b, rfl, hb, k⟩ := h
    refine ⟨_, (pss_cons (ps_expr (pe_call (G_want_look.mono (by decide)) hr rfl D_want_look.mgx D_want_look.fn.kp D_want_look.bd .nil pass0 (pa_cons (pv 0) (pa_cons (pv 1) pa_nil))))
 (pss_one (ps_ret (pe_call (G_lets_by_halves.mono (by decide)) hr rfl D_lets_by_halves.mgx D_lets_by_halves.fn.kp D_lets_by_halves.bd .nil pass0 (pa_cons (pv 0) (pa_cons (pv 1) pa_nil)))))), ?_⟩
    have e0 : L2.start ["n", "base"] [.int n, .int b] = [some (.int n), some (.int b)] := rfl
    rw [e0]; clear e0
    simp only [tSeq, tIfS, tTest, tRet, tRetN, tNext, tDrop, tAsg, tPar, tPar3, tAug, tVar, tC, tOp, tUn, rI, rI0, rU, tB, tAnd, tOr, tNot, tAndV, tOrV, tNotV, tIf, gName, gNil, gCons, gTup, gSub, tCB, tCons, tNil, tCall, tChain, ipI, tIsN, tNotN, tBM, tyV, tTup, tLst, rAppend, rCat, scal_ii, scal_bb, scal_ss, scal_ni, scal_in, rEq, rNe, List.getElem?_cons_zero, List.getElem?_cons_succ, List.set_cons_zero, List.set_cons_succ, eq_self, and_assoc, Option.some.injEq, V.int.injEq, V.bl.injEq, V.ref.injEq, V.str.injEq, List.cons.injEq, exists_eq_left', exists_eq_left, exists_and_left, List.nil_append, List.cons_append, List.append_nil, true_and, and_true, decide_eq_true_eq, Bool.not_eq_true', decide_eq_false_iff_not, if_true, if_false, Bool.not_true, Bool.not_false, Bool.false_eq_true, reduceCtorEq, decide_true, decide_false, ite_true, ite_false, rSetL, rIxL, tRaise, jCons, jNil, tFmt, tDNew, rCount, rIndex, tCont, tBreak, Int.reduceToNat, Int.reducePow]
    exact ⟨n, b, rfl, hb, n, b, rfl, ⟨by omega, by omega, by omega⟩, k⟩
noncomputable abbrev O_by_halves (P : Program) (w : World) (K : PySem.W.Frag) (mg : Str → Option Value) (base : Heap) : Prop := ∃ f fd, Df_by_halves K mg f fd ∧ FnOk P w K mg base CX0 5 f fd ["n", "base"] (spByH)
noncomputable abbrev s_sign_by : Stmt := top 52
theorem sc_sign_by : FnScope ["number", "n", "top", "bottom", "found"] ["number", "n"] (defScope s_sign_by) := ⟨rfl, rfl, rfl, by decide +kernel, rfl, by decide +kernel, by decide +kernel⟩
noncomputable abbrev Df_sign_by (K : PySem.W.Frag) (mg : Str → Option Value) (f : Addr) (fd : FuncData) : Prop := Def K mg "sign_by" s_sign_by ["number", "n"] f fd
noncomputable def spSign : Sp := fun vs H Q _ => ∃ (a n : Int), vs = [.int a, .int n] ∧ (0 < n ∧ n ≤ 10 ^ 40 ∧ n % 2 = 1) ∧ Q (.int (J (a % n) n)) H
theorem ok_sign_by (D : Df_sign_by K mg f fd) (T : Txt K mg t1 t2 t3 t4) : FnOk P w K mg base CX0 1 f fd ["number", "n"] spSign := by
  refine D.fn.ok sc_sign_by (fun vs H Q E h => ?_) (fun cdv A outer s H vs Q E hr h => ?_)
  · obtain ⟨a, n, rfl, _⟩ := h
    rfl
  · obtain ⟨a, n, rfl, ⟨hn, hn2, ho⟩, k⟩ := h
    refine ⟨_, (pss_cons (ps_set (i := 2) sc_sign_by.nd rfl (by first | exact Or.inl rfl | exact Or.inr rfl) (pe_op op_mod (pv 0) (pv 1)))
 (pss_cons (ps_set (i := 3) sc_sign_by.nd rfl (by first | exact Or.inl rfl | exact Or.inr rfl) (pv 1))
 (pss_cons (ps_set (i := 4) sc_sign_by.nd rfl (by first | exact Or.inl rfl | exact Or.inr rfl) pe_int)
 (pss_cons (ps_while PassesOwn.never (pt_cmpR op_gt (pv 2) pe_int (nomark _))
 (pss_cons (ps_while PassesOwn.never (pt_cmpR op_eq (pe_op op_mod (pv 2) pe_int) pe_int (nomark _))
 (pss_cons (ps_set (i := 2) sc_sign_by.nd rfl (by first | exact Or.inl rfl | exact Or.inr rfl) (pe_op op_fdivB (pv 2) pe_int))
 (pss_one (ps_if (PW.pt (pw_or (pt_cmpR op_eq (pe_op op_mod (pv 3) pe_int) pe_int (nomark _)) (pw_or1 (pt_cmpR op_eq (pe_op op_mod (pv 3) pe_int) pe_int (nomark _)))))
 (pss_one (ps_set (i := 4) sc_sign_by.nd rfl (by first | exact Or.inl rfl | exact Or.inr rfl) (pe_un un_neg (pv 4))))
 pss_nil))))
 (pss_cons (ps_if (PW.pt (pw_and (pt_cmpR op_eq (pe_op op_mod (pv 2) pe_int) pe_int (nomark _)) (pw_and1 (pt_cmpR op_eq (pe_op op_mod (pv 3) pe_int) pe_int (nomark _)))))
 (pss_one (ps_set (i := 4) sc_sign_by.nd rfl (by first | exact Or.inl rfl | exact Or.inr rfl) (pe_un un_neg (pv 4))))
 pss_nil)
 (pss_one (ps_par (i := 2) (j := 3) rfl sc_sign_by.nd rfl rfl (by decide) rfl rfl (pa_cons (pe_op op_mod (pv 3) (pv 2)) (pa_cons (pv 2) pa_nil)) (by first | rfl | with_unfolding_all rfl))))))
 (pss_one (ps_ret (pe_ifExp (pt_cmpR op_eq (pv 3) pe_int (nomark _)) (pv 4) pe_int))))))), ?_⟩
    have e0 : L2.start ["number", "n", "top", "bottom", "found"] [.int a, .int n] = [some (.int a), some (.int n), none, none, none] := rfl
    rw [e0]; clear e0
    simp only [tSeq, tIfS, tTest, tRet, tRetN, tNext, tDrop, tAsg, tPar, tPar3, tAug, tVar, tC, tOp, tUn, rI, rI0, rU, tB, tAnd, tOr, tNot, tAndV, tOrV, tNotV, tIf, gName, gNil, gCons, gTup, gSub, tCB, tCons, tNil, tCall, tChain, ipI, tIsN, tNotN, tBM, tyV, tTup, tLst, rAppend, rCat, scal_ii, scal_bb, scal_ss, scal_ni, scal_in, rEq, rNe, List.getElem?_cons_zero, List.getElem?_cons_succ, List.set_cons_zero, List.set_cons_succ, eq_self, and_assoc, Option.some.injEq, V.int.injEq, V.bl.injEq, V.ref.injEq, V.str.injEq, List.cons.injEq, exists_eq_left', exists_eq_left, exists_and_left, List.nil_append, List.cons_append, List.append_nil, true_and, and_true, decide_eq_true_eq, Bool.not_eq_true', decide_eq_false_iff_not, if_true, if_false, Bool.not_true, Bool.not_false, Bool.false_eq_true, reduceCtorEq, decide_true, decide_false, ite_true, ite_false, rSetL, rIxL, tRaise, jCons, jNil, tFmt, tDNew, rCount, rIndex, tCont, tBreak, Int.reduceToNat, Int.reducePow]
    refine ⟨hn, ?_⟩
    obtain ⟨W, hW⟩ : ∃ W : Nat → St → Hp → Prop, ∀ m σ H', W m σ H' ↔ ∃ t b g, m = t.toNat ∧ σ = [some (.int a), some (.int n), some (.int t), some (.int b), some (.int g)] ∧ SgInv (J (a % n) n) t b g ∧ H' = H := ⟨_, fun _ _ _ => Iff.rfl⟩
    refine ⟨W, ⟨_, (hW _ _ _).mpr ⟨_, _, _, rfl, rfl, sg_start hn ho, rfl⟩⟩, ?_⟩
    intro m σ H' hw
    obtain ⟨t, b, g, rfl, rfl, I, rfl⟩ := (hW _ _ _).mp hw
    clear hw
    simp only [tSeq, tIfS, tTest, tRet, tRetN, tNext, tDrop, tAsg, tPar, tPar3, tAug, tVar, tC, tOp, tUn, rI, rI0, rU, tB, tAnd, tOr, tNot, tAndV, tOrV, tNotV, tIf, gName, gNil, gCons, gTup, gSub, tCB, tCons, tNil, tCall, tChain, ipI, tIsN, tNotN, tBM, tyV, tTup, tLst, rAppend, rCat, scal_ii, scal_bb, scal_ss, scal_ni, scal_in, rEq, rNe, List.getElem?_cons_zero, List.getElem?_cons_succ, List.set_cons_zero, List.set_cons_succ, eq_self, and_assoc, Option.some.injEq, V.int.injEq, V.bl.injEq, V.ref.injEq, V.str.injEq, List.cons.injEq, exists_eq_left', exists_eq_left, exists_and_left, List.nil_append, List.cons_append, List.append_nil, true_and, and_true, decide_eq_true_eq, Bool.not_eq_true', decide_eq_false_iff_not, if_true, if_false, Bool.not_true, Bool.not_false, Bool.false_eq_true, reduceCtorEq, decide_true, decide_false, ite_true, ite_false, rSetL, rIxL, tRaise, jCons, jNil, tFmt, tDNew, rCount, rIndex, tCont, tBreak, Int.reduceToNat, Int.reducePow]
    refine ite2 (fun hl => ?_) (fun hl => ?_)
    · refine ⟨fun σ' H2 => ∃ m', m' < t.toNat ∧ W m' σ' H2, fun _ _ h => h, ?_⟩
      obtain ⟨W2, hW2⟩ : ∃ W : Nat → St → Hp → Prop, ∀ m σ H2, W m σ H2 ↔ ∃ t' g', m = t'.toNat ∧ σ = [some (.int a), some (.int n), some (.int t'), some (.int b), some (.int g')] ∧ (SgInv (J (a % n) n) t' b g' ∧ 0 < t' ∧ t' ≤ t) ∧ H2 = H' := ⟨_, fun _ _ _ => Iff.rfl⟩
      refine ⟨W2, ⟨_, (hW2 _ _ _).mpr ⟨t, g, rfl, rfl, ⟨I, hl, Int.le_refl _⟩, rfl⟩⟩, ?_⟩
      intro m2 σ2 H2 hw2
      obtain ⟨t', g', rfl, rfl, ⟨J1, t0, tt⟩, rfl⟩ := (hW2 _ _ _).mp hw2
      clear hw2
      simp only [tSeq, tIfS, tTest, tRet, tRetN, tNext, tDrop, tAsg, tPar, tPar3, tAug, tVar, tC, tOp, tUn, rI, rI0, rU, tB, tAnd, tOr, tNot, tAndV, tOrV, tNotV, tIf, gName, gNil, gCons, gTup, gSub, tCB, tCons, tNil, tCall, tChain, ipI, tIsN, tNotN, tBM, tyV, tTup, tLst, rAppend, rCat, scal_ii, scal_bb, scal_ss, scal_ni, scal_in, rEq, rNe, List.getElem?_cons_zero, List.getElem?_cons_succ, List.set_cons_zero, List.set_cons_succ, eq_self, and_assoc, Option.some.injEq, V.int.injEq, V.bl.injEq, V.ref.injEq, V.str.injEq, List.cons.injEq, exists_eq_left', exists_eq_left, exists_and_left, List.nil_append, List.cons_append, List.append_nil, true_and, and_true, decide_eq_true_eq, Bool.not_eq_true', decide_eq_false_iff_not, if_true, if_false, Bool.not_true, Bool.not_false, Bool.false_eq_true, reduceCtorEq, decide_true, decide_false, ite_true, ite_false, rSetL, rIxL, tRaise, jCons, jNil, tFmt, tDNew, rCount, rIndex, tCont, tBreak, Int.reduceToNat, Int.reducePow]
      refine ⟨by decide, ?_⟩
      refine ite2 (fun he => ?_) (fun he => ?_)
      · refine ⟨fun σ' H3 => ∃ m', m' < t'.toNat ∧ W2 m' σ' H3, fun _ _ h => h, ?_⟩
        have J2 := sg_half J1 t0 he
        refine ⟨⟨by decide, by decide⟩, by decide, ?_⟩
        refine ite2 (fun h3 => ?_) (fun h3 => ?_)
        · rw [if_pos (.inl h3)] at J2
          exact ⟨_, by omega, (hW2 _ _ _).mpr ⟨_, _, rfl, rfl, ⟨J2, by omega, by omega⟩, rfl⟩⟩
        · refine ⟨by decide, ?_⟩
          refine ite2 (fun h5 => ?_) (fun h5 => ?_)
          · rw [if_pos (.inr h5)] at J2
            exact ⟨_, by omega, (hW2 _ _ _).mpr ⟨_, _, rfl, rfl, ⟨J2, by omega, by omega⟩, rfl⟩⟩
          · rw [if_neg (fun h => h.elim h3 h5)] at J2
            exact ⟨_, by omega, (hW2 _ _ _).mpr ⟨_, _, rfl, rfl, ⟨J2, by omega, by omega⟩, rfl⟩⟩
      · have J2 := sg_turn J1 t0 he
        have l1 := J2.t0
        have l2 := J2.tb
        refine ⟨by decide, ?_⟩
        refine ite2 (fun h3 => ?_) (fun h3 => ?_)
        · refine ⟨by decide, ?_⟩
          refine ite2 (fun h4 => ?_) (fun h4 => ?_)
          · rw [if_pos ⟨h3, h4⟩] at J2
            exact ⟨t0, _, by omega, (hW _ _ _).mpr ⟨_, _, _, rfl, rfl, J2, rfl⟩⟩
          · rw [if_neg (fun h => h4 h.2)] at J2
            exact ⟨t0, _, by omega, (hW _ _ _).mpr ⟨_, _, _, rfl, rfl, J2, rfl⟩⟩
        · rw [if_neg (fun h => h3 h.1)] at J2
          exact ⟨t0, _, by omega, (hW _ _ _).mpr ⟨_, _, _, rfl, rfl, J2, rfl⟩⟩
    · have e := sg_end I hl
      refine ite2 (fun hb => ?_) (fun hb => ?_)
      · rw [if_pos hb] at e; rw [e]; exact k
      · rw [if_neg hb] at e; rw [e]; exact k
noncomputable abbrev O_sign_by (P : Program) (w : World) (K : PySem.W.Frag) (mg : Str → Option Value) (base : Heap) : Prop := ∃ f fd, Df_sign_by K mg f fd ∧ FnOk P w K mg base CX0 1 f fd ["number", "n"] (spSign)
noncomputable abbrev s_sign : Stmt := top 50
theorem sc_sign : FnScope ["number", "n"] ["number", "n"] (defScope s_sign) := ⟨rfl, rfl, rfl, by decide +kernel, rfl, by decide +kernel, by decide +kernel⟩
noncomputable abbrev Df_sign (K : PySem.W.Frag) (mg : Str → Option Value) (f : Addr) (fd : FuncData) : Prop := Def K mg "sign" s_sign ["number", "n"] f fd
noncomputable def spSignP : Sp := fun vs H Q _ => ∃ (a n : Int), vs = [.int a, .int n] ∧ (-(10 ^ 30) ≤ a ∧ a ≤ 10 ^ 30 ∧ 1 ≤ n ∧ n ≤ 10 ^ 30 ∧ n % 2 = 1) ∧ Q (.int (J (a % n) n)) H
theorem ok_sign (D : Df_sign K mg f fd) (T : Txt K mg t1 t2 t3 t4) (o1 : O_want_far P w K mg base) (o2 : O_want_odd P w K mg base) (o3 : O_sign_by P w K mg base) : FnOk P w K mg base CX0 5 f fd ["number", "n"] spSignP := by
  obtain ⟨_, _, D_want_far, G_want_far⟩ := o1
  obtain ⟨_, _, D_want_odd, G_want_odd⟩ := o2
  obtain ⟨_, _, D_sign_by, G_sign_by⟩ := o3
  refine D.fn.ok sc_sign (fun vs H Q E h => ?_) (fun cdv A outer s H vs Q E hr h => ?_)
  · obtain ⟨a, n, rfl, _⟩ := h
    rfl
  · obtain ⟨a, n, rfl, ⟨h1, h2, h3, h4, h5⟩, k⟩ := h
    refine ⟨_, (pss_cons (ps_expr (pe_call (G_want_far.mono (by decide)) hr rfl D_want_far.mgx D_want_far.fn.kp D_want_far.bd .nil pass0 (pa_cons (pv 0) (pa_cons pe_str pa_nil))))
 (pss_cons (ps_expr (pe_call (G_want_odd.mono (by decide)) hr rfl D_want_odd.mgx D_want_odd.fn.kp D_want_odd.bd .nil pass0 (pa_cons (pv 1) (pa_cons pe_int (pa_cons (pe_glob (v := .int _) rfl T.mg_MOST ⟨_, rfl⟩) (pa_cons pe_str pa_nil))))))
 (pss_one (ps_ret (pe_call (G_sign_by.mono (by decide)) hr rfl D_sign_by.mgx D_sign_by.fn.kp D_sign_by.bd .nil pass0 (pa_cons (pv 0) (pa_cons (pv 1) pa_nil))))))), ?_⟩
    have e0 : L2.start ["number", "n"] [.int a, .int n] = [some (.int a), some (.int n)] := rfl
    rw [e0]; clear e0
    simp only [tSeq, tIfS, tTest, tRet, tRetN, tNext, tDrop, tAsg, tPar, tPar3, tAug, tVar, tC, tOp, tUn, rI, rI0, rU, tB, tAnd, tOr, tNot, tAndV, tOrV, tNotV, tIf, gName, gNil, gCons, gTup, gSub, tCB, tCons, tNil, tCall, tChain, ipI, tIsN, tNotN, tBM, tyV, tTup, tLst, rAppend, rCat, scal_ii, scal_bb, scal_ss, scal_ni, scal_in, rEq, rNe, List.getElem?_cons_zero, List.getElem?_cons_succ, List.set_cons_zero, List.set_cons_succ, eq_self, and_assoc, Option.some.injEq, V.int.injEq, V.bl.injEq, V.ref.injEq, V.str.injEq, List.cons.injEq, exists_eq_left', exists_eq_left, exists_and_left, List.nil_append, List.cons_append, List.append_nil, true_and, and_true, decide_eq_true_eq, Bool.not_eq_true', decide_eq_false_iff_not, if_true, if_false, Bool.not_true, Bool.not_false, Bool.false_eq_true, reduceCtorEq, decide_true, decide_false, ite_true, ite_false, rSetL, rIxL, tRaise, jCons, jNil, tFmt, tDNew, rCount, rIndex, tCont, tBreak, Int.reduceToNat, Int.reducePow]
    exact ⟨a, _, rfl, ⟨h1, h2⟩, n, _, _, _, rfl, ⟨h3, by omega, h5⟩, a, n, rfl, ⟨by omega, by omega, h5⟩, k⟩
noncomputable abbrev O_sign (P : Program) (w : World) (K : PySem.W.Frag) (mg : Str → Option Value) (base : Heap) : Prop := ∃ f fd, Df_sign K mg f fd ∧ FnOk P w K mg base CX0 5 f fd ["number", "n"] (spSignP)
noncomputable abbrev s_by_signs : Stmt := top 51
theorem sc_by_signs : FnScope ["n", "base", "found"] ["n", "base"] (defScope s_by_signs) := ⟨rfl, rfl, rfl, by decide +kernel, rfl, by decide +kernel, by decide +kernel⟩
noncomputable abbrev Df_by_signs (K : PySem.W.Frag) (mg : Str → Option Value) (f : Addr) (fd : FuncData) : Prop := Def K mg "by_signs" s_by_signs ["n", "base"] f fd
noncomputable def spBySigns : Sp := fun vs H Q _ => ∃ (n b : Int), vs = [.int n, .int b] ∧ (3 ≤ n ∧ n ≤ 10 ^ 30 ∧ n % 2 = 1 ∧ 1 ≤ b ∧ b ≤ n - 1) ∧ Q (.bl (sgnL n b)) H
theorem ok_by_signs (D : Df_by_signs K mg f fd) (T : Txt K mg t1 t2 t3 t4) (o1 : O_want_look P w K mg base) (o2 : O_sign_by P w K mg base) (o3 : O_power_rest P w K mg base) : FnOk P w K mg base CX0 5 f fd ["n", "base"] spBySigns := by
  obtain ⟨_, _, D_want_look, G_want_look⟩ := o1
  obtain ⟨_, _, D_sign_by, G_sign_by⟩ := o2
  obtain ⟨_, _, D_power_rest, G_power_rest⟩ := o3
  refine D.fn.ok sc_by_signs (fun vs H Q E h => ?_) (fun cdv A outer s H vs Q E hr h => ?_)
  · obtain ⟨n, b, rfl, _⟩ := h
    rfl
  · obtain ⟨n, b, rfl, hb, kk⟩ := h
    refine ⟨_, (pss_cons (ps_expr (pe_call (G_want_look.mono (by decide)) hr rfl D_want_look.mgx D_want_look.fn.kp D_want_look.bd .nil pass0 (pa_cons (pv 0) (pa_cons (pv 1) pa_nil))))
 (pss_cons (ps_set (i := 2) sc_by_signs.nd rfl (by first | exact Or.inl rfl | exact Or.inr rfl) (pe_call (G_sign_by.mono (by decide)) hr rfl D_sign_by.mgx D_sign_by.fn.kp D_sign_by.bd .nil pass0 (pa_cons (pv 1) (pa_cons (pv 0) pa_nil))))
 (pss_one (ps_ret (pe_and (pe_cmpR op_ne (pv 2) pe_int (nomark _)) (pe_one (pe_cmpR op_eq (pe_call (G_power_rest.mono (by decide)) hr rfl D_power_rest.mgx D_power_rest.fn.kp D_power_rest.bd .nil pass0 (pa_cons (pv 1) (pa_cons (pe_op op_fdivB (pe_op op_sub (pv 0) pe_int) pe_int) (pa_cons (pv 0) pa_nil)))) (pe_op op_mod (pv 2) (pv 0)) (nomark _)))))))), ?_⟩
    have e0 : L2.start ["n", "base", "found"] [.int n, .int b] = [some (.int n), some (.int b), none] := rfl
    rw [e0]; clear e0
    simp only [tSeq, tIfS, tTest, tRet, tRetN, tNext, tDrop, tAsg, tPar, tPar3, tAug, tVar, tC, tOp, tUn, rI, rI0, rU, tB, tAnd, tOr, tNot, tAndV, tOrV, tNotV, tIf, gName, gNil, gCons, gTup, gSub, tCB, tCons, tNil, tCall, tChain, ipI, tIsN, tNotN, tBM, tyV, tTup, tLst, rAppend, rCat, scal_ii, scal_bb, scal_ss, scal_ni, scal_in, rEq, rNe, List.getElem?_cons_zero, List.getElem?_cons_succ, List.set_cons_zero, List.set_cons_succ, eq_self, and_assoc, Option.some.injEq, V.int.injEq, V.bl.injEq, V.ref.injEq, V.str.injEq, List.cons.injEq, exists_eq_left', exists_eq_left, exists_and_left, List.nil_append, List.cons_append, List.append_nil, true_and, and_true, decide_eq_true_eq, Bool.not_eq_true', decide_eq_false_iff_not, if_true, if_false, Bool.not_true, Bool.not_false, Bool.false_eq_true, reduceCtorEq, decide_true, decide_false, ite_true, ite_false, rSetL, rIxL, tRaise, jCons, jNil, tFmt, tDNew, rCount, rIndex, tCont, tBreak, Int.reduceToNat, Int.reducePow]
    refine ⟨n, b, rfl, hb, b, n, rfl, ⟨by omega, by omega, hb.2.2.1⟩, ?_⟩
    simp only [tSeq, tIfS, tTest, tRet, tRetN, tNext, tDrop, tAsg, tPar, tPar3, tAug, tVar, tC, tOp, tUn, rI, rI0, rU, tB, tAnd, tOr, tNot, tAndV, tOrV, tNotV, tIf, gName, gNil, gCons, gTup, gSub, tCB, tCons, tNil, tCall, tChain, ipI, tIsN, tNotN, tBM, tyV, tTup, tLst, rAppend, rCat, scal_ii, scal_bb, scal_ss, scal_ni, scal_in, rEq, rNe, List.getElem?_cons_zero, List.getElem?_cons_succ, List.set_cons_zero, List.set_cons_succ, eq_self, and_assoc, Option.some.injEq, V.int.injEq, V.bl.injEq, V.ref.injEq, V.str.injEq, List.cons.injEq, exists_eq_left', exists_eq_left, exists_and_left, List.nil_append, List.cons_append, List.append_nil, true_and, and_true, decide_eq_true_eq, Bool.not_eq_true', decide_eq_false_iff_not, if_true, if_false, Bool.not_true, Bool.not_false, Bool.false_eq_true, reduceCtorEq, decide_true, decide_false, ite_true, ite_false, rSetL, rIxL, tRaise, jCons, jNil, tFmt, tDNew, rCount, rIndex, tCont, tBreak, Int.reduceToNat, Int.reducePow]
    unfold sgnL at kk
    by_cases hz : J (b % n) n = 0
    · rw [decide_eq_true hz] at kk
      rw [if_neg (fun h => h hz)]
      exact kk
    · rw [decide_eq_false hz] at kk
      rw [if_pos hz]
      refine ⟨⟨by decide, by decide⟩, b, _, n, rfl, ⟨by omega, by omega, by omega, by omega⟩, ?_⟩
      simp only [tSeq, tIfS, tTest, tRet, tRetN, tNext, tDrop, tAsg, tPar, tPar3, tAug, tVar, tC, tOp, tUn, rI, rI0, rU, tB, tAnd, tOr, tNot, tAndV, tOrV, tNotV, tIf, gName, gNil, gCons, gTup, gSub, tCB, tCons, tNil, tCall, tChain, ipI, tIsN, tNotN, tBM, tyV, tTup, tLst, rAppend, rCat, scal_ii, scal_bb, scal_ss, scal_ni, scal_in, rEq, rNe, List.getElem?_cons_zero, List.getElem?_cons_succ, List.set_cons_zero, List.set_cons_succ, eq_self, and_assoc, Option.some.injEq, V.int.injEq, V.bl.injEq, V.ref.injEq, V.str.injEq, List.cons.injEq, exists_eq_left', exists_eq_left, exists_and_left, List.nil_append, List.cons_append, List.append_nil, true_and, and_true, decide_eq_true_eq, Bool.not_eq_true', decide_eq_false_iff_not, if_true, if_false, Bool.not_true, Bool.not_false, Bool.false_eq_true, reduceCtorEq, decide_true, decide_false, ite_true, ite_false, rSetL, rIxL, tRaise, jCons, jNil, tFmt, tDNew, rCount, rIndex, tCont, tBreak, Int.reduceToNat, Int.reducePow]
      exact ⟨by omega, kk⟩
noncomputable abbrev O_by_signs (P : Program) (w : World) (K : PySem.W.Frag) (mg : Str → Option Value) (base : Heap) : Prop := ∃ f fd, Df_by_signs K mg f fd ∧ FnOk P w K mg base CX0 5 f fd ["n", "base"] (spBySigns)
noncomputable abbrev s_parts_of : Stmt := top 15
theorem sc_parts_of : FnScope ["number", "found", "left", "tried", "often"] ["number"] (defScope s_parts_of) := ⟨rfl, rfl, rfl, by decide +kernel, rfl, by decide +kernel, by decide +kernel⟩
noncomputable abbrev Df_parts_of (K : PySem.W.Frag) (mg : Str → Option Value) (f : Addr) (fd : FuncData) : Prop := Def K mg "parts_of" s_parts_of ["number"] f fd
noncomputable def spParts (K : PySem.W.Frag) : Sp := fun vs H Q _ => ∃ (n : Int), vs = [.int n] ∧ (1 ≤ n ∧ n ≤ 10 ^ 9) ∧ ∀ l p xs H', Parts n l → Same H H' → H' p = some (.tup xs) → RepL K H' (l.map pD) xs → Q (.ref p) H'
theorem ok_parts_of (D : Df_parts_of K mg f fd) (T : Txt K mg t1 t2 t3 t4) (o1 : O_want_tried P w K mg base) (o2 : O_least_part P w K mg base) : FnOk P w K mg base CX0 5 f fd ["number"] (spParts K) := by
  obtain ⟨_, _, D_want_tried, G_want_tried⟩ := o1
  obtain ⟨_, _, D_least_part, G_least_part⟩ := o2
  refine D.fn.ok sc_parts_of (fun vs H Q E h => ?_) (fun cdv A outer s H vs Q E hr h => ?_)
  · obtain ⟨n, rfl, _⟩ := h
    rfl
  · obtain ⟨n, rfl, hb, k⟩ := h
    refine ⟨_, (pss_cons (ps_expr (pe_call (G_want_tried.mono (by decide)) hr rfl D_want_tried.mgx D_want_tried.fn.kp D_want_tried.bd .nil pass0 (pa_cons (pv 0) (pa_cons pe_str pa_nil))))
 (pss_cons (ps_set (i := 1) sc_parts_of.nd rfl (by first | exact Or.inl rfl | exact Or.inr rfl) (pe_lst pa_nil))
 (pss_cons (ps_set (i := 2) sc_parts_of.nd rfl (by first | exact Or.inl rfl | exact Or.inr rfl) (pv 0))
 (pss_cons (ps_set (i := 3) sc_parts_of.nd rfl (by first | exact Or.inl rfl | exact Or.inr rfl) pe_int)
 (pss_cons (ps_while PassesOwn.never (pt_cmpR op_gt (pv 2) pe_int (nomark _))
 (pss_cons (ps_set (i := 3) sc_parts_of.nd rfl (by first | exact Or.inl rfl | exact Or.inr rfl) (pe_call (G_least_part.mono (by decide)) hr rfl D_least_part.mgx D_least_part.fn.kp D_least_part.bd .nil pass0 (pa_cons (pv 2) (pa_cons (pv 3) pa_nil))))
 (pss_cons (ps_set (i := 4) sc_parts_of.nd rfl (by first | exact Or.inl rfl | exact Or.inr rfl) pe_int)
 (pss_cons (ps_while PassesOwn.never (pt_cmpR op_eq (pe_op op_mod (pv 2) (pv 3)) pe_int (nomark _))
 (pss_cons (ps_set (i := 2) sc_parts_of.nd rfl (by first | exact Or.inl rfl | exact Or.inr rfl) (pe_op op_fdivB (pv 2) (pv 3)))
 (pss_one (ps_aug (i := 4) sc_parts_of.nd rfl (Or.inl rfl) pe_int ip_add))))
 (pss_one (ps_expr (pe_bm PySem.F.plainAttrs_list PySem.F.slot_list_append PySem.F.type_list_append mt_append (pv 1) (pa_cons (pe_tup (pa_cons (pv 3) (pa_cons (pv 4) pa_nil))) pa_nil))))))))
 (pss_one (ps_ret (pe_callTy call_tuple_of (by rfl) T.no_tuple PyProof.Rows.boot_tuple (pa_cons (pv 1) pa_nil))))))))), ?_⟩
    have e0 : L2.start ["number", "found", "left", "tried", "often"] [.int n] = [some (.int n), none, none, none, none] := rfl
    rw [e0]; clear e0
    simp only [tSeq, tIfS, tTest, tRet, tRetN, tNext, tDrop, tAsg, tPar, tPar3, tAug, tVar, tC, tOp, tUn, rI, rI0, rU, tB, tAnd, tOr, tNot, tAndV, tOrV, tNotV, tIf, gName, gNil, gCons, gTup, gSub, tCB, tCons, tNil, tCall, tChain, ipI, tIsN, tNotN, tBM, tyV, tTup, tLst, rAppend, rCat, scal_ii, scal_bb, scal_ss, scal_ni, scal_in, rEq, rNe, List.getElem?_cons_zero, List.getElem?_cons_succ, List.set_cons_zero, List.set_cons_succ, eq_self, and_assoc, Option.some.injEq, V.int.injEq, V.bl.injEq, V.ref.injEq, V.str.injEq, List.cons.injEq, exists_eq_left', exists_eq_left, exists_and_left, List.nil_append, List.cons_append, List.append_nil, true_and, and_true, decide_eq_true_eq, Bool.not_eq_true', decide_eq_false_iff_not, if_true, if_false, Bool.not_true, Bool.not_false, Bool.false_eq_true, reduceCtorEq, decide_true, decide_false, ite_true, ite_false, rSetL, rIxL, tRaise, jCons, jNil, tFmt, tDNew, rCount, rIndex, tCont, tBreak, Int.reduceToNat, Int.reducePow]
    refine ⟨n, _, rfl, ⟨by omega, by omega⟩, Nat.zero_le _, fun p hp => ?_⟩
    obtain ⟨W, hW⟩ : ∃ W : Nat → St → Hp → Prop, ∀ m σ H', W m σ H' ↔ ∃ l left t o xs, m = left.toNat ∧ σ = [some (.int n), some (.ref p), some (.int left), some (.int t), o] ∧ PtInv n l left t ∧ t ≤ 10 ^ 9 ∧ Same H H' ∧ H' p = some (.lst xs) ∧ RepL K H' (l.map pD) xs := ⟨_, fun _ _ _ => Iff.rfl⟩
    have s0 : Same H (upd H p (.lst [])) := fun b o e => by rw [upd_ne (ne_of_none e hp)]; exact e
    refine ⟨W, ⟨_, (hW _ _ _).mpr ⟨[], n, 2, none, [], rfl, rfl, pt_start hb.1, by omega, s0, upd_same, rfl⟩⟩, ?_⟩
    intro m σ H' hw
    obtain ⟨l, left, t, o, xs, rfl, rfl, I, tb, S, hl, R⟩ := (hW _ _ _).mp hw
    clear hw
    have i1 := I.l1; have i2 := I.t2; have i3 := pt_le I
    simp only [tSeq, tIfS, tTest, tRet, tRetN, tNext, tDrop, tAsg, tPar, tPar3, tAug, tVar, tC, tOp, tUn, rI, rI0, rU, tB, tAnd, tOr, tNot, tAndV, tOrV, tNotV, tIf, gName, gNil, gCons, gTup, gSub, tCB, tCons, tNil, tCall, tChain, ipI, tIsN, tNotN, tBM, tyV, tTup, tLst, rAppend, rCat, scal_ii, scal_bb, scal_ss, scal_ni, scal_in, rEq, rNe, List.getElem?_cons_zero, List.getElem?_cons_succ, List.set_cons_zero, List.set_cons_succ, eq_self, and_assoc, Option.some.injEq, V.int.injEq, V.bl.injEq, V.ref.injEq, V.str.injEq, List.cons.injEq, exists_eq_left', exists_eq_left, exists_and_left, List.nil_append, List.cons_append, List.append_nil, true_and, and_true, decide_eq_true_eq, Bool.not_eq_true', decide_eq_false_iff_not, if_true, if_false, Bool.not_true, Bool.not_false, Bool.false_eq_true, reduceCtorEq, decide_true, decide_false, ite_true, ite_false, rSetL, rIxL, tRaise, jCons, jNil, tFmt, tDNew, rCount, rIndex, tCont, tBreak, Int.reduceToNat, Int.reducePow]
    refine ite2 (fun h1 => ?_) (fun h1 => ?_)
    · refine ⟨fun σ' H2 => ∃ m', m' < left.toNat ∧ W m' σ' H2, fun _ _ h => h, ?_⟩
      refine ⟨left, t, rfl, ⟨by omega, by omega, by omega, by omega⟩, fun r hr => ?_⟩
      obtain ⟨pr, tr, rle, rd, ra⟩ := lp_next h1 i2 I.lo hr
      have r2 := pr.1
      obtain ⟨W2, hW2⟩ : ∃ W : Nat → St → Hp → Prop, ∀ m σ H2, W m σ H2 ↔ ∃ left' oft, m = left'.toNat ∧ σ = [some (.int n), some (.ref p), some (.int left'), some (.int r), some (.int oft)] ∧ DivInv left r left' oft ∧ H2 = H' := ⟨_, fun _ _ _ => Iff.rfl⟩
      refine ⟨W2, ⟨_, (hW2 _ _ _).mpr ⟨left, 0, rfl, rfl, div_start (by omega), rfl⟩⟩, ?_⟩
      intro m2 σ2 H2 hw2
      obtain ⟨left', oft, rfl, rfl, J, rfl⟩ := (hW2 _ _ _).mp hw2
      clear hw2
      have j1 := J.l1
      have j2 := div_le r2 J
      simp only [tSeq, tIfS, tTest, tRet, tRetN, tNext, tDrop, tAsg, tPar, tPar3, tAug, tVar, tC, tOp, tUn, rI, rI0, rU, tB, tAnd, tOr, tNot, tAndV, tOrV, tNotV, tIf, gName, gNil, gCons, gTup, gSub, tCB, tCons, tNil, tCall, tChain, ipI, tIsN, tNotN, tBM, tyV, tTup, tLst, rAppend, rCat, scal_ii, scal_bb, scal_ss, scal_ni, scal_in, rEq, rNe, List.getElem?_cons_zero, List.getElem?_cons_succ, List.set_cons_zero, List.set_cons_succ, eq_self, and_assoc, Option.some.injEq, V.int.injEq, V.bl.injEq, V.ref.injEq, V.str.injEq, List.cons.injEq, exists_eq_left', exists_eq_left, exists_and_left, List.nil_append, List.cons_append, List.append_nil, true_and, and_true, decide_eq_true_eq, Bool.not_eq_true', decide_eq_false_iff_not, if_true, if_false, Bool.not_true, Bool.not_false, Bool.false_eq_true, reduceCtorEq, decide_true, decide_false, ite_true, ite_false, rSetL, rIxL, tRaise, jCons, jNil, tFmt, tDNew, rCount, rIndex, tCont, tBreak, Int.reduceToNat, Int.reducePow]
      refine ⟨by omega, ?_⟩
      refine ite2 (fun hd => ?_) (fun hd => ?_)
      · refine ⟨fun σ' H2 => ∃ m', m' < left'.toNat ∧ W2 m' σ' H2, fun _ _ h => h, ?_⟩
        obtain ⟨J2, jl⟩ := div_turn r2 J hd
        have j3 := J2.l1
        exact ⟨⟨by omega, by omega⟩, _, by omega, (hW2 _ _ _).mpr ⟨_, _, rfl, rfl, J2, rfl⟩⟩
      · obtain ⟨I2, o1, lt⟩ := pt_turn I pr tr rd ra J hd
        refine ⟨.inl ⟨_, SqL.of hl⟩, ?_⟩
        refine ⟨by show 2 ≤ sizeLine; decide, fun a ha => ?_⟩
        have npa : p ≠ a := ne_of_none hl ha
        have hlen : xs.length < sizeLine := by
          have e := R.length
          rw [List.length_map] at e
          have e2 := parts_len I.ok.pr (by have := I.eq; have := prod_pos I.ok.pr; have := Int.mul_le_mul_of_nonneg_left i1 (show 0 ≤ prod l by omega); omega)
          exact small1000 (by omega)
        refine ⟨_, by rw [upd_ne npa]; exact hl, hlen, _, by omega, (hW _ _ _).mpr ⟨l ++ [(r, oft)], left', r, _, _, rfl, rfl, I2, by omega, ?_, upd_same, ?_⟩⟩
        · intro b u e
          have e1 : b ≠ p := ne_of_none e hp
          have e2 : b ≠ a := ne_of_none (S b u e) ha
          rw [upd_ne e1, upd_ne e2]
          exact S b u e
        · have tk : TK H2 (upd (upd H2 a (.tup [.int r, .int oft])) p (.lst (xs ++ [.ref a]))) := (TK.new ha).trans (TK.lst (xs := xs) (by rw [upd_ne npa]; exact hl))
          rw [List.map_append]
          refine (R.mono tk _ (noLL_pD l)).append ⟨_, [], rfl, rep_pair ?_, rfl⟩
          rw [upd_ne npa.symm, upd_same]
    · refine ⟨xs, .inl ⟨SqL.of hl, fun a ha => ?_⟩⟩
      refine k l a xs _ (pt_end I h1) (fun b u e => ?_) upd_same (R.mono (TK.new ha) _ (noLL_pD l))
      rw [upd_ne (ne_of_none (S b u e) ha)]
      exact S b u e
noncomputable abbrev O_parts_of (P : Program) (w : World) (K : PySem.W.Frag) (mg : Str → Option Value) (base : Heap) : Prop := ∃ f fd, Df_parts_of K mg f fd ∧ FnOk P w K mg base CX0 5 f fd ["number"] (spParts K)
noncomputable abbrev s_primes_of : Stmt := top 16
theorem sc_primes_of : FnScope ["number"] ["number"] (defScope s_primes_of) := ⟨rfl, rfl, rfl, by decide +kernel, rfl, by decide +kernel, by decide +kernel⟩
noncomputable abbrev Df_primes_of (K : PySem.W.Frag) (mg : Str → Option Value) (f : Addr) (fd : FuncData) : Prop := Def K mg "primes_of" s_primes_of ["number"] f fd
noncomputable def prV (l : List (Int × Int)) : List V := l.map fun q => .int q.1
noncomputable def spPrimes : Sp := fun vs H Q _ => ∃ (n : Int), vs = [.int n] ∧ (1 ≤ n ∧ n ≤ 10 ^ 9) ∧ ∀ l p H', Parts n l → Same H H' → H' p = some (.lst (prV l)) → Q (.ref p) H'
theorem ok_primes_of (D : Df_primes_of K mg f fd) (T : Txt K mg t1 t2 t3 t4) (o1 : O_parts_of P w K mg base) : FnOk P w K mg base CX0 6 f fd ["number"] spPrimes := by
  obtain ⟨_, _, D_parts_of, G_parts_of⟩ := o1
  refine D.fn.ok sc_primes_of (fun vs H Q E h => ?_) (fun cdv A outer s H vs Q E hr h => ?_)
  · obtain ⟨n, rfl, _⟩ := h
    rfl
  · obtain ⟨n, rfl, hb, k⟩ := h
    refine ⟨_, (pss_one (ps_ret (pe_compD (N := ["prime", "often"]) (js := [none, none]) (by rfl) rfl (fun _ => rfl) (pi_tup (pe_call (G_parts_of.mono (by decide)) hr rfl D_parts_of.mgx D_parts_of.fn.kp D_parts_of.bd .nil pass0 (pa_cons (pv 0) pa_nil))) (by intro b _ _ _ _; exact (pg_tupK (K := K) (n := 2) rfl rfl (pgs_cons (pg_name (i := 0) (show List.Nodup (["prime", "often"] : List Str) by decide) rfl (by first | exact Or.inl rfl | exact Or.inr rfl)) (pgs_cons (pg_name (i := 1) (show List.Nodup (["prime", "often"] : List Str) by decide) rfl (by first | exact Or.inl rfl | exact Or.inr rfl)) pgs_nil)))) (by intro b _ _ _ _; exact pifs_nil) (by intro b _ _ _ _; exact (pv 0))))), ?_⟩
    have e0 : L2.start ["number"] [.int n] = [some (.int n)] := rfl
    rw [e0]; clear e0
    simp only [tSeq, tIfS, tTest, tRet, tRetN, tNext, tDrop, tAsg, tPar, tPar3, tAug, tVar, tC, tOp, tUn, rI, rI0, rU, tB, tAnd, tOr, tNot, tAndV, tOrV, tNotV, tIf, gName, gNil, gCons, gTup, gSub, tCB, tCons, tNil, tCall, tChain, ipI, tIsN, tNotN, tBM, tyV, tTup, tLst, rAppend, rCat, scal_ii, scal_bb, scal_ss, scal_ni, scal_in, rEq, rNe, List.getElem?_cons_zero, List.getElem?_cons_succ, List.set_cons_zero, List.set_cons_succ, eq_self, and_assoc, Option.some.injEq, V.int.injEq, V.bl.injEq, V.ref.injEq, V.str.injEq, List.cons.injEq, exists_eq_left', exists_eq_left, exists_and_left, List.nil_append, List.cons_append, List.append_nil, true_and, and_true, decide_eq_true_eq, Bool.not_eq_true', decide_eq_false_iff_not, if_true, if_false, Bool.not_true, Bool.not_false, Bool.false_eq_true, reduceCtorEq, decide_true, decide_false, ite_true, ite_false, rSetL, rIxL, tRaise, jCons, jNil, tFmt, tDNew, rCount, rIndex, tCont, tBreak, Int.reduceToNat, Int.reducePow]
    refine ⟨_, rfl, n, rfl, hb, fun l p xs H' hl S hp R => ⟨p, rfl, ⟨xs, SqT.of hp⟩, fun b D hc hD => ?_⟩⟩
    have len : l.length < 30 := parts_len hl.1.pr (by rw [hl.2]; omega)
    have elen : xs.length = l.length := by rw [← R.length, List.length_map]
    have npD : p ≠ D := ne_of_none hp hD
    obtain ⟨Pv, hPv⟩ : ∃ Pv : Nat → St → Hp → Prop, ∀ i σ H2, Pv i σ H2 ↔ (∃ v1 v2, σ = [v1, v2]) ∧ H2 = upd H' D (.lst (prV (l.take i))) := ⟨_, fun _ _ _ => Iff.rfl⟩
    refine comp_tup (xs := xs) Pv ((hPv _ _ _).mpr ⟨⟨_, _, rfl⟩, rfl⟩) (fun i σ H2 hi h => ?_) ?_ ?_
    · obtain ⟨_, rfl⟩ := (hPv _ _ _).mp h
      exact SqT.of (by rw [upd_ne npD]; exact hp)
    · intro i x σ H2 hx h
      obtain ⟨⟨v1, v2, rfl⟩, rfl⟩ := (hPv _ _ _).mp h
      obtain ⟨q, c, hq, rfl, hcc⟩ := repL_pD_get R hx
      have hcc' : SqT K (upd H' D (.lst (prV (l.take i)))) c [.int q.1, .int q.2] := (TK.new hD).sq hcc
      simp only [tSeq, tIfS, tTest, tRet, tRetN, tNext, tDrop, tAsg, tPar, tPar3, tAug, tVar, tC, tOp, tUn, rI, rI0, rU, tB, tAnd, tOr, tNot, tAndV, tOrV, tNotV, tIf, gName, gNil, gCons, gTup, gSub, tCB, tCons, tNil, tCall, tChain, ipI, tIsN, tNotN, tBM, tyV, tTup, tLst, rAppend, rCat, scal_ii, scal_bb, scal_ss, scal_ni, scal_in, rEq, rNe, List.getElem?_cons_zero, List.getElem?_cons_succ, List.set_cons_zero, List.set_cons_succ, eq_self, and_assoc, Option.some.injEq, V.int.injEq, V.bl.injEq, V.ref.injEq, V.str.injEq, List.cons.injEq, exists_eq_left', exists_eq_left, exists_and_left, List.nil_append, List.cons_append, List.append_nil, true_and, and_true, decide_eq_true_eq, Bool.not_eq_true', decide_eq_false_iff_not, if_true, if_false, Bool.not_true, Bool.not_false, Bool.false_eq_true, reduceCtorEq, decide_true, decide_false, ite_true, ite_false, rSetL, rIxL, tRaise, jCons, jNil, tFmt, tDNew, rCount, rIndex, tCont, tBreak, Int.reduceToNat, Int.reducePow, CT, tYes]
      refine ⟨_, hcc', rfl, ?_⟩
      simp only [tSeq, tIfS, tTest, tRet, tRetN, tNext, tDrop, tAsg, tPar, tPar3, tAug, tVar, tC, tOp, tUn, rI, rI0, rU, tB, tAnd, tOr, tNot, tAndV, tOrV, tNotV, tIf, gName, gNil, gCons, gTup, gSub, tCB, tCons, tNil, tCall, tChain, ipI, tIsN, tNotN, tBM, tyV, tTup, tLst, rAppend, rCat, scal_ii, scal_bb, scal_ss, scal_ni, scal_in, rEq, rNe, List.getElem?_cons_zero, List.getElem?_cons_succ, List.set_cons_zero, List.set_cons_succ, eq_self, and_assoc, Option.some.injEq, V.int.injEq, V.bl.injEq, V.ref.injEq, V.str.injEq, List.cons.injEq, exists_eq_left', exists_eq_left, exists_and_left, List.nil_append, List.cons_append, List.append_nil, true_and, and_true, decide_eq_true_eq, Bool.not_eq_true', decide_eq_false_iff_not, if_true, if_false, Bool.not_true, Bool.not_false, Bool.false_eq_true, reduceCtorEq, decide_true, decide_false, ite_true, ite_false, rSetL, rIxL, tRaise, jCons, jNil, tFmt, tDNew, rCount, rIndex, tCont, tBreak, Int.reduceToNat, Int.reducePow]
      refine ⟨_, upd_same, ?_, (hPv _ _ _).mpr ⟨⟨_, _, rfl⟩, ?_⟩⟩
      · refine small1000 ?_
        unfold prV
        rw [List.length_map, List.length_take]
        omega
      · have e : prV (l.take (i + 1)) = prV (l.take i) ++ [.int q.1] := by
          unfold prV
          rw [List.take_succ, hq, List.map_append]; rfl
        rw [e]
        funext c
        by_cases z : c = D
        · subst z; rw [upd_same, upd_same]
        · rw [upd_ne z, upd_ne z, upd_ne z]
    · intro σ H2 h
      obtain ⟨⟨v1, v2, rfl⟩, rfl⟩ := (hPv _ _ _).mp h
      rw [elen, List.take_length]
      refine k l D _ hl (fun b o e => ?_) upd_same
      rw [upd_ne (ne_of_none (S b o e) hD)]
      exact S b o e
noncomputable abbrev O_primes_of (P : Program) (w : World) (K : PySem.W.Frag) (mg : Str → Option Value) (base : Heap) : Prop := ∃ f fd, Df_primes_of K mg f fd ∧ FnOk P w K mg base CX0 6 f fd ["number"] (spPrimes)
noncomputable abbrev s_many_rests : Stmt := top 36
theorem sc_many_rests : FnScope ["n", "many", "left", "prime", "often"] ["n"] (defScope s_many_rests) := ⟨rfl, rfl, rfl, by decide +kernel, rfl, by decide +kernel, by decide +kernel⟩
noncomputable abbrev Df_many_rests (K : PySem.W.Frag) (mg : Str → Option Value) (f : Addr) (fd : FuncData) : Prop := Def K mg "many_rests" s_many_rests ["n"] f fd
noncomputable def spMany : Sp := fun vs H Q _ => ∃ (n : Int), vs = [.int n] ∧ (1 ≤ n ∧ n ≤ 10 ^ 9) ∧ ∀ l H', Parts n l → Same H H' → Q (.int (phi l)) H'
theorem ok_many_rests (D : Df_many_rests K mg f fd) (T : Txt K mg t1 t2 t3 t4) (o1 : O_want_tried P w K mg base) (o2 : O_parts_of P w K mg base) : FnOk P w K mg base CX0 6 f fd ["n"] spMany := by
  obtain ⟨_, _, D_want_tried, G_want_tried⟩ := o1
  obtain ⟨_, _, D_parts_of, G_parts_of⟩ := o2
  refine D.fn.ok sc_many_rests (fun vs H Q E h => ?_) (fun cdv A outer s H vs Q E hr h => ?_)
  · obtain ⟨n, rfl, _⟩ := h
    rfl
  · obtain ⟨n, rfl, hb, k⟩ := h
    refine ⟨_, (pss_cons (ps_expr (pe_call (G_want_tried.mono (by decide)) hr rfl D_want_tried.mgx D_want_tried.fn.kp D_want_tried.bd .nil pass0 (pa_cons (pv 0) (pa_cons pe_str pa_nil))))
 (pss_cons (ps_set (i := 1) sc_many_rests.nd rfl (by first | exact Or.inl rfl | exact Or.inr rfl) pe_int)
 (pss_cons (ps_set (i := 2) sc_many_rests.nd rfl (by first | exact Or.inl rfl | exact Or.inr rfl) (pv 0))
 (pss_cons (ps_for PassesOwn.never rfl (pi_tup (pe_call (G_parts_of.mono (by decide)) hr rfl D_parts_of.mgx D_parts_of.fn.kp D_parts_of.bd .nil pass0 (pa_cons (pv 0) pa_nil))) (pg_tup rfl (pgs_cons (pg_name (i := 3) sc_many_rests.nd rfl (by first | exact Or.inl rfl | exact Or.inr rfl)) (pgs_cons (pg_name (i := 4) sc_many_rests.nd rfl (by first | exact Or.inl rfl | exact Or.inr rfl)) pgs_nil)))
 (pss_cons (ps_set (i := 1) sc_many_rests.nd rfl (by first | exact Or.inl rfl | exact Or.inr rfl) (pe_op op_mulB (pv 1) (pe_op op_sub (pv 3) pe_int)))
 (pss_one (ps_set (i := 2) sc_many_rests.nd rfl (by first | exact Or.inl rfl | exact Or.inr rfl) (pe_op op_fdivB (pv 2) (pv 3))))))
 (pss_one (ps_ret (pe_op op_mulB (pv 1) (pv 2)))))))), ?_⟩
    have e0 : L2.start ["n", "many", "left", "prime", "often"] [.int n] = [some (.int n), none, none, none, none] := rfl
    rw [e0]; clear e0
    simp only [tSeq, tIfS, tTest, tRet, tRetN, tNext, tDrop, tAsg, tPar, tPar3, tAug, tVar, tC, tOp, tUn, rI, rI0, rU, tB, tAnd, tOr, tNot, tAndV, tOrV, tNotV, tIf, gName, gNil, gCons, gTup, gSub, tCB, tCons, tNil, tCall, tChain, ipI, tIsN, tNotN, tBM, tyV, tTup, tLst, rAppend, rCat, scal_ii, scal_bb, scal_ss, scal_ni, scal_in, rEq, rNe, List.getElem?_cons_zero, List.getElem?_cons_succ, List.set_cons_zero, List.set_cons_succ, eq_self, and_assoc, Option.some.injEq, V.int.injEq, V.bl.injEq, V.ref.injEq, V.str.injEq, List.cons.injEq, exists_eq_left', exists_eq_left, exists_and_left, List.nil_append, List.cons_append, List.append_nil, true_and, and_true, decide_eq_true_eq, Bool.not_eq_true', decide_eq_false_iff_not, if_true, if_false, Bool.not_true, Bool.not_false, Bool.false_eq_true, reduceCtorEq, decide_true, decide_false, ite_true, ite_false, rSetL, rIxL, tRaise, jCons, jNil, tFmt, tDNew, rCount, rIndex, tCont, tBreak, Int.reduceToNat, Int.reducePow]
    refine ⟨n, _, rfl, hb, _, rfl, n, rfl, hb, fun l p xs H' hl S hp R => ?_⟩
    have elen : xs.length = l.length := by rw [← R.length, List.length_map]
    have bnd : ∀ i, 1 ≤ tot (l.take i) ∧ 1 ≤ red (l.take i) ∧ 1 ≤ prod (l.drop i) ∧ tot (l.take i) * (red (l.take i) * prod (l.drop i)) ≤ n := fun i => by
      have h1 : ∀ q ∈ l.take i, IsPr q.1 ∧ 1 ≤ q.2 := fun q hq => hl.1.pr q (List.mem_of_mem_take hq)
      have h2 : ∀ q ∈ l.drop i, IsPr q.1 ∧ 1 ≤ q.2 := fun q hq => hl.1.pr q (List.mem_of_mem_drop hq)
      obtain ⟨a, b, c⟩ := tot_red_bound h1
      have d := prod_pos h2
      refine ⟨a, b, d, ?_⟩
      have e : prod (l.take i) * prod (l.drop i) = n := by rw [← prod_append, List.take_append_drop, hl.2]
      have := Int.mul_le_mul_of_nonneg_right c (show 0 ≤ prod (l.drop i) by omega)
      rw [Int.mul_assoc] at this
      omega
    have b2 : ∀ i, tot (l.take i) ≤ n ∧ red (l.take i) * prod (l.drop i) ≤ n ∧ 1 ≤ red (l.take i) * prod (l.drop i) := fun i => by
      obtain ⟨a, b, c, d⟩ := bnd i
      have e1 := Int.mul_le_mul b c (by omega) (by omega)
      have e2 := Int.mul_le_mul_of_nonneg_right a (show 0 ≤ red (l.take i) * prod (l.drop i) by omega)
      have e3 := Int.mul_le_mul_of_nonneg_left (show 1 ≤ red (l.take i) * prod (l.drop i) by omega) (show 0 ≤ tot (l.take i) by omega)
      omega
    refine ⟨p, rfl, ⟨xs, SqT.of hp⟩, for_tup (xs := xs) (fun j σ H2 => H2 = H' ∧ ∃ v1 v2, σ = [some (.int n), some (.int (tot (l.take j))), some (.int (red (l.take j) * prod (l.drop j))), v1, v2]) ⟨rfl, none, none, ?_⟩ (fun _ _ _ _ h => by rw [h.1]; exact SqT.of hp) ?_ ?_⟩
    · simp [tot, red, hl.2]
    · rintro j x σ H2 hx ⟨rfl, v1, v2, rfl⟩
      obtain ⟨q, c, hq, rfl, hcc⟩ := repL_pD_get R hx
      have hmem : q ∈ l := List.mem_of_getElem? hq
      have hpr := hl.1.pr q hmem
      have hle := parts_le hl hmem
      have hq2 := hpr.1.1
      have bj := b2 j
      have aj := bnd j
      simp only [tSeq, tIfS, tTest, tRet, tRetN, tNext, tDrop, tAsg, tPar, tPar3, tAug, tVar, tC, tOp, tUn, rI, rI0, rU, tB, tAnd, tOr, tNot, tAndV, tOrV, tNotV, tIf, gName, gNil, gCons, gTup, gSub, tCB, tCons, tNil, tCall, tChain, ipI, tIsN, tNotN, tBM, tyV, tTup, tLst, rAppend, rCat, scal_ii, scal_bb, scal_ss, scal_ni, scal_in, rEq, rNe, List.getElem?_cons_zero, List.getElem?_cons_succ, List.set_cons_zero, List.set_cons_succ, eq_self, and_assoc, Option.some.injEq, V.int.injEq, V.bl.injEq, V.ref.injEq, V.str.injEq, List.cons.injEq, exists_eq_left', exists_eq_left, exists_and_left, List.nil_append, List.cons_append, List.append_nil, true_and, and_true, decide_eq_true_eq, Bool.not_eq_true', decide_eq_false_iff_not, if_true, if_false, Bool.not_true, Bool.not_false, Bool.false_eq_true, reduceCtorEq, decide_true, decide_false, ite_true, ite_false, rSetL, rIxL, tRaise, jCons, jNil, tFmt, tDNew, rCount, rIndex, tCont, tBreak, Int.reduceToNat, Int.reducePow]
      refine ⟨_, hcc, rfl, ?_⟩
      simp only [tSeq, tIfS, tTest, tRet, tRetN, tNext, tDrop, tAsg, tPar, tPar3, tAug, tVar, tC, tOp, tUn, rI, rI0, rU, tB, tAnd, tOr, tNot, tAndV, tOrV, tNotV, tIf, gName, gNil, gCons, gTup, gSub, tCB, tCons, tNil, tCall, tChain, ipI, tIsN, tNotN, tBM, tyV, tTup, tLst, rAppend, rCat, scal_ii, scal_bb, scal_ss, scal_ni, scal_in, rEq, rNe, List.getElem?_cons_zero, List.getElem?_cons_succ, List.set_cons_zero, List.set_cons_succ, eq_self, and_assoc, Option.some.injEq, V.int.injEq, V.bl.injEq, V.ref.injEq, V.str.injEq, List.cons.injEq, exists_eq_left', exists_eq_left, exists_and_left, List.nil_append, List.cons_append, List.append_nil, true_and, and_true, decide_eq_true_eq, Bool.not_eq_true', decide_eq_false_iff_not, if_true, if_false, Bool.not_true, Bool.not_false, Bool.false_eq_true, reduceCtorEq, decide_true, decide_false, ite_true, ite_false, rSetL, rIxL, tRaise, jCons, jNil, tFmt, tDNew, rCount, rIndex, tCont, tBreak, Int.reduceToNat, Int.reducePow]
      refine ⟨.inr ⟨by omega, by omega⟩, ⟨by omega, by omega⟩, ?_⟩
      rw [left_turn hq hq2 hpr.2, ← tot_take hq]
      first | exact ⟨rfl, _, _, rfl⟩ | simp
    · rintro σ H2 ⟨rfl, v1, v2, rfl⟩
      have bj := b2 l.length
      simp only [tSeq, tIfS, tTest, tRet, tRetN, tNext, tDrop, tAsg, tPar, tPar3, tAug, tVar, tC, tOp, tUn, rI, rI0, rU, tB, tAnd, tOr, tNot, tAndV, tOrV, tNotV, tIf, gName, gNil, gCons, gTup, gSub, tCB, tCons, tNil, tCall, tChain, ipI, tIsN, tNotN, tBM, tyV, tTup, tLst, rAppend, rCat, scal_ii, scal_bb, scal_ss, scal_ni, scal_in, rEq, rNe, List.getElem?_cons_zero, List.getElem?_cons_succ, List.set_cons_zero, List.set_cons_succ, eq_self, and_assoc, Option.some.injEq, V.int.injEq, V.bl.injEq, V.ref.injEq, V.str.injEq, List.cons.injEq, exists_eq_left', exists_eq_left, exists_and_left, List.nil_append, List.cons_append, List.append_nil, true_and, and_true, decide_eq_true_eq, Bool.not_eq_true', decide_eq_false_iff_not, if_true, if_false, Bool.not_true, Bool.not_false, Bool.false_eq_true, reduceCtorEq, decide_true, decide_false, ite_true, ite_false, rSetL, rIxL, tRaise, jCons, jNil, tFmt, tDNew, rCount, rIndex, tCont, tBreak, Int.reduceToNat, Int.reducePow]
      rw [elen]
      rw [List.take_length, List.drop_length] at bj ⊢
      refine ⟨.inr ⟨by have := (bnd l.length).1; rw [List.take_length] at this; omega, by omega⟩, ?_⟩
      have e : tot l * (red l * prod []) = phi l := by simp [prod, phi]
      rw [e]
      exact k l H2 hl S
noncomputable abbrev O_many_rests (P : Program) (w : World) (K : PySem.W.Frag) (mg : Str → Option Value) (base : Heap) : Prop := ∃ f fd, Df_many_rests K mg f fd ∧ FnOk P w K mg base CX0 6 f fd ["n"] (spMany)
noncomputable abbrev s_order_of : Stmt := top 35
theorem sc_order_of : FnScope ["number", "n", "often", "prime"] ["number", "n"] (defScope s_order_of) := ⟨rfl, rfl, rfl, by decide +kernel, rfl, by decide +kernel, by decide +kernel⟩
noncomputable abbrev Df_order_of (K : PySem.W.Frag) (mg : Str → Option Value) (f : Addr) (fd : FuncData) : Prop := Def K mg "order_of" s_order_of ["number", "n"] f fd
noncomputable def spOrder : Sp := fun vs H Q _ => ∃ (a n : Int), vs = [.int a, .int n] ∧ (-(10 ^ 30) ≤ a ∧ a ≤ 10 ^ 30 ∧ 1 ≤ n ∧ n ≤ 10 ^ 9) ∧ (Int.gcd a n ≠ 1 → Q .non H) ∧ (Int.gcd a n = 1 → ∀ o H', Ord a n o → o ≤ n → Same H H' → Q (.int o) H')
theorem ok_order_of (D : Df_order_of K mg f fd) (T : Txt K mg t1 t2 t3 t4) (o1 : O_want_far P w K mg base) (o2 : O_want_tried P w K mg base) (o3 : O_greatest_in_both P w K mg base) (o4 : O_many_rests P w K mg base) (o5 : O_primes_of P w K mg base) (o6 : O_power_rest P w K mg base) : FnOk P w K mg base CX0 7 f fd ["number", "n"] spOrder := by
  obtain ⟨_, _, D_want_far, G_want_far⟩ := o1
  obtain ⟨_, _, D_want_tried, G_want_tried⟩ := o2
  obtain ⟨_, _, D_greatest_in_both, G_greatest_in_both⟩ := o3
  obtain ⟨_, _, D_many_rests, G_many_rests⟩ := o4
  obtain ⟨_, _, D_primes_of, G_primes_of⟩ := o5
  obtain ⟨_, _, D_power_rest, G_power_rest⟩ := o6
  refine D.fn.ok sc_order_of (fun vs H Q E h => ?_) (fun cdv A outer s H vs Q E hr h => ?_)
  · obtain ⟨a, n, rfl, _⟩ := h
    rfl
  · obtain ⟨a, n, rfl, ⟨a1, a2, n1, n2⟩, k1, k2⟩ := h
    refine ⟨_, (pss_cons (ps_expr (pe_call (G_want_far.mono (by decide)) hr rfl D_want_far.mgx D_want_far.fn.kp D_want_far.bd .nil pass0 (pa_cons (pv 0) (pa_cons pe_str pa_nil))))
 (pss_cons (ps_expr (pe_call (G_want_tried.mono (by decide)) hr rfl D_want_tried.mgx D_want_tried.fn.kp D_want_tried.bd .nil pass0 (pa_cons (pv 1) (pa_cons pe_str pa_nil))))
 (pss_cons (ps_if (pt_cmpR op_ne (pe_call (G_greatest_in_both.mono (by decide)) hr rfl D_greatest_in_both.mgx D_greatest_in_both.fn.kp D_greatest_in_both.bd .nil pass0 (pa_cons (pv 0) (pa_cons (pv 1) pa_nil))) pe_int (nomark _))
 (pss_one (ps_ret pe_non))
 pss_nil)
 (pss_cons (ps_set (i := 2) sc_order_of.nd rfl (by first | exact Or.inl rfl | exact Or.inr rfl) (pe_call (G_many_rests.mono (by decide)) hr rfl D_many_rests.mgx D_many_rests.fn.kp D_many_rests.bd .nil pass0 (pa_cons (pv 1) pa_nil)))
 (pss_cons (ps_for PassesOwn.never rfl (pi_list (pe_call (G_primes_of.mono (by decide)) hr rfl D_primes_of.mgx D_primes_of.fn.kp D_primes_of.bd .nil pass0 (pa_cons (pv 2) pa_nil))) (pg_name (i := 3) sc_order_of.nd rfl (by first | exact Or.inl rfl | exact Or.inr rfl))
 (pss_one (ps_while PassesOwn.never (PW.pt (pw_and (pt_cmpR op_eq (pe_op op_mod (pv 2) (pv 3)) pe_int (nomark _)) (pw_and1 (pt_cmpR op_eq (pe_call (G_power_rest.mono (by decide)) hr rfl D_power_rest.mgx D_power_rest.fn.kp D_power_rest.bd .nil pass0 (pa_cons (pv 0) (pa_cons (pe_op op_fdivB (pv 2) (pv 3)) (pa_cons (pv 1) pa_nil)))) (pe_op op_mod pe_int (pv 1)) (nomark _)))))
 (pss_one (ps_set (i := 2) sc_order_of.nd rfl (by first | exact Or.inl rfl | exact Or.inr rfl) (pe_op op_fdivB (pv 2) (pv 3)))))))
 (pss_one (ps_ret (pv 2)))))))), ?_⟩
    have e0 : L2.start ["number", "n", "often", "prime"] [.int a, .int n] = [some (.int a), some (.int n), none, none] := rfl
    rw [e0]; clear e0
    simp only [tSeq, tIfS, tTest, tRet, tRetN, tNext, tDrop, tAsg, tPar, tPar3, tAug, tVar, tC, tOp, tUn, rI, rI0, rU, tB, tAnd, tOr, tNot, tAndV, tOrV, tNotV, tIf, gName, gNil, gCons, gTup, gSub, tCB, tCons, tNil, tCall, tChain, ipI, tIsN, tNotN, tBM, tyV, tTup, tLst, rAppend, rCat, scal_ii, scal_bb, scal_ss, scal_ni, scal_in, rEq, rNe, List.getElem?_cons_zero, List.getElem?_cons_succ, List.set_cons_zero, List.set_cons_succ, eq_self, and_assoc, Option.some.injEq, V.int.injEq, V.bl.injEq, V.ref.injEq, V.str.injEq, List.cons.injEq, exists_eq_left', exists_eq_left, exists_and_left, List.nil_append, List.cons_append, List.append_nil, true_and, and_true, decide_eq_true_eq, Bool.not_eq_true', decide_eq_false_iff_not, if_true, if_false, Bool.not_true, Bool.not_false, Bool.false_eq_true, reduceCtorEq, decide_true, decide_false, ite_true, ite_false, rSetL, rIxL, tRaise, jCons, jNil, tFmt, tDNew, rCount, rIndex, tCont, tBreak, Int.reduceToNat, Int.reducePow]
    refine ⟨a, _, rfl, ⟨by omega, by omega⟩, n, _, rfl, ⟨by omega, by omega⟩, a, n, rfl, ⟨by omega, by omega⟩, ?_⟩
    simp only [tSeq, tIfS, tTest, tRet, tRetN, tNext, tDrop, tAsg, tPar, tPar3, tAug, tVar, tC, tOp, tUn, rI, rI0, rU, tB, tAnd, tOr, tNot, tAndV, tOrV, tNotV, tIf, gName, gNil, gCons, gTup, gSub, tCB, tCons, tNil, tCall, tChain, ipI, tIsN, tNotN, tBM, tyV, tTup, tLst, rAppend, rCat, scal_ii, scal_bb, scal_ss, scal_ni, scal_in, rEq, rNe, List.getElem?_cons_zero, List.getElem?_cons_succ, List.set_cons_zero, List.set_cons_succ, eq_self, and_assoc, Option.some.injEq, V.int.injEq, V.bl.injEq, V.ref.injEq, V.str.injEq, List.cons.injEq, exists_eq_left', exists_eq_left, exists_and_left, List.nil_append, List.cons_append, List.append_nil, true_and, and_true, decide_eq_true_eq, Bool.not_eq_true', decide_eq_false_iff_not, if_true, if_false, Bool.not_true, Bool.not_false, Bool.false_eq_true, reduceCtorEq, decide_true, decide_false, ite_true, ite_false, rSetL, rIxL, tRaise, jCons, jNil, tFmt, tDNew, rCount, rIndex, tCont, tBreak, Int.reduceToNat, Int.reducePow]
    refine ite2 (fun hg => ?_) (fun hg => ?_)
    · exact k1 (by omega)
    · have hg : Int.gcd a n = 1 := by omega
      refine ⟨n, rfl, ⟨n1, n2⟩, fun l H1 hl S1 => ?_⟩
      have pb := phi_bound hl
      simp only [tSeq, tIfS, tTest, tRet, tRetN, tNext, tDrop, tAsg, tPar, tPar3, tAug, tVar, tC, tOp, tUn, rI, rI0, rU, tB, tAnd, tOr, tNot, tAndV, tOrV, tNotV, tIf, gName, gNil, gCons, gTup, gSub, tCB, tCons, tNil, tCall, tChain, ipI, tIsN, tNotN, tBM, tyV, tTup, tLst, rAppend, rCat, scal_ii, scal_bb, scal_ss, scal_ni, scal_in, rEq, rNe, List.getElem?_cons_zero, List.getElem?_cons_succ, List.set_cons_zero, List.set_cons_succ, eq_self, and_assoc, Option.some.injEq, V.int.injEq, V.bl.injEq, V.ref.injEq, V.str.injEq, List.cons.injEq, exists_eq_left', exists_eq_left, exists_and_left, List.nil_append, List.cons_append, List.append_nil, true_and, and_true, decide_eq_true_eq, Bool.not_eq_true', decide_eq_false_iff_not, if_true, if_false, Bool.not_true, Bool.not_false, Bool.false_eq_true, reduceCtorEq, decide_true, decide_false, ite_true, ite_false, rSetL, rIxL, tRaise, jCons, jNil, tFmt, tDNew, rCount, rIndex, tCont, tBreak, Int.reduceToNat, Int.reducePow]
      refine ⟨_, rfl, phi l, rfl, ⟨pb.1, by omega⟩, fun m p H2 hm S2 hp => ?_⟩
      refine ⟨p, rfl, ⟨_, SqL.of hp⟩, for_list (xs := prV m) (fun j σ H3 => H3 = H2 ∧ ∃ o v, σ = [some (.int a), some (.int n), some (.int o), v] ∧ OrdInv a n (phi l) o (m.take j)) ⟨rfl, phi l, none, rfl, ?_⟩ (fun _ _ _ _ h => by rw [h.1]; exact SqL.of hp) ?_ ?_⟩
      · exact ord_start hl hg
      · rintro j x σ H3 hx ⟨rfl, o, v, rfl, I⟩
        unfold prV at hx
        rw [List.getElem?_map] at hx
        obtain ⟨q, hq⟩ : ∃ q, m[j]? = some q := by
          cases e : m[j]? with
          | none => rw [e] at hx; cases hx
          | some q => exact ⟨q, rfl⟩
        rw [hq] at hx
        cases hx
        have hmem : q ∈ m := List.mem_of_getElem? hq
        have hpr := hm.1.pr q hmem
        have q2 := hpr.1.1
        have qle := (parts_le hm hmem).1
        have ole : ∀ o, OrdInv a n (phi l) o (m.take j) → o ≤ phi l := fun o J => Int.le_of_dvd (by omega) J.dvd
        simp only [tSeq, tIfS, tTest, tRet, tRetN, tNext, tDrop, tAsg, tPar, tPar3, tAug, tVar, tC, tOp, tUn, rI, rI0, rU, tB, tAnd, tOr, tNot, tAndV, tOrV, tNotV, tIf, gName, gNil, gCons, gTup, gSub, tCB, tCons, tNil, tCall, tChain, ipI, tIsN, tNotN, tBM, tyV, tTup, tLst, rAppend, rCat, scal_ii, scal_bb, scal_ss, scal_ni, scal_in, rEq, rNe, List.getElem?_cons_zero, List.getElem?_cons_succ, List.set_cons_zero, List.set_cons_succ, eq_self, and_assoc, Option.some.injEq, V.int.injEq, V.bl.injEq, V.ref.injEq, V.str.injEq, List.cons.injEq, exists_eq_left', exists_eq_left, exists_and_left, List.nil_append, List.cons_append, List.append_nil, true_and, and_true, decide_eq_true_eq, Bool.not_eq_true', decide_eq_false_iff_not, if_true, if_false, Bool.not_true, Bool.not_false, Bool.false_eq_true, reduceCtorEq, decide_true, decide_false, ite_true, ite_false, rSetL, rIxL, tRaise, jCons, jNil, tFmt, tDNew, rCount, rIndex, tCont, tBreak, Int.reduceToNat, Int.reducePow]
        obtain ⟨W, hW⟩ : ∃ W : Nat → St → Hp → Prop, ∀ k σ H4, W k σ H4 ↔ ∃ o, k = o.toNat ∧ σ = [some (.int a), some (.int n), some (.int o), some (.int q.1)] ∧ OrdInv a n (phi l) o (m.take j) ∧ H4 = H3 := ⟨_, fun _ _ _ => Iff.rfl⟩
        refine ⟨W, ⟨_, (hW _ _ _).mpr ⟨o, rfl, rfl, I, rfl⟩⟩, ?_⟩
        intro k σ H4 hw
        obtain ⟨o, rfl, rfl, J, rfl⟩ := (hW _ _ _).mp hw
        clear hw
        have ob := ole o J
        have op := J.pos
        simp only [tSeq, tIfS, tTest, tRet, tRetN, tNext, tDrop, tAsg, tPar, tPar3, tAug, tVar, tC, tOp, tUn, rI, rI0, rU, tB, tAnd, tOr, tNot, tAndV, tOrV, tNotV, tIf, gName, gNil, gCons, gTup, gSub, tCB, tCons, tNil, tCall, tChain, ipI, tIsN, tNotN, tBM, tyV, tTup, tLst, rAppend, rCat, scal_ii, scal_bb, scal_ss, scal_ni, scal_in, rEq, rNe, List.getElem?_cons_zero, List.getElem?_cons_succ, List.set_cons_zero, List.set_cons_succ, eq_self, and_assoc, Option.some.injEq, V.int.injEq, V.bl.injEq, V.ref.injEq, V.str.injEq, List.cons.injEq, exists_eq_left', exists_eq_left, exists_and_left, List.nil_append, List.cons_append, List.append_nil, true_and, and_true, decide_eq_true_eq, Bool.not_eq_true', decide_eq_false_iff_not, if_true, if_false, Bool.not_true, Bool.not_false, Bool.false_eq_true, reduceCtorEq, decide_true, decide_false, ite_true, ite_false, rSetL, rIxL, tRaise, jCons, jNil, tFmt, tDNew, rCount, rIndex, tCont, tBreak, Int.reduceToNat, Int.reducePow]
        refine ⟨by omega, ?_⟩
        refine ite2 (fun hd => ?_) (fun hd => ?_)
        · have dv := div_pos op q2 hd
          refine ⟨⟨by omega, by omega⟩, a, _, n, rfl, ⟨by omega, by omega, by omega, by omega⟩, by omega, rfl, ?_⟩
          simp only [V.int.injEq]
          refine ite2 (fun hc => ?_) (fun hc => ?_)
          · refine ⟨fun σ' H2 => ∃ m', m' < o.toNat ∧ W m' σ' H2, fun _ _ h => h, ?_⟩
            obtain ⟨J2, lt⟩ := ord_turn (fun x hx => (hm.1.pr x (List.mem_of_mem_take hx)).1.1) J q2 hd (cg_one.mp hc)
            exact ⟨⟨by omega, by omega⟩, _, by omega, (hW _ _ _).mpr ⟨_, rfl, rfl, J2, rfl⟩⟩
          · refine ⟨trivial, ?_⟩
            rw [List.take_succ, hq]
            exact ord_next J fun z => hc (cg_one.mpr z.2)
        · rw [List.take_succ, hq]
          exact ord_next J fun z => hd z.1
      · rintro σ H3 ⟨rfl, o, v, rfl, I⟩
        simp only [tSeq, tIfS, tTest, tRet, tRetN, tNext, tDrop, tAsg, tPar, tPar3, tAug, tVar, tC, tOp, tUn, rI, rI0, rU, tB, tAnd, tOr, tNot, tAndV, tOrV, tNotV, tIf, gName, gNil, gCons, gTup, gSub, tCB, tCons, tNil, tCall, tChain, ipI, tIsN, tNotN, tBM, tyV, tTup, tLst, rAppend, rCat, scal_ii, scal_bb, scal_ss, scal_ni, scal_in, rEq, rNe, List.getElem?_cons_zero, List.getElem?_cons_succ, List.set_cons_zero, List.set_cons_succ, eq_self, and_assoc, Option.some.injEq, V.int.injEq, V.bl.injEq, V.ref.injEq, V.str.injEq, List.cons.injEq, exists_eq_left', exists_eq_left, exists_and_left, List.nil_append, List.cons_append, List.append_nil, true_and, and_true, decide_eq_true_eq, Bool.not_eq_true', decide_eq_false_iff_not, if_true, if_false, Bool.not_true, Bool.not_false, Bool.false_eq_true, reduceCtorEq, decide_true, decide_false, ite_true, ite_false, rSetL, rIxL, tRaise, jCons, jNil, tFmt, tDNew, rCount, rIndex, tCont, tBreak, Int.reduceToNat, Int.reducePow]
        have e : (prV m).length = m.length := by unfold prV; rw [List.length_map]
        rw [e, List.take_length] at I
        have := Int.le_of_dvd (by omega) I.dvd
        exact k2 hg o H3 (ord_end hm I) (by omega) (fun b u z => S2 b u (S1 b u z))
noncomputable abbrev O_order_of (P : Program) (w : World) (K : PySem.W.Frag) (mg : Str → Option Value) (base : Heap) : Prop := ∃ f fd, Df_order_of K mg f fd ∧ FnOk P w K mg base CX0 7 f fd ["number", "n"] (spOrder)
end
end PP
set_option Elab.async false
set_option linter.all false
set_option maxRecDepth 100000
set_option maxHeartbeats 4000000
namespace PP
open PySem L2 MM
section
variable {P : Program} {w : World} {K : PySem.W.Frag} {mg : Str → Option Value} {base : Heap} {t1 t2 t3 t4 : Tok} {f : Addr} {fd : FuncData}
noncomputable abbrev s_want_counted : Stmt := top 28
theorem sc_want_counted : FnScope ["n"] ["n"] (defScope s_want_counted) := ⟨rfl, rfl, rfl, by decide +kernel, rfl, by decide +kernel, by decide +kernel⟩
noncomputable abbrev Df_want_counted (K : PySem.W.Frag) (mg : Str → Option Value) (f : Addr) (fd : FuncData) : Prop := Def K mg "want_counted" s_want_counted ["n"] f fd
noncomputable def spCounted : Sp := fun vs H Q _ => ∃ (n : Int), vs = [.int n] ∧ (3 ≤ n ∧ n ≤ 1000000000 ∧ n % 2 = 1) ∧ Q .non H
theorem ok_want_counted (D : Df_want_counted K mg f fd) (T : Txt K mg t1 t2 t3 t4) (o1 : O_want_odd P w K mg base) : FnOk P w K mg base CX0 4 f fd ["n"] spCounted := by
  obtain ⟨_, _, D_want_odd, G_want_odd⟩ := o1
  refine D.fn.ok sc_want_counted (fun vs H Q E h => ?_) (fun cdv A outer s H vs Q E hr h => ?_)
  · obtain ⟨n, rfl, _⟩ := h
    rfl
  · obtain ⟨n, rfl, hb, k⟩ := h
    refine ⟨_, (pss_one (ps_expr (pe_call (G_want_odd.mono (by decide)) hr rfl D_want_odd.mgx D_want_odd.fn.kp D_want_odd.bd .nil pass0 (pa_cons (pv 0) (pa_cons pe_int (pa_cons (pe_glob (v := .int _) rfl T.mg_MOST_TRIED ⟨_, rfl⟩) (pa_cons pe_str pa_nil))))))), ?_⟩
    have e0 : L2.start ["n"] [.int n] = [some (.int n)] := rfl
    rw [e0]; clear e0
    simp only [tSeq, tIfS, tTest, tRet, tRetN, tNext, tDrop, tAsg, tPar, tPar3, tAug, tVar, tC, tOp, tUn, rI, rI0, rU, tB, tAnd, tOr, tNot, tAndV, tOrV, tNotV, tIf, gName, gNil, gCons, gTup, gSub, tCB, tCons, tNil, tCall, tChain, ipI, tIsN, tNotN, tBM, tyV, tTup, tLst, rAppend, rCat, scal_ii, scal_bb, scal_ss, scal_ni, scal_in, rEq, rNe, List.getElem?_cons_zero, List.getElem?_cons_succ, List.set_cons_zero, List.set_cons_succ, eq_self, and_assoc, Option.some.injEq, V.int.injEq, V.bl.injEq, V.ref.injEq, V.str.injEq, List.cons.injEq, exists_eq_left', exists_eq_left, exists_and_left, List.nil_append, List.cons_append, List.append_nil, true_and, and_true, decide_eq_true_eq, Bool.not_eq_true', decide_eq_false_iff_not, if_true, if_false, Bool.not_true, Bool.not_false, Bool.false_eq_true, reduceCtorEq, decide_true, decide_false, ite_true, ite_false, rSetL, rIxL, tRaise, jCons, jNil, tFmt, tDNew, rCount, rIndex, tCont, tBreak, Int.reduceToNat, Int.reducePow]
    exact ⟨n, _, _, _, rfl, ⟨hb.1, hb.2.1, hb.2.2⟩, k⟩
noncomputable abbrev O_want_counted (P : Program) (w : World) (K : PySem.W.Frag) (mg : Str → Option Value) (base : Heap) : Prop := ∃ f fd, Df_want_counted K mg f fd ∧ FnOk P w K mg base CX0 4 f fd ["n"] (spCounted)
theorem parts_ne {n : Int} {l : List (Int × Int)} (h : Parts n l) (h3 : 3 ≤ n) : l ≠ [] := fun z => by
  have := h.2
  rw [z] at this
  simp only [prod] at this
  omega
theorem prV_get {l : List (Int × Int)} {j : Nat} {x : V} (hx : (prV l)[j]? = some x) : ∃ q, l[j]? = some q ∧ x = .int q.1 := by
  unfold prV at hx
  rw [List.getElem?_map] at hx
  cases e : l[j]? with
  | none => rw [e] at hx; cases hx
  | some q => rw [e] at hx; cases hx; exact ⟨q, rfl, rfl⟩
noncomputable abbrev s_many_by_powers : Stmt := top 24
theorem sc_many_by_powers : FnScope ["n", "many", "prime"] ["n"] (defScope s_many_by_powers) := ⟨rfl, rfl, rfl, by decide +kernel, rfl, by decide +kernel, by decide +kernel⟩
noncomputable abbrev Df_many_by_powers (K : PySem.W.Frag) (mg : Str → Option Value) (f : Addr) (fd : FuncData) : Prop := Def K mg "many_by_powers" s_many_by_powers ["n"] f fd
noncomputable def spMP : Sp := fun vs H Q _ => ∃ (n : Int), vs = [.int n] ∧ (3 ≤ n ∧ n ≤ 1000000000 ∧ n % 2 = 1) ∧ ∀ l H', Parts n l → Same H H' → Q (.int (mpow n l)) H'
theorem ok_many_by_powers (D : Df_many_by_powers K mg f fd) (T : Txt K mg t1 t2 t3 t4) (o1 : O_want_counted P w K mg base) (o2 : O_primes_of P w K mg base) (o3 : O_greatest_in_both P w K mg base) : FnOk P w K mg base CX0 7 f fd ["n"] spMP := by
  obtain ⟨_, _, D_want_counted, G_want_counted⟩ := o1
  obtain ⟨_, _, D_primes_of, G_primes_of⟩ := o2
  obtain ⟨_, _, D_greatest_in_both, G_greatest_in_both⟩ := o3
  refine D.fn.ok sc_many_by_powers (fun vs H Q E h => ?_) (fun cdv A outer s H vs Q E hr h => ?_)
  · obtain ⟨n, rfl, _⟩ := h
    rfl
  · obtain ⟨n, rfl, ⟨h1, h2, h3⟩, k⟩ := h
    refine ⟨_, (pss_cons (ps_expr (pe_call (G_want_counted.mono (by decide)) hr rfl D_want_counted.mgx D_want_counted.fn.kp D_want_counted.bd .nil pass0 (pa_cons (pv 0) pa_nil)))
 (pss_cons (ps_set (i := 1) sc_many_by_powers.nd rfl (by first | exact Or.inl rfl | exact Or.inr rfl) pe_int)
 (pss_cons (ps_for PassesOwn.never rfl (pi_list (pe_call (G_primes_of.mono (by decide)) hr rfl D_primes_of.mgx D_primes_of.fn.kp D_primes_of.bd .nil pass0 (pa_cons (pv 0) pa_nil))) (pg_name (i := 2) sc_many_by_powers.nd rfl (by first | exact Or.inl rfl | exact Or.inr rfl))
 (pss_one (ps_set (i := 1) sc_many_by_powers.nd rfl (by first | exact Or.inl rfl | exact Or.inr rfl) (pe_op op_mulB (pv 1) (pe_call (G_greatest_in_both.mono (by decide)) hr rfl D_greatest_in_both.mgx D_greatest_in_both.fn.kp D_greatest_in_both.bd .nil pass0 (pa_cons (pe_op op_sub (pv 0) pe_int) (pa_cons (pe_op op_sub (pv 2) pe_int) pa_nil)))))))
 (pss_one (ps_ret (pv 1)))))), ?_⟩
    have e0 : L2.start ["n", "many", "prime"] [.int n] = [some (.int n), none, none] := rfl
    rw [e0]; clear e0
    try simp only [tSeq, tIfS, tTest, tRet, tRetN, tNext, tDrop, tAsg, tPar, tPar3, tAug, tVar, tC, tOp, tUn, rI, rI0, rU, tB, tAnd, tOr, tNot, tAndV, tOrV, tNotV, tIf, gName, gNil, gCons, gTup, gSub, tCB, tCons, tNil, tCall, tChain, ipI, tIsN, tNotN, tBM, tyV, tTup, tLst, rAppend, rCat, scal_ii, scal_bb, scal_ss, scal_ni, scal_in, rEq, rNe, List.getElem?_cons_zero, List.getElem?_cons_succ, List.set_cons_zero, List.set_cons_succ, eq_self, and_assoc, Option.some.injEq, V.int.injEq, V.bl.injEq, V.ref.injEq, V.str.injEq, List.cons.injEq, exists_eq_left', exists_eq_left, exists_and_left, List.nil_append, List.cons_append, List.append_nil, true_and, and_true, decide_eq_true_eq, Bool.not_eq_true', decide_eq_false_iff_not, if_true, if_false, Bool.not_true, Bool.not_false, Bool.false_eq_true, reduceCtorEq, decide_true, decide_false, ite_true, ite_false, rSetL, rIxL, tRaise, jCons, jNil, tFmt, tDNew, rCount, rIndex, tCont, tBreak, Int.reduceToNat, Int.reducePow]
    refine ⟨n, rfl, ⟨h1, h2, h3⟩, _, rfl, n, rfl, ⟨pos1 h1, h2⟩, fun l p H2 hl S2 hp => ?_⟩
    refine ⟨p, rfl, ⟨_, SqL.of hp⟩, for_list (xs := prV l) (fun j σ H3 => H3 = H2 ∧ ∃ v, σ = [some (.int n), some (.int (pr1 (gp n) (l.take j))), v]) ⟨rfl, none, rfl⟩ (fun _ _ _ _ h => by rw [h.1]; exact SqL.of hp) ?_ ?_⟩
    · rintro j x σ H3 hx ⟨rfl, v, rfl⟩
      obtain ⟨q, hq, rfl⟩ := prV_get hx
      have hmem : q ∈ l := List.mem_of_getElem? hq
      have q2 := (hl.1.pr q hmem).1.1
      have qle := prime_le hl hmem
      try simp only [tSeq, tIfS, tTest, tRet, tRetN, tNext, tDrop, tAsg, tPar, tPar3, tAug, tVar, tC, tOp, tUn, rI, rI0, rU, tB, tAnd, tOr, tNot, tAndV, tOrV, tNotV, tIf, gName, gNil, gCons, gTup, gSub, tCB, tCons, tNil, tCall, tChain, ipI, tIsN, tNotN, tBM, tyV, tTup, tLst, rAppend, rCat, scal_ii, scal_bb, scal_ss, scal_ni, scal_in, rEq, rNe, List.getElem?_cons_zero, List.getElem?_cons_succ, List.set_cons_zero, List.set_cons_succ, eq_self, and_assoc, Option.some.injEq, V.int.injEq, V.bl.injEq, V.ref.injEq, V.str.injEq, List.cons.injEq, exists_eq_left', exists_eq_left, exists_and_left, List.nil_append, List.cons_append, List.append_nil, true_and, and_true, decide_eq_true_eq, Bool.not_eq_true', decide_eq_false_iff_not, if_true, if_false, Bool.not_true, Bool.not_false, Bool.false_eq_true, reduceCtorEq, decide_true, decide_false, ite_true, ite_false, rSetL, rIxL, tRaise, jCons, jNil, tFmt, tDNew, rCount, rIndex, tCont, tBreak, Int.reduceToNat, Int.reducePow]
      refine ⟨_, _, rfl, ⟨nbL (pos1 h1) h2, nbL (pos2 q2) (Int.le_trans qle h2)⟩, ?_⟩
      refine ⟨_, rfl, .inr ⟨nbN (gp_take hl j) h2, nbN (gp_in (m := n) q2 qle) h2⟩, rfl, ?_, _, rfl⟩
      rw [pr1_take hq]
      rfl
    · rintro σ H3 ⟨rfl, v, rfl⟩
      try simp only [tSeq, tIfS, tTest, tRet, tRetN, tNext, tDrop, tAsg, tPar, tPar3, tAug, tVar, tC, tOp, tUn, rI, rI0, rU, tB, tAnd, tOr, tNot, tAndV, tOrV, tNotV, tIf, gName, gNil, gCons, gTup, gSub, tCB, tCons, tNil, tCall, tChain, ipI, tIsN, tNotN, tBM, tyV, tTup, tLst, rAppend, rCat, scal_ii, scal_bb, scal_ss, scal_ni, scal_in, rEq, rNe, List.getElem?_cons_zero, List.getElem?_cons_succ, List.set_cons_zero, List.set_cons_succ, eq_self, and_assoc, Option.some.injEq, V.int.injEq, V.bl.injEq, V.ref.injEq, V.str.injEq, List.cons.injEq, exists_eq_left', exists_eq_left, exists_and_left, List.nil_append, List.cons_append, List.append_nil, true_and, and_true, decide_eq_true_eq, Bool.not_eq_true', decide_eq_false_iff_not, if_true, if_false, Bool.not_true, Bool.not_false, Bool.false_eq_true, reduceCtorEq, decide_true, decide_false, ite_true, ite_false, rSetL, rIxL, tRaise, jCons, jNil, tFmt, tDNew, rCount, rIndex, tCont, tBreak, Int.reduceToNat, Int.reducePow]
      have e : (prV l).length = l.length := by unfold prV; rw [List.length_map]
      rw [e, List.take_length]
      exact k l H3 hl S2
noncomputable abbrev O_many_by_powers (P : Program) (w : World) (K : PySem.W.Frag) (mg : Str → Option Value) (base : Heap) : Prop := ∃ f fd, Df_many_by_powers K mg f fd ∧ FnOk P w K mg base CX0 7 f fd ["n"] (spMP)
noncomputable abbrev OB_halved (P : Program) (w : World) (K : PySem.W.Frag) (mg : Str → Option Value) : Prop := ∃ f fd, Df_halved K mg f fd ∧ ∀ b, FnOk P w K mg b CX0 1 f fd ["number"] spHalved
noncomputable def hvL (l : List (Int × Int)) : List (Int × Int) := l.map fun q => (op (q.1 - 1), (tw (q.1 - 1) : Int))
theorem hvL_succ {l : List (Int × Int)} {i : Nat} {q : Int × Int} (h : l[i]? = some q) : hvL (l.take (i + 1)) = hvL (l.take i) ++ [(op (q.1 - 1), (tw (q.1 - 1) : Int))] := by
  unfold hvL
  rw [List.take_succ, h, List.map_append]; rfl
theorem hvL_get {l : List (Int × Int)} {j : Nat} {q : Int × Int} (h : (hvL l)[j]? = some q) : ∃ r, l[j]? = some r ∧ q = (op (r.1 - 1), (tw (r.1 - 1) : Int)) := by
  unfold hvL at h
  rw [List.getElem?_map] at h
  cases e : l[j]? with
  | none => rw [e] at h; cases h
  | some r => rw [e] at h; cases h; exact ⟨r, rfl, rfl⟩
theorem mn_of {l : List (Int × Int)} {ns : List Int} (e : ns = (hvL l).map (·.2)) {m : Int} (h1 : m ∈ ns) (h2 : ∀ a ∈ ns, m ≤ a) : ∃ k : Nat, m = k ∧ IsMn l k := by
  subst e
  unfold hvL at h1 h2
  rw [List.map_map] at h1 h2
  obtain ⟨q, hq, rfl⟩ := List.mem_map.mp h1
  refine ⟨tw (q.1 - 1), rfl, ⟨q, hq, rfl⟩, fun r hr => ?_⟩
  have := h2 _ (List.mem_map.mpr ⟨r, hr, rfl⟩)
  have e : ((tw (q.1 - 1) : Nat) : Int) ≤ (tw (r.1 - 1) : Nat) := this
  omega
noncomputable abbrev s_many_by_halves : Stmt := top 25
theorem sc_many_by_halves : FnScope ["n", "odd", "halves", "ones", "more", "odd_of_prime", "often", "many", "found", "step"] ["n"] (defScope s_many_by_halves) := ⟨rfl, rfl, rfl, by decide +kernel, rfl, by decide +kernel, by decide +kernel⟩
noncomputable abbrev Df_many_by_halves (K : PySem.W.Frag) (mg : Str → Option Value) (f : Addr) (fd : FuncData) : Prop := Def K mg "many_by_halves" s_many_by_halves ["n"] f fd
noncomputable def spMH : Sp := fun vs H Q _ => ∃ (n : Int), vs = [.int n] ∧ (3 ≤ n ∧ n ≤ 1000000000 ∧ n % 2 = 1) ∧ ∀ l k H', Parts n l → IsMn l k → Same H H' → Q (.int (mhal n l k)) H'
theorem ok_many_by_halves (D : Df_many_by_halves K mg f fd) (T : Txt K mg t1 t2 t3 t4) (o1 : O_want_counted P w K mg base) (o2 : O_primes_of P w K mg base) (o3 : O_greatest_in_both P w K mg base) (o4 : OB_halved P w K mg) : FnOk P w K mg base CX0 7 f fd ["n"] spMH := by
  obtain ⟨_, _, D_want_counted, G_want_counted⟩ := o1
  obtain ⟨_, _, D_primes_of, G_primes_of⟩ := o2
  obtain ⟨_, _, D_greatest_in_both, G_greatest_in_both⟩ := o3
  obtain ⟨_, _, D_halved, B_halved⟩ := o4
  have G_halved := B_halved base
  refine D.fn.ok sc_many_by_halves (fun vs H Q E h => ?_) (fun cdv A outer s H vs Q E hr h => ?_)
  · obtain ⟨n, rfl, _⟩ := h
    rfl
  · obtain ⟨n, rfl, ⟨h1, h2, h3⟩, k⟩ := h
    refine ⟨_, (pss_cons (ps_expr (pe_call (G_want_counted.mono (by decide)) hr rfl D_want_counted.mgx D_want_counted.fn.kp D_want_counted.bd .nil pass0 (pa_cons (pv 0) pa_nil)))
 (pss_cons (ps_set (i := 1) sc_many_by_halves.nd rfl (by first | exact Or.inl rfl | exact Or.inr rfl) (pe_ix ix_tup (pe_call (G_halved.mono (by decide)) hr rfl D_halved.mgx D_halved.fn.kp D_halved.bd .nil pass0 (pa_cons (pe_op op_sub (pv 0) pe_int) pa_nil)) pe_int (fun _ _ => rfl)))
 (pss_cons (ps_setD (iv := 2) sc_many_by_halves.nd rfl (by first | exact Or.inl rfl | exact Or.inr rfl) (N := ["prime"]) (js := [none]) (by rfl) rfl (fun _ => rfl) (pi_list (pe_call (G_primes_of.mono (by decide)) hr rfl D_primes_of.mgx D_primes_of.fn.kp D_primes_of.bd .nil pass0 (pa_cons (pv 0) pa_nil))) (by intro b _ _ _ _; exact (pg_name (i := 0) (show List.Nodup (["prime"] : List Str) by decide) rfl (by first | exact Or.inl rfl | exact Or.inr rfl))) (by intro b _ _ _ _; exact pifs_nil) (by intro b _ _ _ _; exact (pe_call ((B_halved b).mono (by decide)) hr rfl D_halved.mgx D_halved.fn.kp D_halved.bd .nil pass0 (pa_cons (pe_op op_sub (pv 0) pe_int) pa_nil))))
 (pss_cons (ps_set (i := 3) sc_many_by_halves.nd rfl (by first | exact Or.inl rfl | exact Or.inr rfl) pe_int)
 (pss_cons (ps_set (i := 4) sc_many_by_halves.nd rfl (by first | exact Or.inl rfl | exact Or.inr rfl) pe_int)
 (pss_cons (ps_for PassesOwn.never rfl (pi_list (pv 2)) (pg_tup rfl (pgs_cons (pg_name (i := 5) sc_many_by_halves.nd rfl (by first | exact Or.inl rfl | exact Or.inr rfl)) (pgs_cons (pg_name (i := 6) sc_many_by_halves.nd rfl (by first | exact Or.inl rfl | exact Or.inr rfl)) pgs_nil)))
 (pss_cons (ps_set (i := 3) sc_many_by_halves.nd rfl (by first | exact Or.inl rfl | exact Or.inr rfl) (pe_op op_mulB (pv 3) (pe_call (G_greatest_in_both.mono (by decide)) hr rfl D_greatest_in_both.mgx D_greatest_in_both.fn.kp D_greatest_in_both.bd .nil pass0 (pa_cons (pv 1) (pa_cons (pv 5) pa_nil)))))
 (pss_one (ps_set (i := 4) sc_many_by_halves.nd rfl (by first | exact Or.inl rfl | exact Or.inr rfl) (pe_op op_mulB (pv 4) pe_int)))))
 (pss_cons (ps_set (i := 7) sc_many_by_halves.nd rfl (by first | exact Or.inl rfl | exact Or.inr rfl) (pv 3))
 (pss_cons (ps_set (i := 8) sc_many_by_halves.nd rfl (by first | exact Or.inl rfl | exact Or.inr rfl) (pv 3))
 (pss_cons (ps_for PassesOwn.never rfl (pi_range1 rfl T.no_range (pa_cons (pe_callB (call_minL rfl) (by rfl) T.no_min PyProof.Rows.boot_min (pa_cons (pe_compD (N := ["odd_of_prime", "often"]) (js := [none, none]) (by rfl) rfl (fun _ => rfl) (pi_list (pv 2)) (by intro b _ _ _ _; exact (pg_tupK (K := K) (n := 2) rfl rfl (pgs_cons (pg_name (i := 0) (show List.Nodup (["odd_of_prime", "often"] : List Str) by decide) rfl (by first | exact Or.inl rfl | exact Or.inr rfl)) (pgs_cons (pg_name (i := 1) (show List.Nodup (["odd_of_prime", "often"] : List Str) by decide) rfl (by first | exact Or.inl rfl | exact Or.inr rfl)) pgs_nil)))) (by intro b _ _ _ _; exact pifs_nil) (by intro b _ _ _ _; exact (pv 1))) pa_nil)) pa_nil)) (pg_name (i := 9) sc_many_by_halves.nd rfl (by first | exact Or.inl rfl | exact Or.inr rfl))
 (pss_cons (ps_aug (i := 7) sc_many_by_halves.nd rfl (Or.inl rfl) (pv 8) ip_add)
 (pss_one (ps_set (i := 8) sc_many_by_halves.nd rfl (by first | exact Or.inl rfl | exact Or.inr rfl) (pe_op op_mulB (pv 8) (pv 4))))))
 (pss_one (ps_ret (pv 7)))))))))))), ?_⟩
    have e0 : L2.start ["n", "odd", "halves", "ones", "more", "odd_of_prime", "often", "many", "found", "step"] [.int n] = [some (.int n), none, none, none, none, none, none, none, none, none] := rfl
    rw [e0]; clear e0
    try simp only [tSeq, tIfS, tTest, tRet, tRetN, tNext, tDrop, tAsg, tPar, tPar3, tAug, tVar, tC, tOp, tUn, rI, rI0, rU, tB, tAnd, tOr, tNot, tAndV, tOrV, tNotV, tIf, gName, gNil, gCons, gTup, gSub, tCB, tCons, tNil, tCall, tChain, ipI, tIsN, tNotN, tBM, tyV, tTup, tLst, rAppend, rCat, scal_ii, scal_bb, scal_ss, scal_ni, scal_in, rEq, rNe, List.getElem?_cons_zero, List.getElem?_cons_succ, List.set_cons_zero, List.set_cons_succ, eq_self, and_assoc, Option.some.injEq, V.int.injEq, V.bl.injEq, V.ref.injEq, V.str.injEq, List.cons.injEq, exists_eq_left', exists_eq_left, exists_and_left, List.nil_append, List.cons_append, List.append_nil, true_and, and_true, decide_eq_true_eq, Bool.not_eq_true', decide_eq_false_iff_not, if_true, if_false, Bool.not_true, Bool.not_false, Bool.false_eq_true, reduceCtorEq, decide_true, decide_false, ite_true, ite_false, rSetL, rIxL, tRaise, jCons, jNil, tFmt, tDNew, rCount, rIndex, tCont, tBreak, Int.reduceToNat, Int.reducePow]
    refine ⟨n, rfl, ⟨h1, h2, h3⟩, _, rfl, posl h1, fun p0 hp0 => ?_⟩
    have s0 : Same H (upd H p0 (.tup [.int (op (n - 1)), .int (tw (n - 1))])) := fun b o e => by rw [upd_ne (ne_of_none e hp0)]; exact e
    have e0 : (upd H p0 (.tup [.int (op (n - 1)), .int (tw (n - 1))])) p0 = _ := upd_same
    generalize upd H p0 (.tup [.int (op (n - 1)), .int (tw (n - 1))]) = H1 at s0 e0 ⊢
    refine ⟨p0, _, _, _, rfl, rfl, SqT.of e0, rfl, ?_⟩
    refine tCompC_of ?_
    refine ⟨_, rfl, n, rfl, ⟨pos1 h1, h2⟩, fun l p H2 hl S2 hp => ⟨p, rfl, ⟨_, SqL.of hp⟩, fun b D hc hD => ?_⟩⟩
    have hlen : l.length < 30 := parts_len hl.1.pr (by rw [hl.2]; exact h2)
    have elen : (prV l).length = l.length := by unfold prV; rw [List.length_map]
    obtain ⟨Pv, hPv⟩ : ∃ Pv : Nat → St → Hp → Prop, ∀ i σ H3, Pv i σ H3 ↔ (∃ v1, σ = [v1]) ∧ Same H2 H3 ∧ ∃ xs, H3 D = some (.lst xs) ∧ RepL K H3 ((hvL (l.take i)).map pD) xs := ⟨_, fun _ _ _ => Iff.rfl⟩
    refine comp_list (xs := prV l) Pv ((hPv _ _ _).mpr ⟨⟨_, rfl⟩, fun b o e => by rw [upd_ne (ne_of_none e hD)]; exact e, [], upd_same, rfl⟩) (fun i σ H3 hi h => ?_) ?_ ?_
    · exact SqL.of (((hPv _ _ _).mp h).2.1 _ _ hp)
    · intro i x σ H3 hx h
      obtain ⟨⟨v1, rfl⟩, S3, xs, hl3, R⟩ := (hPv _ _ _).mp h
      obtain ⟨q, hq, rfl⟩ := prV_get hx
      have q2 := (hl.1.pr q (List.mem_of_getElem? hq)).1.1
      simp only [tSeq, tIfS, tTest, tRet, tRetN, tNext, tDrop, tAsg, tPar, tPar3, tAug, tVar, tC, tOp, tUn, rI, rI0, rU, tB, tAnd, tOr, tNot, tAndV, tOrV, tNotV, tIf, gName, gNil, gCons, gTup, gSub, tCB, tCons, tNil, tCall, tChain, ipI, tIsN, tNotN, tBM, tyV, tTup, tLst, rAppend, rCat, scal_ii, scal_bb, scal_ss, scal_ni, scal_in, rEq, rNe, List.getElem?_cons_zero, List.getElem?_cons_succ, List.set_cons_zero, List.set_cons_succ, eq_self, and_assoc, Option.some.injEq, V.int.injEq, V.bl.injEq, V.ref.injEq, V.str.injEq, List.cons.injEq, exists_eq_left', exists_eq_left, exists_and_left, List.nil_append, List.cons_append, List.append_nil, true_and, and_true, decide_eq_true_eq, Bool.not_eq_true', decide_eq_false_iff_not, if_true, if_false, Bool.not_true, Bool.not_false, Bool.false_eq_true, reduceCtorEq, decide_true, decide_false, ite_true, ite_false, rSetL, rIxL, tRaise, jCons, jNil, tFmt, tDNew, rCount, rIndex, tCont, tBreak, Int.reduceToNat, Int.reducePow, CT, tYes]
      refine ⟨_, rfl, pos2l q2, fun a ha => ?_⟩
      have nDa : D ≠ a := ne_of_none hl3 ha
      have elx := R.length
      rw [List.length_map] at elx
      refine ⟨_, by rw [upd_ne nDa]; exact hl3, small1000 ?_, (hPv _ _ _).mpr ⟨⟨_, rfl⟩, fun b u e => ?_, _, upd_same, ?_⟩⟩
      · unfold hvL at elx
        rw [List.length_map, List.length_take] at elx
        omega
      · have e1 : b ≠ D := ne_of_none e hD
        have e2 : b ≠ a := ne_of_none (S3 b u e) ha
        rw [upd_ne e1, upd_ne e2]
        exact S3 b u e
      · have tk : TK H3 (upd (upd H3 a (.tup [.int (op (q.1 - 1)), .int (tw (q.1 - 1))])) D (.lst (xs ++ [.ref a]))) := (TK.new ha).trans (TK.lst (xs := xs) (by rw [upd_ne nDa]; exact hl3))
        rw [hvL_succ hq, List.map_append]
        refine (R.mono tk _ (noLL_pD _)).append ⟨_, [], rfl, rep_pair ?_, rfl⟩
        rw [upd_ne nDa.symm, upd_same]
    · intro σ H3 h
      obtain ⟨⟨v1, rfl⟩, S3, xs, hl3, R⟩ := (hPv _ _ _).mp h
      rw [elen, List.take_length] at R
      have ex : xs.length = l.length := by
        have := R.length
        unfold hvL at this
        rw [List.length_map, List.length_map] at this
        omega
      clear hPv h
      try simp only [tSeq, tIfS, tTest, tRet, tRetN, tNext, tDrop, tAsg, tPar, tPar3, tAug, tVar, tC, tOp, tUn, rI, rI0, rU, tB, tAnd, tOr, tNot, tAndV, tOrV, tNotV, tIf, gName, gNil, gCons, gTup, gSub, tCB, tCons, tNil, tCall, tChain, ipI, tIsN, tNotN, tBM, tyV, tTup, tLst, rAppend, rCat, scal_ii, scal_bb, scal_ss, scal_ni, scal_in, rEq, rNe, List.getElem?_cons_zero, List.getElem?_cons_succ, List.set_cons_zero, List.set_cons_succ, eq_self, and_assoc, Option.some.injEq, V.int.injEq, V.bl.injEq, V.ref.injEq, V.str.injEq, List.cons.injEq, exists_eq_left', exists_eq_left, exists_and_left, List.nil_append, List.cons_append, List.append_nil, true_and, and_true, decide_eq_true_eq, Bool.not_eq_true', decide_eq_false_iff_not, if_true, if_false, Bool.not_true, Bool.not_false, Bool.false_eq_true, reduceCtorEq, decide_true, decide_false, ite_true, ite_false, rSetL, rIxL, tRaise, jCons, jNil, tFmt, tDNew, rCount, rIndex, tCont, tBreak, Int.reduceToNat, Int.reducePow]
      refine ⟨_, rfl, D, rfl, ⟨_, SqL.of hl3⟩, for_list (xs := xs) (fun j σ H4 => H4 = H3 ∧ j ≤ l.length ∧ ∃ v1 v2, σ = [some (.int n), some (.int (op (n - 1))), some (.ref D), some (.int (pr1 (gh n) (l.take j))), some (.int (2 ^ j)), v1, v2, none, none, none]) ⟨rfl, Nat.zero_le _, none, none, rfl⟩ (fun _ _ _ _ h => by rw [h.1]; exact SqL.of hl3) ?_ ?_⟩
      · rintro j x σ H4 hx ⟨rfl, jl, v1, v2, rfl⟩
        obtain ⟨q', c, hq', rfl, hcc⟩ := repL_pD_get R hx
        obtain ⟨q, hq, rfl⟩ := hvL_get hq'
        have hmem : q ∈ l := List.mem_of_getElem? hq
        have jl2 : j < l.length := (List.getElem?_eq_some_iff.mp hq).1
        have q2 := (hl.1.pr q hmem).1.1
        have qle := prime_le hl hmem
        try simp only [tSeq, tIfS, tTest, tRet, tRetN, tNext, tDrop, tAsg, tPar, tPar3, tAug, tVar, tC, tOp, tUn, rI, rI0, rU, tB, tAnd, tOr, tNot, tAndV, tOrV, tNotV, tIf, gName, gNil, gCons, gTup, gSub, tCB, tCons, tNil, tCall, tChain, ipI, tIsN, tNotN, tBM, tyV, tTup, tLst, rAppend, rCat, scal_ii, scal_bb, scal_ss, scal_ni, scal_in, rEq, rNe, List.getElem?_cons_zero, List.getElem?_cons_succ, List.set_cons_zero, List.set_cons_succ, eq_self, and_assoc, Option.some.injEq, V.int.injEq, V.bl.injEq, V.ref.injEq, V.str.injEq, List.cons.injEq, exists_eq_left', exists_eq_left, exists_and_left, List.nil_append, List.cons_append, List.append_nil, true_and, and_true, decide_eq_true_eq, Bool.not_eq_true', decide_eq_false_iff_not, if_true, if_false, Bool.not_true, Bool.not_false, Bool.false_eq_true, reduceCtorEq, decide_true, decide_false, ite_true, ite_false, rSetL, rIxL, tRaise, jCons, jNil, tFmt, tDNew, rCount, rIndex, tCont, tBreak, Int.reduceToNat, Int.reducePow]
        refine ⟨_, hcc, rfl, ?_⟩
        try simp only [tSeq, tIfS, tTest, tRet, tRetN, tNext, tDrop, tAsg, tPar, tPar3, tAug, tVar, tC, tOp, tUn, rI, rI0, rU, tB, tAnd, tOr, tNot, tAndV, tOrV, tNotV, tIf, gName, gNil, gCons, gTup, gSub, tCB, tCons, tNil, tCall, tChain, ipI, tIsN, tNotN, tBM, tyV, tTup, tLst, rAppend, rCat, scal_ii, scal_bb, scal_ss, scal_ni, scal_in, rEq, rNe, List.getElem?_cons_zero, List.getElem?_cons_succ, List.set_cons_zero, List.set_cons_succ, eq_self, and_assoc, Option.some.injEq, V.int.injEq, V.bl.injEq, V.ref.injEq, V.str.injEq, List.cons.injEq, exists_eq_left', exists_eq_left, exists_and_left, List.nil_append, List.cons_append, List.append_nil, true_and, and_true, decide_eq_true_eq, Bool.not_eq_true', decide_eq_false_iff_not, if_true, if_false, Bool.not_true, Bool.not_false, Bool.false_eq_true, reduceCtorEq, decide_true, decide_false, ite_true, ite_false, rSetL, rIxL, tRaise, jCons, jNil, tFmt, tDNew, rCount, rIndex, tCont, tBreak, Int.reduceToNat, Int.reducePow]
        refine ⟨_, _, rfl, ⟨nbN (op_bnd (Int.le_trans (by decide) h1) (Int.le_refl n)) h2, nbN (op_bnd q2 qle) h2⟩, ?_⟩
        refine ⟨_, rfl, .inr ⟨nbN (gh_take hl j) h2, nbN (gh_in (m := n) q2 qle) h2⟩, ?_⟩
        exact ⟨.inr ⟨nbN (more_bound hl j jl) h2, by decide⟩, rfl, jl2, (pr1_take hq).symm, (Int.pow_succ _ _).symm, _, rfl⟩
      · rintro σ H4 ⟨rfl, jl, v1, v2, rfl⟩
        rw [ex, List.take_length]
        try simp only [tSeq, tIfS, tTest, tRet, tRetN, tNext, tDrop, tAsg, tPar, tPar3, tAug, tVar, tC, tOp, tUn, rI, rI0, rU, tB, tAnd, tOr, tNot, tAndV, tOrV, tNotV, tIf, gName, gNil, gCons, gTup, gSub, tCB, tCons, tNil, tCall, tChain, ipI, tIsN, tNotN, tBM, tyV, tTup, tLst, rAppend, rCat, scal_ii, scal_bb, scal_ss, scal_ni, scal_in, rEq, rNe, List.getElem?_cons_zero, List.getElem?_cons_succ, List.set_cons_zero, List.set_cons_succ, eq_self, and_assoc, Option.some.injEq, V.int.injEq, V.bl.injEq, V.ref.injEq, V.str.injEq, List.cons.injEq, exists_eq_left', exists_eq_left, exists_and_left, List.nil_append, List.cons_append, List.append_nil, true_and, and_true, decide_eq_true_eq, Bool.not_eq_true', decide_eq_false_iff_not, if_true, if_false, Bool.not_true, Bool.not_false, Bool.false_eq_true, reduceCtorEq, decide_true, decide_false, ite_true, ite_false, rSetL, rIxL, tRaise, jCons, jNil, tFmt, tDNew, rCount, rIndex, tCont, tBreak, Int.reduceToNat, Int.reducePow]
        refine tFor_rng ?_
        dsimp only [tCons, tCB, tNil]
        refine tCompC_of ?_
        try simp only [tSeq, tIfS, tTest, tRet, tRetN, tNext, tDrop, tAsg, tPar, tPar3, tAug, tVar, tC, tOp, tUn, rI, rI0, rU, tB, tAnd, tOr, tNot, tAndV, tOrV, tNotV, tIf, gName, gNil, gCons, gTup, gSub, tCB, tCons, tNil, tCall, tChain, ipI, tIsN, tNotN, tBM, tyV, tTup, tLst, rAppend, rCat, scal_ii, scal_bb, scal_ss, scal_ni, scal_in, rEq, rNe, List.getElem?_cons_zero, List.getElem?_cons_succ, List.set_cons_zero, List.set_cons_succ, eq_self, and_assoc, Option.some.injEq, V.int.injEq, V.bl.injEq, V.ref.injEq, V.str.injEq, List.cons.injEq, exists_eq_left', exists_eq_left, exists_and_left, List.nil_append, List.cons_append, List.append_nil, true_and, and_true, decide_eq_true_eq, Bool.not_eq_true', decide_eq_false_iff_not, if_true, if_false, Bool.not_true, Bool.not_false, Bool.false_eq_true, reduceCtorEq, decide_true, decide_false, ite_true, ite_false, rSetL, rIxL, tRaise, jCons, jNil, tFmt, tDNew, rCount, rIndex, tCont, tBreak, Int.reduceToNat, Int.reducePow]
        refine ⟨_, rfl, D, rfl, ⟨_, SqL.of hl3⟩, fun b' D' hc' hD' => ?_⟩
        have nD : D ≠ D' := ne_of_none hl3 hD'
        obtain ⟨Pv2, hPv2⟩ : ∃ Pv : Nat → St → Hp → Prop, ∀ i σ H5, Pv i σ H5 ↔ (∃ v1 v2, σ = [v1, v2]) ∧ H5 = upd H4 D' (.lst (((hvL (l.take i)).map (·.2)).map V.int)) := ⟨_, fun _ _ _ => Iff.rfl⟩
        refine comp_list (xs := xs) Pv2 ((hPv2 _ _ _).mpr ⟨⟨_, _, rfl⟩, rfl⟩) (fun i σ H5 hi h => ?_) ?_ ?_
        · obtain ⟨_, rfl⟩ := (hPv2 _ _ _).mp h
          exact SqL.of (by rw [upd_ne nD]; exact hl3)
        · intro i x σ H5 hx h
          obtain ⟨⟨u1, u2, rfl⟩, rfl⟩ := (hPv2 _ _ _).mp h
          obtain ⟨q', c, hq', rfl, hcc⟩ := repL_pD_get R hx
          obtain ⟨q, hq, rfl⟩ := hvL_get hq'
          have hcc' := (TK.new (o := .lst (((hvL (l.take i)).map (·.2)).map V.int)) hD').sq hcc
          simp only [tSeq, tIfS, tTest, tRet, tRetN, tNext, tDrop, tAsg, tPar, tPar3, tAug, tVar, tC, tOp, tUn, rI, rI0, rU, tB, tAnd, tOr, tNot, tAndV, tOrV, tNotV, tIf, gName, gNil, gCons, gTup, gSub, tCB, tCons, tNil, tCall, tChain, ipI, tIsN, tNotN, tBM, tyV, tTup, tLst, rAppend, rCat, scal_ii, scal_bb, scal_ss, scal_ni, scal_in, rEq, rNe, List.getElem?_cons_zero, List.getElem?_cons_succ, List.set_cons_zero, List.set_cons_succ, eq_self, and_assoc, Option.some.injEq, V.int.injEq, V.bl.injEq, V.ref.injEq, V.str.injEq, List.cons.injEq, exists_eq_left', exists_eq_left, exists_and_left, List.nil_append, List.cons_append, List.append_nil, true_and, and_true, decide_eq_true_eq, Bool.not_eq_true', decide_eq_false_iff_not, if_true, if_false, Bool.not_true, Bool.not_false, Bool.false_eq_true, reduceCtorEq, decide_true, decide_false, ite_true, ite_false, rSetL, rIxL, tRaise, jCons, jNil, tFmt, tDNew, rCount, rIndex, tCont, tBreak, Int.reduceToNat, Int.reducePow, CT, tYes]
          refine ⟨_, hcc', rfl, ?_⟩
          try simp only [tSeq, tIfS, tTest, tRet, tRetN, tNext, tDrop, tAsg, tPar, tPar3, tAug, tVar, tC, tOp, tUn, rI, rI0, rU, tB, tAnd, tOr, tNot, tAndV, tOrV, tNotV, tIf, gName, gNil, gCons, gTup, gSub, tCB, tCons, tNil, tCall, tChain, ipI, tIsN, tNotN, tBM, tyV, tTup, tLst, rAppend, rCat, scal_ii, scal_bb, scal_ss, scal_ni, scal_in, rEq, rNe, List.getElem?_cons_zero, List.getElem?_cons_succ, List.set_cons_zero, List.set_cons_succ, eq_self, and_assoc, Option.some.injEq, V.int.injEq, V.bl.injEq, V.ref.injEq, V.str.injEq, List.cons.injEq, exists_eq_left', exists_eq_left, exists_and_left, List.nil_append, List.cons_append, List.append_nil, true_and, and_true, decide_eq_true_eq, Bool.not_eq_true', decide_eq_false_iff_not, if_true, if_false, Bool.not_true, Bool.not_false, Bool.false_eq_true, reduceCtorEq, decide_true, decide_false, ite_true, ite_false, rSetL, rIxL, tRaise, jCons, jNil, tFmt, tDNew, rCount, rIndex, tCont, tBreak, Int.reduceToNat, Int.reducePow]
          refine ⟨_, upd_same, ?_, (hPv2 _ _ _).mpr ⟨⟨_, _, rfl⟩, ?_⟩⟩
          · refine small1000 ?_
            unfold hvL
            rw [List.length_map, List.length_map, List.length_map, List.length_take]
            omega
          · rw [hvL_succ hq, List.map_append, List.map_append]
            funext c
            by_cases z : c = D'
            · subst z; rw [upd_same, upd_same]; rfl
            · rw [upd_ne z, upd_ne z, upd_ne z]
        · intro σ H5 h
          obtain ⟨⟨u1, u2, rfl⟩, rfl⟩ := (hPv2 _ _ _).mp h
          rw [ex, List.take_length]
          clear hPv2 h
          have lne := parts_ne hl h1
          refine ⟨D', _, rfl, upd_same, ?_, fun m hm1 hm2 => ?_⟩
          · unfold hvL
            rw [List.length_map, List.length_map]
            exact List.length_pos_iff.mpr lne
          · obtain ⟨kk, rfl, mn⟩ := mn_of rfl hm1 hm2
            have k30 := mn_le hl h2 mn
            have S5 : Same H (upd H4 D' (.lst (((hvL l).map (·.2)).map V.int))) := fun b o e => by
              have e1 := S3 b o (S2 b o (s0 b o e))
              rw [upd_ne (ne_of_none e1 hD')]
              exact e1
            generalize upd H4 D' (.lst (((hvL l).map (·.2)).map V.int)) = H5 at S5 ⊢
            refine ⟨_, rfl, (rng_ok k30).1, (rng_ok k30).2, ?_⟩
            have o1 := gh_take (m := n) hl l.length
            rw [List.take_length] at o1
            refine fr_of (n := kk) (fun j σ H6 => H6 = H5 ∧ j ≤ kk ∧ ∃ v3, σ = [some (.int n), some (.int (op (n - 1))), some (.ref D), some (.int (pr1 (gh n) l)), some (.int (2 ^ l.length)), v1, v2, some (.int (hm (pr1 (gh n) l) (2 ^ l.length) j)), some (.int (pr1 (gh n) l * (2 ^ l.length) ^ j)), v3]) ⟨rfl, Nat.zero_le _, none, ?_⟩ ?_ ?_
            · simp [hm]
            · rintro j σ H6 hj ⟨rfl, _, v3, rfl⟩
              try simp only [tSeq, tIfS, tTest, tRet, tRetN, tNext, tDrop, tAsg, tPar, tPar3, tAug, tVar, tC, tOp, tUn, rI, rI0, rU, tB, tAnd, tOr, tNot, tAndV, tOrV, tNotV, tIf, gName, gNil, gCons, gTup, gSub, tCB, tCons, tNil, tCall, tChain, ipI, tIsN, tNotN, tBM, tyV, tTup, tLst, rAppend, rCat, scal_ii, scal_bb, scal_ss, scal_ni, scal_in, rEq, rNe, List.getElem?_cons_zero, List.getElem?_cons_succ, List.set_cons_zero, List.set_cons_succ, eq_self, and_assoc, Option.some.injEq, V.int.injEq, V.bl.injEq, V.ref.injEq, V.str.injEq, List.cons.injEq, exists_eq_left', exists_eq_left, exists_and_left, List.nil_append, List.cons_append, List.append_nil, true_and, and_true, decide_eq_true_eq, Bool.not_eq_true', decide_eq_false_iff_not, if_true, if_false, Bool.not_true, Bool.not_false, Bool.false_eq_true, reduceCtorEq, decide_true, decide_false, ite_true, ite_false, rSetL, rIxL, tRaise, jCons, jNil, tFmt, tDNew, rCount, rIndex, tCont, tBreak, Int.reduceToNat, Int.reducePow]
              exact ⟨.inr ⟨lt99 (nbM o1 (found_bound hl mn (Nat.le_of_lt hj)) h2), nbN (more_bound hl _ (Nat.le_refl _)) h2⟩, hj, rfl, (Int.mul_assoc _ _ _).trans (by rw [Int.pow_succ]), _, rfl⟩
            · rintro σ H6 ⟨rfl, _, v3, rfl⟩
              try simp only [tSeq, tIfS, tTest, tRet, tRetN, tNext, tDrop, tAsg, tPar, tPar3, tAug, tVar, tC, tOp, tUn, rI, rI0, rU, tB, tAnd, tOr, tNot, tAndV, tOrV, tNotV, tIf, gName, gNil, gCons, gTup, gSub, tCB, tCons, tNil, tCall, tChain, ipI, tIsN, tNotN, tBM, tyV, tTup, tLst, rAppend, rCat, scal_ii, scal_bb, scal_ss, scal_ni, scal_in, rEq, rNe, List.getElem?_cons_zero, List.getElem?_cons_succ, List.set_cons_zero, List.set_cons_succ, eq_self, and_assoc, Option.some.injEq, V.int.injEq, V.bl.injEq, V.ref.injEq, V.str.injEq, List.cons.injEq, exists_eq_left', exists_eq_left, exists_and_left, List.nil_append, List.cons_append, List.append_nil, true_and, and_true, decide_eq_true_eq, Bool.not_eq_true', decide_eq_false_iff_not, if_true, if_false, Bool.not_true, Bool.not_false, Bool.false_eq_true, reduceCtorEq, decide_true, decide_false, ite_true, ite_false, rSetL, rIxL, tRaise, jCons, jNil, tFmt, tDNew, rCount, rIndex, tCont, tBreak, Int.reduceToNat, Int.reducePow]
              exact k l kk H6 hl mn S5
noncomputable abbrev O_many_by_halves (P : Program) (w : World) (K : PySem.W.Frag) (mg : Str → Option Value) (base : Heap) : Prop := ∃ f fd, Df_many_by_halves K mg f fd ∧ FnOk P w K mg base CX0 7 f fd ["n"] (spMH)
noncomputable abbrev s_share_by_halves : Stmt := top 26
theorem sc_share_by_halves : FnScope ["n", "many", "both"] ["n"] (defScope s_share_by_halves) := ⟨rfl, rfl, rfl, by decide +kernel, rfl, by decide +kernel, by decide +kernel⟩
noncomputable abbrev Df_share_by_halves (K : PySem.W.Frag) (mg : Str → Option Value) (f : Addr) (fd : FuncData) : Prop := Def K mg "share_by_halves" s_share_by_halves ["n"] f fd
noncomputable def spSH : Sp := fun vs H Q _ => ∃ (n : Int), vs = [.int n] ∧ (3 ≤ n ∧ n ≤ 1000000000 ∧ n % 2 = 1) ∧ ∀ l k p H', Parts n l → IsMn l k → Same H H' → H' p = some (.tup [.int (mhal n l k / (Int.gcd (mhal n l k) (n - 1) : Nat)), .int ((n - 1) / (Int.gcd (mhal n l k) (n - 1) : Nat))]) → Q (.ref p) H'
theorem ok_share_by_halves (D : Df_share_by_halves K mg f fd) (T : Txt K mg t1 t2 t3 t4) (o1 : O_many_by_halves P w K mg base) (o3 : O_greatest_in_both P w K mg base) : FnOk P w K mg base CX0 8 f fd ["n"] spSH := by
  obtain ⟨_, _, D_many_by_halves, G_many_by_halves⟩ := o1
  obtain ⟨_, _, D_greatest_in_both, G_greatest_in_both⟩ := o3
  refine D.fn.ok sc_share_by_halves (fun vs H Q E h => ?_) (fun cdv A outer s H vs Q E hr h => ?_)
  · obtain ⟨n, rfl, _⟩ := h
    rfl
  · obtain ⟨n, rfl, ⟨h1, h2, h3⟩, k⟩ := h
    refine ⟨_, (pss_cons (ps_set (i := 1) sc_share_by_halves.nd rfl (by first | exact Or.inl rfl | exact Or.inr rfl) (pe_call (G_many_by_halves.mono (by decide)) hr rfl D_many_by_halves.mgx D_many_by_halves.fn.kp D_many_by_halves.bd .nil pass0 (pa_cons (pv 0) pa_nil)))
 (pss_cons (ps_set (i := 2) sc_share_by_halves.nd rfl (by first | exact Or.inl rfl | exact Or.inr rfl) (pe_call (G_greatest_in_both.mono (by decide)) hr rfl D_greatest_in_both.mgx D_greatest_in_both.fn.kp D_greatest_in_both.bd .nil pass0 (pa_cons (pv 1) (pa_cons (pe_op op_sub (pv 0) pe_int) pa_nil))))
 (pss_one (ps_ret (pe_tup (pa_cons (pe_op op_fdivB (pv 1) (pv 2)) (pa_cons (pe_op op_fdivB (pe_op op_sub (pv 0) pe_int) (pv 2)) pa_nil))))))), ?_⟩
    have e0 : L2.start ["n", "many", "both"] [.int n] = [some (.int n), none, none] := rfl
    rw [e0]; clear e0
    try simp only [tSeq, tIfS, tTest, tRet, tRetN, tNext, tDrop, tAsg, tPar, tPar3, tAug, tVar, tC, tOp, tUn, rI, rI0, rU, tB, tAnd, tOr, tNot, tAndV, tOrV, tNotV, tIf, gName, gNil, gCons, gTup, gSub, tCB, tCons, tNil, tCall, tChain, ipI, tIsN, tNotN, tBM, tyV, tTup, tLst, rAppend, rCat, scal_ii, scal_bb, scal_ss, scal_ni, scal_in, rEq, rNe, List.getElem?_cons_zero, List.getElem?_cons_succ, List.set_cons_zero, List.set_cons_succ, eq_self, and_assoc, Option.some.injEq, V.int.injEq, V.bl.injEq, V.ref.injEq, V.str.injEq, List.cons.injEq, exists_eq_left', exists_eq_left, exists_and_left, List.nil_append, List.cons_append, List.append_nil, true_and, and_true, decide_eq_true_eq, Bool.not_eq_true', decide_eq_false_iff_not, if_true, if_false, Bool.not_true, Bool.not_false, Bool.false_eq_true, reduceCtorEq, decide_true, decide_false, ite_true, ite_false, rSetL, rIxL, tRaise, jCons, jNil, tFmt, tDNew, rCount, rIndex, tCont, tBreak, Int.reduceToNat, Int.reducePow]
    refine ⟨n, rfl, ⟨h1, h2, h3⟩, fun l kk H1 hl mn S1 => ?_⟩
    replace k := k l kk
    have mb : 1 ≤ mhal n l kk ∧ mhal n l kk ≤ 10 ^ 20 := mhal_bound hl (pos1 h1) h2 mn (Nat.le_refl _)
    generalize mhal n l kk = m at k mb ⊢
    have gb := gcd_bound (a := m) (posl h1)
    try simp only [tSeq, tIfS, tTest, tRet, tRetN, tNext, tDrop, tAsg, tPar, tPar3, tAug, tVar, tC, tOp, tUn, rI, rI0, rU, tB, tAnd, tOr, tNot, tAndV, tOrV, tNotV, tIf, gName, gNil, gCons, gTup, gSub, tCB, tCons, tNil, tCall, tChain, ipI, tIsN, tNotN, tBM, tyV, tTup, tLst, rAppend, rCat, scal_ii, scal_bb, scal_ss, scal_ni, scal_in, rEq, rNe, List.getElem?_cons_zero, List.getElem?_cons_succ, List.set_cons_zero, List.set_cons_succ, eq_self, and_assoc, Option.some.injEq, V.int.injEq, V.bl.injEq, V.ref.injEq, V.str.injEq, List.cons.injEq, exists_eq_left', exists_eq_left, exists_and_left, List.nil_append, List.cons_append, List.append_nil, true_and, and_true, decide_eq_true_eq, Bool.not_eq_true', decide_eq_false_iff_not, if_true, if_false, Bool.not_true, Bool.not_false, Bool.false_eq_true, reduceCtorEq, decide_true, decide_false, ite_true, ite_false, rSetL, rIxL, tRaise, jCons, jNil, tFmt, tDNew, rCount, rIndex, tCont, tBreak, Int.reduceToNat, Int.reducePow]
    refine ⟨m, _, rfl, ⟨by omega, by omega⟩, ?_⟩
    try simp only [tSeq, tIfS, tTest, tRet, tRetN, tNext, tDrop, tAsg, tPar, tPar3, tAug, tVar, tC, tOp, tUn, rI, rI0, rU, tB, tAnd, tOr, tNot, tAndV, tOrV, tNotV, tIf, gName, gNil, gCons, gTup, gSub, tCB, tCons, tNil, tCall, tChain, ipI, tIsN, tNotN, tBM, tyV, tTup, tLst, rAppend, rCat, scal_ii, scal_bb, scal_ss, scal_ni, scal_in, rEq, rNe, List.getElem?_cons_zero, List.getElem?_cons_succ, List.set_cons_zero, List.set_cons_succ, eq_self, and_assoc, Option.some.injEq, V.int.injEq, V.bl.injEq, V.ref.injEq, V.str.injEq, List.cons.injEq, exists_eq_left', exists_eq_left, exists_and_left, List.nil_append, List.cons_append, List.append_nil, true_and, and_true, decide_eq_true_eq, Bool.not_eq_true', decide_eq_false_iff_not, if_true, if_false, Bool.not_true, Bool.not_false, Bool.false_eq_true, reduceCtorEq, decide_true, decide_false, ite_true, ite_false, rSetL, rIxL, tRaise, jCons, jNil, tFmt, tDNew, rCount, rIndex, tCont, tBreak, Int.reduceToNat, Int.reducePow]
    refine ⟨⟨by omega, by omega⟩, ⟨by omega, by omega⟩, by show 2 ≤ sizeLine; decide, fun p hp => k p _ hl mn (fun b o e => ?_) upd_same⟩
    rw [upd_ne (ne_of_none (S1 b o e) hp)]
    exact S1 b o e
noncomputable abbrev O_share_by_halves (P : Program) (w : World) (K : PySem.W.Frag) (mg : Str → Option Value) (base : Heap) : Prop := ∃ f fd, Df_share_by_halves K mg f fd ∧ FnOk P w K mg base CX0 8 f fd ["n"] (spSH)
noncomputable abbrev s_lies_to_all : Stmt := top 33
theorem sc_lies_to_all : FnScope ["n", "parts", "prime", "often"] ["n"] (defScope s_lies_to_all) := ⟨rfl, rfl, rfl, by decide +kernel, rfl, by decide +kernel, by decide +kernel⟩
noncomputable abbrev Df_lies_to_all (K : PySem.W.Frag) (mg : Str → Option Value) (f : Addr) (fd : FuncData) : Prop := Def K mg "lies_to_all" s_lies_to_all ["n"] f fd
noncomputable def spLies : Sp := fun vs H Q _ => ∃ (n : Int), vs = [.int n] ∧ (3 ≤ n ∧ n ≤ 1000000000) ∧ ∀ l H', Parts n l → Same H H' → Q (.bl (liesL n l)) H'
theorem ok_lies_to_all (D : Df_lies_to_all K mg f fd) (T : Txt K mg t1 t2 t3 t4) (o1 : O_parts_of P w K mg base) : FnOk P w K mg base CX0 6 f fd ["n"] spLies := by
  obtain ⟨_, _, D_parts_of, G_parts_of⟩ := o1
  refine D.fn.ok sc_lies_to_all (fun vs H Q E h => ?_) (fun cdv A outer s H vs Q E hr h => ?_)
  · obtain ⟨n, rfl, _⟩ := h
    rfl
  · obtain ⟨n, rfl, ⟨h1, h2⟩, k⟩ := h
    refine ⟨_, (pss_cons (ps_set (i := 1) sc_lies_to_all.nd rfl (by first | exact Or.inl rfl | exact Or.inr rfl) (pe_call (G_parts_of.mono (by decide)) hr rfl D_parts_of.mgx D_parts_of.fn.kp D_parts_of.bd .nil pass0 (pa_cons (pv 0) pa_nil)))
 (pss_cons (ps_if (pt_cmpR op_eq (pe_callB call_len_seq (by rfl) T.no_len PySem.boot_len (pa_cons (pv 1) pa_nil)) pe_int (nomark _))
 (pss_one (ps_ret pe_bl))
 pss_nil)
 (pss_cons (ps_for PassesOwn.never rfl (pi_tup (pv 1)) (pg_tup rfl (pgs_cons (pg_name (i := 2) sc_lies_to_all.nd rfl (by first | exact Or.inl rfl | exact Or.inr rfl)) (pgs_cons (pg_name (i := 3) sc_lies_to_all.nd rfl (by first | exact Or.inl rfl | exact Or.inr rfl)) pgs_nil)))
 (pss_one (ps_if (PW.pt (pw_or (pt_cmpR op_gt (pv 3) pe_int (nomark _)) (pw_or1 (pt_cmpR op_ne (pe_op op_mod (pe_op op_sub (pv 0) pe_int) (pe_op op_sub (pv 2) pe_int)) pe_int (nomark _)))))
 (pss_one (ps_ret pe_bl))
 pss_nil)))
 (pss_one (ps_ret pe_bl))))), ?_⟩
    have e0 : L2.start ["n", "parts", "prime", "often"] [.int n] = [some (.int n), none, none, none] := rfl
    rw [e0]; clear e0
    simp only [tSeq, tIfS, tTest, tRet, tRetN, tNext, tDrop, tAsg, tPar, tPar3, tAug, tVar, tC, tOp, tUn, rI, rI0, rU, tB, tAnd, tOr, tNot, tAndV, tOrV, tNotV, tIf, gName, gNil, gCons, gTup, gSub, tCB, tCons, tNil, tCall, tChain, ipI, tIsN, tNotN, tBM, tyV, tTup, tLst, rAppend, rCat, scal_ii, scal_bb, scal_ss, scal_ni, scal_in, rEq, rNe, List.getElem?_cons_zero, List.getElem?_cons_succ, List.set_cons_zero, List.set_cons_succ, eq_self, and_assoc, Option.some.injEq, V.int.injEq, V.bl.injEq, V.ref.injEq, V.str.injEq, List.cons.injEq, exists_eq_left', exists_eq_left, exists_and_left, List.nil_append, List.cons_append, List.append_nil, true_and, and_true, decide_eq_true_eq, Bool.not_eq_true', decide_eq_false_iff_not, if_true, if_false, Bool.not_true, Bool.not_false, Bool.false_eq_true, reduceCtorEq, decide_true, decide_false, ite_true, ite_false, rSetL, rIxL, tRaise, jCons, jNil, tFmt, tDNew, rCount, rIndex, tCont, tBreak, Int.reduceToNat, Int.reducePow]
    refine ⟨n, rfl, ⟨by omega, by omega⟩, fun l p xs H' hl S hp R => ?_⟩
    have elen : xs.length = l.length := by rw [← R.length, List.length_map]
    have kk := k l H' hl S
    unfold liesL at kk
    simp only [tSeq, tIfS, tTest, tRet, tRetN, tNext, tDrop, tAsg, tPar, tPar3, tAug, tVar, tC, tOp, tUn, rI, rI0, rU, tB, tAnd, tOr, tNot, tAndV, tOrV, tNotV, tIf, gName, gNil, gCons, gTup, gSub, tCB, tCons, tNil, tCall, tChain, ipI, tIsN, tNotN, tBM, tyV, tTup, tLst, rAppend, rCat, scal_ii, scal_bb, scal_ss, scal_ni, scal_in, rEq, rNe, List.getElem?_cons_zero, List.getElem?_cons_succ, List.set_cons_zero, List.set_cons_succ, eq_self, and_assoc, Option.some.injEq, V.int.injEq, V.bl.injEq, V.ref.injEq, V.str.injEq, List.cons.injEq, exists_eq_left', exists_eq_left, exists_and_left, List.nil_append, List.cons_append, List.append_nil, true_and, and_true, decide_eq_true_eq, Bool.not_eq_true', decide_eq_false_iff_not, if_true, if_false, Bool.not_true, Bool.not_false, Bool.false_eq_true, reduceCtorEq, decide_true, decide_false, ite_true, ite_false, rSetL, rIxL, tRaise, jCons, jNil, tFmt, tDNew, rCount, rIndex, tCont, tBreak, Int.reduceToNat, Int.reducePow]
    refine ⟨_, .inr (SqT.of hp), ?_⟩
    rw [elen]
    refine ite2 (fun e1 => ?_) (fun e1 => ?_)
    · have e2 : l.length = 1 := by omega
      rw [decide_eq_false (fun z => z e2)] at kk
      exact kk
    · rw [decide_eq_true (show l.length ≠ 1 by omega), Bool.true_and] at kk
      refine ⟨_, rfl, p, rfl, ⟨xs, SqT.of hp⟩, for_tup (xs := xs) (fun j σ H2 => H2 = H' ∧ ∃ v1 v2, σ = [some (.int n), some (.ref p), v1, v2] ∧ ∀ q ∈ l.take j, q.2 ≤ 1 ∧ (n - 1) % (q.1 - 1) = 0) ⟨rfl, none, none, rfl, fun q hq => by simp at hq⟩ (fun _ _ _ _ h => by rw [h.1]; exact SqT.of hp) ?_ ?_⟩
      · rintro j x σ H2 hx ⟨rfl, v1, v2, rfl, I⟩
        obtain ⟨q, c, hq, rfl, hcc⟩ := repL_pD_get R hx
        have hmem : q ∈ l := List.mem_of_getElem? hq
        have q2 := (hl.1.pr q hmem).1.1
        have no : ¬ (q.2 ≤ 1 ∧ (n - 1) % (q.1 - 1) = 0) → Q (.bl false) H2 := fun z => by
          have : (l.all fun q => decide (q.2 ≤ 1) && decide ((n - 1) % (q.1 - 1) = 0)) = false := by
            refine Bool.eq_false_iff.mpr fun w => z ?_
            have := List.all_eq_true.mp w q hmem
            simpa using this
          rw [this] at kk
          exact kk
        simp only [tSeq, tIfS, tTest, tRet, tRetN, tNext, tDrop, tAsg, tPar, tPar3, tAug, tVar, tC, tOp, tUn, rI, rI0, rU, tB, tAnd, tOr, tNot, tAndV, tOrV, tNotV, tIf, gName, gNil, gCons, gTup, gSub, tCB, tCons, tNil, tCall, tChain, ipI, tIsN, tNotN, tBM, tyV, tTup, tLst, rAppend, rCat, scal_ii, scal_bb, scal_ss, scal_ni, scal_in, rEq, rNe, List.getElem?_cons_zero, List.getElem?_cons_succ, List.set_cons_zero, List.set_cons_succ, eq_self, and_assoc, Option.some.injEq, V.int.injEq, V.bl.injEq, V.ref.injEq, V.str.injEq, List.cons.injEq, exists_eq_left', exists_eq_left, exists_and_left, List.nil_append, List.cons_append, List.append_nil, true_and, and_true, decide_eq_true_eq, Bool.not_eq_true', decide_eq_false_iff_not, if_true, if_false, Bool.not_true, Bool.not_false, Bool.false_eq_true, reduceCtorEq, decide_true, decide_false, ite_true, ite_false, rSetL, rIxL, tRaise, jCons, jNil, tFmt, tDNew, rCount, rIndex, tCont, tBreak, Int.reduceToNat, Int.reducePow]
        refine ⟨_, hcc, rfl, ?_⟩
        simp only [tSeq, tIfS, tTest, tRet, tRetN, tNext, tDrop, tAsg, tPar, tPar3, tAug, tVar, tC, tOp, tUn, rI, rI0, rU, tB, tAnd, tOr, tNot, tAndV, tOrV, tNotV, tIf, gName, gNil, gCons, gTup, gSub, tCB, tCons, tNil, tCall, tChain, ipI, tIsN, tNotN, tBM, tyV, tTup, tLst, rAppend, rCat, scal_ii, scal_bb, scal_ss, scal_ni, scal_in, rEq, rNe, List.getElem?_cons_zero, List.getElem?_cons_succ, List.set_cons_zero, List.set_cons_succ, eq_self, and_assoc, Option.some.injEq, V.int.injEq, V.bl.injEq, V.ref.injEq, V.str.injEq, List.cons.injEq, exists_eq_left', exists_eq_left, exists_and_left, List.nil_append, List.cons_append, List.append_nil, true_and, and_true, decide_eq_true_eq, Bool.not_eq_true', decide_eq_false_iff_not, if_true, if_false, Bool.not_true, Bool.not_false, Bool.false_eq_true, reduceCtorEq, decide_true, decide_false, ite_true, ite_false, rSetL, rIxL, tRaise, jCons, jNil, tFmt, tDNew, rCount, rIndex, tCont, tBreak, Int.reduceToNat, Int.reducePow]
        refine ite2 (fun e3 => no fun z => by omega) (fun e3 => ⟨by omega, ?_⟩)
        refine ite2 (fun e4 => no fun z => e4 z.2) (fun e4 => ?_)
        rw [List.take_succ, hq]
        intro y hy
        rcases List.mem_append.mp hy with hy | hy
        · exact I y hy
        · have : y = q := by simpa using hy
          rw [this]
          exact ⟨by omega, Classical.byContradiction e4⟩
      · rintro σ H2 ⟨rfl, v1, v2, rfl, I⟩
        rw [elen, List.take_length] at I
        simp only [tSeq, tIfS, tTest, tRet, tRetN, tNext, tDrop, tAsg, tPar, tPar3, tAug, tVar, tC, tOp, tUn, rI, rI0, rU, tB, tAnd, tOr, tNot, tAndV, tOrV, tNotV, tIf, gName, gNil, gCons, gTup, gSub, tCB, tCons, tNil, tCall, tChain, ipI, tIsN, tNotN, tBM, tyV, tTup, tLst, rAppend, rCat, scal_ii, scal_bb, scal_ss, scal_ni, scal_in, rEq, rNe, List.getElem?_cons_zero, List.getElem?_cons_succ, List.set_cons_zero, List.set_cons_succ, eq_self, and_assoc, Option.some.injEq, V.int.injEq, V.bl.injEq, V.ref.injEq, V.str.injEq, List.cons.injEq, exists_eq_left', exists_eq_left, exists_and_left, List.nil_append, List.cons_append, List.append_nil, true_and, and_true, decide_eq_true_eq, Bool.not_eq_true', decide_eq_false_iff_not, if_true, if_false, Bool.not_true, Bool.not_false, Bool.false_eq_true, reduceCtorEq, decide_true, decide_false, ite_true, ite_false, rSetL, rIxL, tRaise, jCons, jNil, tFmt, tDNew, rCount, rIndex, tCont, tBreak, Int.reduceToNat, Int.reducePow]
        have : (l.all fun q => decide (q.2 ≤ 1) && decide ((n - 1) % (q.1 - 1) = 0)) = true := by
          rw [List.all_eq_true]
          intro q hq
          rw [decide_eq_true (I q hq).1, decide_eq_true (I q hq).2]; rfl
        rw [this] at kk
        exact kk
noncomputable abbrev O_lies_to_all (P : Program) (w : World) (K : PySem.W.Frag) (mg : Str → Option Value) (base : Heap) : Prop := ∃ f fd, Df_lies_to_all K mg f fd ∧ FnOk P w K mg base CX0 6 f fd ["n"] (spLies)
noncomputable abbrev s_fools_all : Stmt := top 32
theorem sc_fools_all : FnScope ["n"] ["n"] (defScope s_fools_all) := ⟨rfl, rfl, rfl, by decide +kernel, rfl, by decide +kernel, by decide +kernel⟩
noncomputable abbrev Df_fools_all (K : PySem.W.Frag) (mg : Str → Option Value) (f : Addr) (fd : FuncData) : Prop := Def K mg "fools_all" s_fools_all ["n"] f fd
theorem ok_fools_all (D : Df_fools_all K mg f fd) (T : Txt K mg t1 t2 t3 t4) (o1 : O_want_odd P w K mg base) (o2 : O_lies_to_all P w K mg base) : FnOk P w K mg base CX0 7 f fd ["n"] (fun vs H Q _ => ∃ (n : Int), vs = [.int n] ∧ (3 ≤ n ∧ n ≤ 1000000000 ∧ n % 2 = 1) ∧ ∀ l H', Parts n l → Same H H' → Q (.bl (liesL n l)) H') := by
  obtain ⟨_, _, D_want_odd, G_want_odd⟩ := o1
  obtain ⟨_, _, D_lies_to_all, G_lies_to_all⟩ := o2
  refine D.fn.ok sc_fools_all (fun vs H Q E h => ?_) (fun cdv A outer s H vs Q E hr h => ?_)
  · obtain ⟨n, rfl, _⟩ := h
    rfl
  · obtain ⟨n, rfl, ⟨h1, h2, h3⟩, k⟩ := h
    refine ⟨_, (pss_cons (ps_expr (pe_call (G_want_odd.mono (by decide)) hr rfl D_want_odd.mgx D_want_odd.fn.kp D_want_odd.bd .nil pass0 (pa_cons (pv 0) (pa_cons pe_int (pa_cons (pe_glob (v := .int _) rfl T.mg_MOST_TRIED ⟨_, rfl⟩) (pa_cons pe_str pa_nil))))))
 (pss_one (ps_ret (pe_call (G_lies_to_all.mono (by decide)) hr rfl D_lies_to_all.mgx D_lies_to_all.fn.kp D_lies_to_all.bd .nil pass0 (pa_cons (pv 0) pa_nil))))), ?_⟩
    have e0 : L2.start ["n"] [.int n] = [some (.int n)] := rfl
    rw [e0]; clear e0
    simp only [tSeq, tIfS, tTest, tRet, tRetN, tNext, tDrop, tAsg, tPar, tPar3, tAug, tVar, tC, tOp, tUn, rI, rI0, rU, tB, tAnd, tOr, tNot, tAndV, tOrV, tNotV, tIf, gName, gNil, gCons, gTup, gSub, tCB, tCons, tNil, tCall, tChain, ipI, tIsN, tNotN, tBM, tyV, tTup, tLst, rAppend, rCat, scal_ii, scal_bb, scal_ss, scal_ni, scal_in, rEq, rNe, List.getElem?_cons_zero, List.getElem?_cons_succ, List.set_cons_zero, List.set_cons_succ, eq_self, and_assoc, Option.some.injEq, V.int.injEq, V.bl.injEq, V.ref.injEq, V.str.injEq, List.cons.injEq, exists_eq_left', exists_eq_left, exists_and_left, List.nil_append, List.cons_append, List.append_nil, true_and, and_true, decide_eq_true_eq, Bool.not_eq_true', decide_eq_false_iff_not, if_true, if_false, Bool.not_true, Bool.not_false, Bool.false_eq_true, reduceCtorEq, decide_true, decide_false, ite_true, ite_false, rSetL, rIxL, tRaise, jCons, jNil, tFmt, tDNew, rCount, rIndex, tCont, tBreak, Int.reduceToNat, Int.reducePow]
    exact ⟨n, _, _, _, rfl, ⟨h1, h2, h3⟩, n, rfl, ⟨h1, h2⟩, k⟩
noncomputable def spFools : Sp := fun vs H Q _ => ∃ (n : Int), vs = [.int n] ∧ (3 ≤ n ∧ n ≤ 1000000000 ∧ n % 2 = 1) ∧ ∀ l H', Parts n l → Same H H' → Q (.bl (liesL n l)) H'
noncomputable abbrev O_fools_all (P : Program) (w : World) (K : PySem.W.Frag) (mg : Str → Option Value) (base : Heap) : Prop := ∃ f fd, Df_fools_all K mg f fd ∧ FnOk P w K mg base CX0 7 f fd ["n"] (spFools)
end
end PP
set_option Elab.async false
set_option linter.all false
set_option maxRecDepth 100000
set_option maxHeartbeats 4000000
namespace PP
open PySem L2 MM
section
variable {P : Program} {w : World} {K : PySem.W.Frag} {mg : Str → Option Value} {base : Heap} {t1 t2 t3 t4 : Tok} {f : Addr} {fd : FuncData}
noncomputable abbrev s_is_base : Stmt := top 38
theorem sc_is_base : FnScope ["base", "p", "primes", "prime"] ["base", "p", "primes"] (defScope s_is_base) := ⟨rfl, rfl, rfl, by decide +kernel, rfl, by decide +kernel, by decide +kernel⟩
noncomputable abbrev Df_is_base (K : PySem.W.Frag) (mg : Str → Option Value) (f : Addr) (fd : FuncData) : Prop := Def K mg "is_base" s_is_base ["base", "p", "primes"] f fd
noncomputable def spBase : Sp := fun vs H Q _ => ∃ (b p : Int) (c : Addr) (l : List (Int × Int)), vs = [.int b, .int p, .ref c] ∧ H c = some (.lst (prV l)) ∧ (0 ≤ b ∧ b ≤ 10 ^ 9 ∧ IsPr p ∧ p ≤ 10 ^ 9 ∧ ∀ q ∈ l, 2 ≤ q.1 ∧ q.1 ≤ 10 ^ 9) ∧ Q (.bl (baseB b p l)) H
theorem ok_is_base (D : Df_is_base K mg f fd) (T : Txt K mg t1 t2 t3 t4) (o1 : O_power_rest P w K mg base) : FnOk P w K mg base CX0 2 f fd ["base", "p", "primes"] spBase := by
  obtain ⟨_, _, D_power_rest, G_power_rest⟩ := o1
  refine D.fn.ok sc_is_base (fun vs H Q E h => ?_) (fun cdv A outer s H vs Q E hr h => ?_)
  · obtain ⟨b, p, c, l, rfl, _⟩ := h
    rfl
  · obtain ⟨b, p, c, l, rfl, hc, ⟨b0, b1, hp, p1, hl⟩, k⟩ := h
    have p2 := hp.1
    have one : (1 : Int) % p = 1 := Int.emod_eq_of_lt (by omega) (by omega)
    refine ⟨_, (pss_cons (ps_for PassesOwn.never rfl (pi_list (pv 2)) (pg_name (i := 3) sc_is_base.nd rfl (by first | exact Or.inl rfl | exact Or.inr rfl))
 (pss_one (ps_if (pt_cmpR op_eq (pe_call (G_power_rest.mono (by decide)) hr rfl D_power_rest.mgx D_power_rest.fn.kp D_power_rest.bd .nil pass0 (pa_cons (pv 0) (pa_cons (pe_op op_fdivB (pe_op op_sub (pv 1) pe_int) (pv 3)) (pa_cons (pv 1) pa_nil)))) pe_int (nomark _))
 (pss_one (ps_ret pe_bl))
 pss_nil)))
 (pss_one (ps_ret pe_bl))), ?_⟩
    have e0 : L2.start ["base", "p", "primes", "prime"] [.int b, .int p, .ref c] = [some (.int b), some (.int p), some (.ref c), none] := rfl
    rw [e0]; clear e0
    simp only [tSeq, tIfS, tTest, tRet, tRetN, tNext, tDrop, tAsg, tPar, tPar3, tAug, tVar, tC, tOp, tUn, rI, rI0, rU, tB, tAnd, tOr, tNot, tAndV, tOrV, tNotV, tIf, gName, gNil, gCons, gTup, gSub, tCB, tCons, tNil, tCall, tChain, ipI, tIsN, tNotN, tBM, tyV, tTup, tLst, rAppend, rCat, scal_ii, scal_bb, scal_ss, scal_ni, scal_in, rEq, rNe, List.getElem?_cons_zero, List.getElem?_cons_succ, List.set_cons_zero, List.set_cons_succ, eq_self, and_assoc, Option.some.injEq, V.int.injEq, V.bl.injEq, V.ref.injEq, V.str.injEq, List.cons.injEq, exists_eq_left', exists_eq_left, exists_and_left, List.nil_append, List.cons_append, List.append_nil, true_and, and_true, decide_eq_true_eq, Bool.not_eq_true', decide_eq_false_iff_not, if_true, if_false, Bool.not_true, Bool.not_false, Bool.false_eq_true, reduceCtorEq, decide_true, decide_false, ite_true, ite_false, rSetL, rIxL, tRaise, jCons, jNil, tFmt, tDNew, rCount, rIndex, tCont, tBreak, Int.reduceToNat, Int.reducePow]
    refine ⟨_, rfl, c, rfl, ⟨_, SqL.of hc⟩, for_list (xs := prV l) (fun j σ H' => H' = H ∧ ∃ v, σ = [some (.int b), some (.int p), some (.ref c), v] ∧ BaseOk b p (l.take j)) ⟨rfl, none, rfl, fun q hq => by simp at hq⟩ (fun _ _ _ _ h => by rw [h.1]; exact SqL.of hc) ?_ ?_⟩
    · rintro j x σ H' hx ⟨rfl, v, rfl, I⟩
      unfold prV at hx
      rw [List.getElem?_map] at hx
      obtain ⟨q, hq⟩ : ∃ q, l[j]? = some q := by
        cases e : l[j]? with
        | none => rw [e] at hx; cases hx
        | some q => exact ⟨q, rfl⟩
      rw [hq] at hx
      cases hx
      have hm : q ∈ l := List.mem_of_getElem? hq
      have q2 := hl q hm
      have dn := Int.ediv_nonneg (a := p - 1) (b := q.1) (by omega) (by omega)
      simp only [tSeq, tIfS, tTest, tRet, tRetN, tNext, tDrop, tAsg, tPar, tPar3, tAug, tVar, tC, tOp, tUn, rI, rI0, rU, tB, tAnd, tOr, tNot, tAndV, tOrV, tNotV, tIf, gName, gNil, gCons, gTup, gSub, tCB, tCons, tNil, tCall, tChain, ipI, tIsN, tNotN, tBM, tyV, tTup, tLst, rAppend, rCat, scal_ii, scal_bb, scal_ss, scal_ni, scal_in, rEq, rNe, List.getElem?_cons_zero, List.getElem?_cons_succ, List.set_cons_zero, List.set_cons_succ, eq_self, and_assoc, Option.some.injEq, V.int.injEq, V.bl.injEq, V.ref.injEq, V.str.injEq, List.cons.injEq, exists_eq_left', exists_eq_left, exists_and_left, List.nil_append, List.cons_append, List.append_nil, true_and, and_true, decide_eq_true_eq, Bool.not_eq_true', decide_eq_false_iff_not, if_true, if_false, Bool.not_true, Bool.not_false, Bool.false_eq_true, reduceCtorEq, decide_true, decide_false, ite_true, ite_false, rSetL, rIxL, tRaise, jCons, jNil, tFmt, tDNew, rCount, rIndex, tCont, tBreak, Int.reduceToNat, Int.reducePow]
      refine ⟨⟨by omega, by omega⟩, b, _, p, rfl, ⟨by omega, by omega, by omega, by omega⟩, ?_⟩
      simp only [tSeq, tIfS, tTest, tRet, tRetN, tNext, tDrop, tAsg, tPar, tPar3, tAug, tVar, tC, tOp, tUn, rI, rI0, rU, tB, tAnd, tOr, tNot, tAndV, tOrV, tNotV, tIf, gName, gNil, gCons, gTup, gSub, tCB, tCons, tNil, tCall, tChain, ipI, tIsN, tNotN, tBM, tyV, tTup, tLst, rAppend, rCat, scal_ii, scal_bb, scal_ss, scal_ni, scal_in, rEq, rNe, List.getElem?_cons_zero, List.getElem?_cons_succ, List.set_cons_zero, List.set_cons_succ, eq_self, and_assoc, Option.some.injEq, V.int.injEq, V.bl.injEq, V.ref.injEq, V.str.injEq, List.cons.injEq, exists_eq_left', exists_eq_left, exists_and_left, List.nil_append, List.cons_append, List.append_nil, true_and, and_true, decide_eq_true_eq, Bool.not_eq_true', decide_eq_false_iff_not, if_true, if_false, Bool.not_true, Bool.not_false, Bool.false_eq_true, reduceCtorEq, decide_true, decide_false, ite_true, ite_false, rSetL, rIxL, tRaise, jCons, jNil, tFmt, tDNew, rCount, rIndex, tCont, tBreak, Int.reduceToNat, Int.reducePow]
      refine ite2 (fun h1 => ?_) (fun h1 => ?_)
      · have nb : ¬ BaseOk b p l := fun z => z q hm (cg_one.mp (by rw [h1, one]))
        have e : baseB b p l = false := by unfold baseB; exact @decide_eq_false _ (Classical.propDecidable _) nb
        rw [e] at k
        exact k
      · have J : BaseOk b p (l.take (j + 1)) := by
          rw [List.take_succ, hq]
          intro y hy
          rcases List.mem_append.mp hy with hy | hy
          · exact I y hy
          · have hy : y = q := by simpa using hy
            rw [hy]
            exact fun z => h1 (by rw [cg_eq z, one])
        first | exact ⟨rfl, _, rfl, J⟩ | exact J
    · rintro σ H' ⟨rfl, v, rfl, I⟩
      have e : (prV l).length = l.length := by unfold prV; rw [List.length_map]
      rw [e, List.take_length] at I
      have e : baseB b p l = true := by unfold baseB; exact @decide_eq_true _ (Classical.propDecidable _) I
      rw [e] at k
      simp only [tSeq, tIfS, tTest, tRet, tRetN, tNext, tDrop, tAsg, tPar, tPar3, tAug, tVar, tC, tOp, tUn, rI, rI0, rU, tB, tAnd, tOr, tNot, tAndV, tOrV, tNotV, tIf, gName, gNil, gCons, gTup, gSub, tCB, tCons, tNil, tCall, tChain, ipI, tIsN, tNotN, tBM, tyV, tTup, tLst, rAppend, rCat, scal_ii, scal_bb, scal_ss, scal_ni, scal_in, rEq, rNe, List.getElem?_cons_zero, List.getElem?_cons_succ, List.set_cons_zero, List.set_cons_succ, eq_self, and_assoc, Option.some.injEq, V.int.injEq, V.bl.injEq, V.ref.injEq, V.str.injEq, List.cons.injEq, exists_eq_left', exists_eq_left, exists_and_left, List.nil_append, List.cons_append, List.append_nil, true_and, and_true, decide_eq_true_eq, Bool.not_eq_true', decide_eq_false_iff_not, if_true, if_false, Bool.not_true, Bool.not_false, Bool.false_eq_true, reduceCtorEq, decide_true, decide_false, ite_true, ite_false, rSetL, rIxL, tRaise, jCons, jNil, tFmt, tDNew, rCount, rIndex, tCont, tBreak, Int.reduceToNat, Int.reducePow]
      exact k
noncomputable abbrev O_is_base (P : Program) (w : World) (K : PySem.W.Frag) (mg : Str → Option Value) (base : Heap) : Prop := ∃ f fd, Df_is_base K mg f fd ∧ FnOk P w K mg base CX0 2 f fd ["base", "p", "primes"] (spBase)
structure LRoot (p b : Int) : Prop where
  b1 : 1 ≤ b
  b2 : b < p
  od : Ord b p (p - 1)
  no : ∀ x, 1 ≤ x → x < b → ¬ Ord x p (p - 1)
noncomputable abbrev s_least_base : Stmt := top 37
theorem sc_least_base : FnScope ["p", "primes", "base"] ["p", "primes"] (defScope s_least_base) := ⟨rfl, rfl, rfl, by decide +kernel, rfl, by decide +kernel, by decide +kernel⟩
noncomputable abbrev Df_least_base (K : PySem.W.Frag) (mg : Str → Option Value) (f : Addr) (fd : FuncData) : Prop := Def K mg "least_base" s_least_base ["p", "primes"] f fd
noncomputable def spLBase : Sp := fun vs H Q _ => ∃ (p : Int) (c : Addr) (l : List (Int × Int)), vs = [.int p, .ref c] ∧ H c = some (.lst (prV l)) ∧ (IsPr p ∧ p ≤ 10 ^ 9 ∧ Parts (p - 1) l) ∧ ∀ b, LRoot p b → Q (.int b) H
theorem ok_least_base (D : Df_least_base K mg f fd) (T : Txt K mg t1 t2 t3 t4) (o1 : O_is_base P w K mg base) : FnOk P w K mg base CX0 3 f fd ["p", "primes"] spLBase := by
  obtain ⟨_, _, D_is_base, G_is_base⟩ := o1
  refine D.fn.ok sc_least_base (fun vs H Q E h => ?_) (fun cdv A outer s H vs Q E hr h => ?_)
  · obtain ⟨p, c, l, rfl, _⟩ := h
    rfl
  · obtain ⟨p, c, l, rfl, hc, ⟨hp, p1, hl⟩, k⟩ := h
    have p2 := hp.1
    obtain ⟨g, g1, g2, hg⟩ := prim_root hp
    have hlb : ∀ q ∈ l, 2 ≤ q.1 ∧ q.1 ≤ 10 ^ 9 := fun q hq => ⟨(hl.1.pr q hq).1.1, by have := (parts_le hl hq).1; omega⟩
    refine ⟨_, (pss_cons (ps_set (i := 2) sc_least_base.nd rfl (by first | exact Or.inl rfl | exact Or.inr rfl) pe_int)
 (pss_cons (ps_while PassesOwn.never (pt_not (pt_val (pe_call (G_is_base.mono (by decide)) hr rfl D_is_base.mgx D_is_base.fn.kp D_is_base.bd .nil pass0 (pa_cons (pv 2) (pa_cons (pv 0) (pa_cons (pv 1) pa_nil))))))
 (pss_one (ps_aug (i := 2) sc_least_base.nd rfl (Or.inl rfl) pe_int ip_add)))
 (pss_one (ps_ret (pv 2))))), ?_⟩
    have e0 : L2.start ["p", "primes", "base"] [.int p, .ref c] = [some (.int p), some (.ref c), none] := rfl
    rw [e0]; clear e0
    simp only [tSeq, tIfS, tTest, tRet, tRetN, tNext, tDrop, tAsg, tPar, tPar3, tAug, tVar, tC, tOp, tUn, rI, rI0, rU, tB, tAnd, tOr, tNot, tAndV, tOrV, tNotV, tIf, gName, gNil, gCons, gTup, gSub, tCB, tCons, tNil, tCall, tChain, ipI, tIsN, tNotN, tBM, tyV, tTup, tLst, rAppend, rCat, scal_ii, scal_bb, scal_ss, scal_ni, scal_in, rEq, rNe, List.getElem?_cons_zero, List.getElem?_cons_succ, List.set_cons_zero, List.set_cons_succ, eq_self, and_assoc, Option.some.injEq, V.int.injEq, V.bl.injEq, V.ref.injEq, V.str.injEq, List.cons.injEq, exists_eq_left', exists_eq_left, exists_and_left, List.nil_append, List.cons_append, List.append_nil, true_and, and_true, decide_eq_true_eq, Bool.not_eq_true', decide_eq_false_iff_not, if_true, if_false, Bool.not_true, Bool.not_false, Bool.false_eq_true, reduceCtorEq, decide_true, decide_false, ite_true, ite_false, rSetL, rIxL, tRaise, jCons, jNil, tFmt, tDNew, rCount, rIndex, tCont, tBreak, Int.reduceToNat, Int.reducePow]
    obtain ⟨W, hW⟩ : ∃ W : Nat → St → Hp → Prop, ∀ m σ H', W m σ H' ↔ ∃ b : Int, m = (g - b).toNat ∧ σ = [some (.int p), some (.ref c), some (.int b)] ∧ (1 ≤ b ∧ b ≤ g ∧ ∀ x, 1 ≤ x → x < b → ¬ Ord x p (p - 1)) ∧ H' = H := ⟨_, fun _ _ _ => Iff.rfl⟩
    refine ⟨W, ⟨_, (hW _ _ _).mpr ⟨1, rfl, rfl, ⟨Int.le_refl _, g1, fun x a b => by omega⟩, rfl⟩⟩, ?_⟩
    intro m σ H' hw
    obtain ⟨b, rfl, rfl, ⟨b1, b2, bn⟩, rfl⟩ := (hW _ _ _).mp hw
    clear hw
    simp only [tSeq, tIfS, tTest, tRet, tRetN, tNext, tDrop, tAsg, tPar, tPar3, tAug, tVar, tC, tOp, tUn, rI, rI0, rU, tB, tAnd, tOr, tNot, tAndV, tOrV, tNotV, tIf, gName, gNil, gCons, gTup, gSub, tCB, tCons, tNil, tCall, tChain, ipI, tIsN, tNotN, tBM, tyV, tTup, tLst, rAppend, rCat, scal_ii, scal_bb, scal_ss, scal_ni, scal_in, rEq, rNe, List.getElem?_cons_zero, List.getElem?_cons_succ, List.set_cons_zero, List.set_cons_succ, eq_self, and_assoc, Option.some.injEq, V.int.injEq, V.bl.injEq, V.ref.injEq, V.str.injEq, List.cons.injEq, exists_eq_left', exists_eq_left, exists_and_left, List.nil_append, List.cons_append, List.append_nil, true_and, and_true, decide_eq_true_eq, Bool.not_eq_true', decide_eq_false_iff_not, if_true, if_false, Bool.not_true, Bool.not_false, Bool.false_eq_true, reduceCtorEq, decide_true, decide_false, ite_true, ite_false, rSetL, rIxL, tRaise, jCons, jNil, tFmt, tDNew, rCount, rIndex, tCont, tBreak, Int.reduceToNat, Int.reducePow]
    refine ⟨b, p, c, l, rfl, hc, ⟨by omega, by omega, hp, p1, hlb⟩, ?_⟩
    have iff := base_ord hp hl b1 (by omega)
    by_cases hb : BaseOk b p l
    · rw [baseB_of hb]
      refine ⟨_, rfl, ?_⟩
      rw [if_neg (by decide)]
      exact k b ⟨b1, by omega, iff.mp hb, bn⟩
    · rw [baseB_not hb]
      refine ⟨_, rfl, ?_⟩
      rw [if_pos rfl]
      have lt : b < g := by
        by_cases e : b = g
        · rw [e] at iff hb; exact absurd (iff.mpr hg) hb
        · omega
      refine ⟨fun σ' H2 => ∃ m', m' < (g - b).toNat ∧ W m' σ' H2, fun _ _ h => h, ?_⟩
      refine ⟨_, by omega, (hW _ _ _).mpr ⟨b + 1, rfl, rfl, ⟨by omega, by omega, fun x x1 x2 => ?_⟩, rfl⟩⟩
      by_cases e : x = b
      · rw [e]; exact fun z => hb (iff.mpr z)
      · exact bn x x1 (by omega)
noncomputable abbrev O_least_base (P : Program) (w : World) (K : PySem.W.Frag) (mg : Str → Option Value) (base : Heap) : Prop := ∃ f fd, Df_least_base K mg f fd ∧ FnOk P w K mg base CX0 3 f fd ["p", "primes"] (spLBase)
theorem keep {H : Hp} {p q : Addr} {o u : HO} (e : H q = some o) (hp : H p = none) : (upd H p u) q = some o := by rw [upd_ne (ne_of_none e hp)]; exact e
noncomputable abbrev s_full_of_prime : Stmt := top 40
theorem sc_full_of_prime : FnScope ["p"] ["p"] (defScope s_full_of_prime) := ⟨rfl, rfl, rfl, by decide +kernel, rfl, by decide +kernel, by decide +kernel⟩
noncomputable abbrev Df_full_of_prime (K : PySem.W.Frag) (mg : Str → Option Value) (f : Addr) (fd : FuncData) : Prop := Def K mg "full_of_prime" s_full_of_prime ["p"] f fd
noncomputable abbrev s_full_rows : Stmt := top 41
theorem sc_full_rows : FnScope ["parts"] ["parts"] (defScope s_full_rows) := ⟨rfl, rfl, rfl, by decide +kernel, rfl, by decide +kernel, by decide +kernel⟩
noncomputable abbrev Df_full_rows (K : PySem.W.Frag) (mg : Str → Option Value) (f : Addr) (fd : FuncData) : Prop := Def K mg "full_rows" s_full_rows ["parts"] f fd
noncomputable def spFP (j : Nat) : Sp := fun vs H Q _ => ∃ (p : Int), vs = [.int p] ∧ (IsPr p ∧ p ≤ 10 ^ 9 ∧ p ≤ 2 ^ j) ∧ ∀ r H', Same H H' → Q (.ref r) H'
noncomputable def spFR (j : Nat) (K : PySem.W.Frag) : Sp := fun vs H Q _ => ∃ (c : Addr) (l : List (Int × Int)) (xs : List V), vs = [.ref c] ∧ H c = some (.tup xs) ∧ RepL K H (l.map pD) xs ∧ (l.length < 30 ∧ ∀ q ∈ l, IsPr q.1 ∧ q.1 ≤ 10 ^ 9 ∧ q.1 ≤ 2 ^ j) ∧ ∀ r H', Same H H' → Q (.ref r) H'
theorem ok_frs (D : Df_full_rows K mg f fd) (T : Txt K mg t1 t2 t3 t4) {j m : Nat} {f1 fd1} (D_full_of_prime : Df_full_of_prime K mg f1 fd1) (B_full_of_prime : ∀ b, FnOk P w K mg b CX0 m f1 fd1 ["p"] (spFP j)) : FnOk P w K mg base CX0 (m + 1) f fd ["parts"] (spFR j K) := by
  refine D.fn.ok sc_full_rows (fun vs H Q E h => ?_) (fun cdv A outer s H vs Q E hr h => ?_)
  · obtain ⟨c, l, xs, rfl, _⟩ := h
    rfl
  · obtain ⟨c, l, xs, rfl, hc, R, ⟨len, hl⟩, k⟩ := h
    have elen : xs.length = l.length := by rw [← R.length, List.length_map]
    refine ⟨_, (pss_one (ps_ret (pe_callTy call_tuple_of (by rfl) T.no_tuple PyProof.Rows.boot_tuple (pa_cons (pe_compD (N := ["prime", "often"]) (js := [none, none]) (by rfl) rfl (fun _ => rfl) (pi_tup (pv 0)) (by intro b _ _ _ _; exact (pg_tupK (K := K) (n := 2) rfl rfl (pgs_cons (pg_name (i := 0) (show List.Nodup (["prime", "often"] : List Str) by decide) rfl (by first | exact Or.inl rfl | exact Or.inr rfl)) (pgs_cons (pg_name (i := 1) (show List.Nodup (["prime", "often"] : List Str) by decide) rfl (by first | exact Or.inl rfl | exact Or.inr rfl)) pgs_nil)))) (by intro b _ _ _ _; exact pifs_nil) (by intro b _ _ _ _; exact (pe_tup (pa_cons (pv 0) (pa_cons (pv 1) (pa_cons (pe_call ((B_full_of_prime b).mono (by omega)) hr rfl D_full_of_prime.mgx D_full_of_prime.fn.kp D_full_of_prime.bd .nil pass0 (pa_cons (pv 0) pa_nil)) pa_nil)))))) pa_nil)))), ?_⟩
    have e0 : L2.start ["parts"] [.ref c] = [some (.ref c)] := rfl
    rw [e0]; clear e0
    simp only [tSeq, tIfS, tTest, tRet, tRetN, tNext, tDrop, tAsg, tPar, tPar3, tAug, tVar, tC, tOp, tUn, rI, rI0, rU, tB, tAnd, tOr, tNot, tAndV, tOrV, tNotV, tIf, gName, gNil, gCons, gTup, gSub, tCB, tCons, tNil, tCall, tChain, ipI, tIsN, tNotN, tBM, tyV, tTup, tLst, rAppend, rCat, scal_ii, scal_bb, scal_ss, scal_ni, scal_in, rEq, rNe, List.getElem?_cons_zero, List.getElem?_cons_succ, List.set_cons_zero, List.set_cons_succ, eq_self, and_assoc, Option.some.injEq, V.int.injEq, V.bl.injEq, V.ref.injEq, V.str.injEq, List.cons.injEq, exists_eq_left', exists_eq_left, exists_and_left, List.nil_append, List.cons_append, List.append_nil, true_and, and_true, decide_eq_true_eq, Bool.not_eq_true', decide_eq_false_iff_not, if_true, if_false, Bool.not_true, Bool.not_false, Bool.false_eq_true, reduceCtorEq, decide_true, decide_false, ite_true, ite_false, rSetL, rIxL, tRaise, jCons, jNil, tFmt, tDNew, rCount, rIndex, tCont, tBreak, Int.reduceToNat, Int.reducePow]
    refine tCompC_of ?_
    refine ⟨_, rfl, c, rfl, ⟨xs, SqT.of hc⟩, fun b D hcb hD => ?_⟩
    obtain ⟨Pv, hPv⟩ : ∃ Pv : Nat → St → Hp → Prop, ∀ i σ H2, Pv i σ H2 ↔ (∃ v1 v2, σ = [v1, v2]) ∧ Same H H2 ∧ ∃ ys, H2 D = some (.lst ys) ∧ ys.length = i := ⟨_, fun _ _ _ => Iff.rfl⟩
    refine comp_tup (xs := xs) Pv ((hPv _ _ _).mpr ⟨⟨_, _, rfl⟩, fun b o e => keep e hD, [], upd_same, rfl⟩) (fun i σ H2 hi h => ?_) ?_ ?_
    · obtain ⟨_, s2, _⟩ := (hPv _ _ _).mp h
      exact SqT.of (s2 _ _ hc)
    · intro i x σ H2 hx h
      obtain ⟨⟨v1, v2, rfl⟩, s2, ys, eD, yl⟩ := (hPv _ _ _).mp h
      have il : i < xs.length := (List.getElem?_eq_some_iff.mp hx).1
      obtain ⟨q, cc, hq, rfl, hcc⟩ := repL_pD_get (R.mono s2.tk _ (noLL_pD l)) hx
      have hmem : q ∈ l := List.mem_of_getElem? hq
      simp only [tSeq, tIfS, tTest, tRet, tRetN, tNext, tDrop, tAsg, tPar, tPar3, tAug, tVar, tC, tOp, tUn, rI, rI0, rU, tB, tAnd, tOr, tNot, tAndV, tOrV, tNotV, tIf, gName, gNil, gCons, gTup, gSub, tCB, tCons, tNil, tCall, tChain, ipI, tIsN, tNotN, tBM, tyV, tTup, tLst, rAppend, rCat, scal_ii, scal_bb, scal_ss, scal_ni, scal_in, rEq, rNe, List.getElem?_cons_zero, List.getElem?_cons_succ, List.set_cons_zero, List.set_cons_succ, eq_self, and_assoc, Option.some.injEq, V.int.injEq, V.bl.injEq, V.ref.injEq, V.str.injEq, List.cons.injEq, exists_eq_left', exists_eq_left, exists_and_left, List.nil_append, List.cons_append, List.append_nil, true_and, and_true, decide_eq_true_eq, Bool.not_eq_true', decide_eq_false_iff_not, if_true, if_false, Bool.not_true, Bool.not_false, Bool.false_eq_true, reduceCtorEq, decide_true, decide_false, ite_true, ite_false, rSetL, rIxL, tRaise, jCons, jNil, tFmt, tDNew, rCount, rIndex, tCont, tBreak, Int.reduceToNat, Int.reducePow, CT, tYes]
      refine ⟨_, hcc, rfl, ?_⟩
      simp only [tSeq, tIfS, tTest, tRet, tRetN, tNext, tDrop, tAsg, tPar, tPar3, tAug, tVar, tC, tOp, tUn, rI, rI0, rU, tB, tAnd, tOr, tNot, tAndV, tOrV, tNotV, tIf, gName, gNil, gCons, gTup, gSub, tCB, tCons, tNil, tCall, tChain, ipI, tIsN, tNotN, tBM, tyV, tTup, tLst, rAppend, rCat, scal_ii, scal_bb, scal_ss, scal_ni, scal_in, rEq, rNe, List.getElem?_cons_zero, List.getElem?_cons_succ, List.set_cons_zero, List.set_cons_succ, eq_self, and_assoc, Option.some.injEq, V.int.injEq, V.bl.injEq, V.ref.injEq, V.str.injEq, List.cons.injEq, exists_eq_left', exists_eq_left, exists_and_left, List.nil_append, List.cons_append, List.append_nil, true_and, and_true, decide_eq_true_eq, Bool.not_eq_true', decide_eq_false_iff_not, if_true, if_false, Bool.not_true, Bool.not_false, Bool.false_eq_true, reduceCtorEq, decide_true, decide_false, ite_true, ite_false, rSetL, rIxL, tRaise, jCons, jNil, tFmt, tDNew, rCount, rIndex, tCont, tBreak, Int.reduceToNat, Int.reducePow]
      refine ⟨q.1, rfl, hl q hmem, fun v H3 S3 => ⟨by show 3 ≤ sizeLine; decide, fun r hr' => ?_⟩⟩
      have eD3 := S3 _ _ eD
      refine ⟨ys, keep eD3 hr', small1000 (by omega), (hPv _ _ _).mpr ⟨⟨_, _, rfl⟩, fun b o e => ?_, _, upd_same, by rw [List.length_append, yl]; rfl⟩⟩
      rw [upd_ne (ne_of_none e hD)]
      exact keep (S3 _ _ (s2 _ _ e)) hr'
    · intro σ H2 h
      obtain ⟨⟨v1, v2, rfl⟩, s2, ys, eD, yl⟩ := (hPv _ _ _).mp h
      try simp only [tSeq, tIfS, tTest, tRet, tRetN, tNext, tDrop, tAsg, tPar, tPar3, tAug, tVar, tC, tOp, tUn, rI, rI0, rU, tB, tAnd, tOr, tNot, tAndV, tOrV, tNotV, tIf, gName, gNil, gCons, gTup, gSub, tCB, tCons, tNil, tCall, tChain, ipI, tIsN, tNotN, tBM, tyV, tTup, tLst, rAppend, rCat, scal_ii, scal_bb, scal_ss, scal_ni, scal_in, rEq, rNe, List.getElem?_cons_zero, List.getElem?_cons_succ, List.set_cons_zero, List.set_cons_succ, eq_self, and_assoc, Option.some.injEq, V.int.injEq, V.bl.injEq, V.ref.injEq, V.str.injEq, List.cons.injEq, exists_eq_left', exists_eq_left, exists_and_left, List.nil_append, List.cons_append, List.append_nil, true_and, and_true, decide_eq_true_eq, Bool.not_eq_true', decide_eq_false_iff_not, if_true, if_false, Bool.not_true, Bool.not_false, Bool.false_eq_true, reduceCtorEq, decide_true, decide_false, ite_true, ite_false, rSetL, rIxL, tRaise, jCons, jNil, tFmt, tDNew, rCount, rIndex, tCont, tBreak, Int.reduceToNat, Int.reducePow]
      refine ⟨ys, .inl ⟨SqL.of eD, fun tl htl => ?_⟩⟩
      exact k tl _ fun b o e => keep (s2 _ _ e) htl
theorem ok_fp0 {m : Nat} : FnOk P w K mg base CX0 m f fd ["p"] (spFP 0) :=
  ⟨fun vs H Q E h => by obtain ⟨p, rfl, _⟩ := h; rfl, fun A outer s H args us vs Q E hr e hb hv h => by
    obtain ⟨p, _, ⟨hp, _, h1⟩, _⟩ := h
    have := hp.1
    rw [Int.pow_zero] at h1
    omega⟩
theorem ok_fps (D : Df_full_of_prime K mg f fd) (T : Txt K mg t1 t2 t3 t4) (o1 : O_parts_of P w K mg base) (o2 : O_primes_of P w K mg base) (o3 : O_least_base P w K mg base) {j m : Nat} {f1 fd1} (D_full_rows : Df_full_rows K mg f1 fd1) (G_full_rows : FnOk P w K mg base CX0 (m + 7) f1 fd1 ["parts"] (spFR j K)) : FnOk P w K mg base CX0 (m + 8) f fd ["p"] (spFP (j + 1)) := by
  obtain ⟨_, _, D_parts_of, G_parts_of⟩ := o1
  obtain ⟨_, _, D_primes_of, G_primes_of⟩ := o2
  obtain ⟨_, _, D_least_base, G_least_base⟩ := o3
  refine D.fn.ok sc_full_of_prime (fun vs H Q E h => ?_) (fun cdv A outer s H vs Q E hr h => ?_)
  · obtain ⟨p, rfl, _⟩ := h
    rfl
  · obtain ⟨p, rfl, ⟨hp, p9, pj⟩, k⟩ := h
    have p2 := hp.1
    refine ⟨_, (pss_cons (ps_if (pt_cmpR op_eq (pv 0) pe_int (nomark _))
 (pss_one (ps_ret (pe_tup (pa_cons pe_str pa_nil))))
 pss_nil)
 (pss_one (ps_ret (pe_tup (pa_cons pe_str (pa_cons (pe_call (G_least_base.mono (by omega)) hr rfl D_least_base.mgx D_least_base.fn.kp D_least_base.bd .nil pass0 (pa_cons (pv 0) (pa_cons (pe_call (G_primes_of.mono (by omega)) hr rfl D_primes_of.mgx D_primes_of.fn.kp D_primes_of.bd .nil pass0 (pa_cons (pe_op op_sub (pv 0) pe_int) pa_nil)) pa_nil))) (pa_cons (pe_call (G_full_rows.mono (by omega)) hr rfl D_full_rows.mgx D_full_rows.fn.kp D_full_rows.bd .nil pass0 (pa_cons (pe_call (G_parts_of.mono (by omega)) hr rfl D_parts_of.mgx D_parts_of.fn.kp D_parts_of.bd .nil pass0 (pa_cons (pe_op op_sub (pv 0) pe_int) pa_nil)) pa_nil)) pa_nil))))))), ?_⟩
    have e0 : L2.start ["p"] [.int p] = [some (.int p)] := rfl
    rw [e0]; clear e0
    simp only [tSeq, tIfS, tTest, tRet, tRetN, tNext, tDrop, tAsg, tPar, tPar3, tAug, tVar, tC, tOp, tUn, rI, rI0, rU, tB, tAnd, tOr, tNot, tAndV, tOrV, tNotV, tIf, gName, gNil, gCons, gTup, gSub, tCB, tCons, tNil, tCall, tChain, ipI, tIsN, tNotN, tBM, tyV, tTup, tLst, rAppend, rCat, scal_ii, scal_bb, scal_ss, scal_ni, scal_in, rEq, rNe, List.getElem?_cons_zero, List.getElem?_cons_succ, List.set_cons_zero, List.set_cons_succ, eq_self, and_assoc, Option.some.injEq, V.int.injEq, V.bl.injEq, V.ref.injEq, V.str.injEq, List.cons.injEq, exists_eq_left', exists_eq_left, exists_and_left, List.nil_append, List.cons_append, List.append_nil, true_and, and_true, decide_eq_true_eq, Bool.not_eq_true', decide_eq_false_iff_not, if_true, if_false, Bool.not_true, Bool.not_false, Bool.false_eq_true, reduceCtorEq, decide_true, decide_false, ite_true, ite_false, rSetL, rIxL, tRaise, jCons, jNil, tFmt, tDNew, rCount, rIndex, tCont, tBreak, Int.reduceToNat, Int.reducePow]
    refine ite2 (fun e2 => ?_) (fun e2 => ?_)
    · exact ⟨by show 1 ≤ sizeLine; decide, fun r hr' => k r _ (fun b o e => keep e hr')⟩
    · refine ⟨p - 1, rfl, ⟨by omega, by omega⟩, fun l2 c2 H1 hl2 S1 hc2 => ?_⟩
      refine ⟨p, c2, l2, rfl, hc2, ⟨hp, p9, hl2⟩, fun rt hrt => ?_⟩
      try simp only [tSeq, tIfS, tTest, tRet, tRetN, tNext, tDrop, tAsg, tPar, tPar3, tAug, tVar, tC, tOp, tUn, rI, rI0, rU, tB, tAnd, tOr, tNot, tAndV, tOrV, tNotV, tIf, gName, gNil, gCons, gTup, gSub, tCB, tCons, tNil, tCall, tChain, ipI, tIsN, tNotN, tBM, tyV, tTup, tLst, rAppend, rCat, scal_ii, scal_bb, scal_ss, scal_ni, scal_in, rEq, rNe, List.getElem?_cons_zero, List.getElem?_cons_succ, List.set_cons_zero, List.set_cons_succ, eq_self, and_assoc, Option.some.injEq, V.int.injEq, V.bl.injEq, V.ref.injEq, V.str.injEq, List.cons.injEq, exists_eq_left', exists_eq_left, exists_and_left, List.nil_append, List.cons_append, List.append_nil, true_and, and_true, decide_eq_true_eq, Bool.not_eq_true', decide_eq_false_iff_not, if_true, if_false, Bool.not_true, Bool.not_false, Bool.false_eq_true, reduceCtorEq, decide_true, decide_false, ite_true, ite_false, rSetL, rIxL, tRaise, jCons, jNil, tFmt, tDNew, rCount, rIndex, tCont, tBreak, Int.reduceToNat, Int.reducePow]
      refine ⟨p - 1, rfl, ⟨by omega, by omega⟩, fun l c xs H2 hl S2 hc R => ?_⟩
      have len : l.length < 30 := parts_len hl.1.pr (by rw [hl.2]; omega)
      refine ⟨c, l, xs, rfl, hc, R, ⟨len, fun q hq => ⟨(hl.1.pr q hq).1, by have := (parts_le hl hq).1; omega, part_half hp pj hl hq⟩⟩, fun tl H3 S3 => ⟨by show 3 ≤ sizeLine; decide, fun r hr' => ?_⟩⟩
      exact k r _ fun b o e => keep (S3 _ _ (S2 _ _ (S1 _ _ e))) hr'
theorem ok_full (D : Df_full_of_prime K mg f fd) (T : Txt K mg t1 t2 t3 t4) (o1 : ∀ b, O_parts_of P w K mg b) (o2 : ∀ b, O_primes_of P w K mg b) (o3 : ∀ b, O_least_base P w K mg b) {f1 fd1} (D1 : Df_full_rows K mg f1 fd1) : ∀ (j : Nat) (b : Heap), FnOk P w K mg b CX0 (2 * j + 6) f fd ["p"] (spFP j)
  | 0, _ => ok_fp0
  | j + 1, b => ok_fps (m := 2 * j) D T (o1 b) (o2 b) (o3 b) D1 (ok_frs (m := 2 * j + 6) D1 T D (ok_full D T o1 o2 o3 D1 j))
noncomputable abbrev O_full_of_prime (P : Program) (w : World) (K : PySem.W.Frag) (mg : Str → Option Value) (base : Heap) : Prop := ∃ f fd, Df_full_of_prime K mg f fd ∧ FnOk P w K mg base CX0 66 f fd ["p"] (spFP 30)
noncomputable abbrev s_least_of_figures : Stmt := top 47
theorem sc_least_of_figures : FnScope ["figures", "least", "step"] ["figures"] (defScope s_least_of_figures) := ⟨rfl, rfl, rfl, by decide +kernel, rfl, by decide +kernel, by decide +kernel⟩
noncomputable abbrev Df_least_of_figures (K : PySem.W.Frag) (mg : Str → Option Value) (f : Addr) (fd : FuncData) : Prop := Def K mg "least_of_figures" s_least_of_figures ["figures"] f fd
noncomputable def spFig : Sp := fun vs H Q _ => ∃ (n : Nat), vs = [.int (n : Int)] ∧ (1 ≤ n ∧ n ≤ 30) ∧ Q (.int ((10 ^ (n - 1) : Nat) : Int)) H
theorem ten_le {i : Nat} (h : i ≤ 30) : ((10 ^ i : Nat) : Int).natAbs < 10 ^ 100 := by
  have h2 : 10 ^ i ≤ 10 ^ 30 := Nat.pow_le_pow_right (by decide) h
  rw [Int.natAbs_natCast]
  exact Nat.lt_of_le_of_lt h2 (by decide)
theorem ok_least_of_figures (D : Df_least_of_figures K mg f fd) (T : Txt K mg t1 t2 t3 t4) : FnOk P w K mg base CX0 1 f fd ["figures"] spFig := by
  refine D.fn.ok sc_least_of_figures (fun vs H Q E h => ?_) (fun cdv A outer s H vs Q E hr h => ?_)
  · obtain ⟨n, rfl, _⟩ := h
    rfl
  · obtain ⟨n, rfl, ⟨n1, n2⟩, k⟩ := h
    refine ⟨_, (pss_cons (ps_set (i := 1) sc_least_of_figures.nd rfl (by first | exact Or.inl rfl | exact Or.inr rfl) pe_int)
 (pss_cons (ps_for PassesOwn.never rfl (pi_range1 rfl T.no_range (pa_cons (pe_op op_sub (pv 0) pe_int) pa_nil)) (pg_name (i := 2) sc_least_of_figures.nd rfl (by first | exact Or.inl rfl | exact Or.inr rfl))
 (pss_one (ps_set (i := 1) sc_least_of_figures.nd rfl (by first | exact Or.inl rfl | exact Or.inr rfl) (pe_op op_mulB (pv 1) pe_int))))
 (pss_one (ps_ret (pv 1))))), ?_⟩
    have e0 : L2.start ["figures", "least", "step"] [.int n] = [some (.int n), none, none] := rfl
    rw [e0]; clear e0
    simp only [tSeq, tIfS, tTest, tRet, tRetN, tNext, tDrop, tAsg, tPar, tPar3, tAug, tVar, tC, tOp, tUn, rI, rI0, rU, tB, tAnd, tOr, tNot, tAndV, tOrV, tNotV, tIf, gName, gNil, gCons, gTup, gSub, tCB, tCons, tNil, tCall, tChain, ipI, tIsN, tNotN, tBM, tyV, tTup, tLst, rAppend, rCat, scal_ii, scal_bb, scal_ss, scal_ni, scal_in, rEq, rNe, List.getElem?_cons_zero, List.getElem?_cons_succ, List.set_cons_zero, List.set_cons_succ, eq_self, and_assoc, Option.some.injEq, V.int.injEq, V.bl.injEq, V.ref.injEq, V.str.injEq, List.cons.injEq, exists_eq_left', exists_eq_left, exists_and_left, List.nil_append, List.cons_append, List.append_nil, true_and, and_true, decide_eq_true_eq, Bool.not_eq_true', decide_eq_false_iff_not, if_true, if_false, Bool.not_true, Bool.not_false, Bool.false_eq_true, reduceCtorEq, decide_true, decide_false, ite_true, ite_false, rSetL, rIxL, tRaise, jCons, jNil, tFmt, tDNew, rCount, rIndex, tCont, tBreak, Int.reduceToNat, Int.reducePow]
    refine ⟨_, rfl, _, _, rfl, rfl, _, rfl, by omega, by omega, for_range (n := ((n : Int) - 1).toNat) (fun i σ H' => H' = H ∧ ∃ v, σ = [some (.int (n : Int)), some (.int ((10 ^ i : Nat) : Int)), v]) ⟨rfl, none, rfl⟩ ?_ ?_⟩
    · rintro i σ H1 hi ⟨rfl, v, rfl⟩
      try simp only [tSeq, tIfS, tTest, tRet, tRetN, tNext, tDrop, tAsg, tPar, tPar3, tAug, tVar, tC, tOp, tUn, rI, rI0, rU, tB, tAnd, tOr, tNot, tAndV, tOrV, tNotV, tIf, gName, gNil, gCons, gTup, gSub, tCB, tCons, tNil, tCall, tChain, ipI, tIsN, tNotN, tBM, tyV, tTup, tLst, rAppend, rCat, scal_ii, scal_bb, scal_ss, scal_ni, scal_in, rEq, rNe, List.getElem?_cons_zero, List.getElem?_cons_succ, List.set_cons_zero, List.set_cons_succ, eq_self, and_assoc, Option.some.injEq, V.int.injEq, V.bl.injEq, V.ref.injEq, V.str.injEq, List.cons.injEq, exists_eq_left', exists_eq_left, exists_and_left, List.nil_append, List.cons_append, List.append_nil, true_and, and_true, decide_eq_true_eq, Bool.not_eq_true', decide_eq_false_iff_not, if_true, if_false, Bool.not_true, Bool.not_false, Bool.false_eq_true, reduceCtorEq, decide_true, decide_false, ite_true, ite_false, rSetL, rIxL, tRaise, jCons, jNil, tFmt, tDNew, rCount, rIndex, tCont, tBreak, Int.reduceToNat, Int.reducePow]
      refine ⟨.inr ⟨ten_le (by omega), by decide⟩, ?_⟩
      rw [show ((10 ^ i : Nat) : Int) * 10 = ((10 ^ (i + 1) : Nat) : Int) by rw [Nat.pow_succ]; omega]
      exact ⟨rfl, _, rfl⟩
    · rintro σ H1 ⟨rfl, v, rfl⟩
      try simp only [tSeq, tIfS, tTest, tRet, tRetN, tNext, tDrop, tAsg, tPar, tPar3, tAug, tVar, tC, tOp, tUn, rI, rI0, rU, tB, tAnd, tOr, tNot, tAndV, tOrV, tNotV, tIf, gName, gNil, gCons, gTup, gSub, tCB, tCons, tNil, tCall, tChain, ipI, tIsN, tNotN, tBM, tyV, tTup, tLst, rAppend, rCat, scal_ii, scal_bb, scal_ss, scal_ni, scal_in, rEq, rNe, List.getElem?_cons_zero, List.getElem?_cons_succ, List.set_cons_zero, List.set_cons_succ, eq_self, and_assoc, Option.some.injEq, V.int.injEq, V.bl.injEq, V.ref.injEq, V.str.injEq, List.cons.injEq, exists_eq_left', exists_eq_left, exists_and_left, List.nil_append, List.cons_append, List.append_nil, true_and, and_true, decide_eq_true_eq, Bool.not_eq_true', decide_eq_false_iff_not, if_true, if_false, Bool.not_true, Bool.not_false, Bool.false_eq_true, reduceCtorEq, decide_true, decide_false, ite_true, ite_false, rSetL, rIxL, tRaise, jCons, jNil, tFmt, tDNew, rCount, rIndex, tCont, tBreak, Int.reduceToNat, Int.reducePow]
      rw [show ((n : Int) - 1).toNat = n - 1 by omega]
      exact k
noncomputable abbrev O_least_of_figures (P : Program) (w : World) (K : PySem.W.Frag) (mg : Str → Option Value) (base : Heap) : Prop := ∃ f fd, Df_least_of_figures K mg f fd ∧ FnOk P w K mg base CX0 1 f fd ["figures"] (spFig)
noncomputable abbrev s_prime_tried : Stmt := top 48
theorem sc_prime_tried : FnScope ["least", "number"] ["least"] (defScope s_prime_tried) := ⟨rfl, rfl, rfl, by decide +kernel, rfl, by decide +kernel, by decide +kernel⟩
noncomputable abbrev Df_prime_tried (K : PySem.W.Frag) (mg : Str → Option Value) (f : Addr) (fd : FuncData) : Prop := Def K mg "prime_tried" s_prime_tried ["least"] f fd
noncomputable def spTriedP : Sp := fun vs H Q _ => ∃ (n : Nat), vs = [.int ((10 ^ (n - 1) : Nat) : Int)] ∧ (1 ≤ n ∧ n ≤ 9) ∧ Q (.int (PrT n : Int)) H
theorem ok_prime_tried (D : Df_prime_tried K mg f fd) (T : Txt K mg t1 t2 t3 t4) (o1 : O_is_prime P w K mg base) : FnOk P w K mg base CX0 6 f fd ["least"] spTriedP := by
  obtain ⟨_, _, D_is_prime, G_is_prime⟩ := o1
  refine D.fn.ok sc_prime_tried (fun vs H Q E h => ?_) (fun cdv A outer s H vs Q E hr h => ?_)
  · obtain ⟨n, rfl, _⟩ := h
    rfl
  · obtain ⟨n, rfl, ⟨n1, n2⟩, k⟩ := h
    obtain ⟨hp, hle, hno⟩ := triedT_all n1 n2
    have pb : PrT n ≤ 1000000000 := by
      have h : n = 1 ∨ n = 2 ∨ n = 3 ∨ n = 4 ∨ n = 5 ∨ n = 6 ∨ n = 7 ∨ n = 8 ∨ n = 9 := by omega
      rcases h with rfl | rfl | rfl | rfl | rfl | rfl | rfl | rfl | rfl <;> decide
    generalize 10 ^ (n - 1) = lo at hle hno ⊢
    refine ⟨_, (pss_cons (ps_set (i := 1) sc_prime_tried.nd rfl (by first | exact Or.inl rfl | exact Or.inr rfl) (pv 0))
 (pss_cons (ps_while PassesOwn.never (pt_not (pt_val (pe_call (G_is_prime.mono (by decide)) hr rfl D_is_prime.mgx D_is_prime.fn.kp D_is_prime.bd .nil pass0 (pa_cons (pv 1) pa_nil))))
 (pss_one (ps_aug (i := 1) sc_prime_tried.nd rfl (Or.inl rfl) pe_int ip_add)))
 (pss_one (ps_ret (pv 1))))), ?_⟩
    have e0 : L2.start ["least", "number"] [.int lo] = [some (.int lo), none] := rfl
    rw [e0]; clear e0
    simp only [tSeq, tIfS, tTest, tRet, tRetN, tNext, tDrop, tAsg, tPar, tPar3, tAug, tVar, tC, tOp, tUn, rI, rI0, rU, tB, tAnd, tOr, tNot, tAndV, tOrV, tNotV, tIf, gName, gNil, gCons, gTup, gSub, tCB, tCons, tNil, tCall, tChain, ipI, tIsN, tNotN, tBM, tyV, tTup, tLst, rAppend, rCat, scal_ii, scal_bb, scal_ss, scal_ni, scal_in, rEq, rNe, List.getElem?_cons_zero, List.getElem?_cons_succ, List.set_cons_zero, List.set_cons_succ, eq_self, and_assoc, Option.some.injEq, V.int.injEq, V.bl.injEq, V.ref.injEq, V.str.injEq, List.cons.injEq, exists_eq_left', exists_eq_left, exists_and_left, List.nil_append, List.cons_append, List.append_nil, true_and, and_true, decide_eq_true_eq, Bool.not_eq_true', decide_eq_false_iff_not, if_true, if_false, Bool.not_true, Bool.not_false, Bool.false_eq_true, reduceCtorEq, decide_true, decide_false, ite_true, ite_false, rSetL, rIxL, tRaise, jCons, jNil, tFmt, tDNew, rCount, rIndex, tCont, tBreak, Int.reduceToNat, Int.reducePow]
    obtain ⟨W, hW⟩ : ∃ W : Nat → St → Hp → Prop, ∀ j σ H', W j σ H' ↔ ∃ m : Nat, j = PrT n - m ∧ σ = [some (.int (lo : Int)), some (.int (m : Int))] ∧ (lo ≤ m ∧ m ≤ PrT n) ∧ H' = H := ⟨_, fun _ _ _ => Iff.rfl⟩
    refine ⟨W, ⟨_, (hW _ _ _).mpr ⟨lo, rfl, rfl, ⟨Nat.le_refl _, hle⟩, rfl⟩⟩, ?_⟩
    intro j σ H' hw
    obtain ⟨m, rfl, rfl, ⟨m1, m2⟩, rfl⟩ := (hW _ _ _).mp hw
    clear hw
    simp only [tSeq, tIfS, tTest, tRet, tRetN, tNext, tDrop, tAsg, tPar, tPar3, tAug, tVar, tC, tOp, tUn, rI, rI0, rU, tB, tAnd, tOr, tNot, tAndV, tOrV, tNotV, tIf, gName, gNil, gCons, gTup, gSub, tCB, tCons, tNil, tCall, tChain, ipI, tIsN, tNotN, tBM, tyV, tTup, tLst, rAppend, rCat, scal_ii, scal_bb, scal_ss, scal_ni, scal_in, rEq, rNe, List.getElem?_cons_zero, List.getElem?_cons_succ, List.set_cons_zero, List.set_cons_succ, eq_self, and_assoc, Option.some.injEq, V.int.injEq, V.bl.injEq, V.ref.injEq, V.str.injEq, List.cons.injEq, exists_eq_left', exists_eq_left, exists_and_left, List.nil_append, List.cons_append, List.append_nil, true_and, and_true, decide_eq_true_eq, Bool.not_eq_true', decide_eq_false_iff_not, if_true, if_false, Bool.not_true, Bool.not_false, Bool.false_eq_true, reduceCtorEq, decide_true, decide_false, ite_true, ite_false, rSetL, rIxL, tRaise, jCons, jNil, tFmt, tDNew, rCount, rIndex, tCont, tBreak, Int.reduceToNat, Int.reducePow]
    refine ⟨_, rfl, ⟨by omega, by omega⟩, ?_⟩
    by_cases e : m = PrT n
    · subst e
      rw [isPrB_of hp]
      refine ⟨_, rfl, ?_⟩
      rw [if_neg (by decide)]
      exact k
    · rw [isPrB_not (hno m m1 (by omega))]
      refine ⟨_, rfl, ?_⟩
      rw [if_pos rfl]
      refine ⟨fun σ' H2 => ∃ m', m' < PrT n - m ∧ W m' σ' H2, fun _ _ h => h, ?_⟩
      exact ⟨_, by omega, (hW _ _ _).mpr ⟨m + 1, rfl, by simp, ⟨by omega, by omega⟩, rfl⟩⟩
noncomputable abbrev O_prime_tried (P : Program) (w : World) (K : PySem.W.Frag) (mg : Str → Option Value) (base : Heap) : Prop := ∃ f fd, Df_prime_tried K mg f fd ∧ FnOk P w K mg base CX0 6 f fd ["least"] (spTriedP)
end
end PP
set_option Elab.async false
set_option linter.all false
set_option maxRecDepth 100000
set_option maxHeartbeats 4000000
namespace PP
open PySem L2 MM
section
variable {P : Program} {w : World} {K : PySem.W.Frag} {mg : Str → Option Value} {base : Heap} {t1 t2 t3 t4 : Tok} {f : Addr} {fd : FuncData}
noncomputable def mdN (q k : Int) : Int := 2 * k * q + 1
structure MdOk (q k : Int) : Prop where
  pq : IsPr q
  k1 : 1 ≤ k
  qq : mdN q k < q * q
  le : mdN q k ≤ 10 ^ 30
theorem MdOk.n3 {q k : Int} (h : MdOk q k) : 5 ≤ mdN q k ∧ mdN q k % 2 = 1 ∧ 2 * k < mdN q k - 1 ∧ q < mdN q k := by
  have q2 := h.pq.1
  have k1 := h.k1
  have a := Int.mul_le_mul k1 q2 (by decide) (by omega)
  have b := Int.mul_le_mul_of_nonneg_left q2 (show 0 ≤ k by omega)
  have d := Int.mul_le_mul_of_nonneg_right k1 (show 0 ≤ q by omega)
  have e : 2 * k * q = 2 * (k * q) := by grind
  unfold mdN
  omega
theorem md_prime {q k : Int} (h : MdOk q k) (hp : IsPr (mdN q k)) : ∃ g, 2 ≤ g ∧ g < mdN q k ∧ Int.gcd (g ^ (2 * k).toNat % mdN q k - 1) (mdN q k) = 1 := by
  obtain ⟨n5, no, kn, _⟩ := h.n3
  obtain ⟨g, g1, g2, hg⟩ := prim_root hp
  have k1 := h.k1
  have nz : ¬ Cg (mdN q k) (g ^ (2 * k).toNat) 1 := fun z => hg.least (2 * k) (by omega) (by omega) z
  refine ⟨g, ?_, g2, gcd_prW hp fun z => nz ?_⟩
  · refine Classical.byContradiction fun w => nz ?_
    rw [show g = 1 by omega, Int.one_pow]
    exact ⟨0, by simp⟩
  · have a : Cg (mdN q k) (g ^ (2 * k).toNat % mdN q k) 1 := z
    exact (cg_mod (mdN q k) (g ^ (2 * k).toNat)).symm.trans a
theorem md_none {q k : Int} (h : MdOk q k) (hp : ¬ IsPr (mdN q k)) : ∃ d, 2 ≤ d ∧ d < mdN q k ∧ halvB (mdN q k) d = false := by
  obtain ⟨n5, no, _, _⟩ := h.n3
  obtain ⟨p, pp, pn, _⟩ := least_div (show 2 ≤ mdN q k by omega)
  have pd : p ∣ mdN q k := Int.dvd_of_emod_eq_zero pn
  have p2 := pp.1
  have ple := Int.le_of_dvd (by omega) pd
  refine ⟨p, p2, ?_, ?_⟩
  · refine Classical.byContradiction fun w => hp ?_
    rw [← show p = mdN q k by omega]
    exact pp
  · refine Bool.eq_false_iff.mpr fun w => ?_
    have := of_decide_eq_true (sgn_pow (by omega) no (halv_sgn (by omega) no w))
    have c1 : Cg (mdN q k) (p ^ (mdN q k - 1).toNat) 1 := cg_of (by rw [this]; exact (Int.emod_eq_of_lt (by decide) (by omega)).symm)
    exact cof pp (Int.dvd_trans pd c1) (by omega) (Int.dvd_refl p)
theorem md_pock {q k b : Int} (h : MdOk q k) (hb : halvB (mdN q k) b = true) (hg : Int.gcd (b ^ (2 * k).toNat % mdN q k - 1) (mdN q k) = 1) : IsPr (mdN q k) := by
  obtain ⟨n5, no, _, _⟩ := h.n3
  have := of_decide_eq_true (sgn_pow (by omega) no (halv_sgn (by omega) no hb))
  exact pock rfl h.k1 h.pq h.qq this hg
noncomputable abbrev s_made_of : Stmt := top 45
theorem sc_made_of : FnScope ["q", "paper", "k", "n", "base"] ["q", "paper", "k"] (defScope s_made_of) := ⟨rfl, rfl, rfl, by decide +kernel, rfl, by decide +kernel, by decide +kernel⟩
noncomputable abbrev Df_made_of (K : PySem.W.Frag) (mg : Str → Option Value) (f : Addr) (fd : FuncData) : Prop := Def K mg "made_of" s_made_of ["q", "paper", "k"] f fd
noncomputable def spMade : Sp := fun vs H Q _ => ∃ (q k : Int) (x : V), vs = [.int q, x, .int k] ∧ MdOk q k ∧ (IsPr (mdN q k) → ∀ r H', Same H H' → Q (.ref r) H') ∧ (¬ IsPr (mdN q k) → ∀ H', Same H H' → Q .non H')
theorem ok_made_of (D : Df_made_of K mg f fd) (T : Txt K mg t1 t2 t3 t4) (o1 : O_lets_by_halves P w K mg base) (o2 : O_greatest_in_both P w K mg base) (o3 : O_power_rest P w K mg base) : FnOk P w K mg base CX0 3 f fd ["q", "paper", "k"] spMade := by
  obtain ⟨_, _, D_lets_by_halves, G_lets_by_halves⟩ := o1
  obtain ⟨_, _, D_greatest_in_both, G_greatest_in_both⟩ := o2
  obtain ⟨_, _, D_power_rest, G_power_rest⟩ := o3
  refine D.fn.ok sc_made_of (fun vs H Q E h => ?_) (fun cdv A outer s H vs Q E hr h => ?_)
  · obtain ⟨q, k, x, rfl, _⟩ := h
    rfl
  · obtain ⟨q, k, x, rfl, M, k1, k2⟩ := h
    obtain ⟨n5, no, kn, qn⟩ := M.n3
    have nle := M.le
    have kk := M.k1
    have q2 := M.pq.1
    obtain ⟨n, hn⟩ : ∃ n, n = mdN q k := ⟨_, rfl⟩
    have hn2 : 2 * k * q + 1 = n := by rw [hn]; rfl
    obtain ⟨g, g2, gn, hg⟩ : ∃ g, 2 ≤ g ∧ g < n ∧ ((IsPr n ∧ Int.gcd (g ^ (2 * k).toNat % n - 1) n = 1) ∨ (¬ IsPr n ∧ halvB n g = false)) := by
      rw [hn]
      by_cases hp : IsPr (mdN q k)
      · obtain ⟨g, a, b, c⟩ := md_prime M hp
        exact ⟨g, a, b, .inl ⟨hp, c⟩⟩
      · obtain ⟨g, a, b, c⟩ := md_none M hp
        exact ⟨g, a, b, .inr ⟨hp, c⟩⟩
    have pk : ∀ b, halvB n b = true → Int.gcd (b ^ (2 * k).toNat % n - 1) n = 1 → IsPr n := fun b => by rw [hn]; exact md_pock M
    rw [← hn] at n5 no kn qn nle k1 k2
    clear M hn
    refine ⟨_, (pss_cons (ps_set (i := 3) sc_made_of.nd rfl (by first | exact Or.inl rfl | exact Or.inr rfl) (pe_op op_add (pe_op op_mulB (pe_op op_mulB pe_int (pv 2)) (pv 0)) pe_int))
 (pss_cons (ps_set (i := 4) sc_made_of.nd rfl (by first | exact Or.inl rfl | exact Or.inr rfl) pe_int)
 (pss_cons (ps_while PassesOwn.never (pt_val (pe_call (G_lets_by_halves.mono (by decide)) hr rfl D_lets_by_halves.mgx D_lets_by_halves.fn.kp D_lets_by_halves.bd .nil pass0 (pa_cons (pv 3) (pa_cons (pv 4) pa_nil))))
 (pss_cons (ps_if (pt_cmpR op_eq (pe_call (G_greatest_in_both.mono (by decide)) hr rfl D_greatest_in_both.mgx D_greatest_in_both.fn.kp D_greatest_in_both.bd .nil pass0 (pa_cons (pe_op op_sub (pe_call (G_power_rest.mono (by decide)) hr rfl D_power_rest.mgx D_power_rest.fn.kp D_power_rest.bd .nil pass0 (pa_cons (pv 4) (pa_cons (pe_op op_mulB pe_int (pv 2)) (pa_cons (pv 3) pa_nil)))) pe_int) (pa_cons (pv 3) pa_nil))) pe_int (nomark _))
 (pss_one (ps_ret (pe_tup (pa_cons pe_str (pa_cons (pv 4) (pa_cons (pe_tup (pa_cons (pe_tup (pa_cons (pv 0) (pa_cons pe_int (pa_cons (pv 1) pa_nil)))) pa_nil)) pa_nil))))))
 pss_nil)
 (pss_one (ps_aug (i := 4) sc_made_of.nd rfl (Or.inl rfl) pe_int ip_add))))
 (pss_one (ps_ret pe_non))))), ?_⟩
    have e0 : L2.start ["q", "paper", "k", "n", "base"] [.int q, x, .int k] = [some (.int q), some (x), some (.int k), none, none] := rfl
    rw [e0]; clear e0
    simp only [tSeq, tIfS, tTest, tRet, tRetN, tNext, tDrop, tAsg, tPar, tPar3, tAug, tVar, tC, tOp, tUn, rI, rI0, rU, tB, tAnd, tOr, tNot, tAndV, tOrV, tNotV, tIf, gName, gNil, gCons, gTup, gSub, tCB, tCons, tNil, tCall, tChain, ipI, tIsN, tNotN, tBM, tyV, tTup, tLst, rAppend, rCat, scal_ii, scal_bb, scal_ss, scal_ni, scal_in, rEq, rNe, List.getElem?_cons_zero, List.getElem?_cons_succ, List.set_cons_zero, List.set_cons_succ, eq_self, and_assoc, Option.some.injEq, V.int.injEq, V.bl.injEq, V.ref.injEq, V.str.injEq, List.cons.injEq, exists_eq_left', exists_eq_left, exists_and_left, List.nil_append, List.cons_append, List.append_nil, true_and, and_true, decide_eq_true_eq, Bool.not_eq_true', decide_eq_false_iff_not, if_true, if_false, Bool.not_true, Bool.not_false, Bool.false_eq_true, reduceCtorEq, decide_true, decide_false, ite_true, ite_false, rSetL, rIxL, tRaise, jCons, jNil, tFmt, tDNew, rCount, rIndex, tCont, tBreak, Int.reduceToNat, Int.reducePow]
    refine ⟨.inr ⟨by decide, by omega⟩, .inr ⟨by omega, by omega⟩, ?_⟩
    rw [hn2]
    obtain ⟨W, hW⟩ : ∃ W : Nat → St → Hp → Prop, ∀ j σ H', W j σ H' ↔ ∃ b : Int, j = (g - b).toNat ∧ σ = [some (.int q), some x, some (.int k), some (.int n), some (.int b)] ∧ (2 ≤ b ∧ b ≤ g) ∧ Same H H' := ⟨_, fun _ _ _ => Iff.rfl⟩
    refine ⟨W, ⟨_, (hW _ _ _).mpr ⟨2, rfl, rfl, ⟨Int.le_refl _, g2⟩, Same.refl H⟩⟩, ?_⟩
    intro j σ H' hw
    obtain ⟨b, rfl, rfl, ⟨b2, bg⟩, S⟩ := (hW _ _ _).mp hw
    clear hw
    simp only [tSeq, tIfS, tTest, tRet, tRetN, tNext, tDrop, tAsg, tPar, tPar3, tAug, tVar, tC, tOp, tUn, rI, rI0, rU, tB, tAnd, tOr, tNot, tAndV, tOrV, tNotV, tIf, gName, gNil, gCons, gTup, gSub, tCB, tCons, tNil, tCall, tChain, ipI, tIsN, tNotN, tBM, tyV, tTup, tLst, rAppend, rCat, scal_ii, scal_bb, scal_ss, scal_ni, scal_in, rEq, rNe, List.getElem?_cons_zero, List.getElem?_cons_succ, List.set_cons_zero, List.set_cons_succ, eq_self, and_assoc, Option.some.injEq, V.int.injEq, V.bl.injEq, V.ref.injEq, V.str.injEq, List.cons.injEq, exists_eq_left', exists_eq_left, exists_and_left, List.nil_append, List.cons_append, List.append_nil, true_and, and_true, decide_eq_true_eq, Bool.not_eq_true', decide_eq_false_iff_not, if_true, if_false, Bool.not_true, Bool.not_false, Bool.false_eq_true, reduceCtorEq, decide_true, decide_false, ite_true, ite_false, rSetL, rIxL, tRaise, jCons, jNil, tFmt, tDNew, rCount, rIndex, tCont, tBreak, Int.reduceToNat, Int.reducePow]
    refine ⟨n, b, rfl, ⟨by omega, by omega, by omega⟩, fun H2 S2 => ⟨_, rfl, ?_⟩⟩
    cases hb : halvB n b with
    | false =>
      rw [if_neg (by decide)]
      refine k2 (fun hp => ?_) H2 (S.trans S2)
      rw [(pr_looks hp (by omega) (by omega) (by omega)).1] at hb
      cases hb
    | true =>
      rw [if_pos rfl]
      refine ⟨fun σ' H2 => ∃ m', m' < (g - b).toNat ∧ W m' σ' H2, fun _ _ h => h, ?_⟩
      refine ⟨.inr ⟨by decide, by omega⟩, b, _, n, rfl, ⟨by omega, by omega, by omega, by omega⟩, ?_⟩
      have r0 := Int.emod_nonneg (b ^ (2 * k).toNat) (show n ≠ 0 by omega)
      have r1 := Int.emod_lt_of_pos (b ^ (2 * k).toNat) (show 0 < n by omega)
      try simp only [tSeq, tIfS, tTest, tRet, tRetN, tNext, tDrop, tAsg, tPar, tPar3, tAug, tVar, tC, tOp, tUn, rI, rI0, rU, tB, tAnd, tOr, tNot, tAndV, tOrV, tNotV, tIf, gName, gNil, gCons, gTup, gSub, tCB, tCons, tNil, tCall, tChain, ipI, tIsN, tNotN, tBM, tyV, tTup, tLst, rAppend, rCat, scal_ii, scal_bb, scal_ss, scal_ni, scal_in, rEq, rNe, List.getElem?_cons_zero, List.getElem?_cons_succ, List.set_cons_zero, List.set_cons_succ, eq_self, and_assoc, Option.some.injEq, V.int.injEq, V.bl.injEq, V.ref.injEq, V.str.injEq, List.cons.injEq, exists_eq_left', exists_eq_left, exists_and_left, List.nil_append, List.cons_append, List.append_nil, true_and, and_true, decide_eq_true_eq, Bool.not_eq_true', decide_eq_false_iff_not, if_true, if_false, Bool.not_true, Bool.not_false, Bool.false_eq_true, reduceCtorEq, decide_true, decide_false, ite_true, ite_false, rSetL, rIxL, tRaise, jCons, jNil, tFmt, tDNew, rCount, rIndex, tCont, tBreak, Int.reduceToNat, Int.reducePow]
      refine ⟨_, n, rfl, ⟨by omega, by omega⟩, ?_⟩
      try simp only [tSeq, tIfS, tTest, tRet, tRetN, tNext, tDrop, tAsg, tPar, tPar3, tAug, tVar, tC, tOp, tUn, rI, rI0, rU, tB, tAnd, tOr, tNot, tAndV, tOrV, tNotV, tIf, gName, gNil, gCons, gTup, gSub, tCB, tCons, tNil, tCall, tChain, ipI, tIsN, tNotN, tBM, tyV, tTup, tLst, rAppend, rCat, scal_ii, scal_bb, scal_ss, scal_ni, scal_in, rEq, rNe, List.getElem?_cons_zero, List.getElem?_cons_succ, List.set_cons_zero, List.set_cons_succ, eq_self, and_assoc, Option.some.injEq, V.int.injEq, V.bl.injEq, V.ref.injEq, V.str.injEq, List.cons.injEq, exists_eq_left', exists_eq_left, exists_and_left, List.nil_append, List.cons_append, List.append_nil, true_and, and_true, decide_eq_true_eq, Bool.not_eq_true', decide_eq_false_iff_not, if_true, if_false, Bool.not_true, Bool.not_false, Bool.false_eq_true, reduceCtorEq, decide_true, decide_false, ite_true, ite_false, rSetL, rIxL, tRaise, jCons, jNil, tFmt, tDNew, rCount, rIndex, tCont, tBreak, Int.reduceToNat, Int.reducePow]
      refine ite2 (fun e1 => ?_) (fun e1 => ?_)
      · have gg : Int.gcd (b ^ (2 * k).toNat % n - 1) n = 1 := by omega
        refine ⟨by show 3 ≤ sizeLine; decide, fun p1 hp1 => ⟨by show 1 ≤ sizeLine; decide, fun p2 hp2 => ⟨by show 3 ≤ sizeLine; decide, fun p3 hp3 => ?_⟩⟩⟩
        exact k1 (pk b hb gg) p3 _ fun c o e => keep (keep (keep (S2 _ _ (S _ _ e)) hp1) hp2) hp3
      · have ne : b ≠ g := fun z => by
          rcases hg with ⟨_, w⟩ | ⟨_, w⟩
          · rw [z] at e1; omega
          · rw [z, w] at hb; cases hb
        exact ⟨_, by omega, (hW _ _ _).mpr ⟨b + 1, rfl, rfl, ⟨by omega, by omega⟩, S.trans S2⟩⟩
noncomputable abbrev O_made_of (P : Program) (w : World) (K : PySem.W.Frag) (mg : Str → Option Value) (base : Heap) : Prop := ∃ f fd, Df_made_of K mg f fd ∧ FnOk P w K mg base CX0 3 f fd ["q", "paper", "k"] (spMade)
noncomputable abbrev s_prime_from : Stmt := top 46
theorem sc_prime_from : FnScope ["figures", "least", "prime", "q", "paper", "k"] ["figures"] (defScope s_prime_from) := ⟨rfl, rfl, rfl, by decide +kernel, rfl, by decide +kernel, by decide +kernel⟩
noncomputable abbrev Df_prime_from (K : PySem.W.Frag) (mg : Str → Option Value) (f : Addr) (fd : FuncData) : Prop := Def K mg "prime_from" s_prime_from ["figures"] f fd
structure PFok (n : Nat) (p : Int) : Prop where
  pr : IsPr p
  le : p ≤ PrT n
  eq : n ≤ 16 → p = PrT n
  ge : 2 ≤ n → 3 ≤ p
noncomputable def spPF (M : Nat) : Sp := fun vs H Q _ => ∃ (n : Nat), vs = [.int (n : Int)] ∧ (1 ≤ n ∧ n ≤ M) ∧ ∀ p r x H', PFok n p → Same H H' → H' r = some (.tup [.int p, x]) → Q (.ref r) H'
theorem ok_pf0 {m : Nat} : FnOk P w K mg base CX0 m f fd ["figures"] (spPF 0) :=
  ⟨fun vs H Q E h => by obtain ⟨p, rfl, _⟩ := h; rfl, fun A outer s H args us vs Q E hr e hb hv h => by
    obtain ⟨p, _, h1, _⟩ := h
    omega⟩
theorem md_of {n : Nat} (h1 : 10 ≤ n) (h2 : n ≤ 29) {k : Nat} (k1 : 1 ≤ k) (hk : k ≤ KT n) : MdOk (PrT ((n + 3) / 2) : Int) (k : Int) ∧ mdN (PrT ((n + 3) / 2) : Int) (k : Int) ≤ PrT n := by
  have m := madeT_all h1 h2
  have pb := ptT_le (show 1 ≤ n by omega) h2
  have qb := ptT_le (show 1 ≤ (n + 3) / 2 by omega) (show (n + 3) / 2 ≤ 29 by omega)
  have le : mdN (PrT ((n + 3) / 2) : Int) (k : Int) ≤ PrT n := by
    rw [m.eq]
    unfold mdN
    have := Int.mul_le_mul_of_nonneg_right (show 2 * (k : Int) ≤ 2 * (KT n : Int) by omega) (show (0 : Int) ≤ PrT ((n + 3) / 2) by omega)
    omega
  have e := m.eq
  have hq : IsPr (PrT ((n + 3) / 2) : Int) := by
    by_cases z : (n + 3) / 2 ≤ 9
    · exact (triedT_all (by omega) z).pr
    · exact (madeT_all (by omega) (by omega)).pr
  refine ⟨⟨hq, by omega, ?_, ?_⟩, le⟩
  · have qq := m.qq
    have c : ((2 * KT n * PrT ((n + 3) / 2) + 1 : Nat) : Int) < ((PrT ((n + 3) / 2) * PrT ((n + 3) / 2) : Nat) : Int) := by exact_mod_cast qq
    rw [Int.natCast_add, Int.natCast_mul, Int.natCast_mul, Int.natCast_mul] at c
    have e2 : ((2 : Nat) : Int) = 2 := rfl
    rw [e2] at c
    omega
  · have : (PrT n : Int) ≤ 10 ^ 29 := by exact_mod_cast pb.2.1
    omega
theorem ok_pfs (D : Df_prime_from K mg f fd) (T : Txt K mg t1 t2 t3 t4) (o1 : O_least_of_figures P w K mg base) (o2 : O_prime_tried P w K mg base) (o3 : O_full_of_prime P w K mg base) (o4 : O_made_of P w K mg base) {M M2 m : Nat} (hM : M2 ≤ 29) (hM2 : ∀ n, 10 ≤ n → n ≤ M2 → (n + 3) / 2 ≤ M) (G_prime_from : FnOk P w K mg base CX0 (m + 66) f fd ["figures"] (spPF M)) : FnOk P w K mg base CX0 (m + 67) f fd ["figures"] (spPF M2) := by
  obtain ⟨_, _, D_least_of_figures, G_least_of_figures⟩ := o1
  obtain ⟨_, _, D_prime_tried, G_prime_tried⟩ := o2
  obtain ⟨_, _, D_full_of_prime, G_full_of_prime⟩ := o3
  obtain ⟨_, _, D_made_of, G_made_of⟩ := o4
  have D_prime_from := D
  refine D.fn.ok sc_prime_from (fun vs H Q E h => ?_) (fun cdv A outer s H vs Q E hr h => ?_)
  · obtain ⟨n, rfl, _⟩ := h
    rfl
  · obtain ⟨n, rfl, ⟨n1, n2⟩, k⟩ := h
    refine ⟨_, (pss_cons (ps_set (i := 1) sc_prime_from.nd rfl (by first | exact Or.inl rfl | exact Or.inr rfl) (pe_call (G_least_of_figures.mono (by omega)) hr rfl D_least_of_figures.mgx D_least_of_figures.fn.kp D_least_of_figures.bd .nil pass0 (pa_cons (pv 0) pa_nil)))
 (pss_cons (ps_if (pt_cmpR op_le (pv 0) (pe_glob (v := .int _) rfl T.mg_FIGURES_TRIED ⟨_, rfl⟩) (nomark _))
 (pss_cons (ps_set (i := 2) sc_prime_from.nd rfl (by first | exact Or.inl rfl | exact Or.inr rfl) (pe_call (G_prime_tried.mono (by omega)) hr rfl D_prime_tried.mgx D_prime_tried.fn.kp D_prime_tried.bd .nil pass0 (pa_cons (pv 1) pa_nil)))
 (pss_one (ps_ret (pe_tup (pa_cons (pv 2) (pa_cons (pe_call (G_full_of_prime.mono (by omega)) hr rfl D_full_of_prime.mgx D_full_of_prime.fn.kp D_full_of_prime.bd .nil pass0 (pa_cons (pv 2) pa_nil)) pa_nil))))))
 pss_nil)
 (pss_cons (ps_asg (pe_call (G_prime_from.mono (by omega)) hr rfl D_prime_from.mgx D_prime_from.fn.kp D_prime_from.bd .nil pass0 (pa_cons (pe_op op_fdivB (pe_op op_add (pv 0) pe_int) pe_int) pa_nil)) (pg_tup rfl (pgs_cons (pg_name (i := 3) sc_prime_from.nd rfl (by first | exact Or.inl rfl | exact Or.inr rfl)) (pgs_cons (pg_name (i := 4) sc_prime_from.nd rfl (by first | exact Or.inl rfl | exact Or.inr rfl)) pgs_nil))))
 (pss_cons (ps_set (i := 5) sc_prime_from.nd rfl (by first | exact Or.inl rfl | exact Or.inr rfl) (pe_op op_add (pe_op op_fdivB (pv 1) (pe_op op_mulB pe_int (pv 3))) pe_int))
 (pss_cons (ps_while PassesOwn.never (pt_cmp (pc_isN (pe_call (G_made_of.mono (by omega)) hr rfl D_made_of.mgx D_made_of.fn.kp D_made_of.bd .nil pass0 (pa_cons (pv 3) (pa_cons (pv 4) (pa_cons (pv 5) pa_nil))))))
 (pss_one (ps_aug (i := 5) sc_prime_from.nd rfl (Or.inl rfl) pe_int ip_add)))
 (pss_one (ps_ret (pe_tup (pa_cons (pe_op op_add (pe_op op_mulB (pe_op op_mulB pe_int (pv 5)) (pv 3)) pe_int) (pa_cons (pe_call (G_made_of.mono (by omega)) hr rfl D_made_of.mgx D_made_of.fn.kp D_made_of.bd .nil pass0 (pa_cons (pv 3) (pa_cons (pv 4) (pa_cons (pv 5) pa_nil)))) pa_nil)))))))))), ?_⟩
    have e0 : L2.start ["figures", "least", "prime", "q", "paper", "k"] [.int n] = [some (.int n), none, none, none, none, none] := rfl
    rw [e0]; clear e0
    simp only [tSeq, tIfS, tTest, tRet, tRetN, tNext, tDrop, tAsg, tPar, tPar3, tAug, tVar, tC, tOp, tUn, rI, rI0, rU, tB, tAnd, tOr, tNot, tAndV, tOrV, tNotV, tIf, gName, gNil, gCons, gTup, gSub, tCB, tCons, tNil, tCall, tChain, ipI, tIsN, tNotN, tBM, tyV, tTup, tLst, rAppend, rCat, scal_ii, scal_bb, scal_ss, scal_ni, scal_in, rEq, rNe, List.getElem?_cons_zero, List.getElem?_cons_succ, List.set_cons_zero, List.set_cons_succ, eq_self, and_assoc, Option.some.injEq, V.int.injEq, V.bl.injEq, V.ref.injEq, V.str.injEq, List.cons.injEq, exists_eq_left', exists_eq_left, exists_and_left, List.nil_append, List.cons_append, List.append_nil, true_and, and_true, decide_eq_true_eq, Bool.not_eq_true', decide_eq_false_iff_not, if_true, if_false, Bool.not_true, Bool.not_false, Bool.false_eq_true, reduceCtorEq, decide_true, decide_false, ite_true, ite_false, rSetL, rIxL, tRaise, jCons, jNil, tFmt, tDNew, rCount, rIndex, tCont, tBreak, Int.reduceToNat, Int.reducePow]
    refine ⟨n, rfl, ⟨n1, by omega⟩, ?_⟩
    try simp only [tSeq, tIfS, tTest, tRet, tRetN, tNext, tDrop, tAsg, tPar, tPar3, tAug, tVar, tC, tOp, tUn, rI, rI0, rU, tB, tAnd, tOr, tNot, tAndV, tOrV, tNotV, tIf, gName, gNil, gCons, gTup, gSub, tCB, tCons, tNil, tCall, tChain, ipI, tIsN, tNotN, tBM, tyV, tTup, tLst, rAppend, rCat, scal_ii, scal_bb, scal_ss, scal_ni, scal_in, rEq, rNe, List.getElem?_cons_zero, List.getElem?_cons_succ, List.set_cons_zero, List.set_cons_succ, eq_self, and_assoc, Option.some.injEq, V.int.injEq, V.bl.injEq, V.ref.injEq, V.str.injEq, List.cons.injEq, exists_eq_left', exists_eq_left, exists_and_left, List.nil_append, List.cons_append, List.append_nil, true_and, and_true, decide_eq_true_eq, Bool.not_eq_true', decide_eq_false_iff_not, if_true, if_false, Bool.not_true, Bool.not_false, Bool.false_eq_true, reduceCtorEq, decide_true, decide_false, ite_true, ite_false, rSetL, rIxL, tRaise, jCons, jNil, tFmt, tDNew, rCount, rIndex, tCont, tBreak, Int.reduceToNat, Int.reducePow]
    refine ite2 (fun h9 => ?_) (fun h9 => ?_)
    · have t := triedT_all n1 (by omega)
      have pb : PrT n ≤ 1000000000 := by
        have h : n = 1 ∨ n = 2 ∨ n = 3 ∨ n = 4 ∨ n = 5 ∨ n = 6 ∨ n = 7 ∨ n = 8 ∨ n = 9 := by omega
        rcases h with rfl | rfl | rfl | rfl | rfl | rfl | rfl | rfl | rfl <;> decide
      refine ⟨n, rfl, ⟨n1, by omega⟩, ?_⟩
      try simp only [tSeq, tIfS, tTest, tRet, tRetN, tNext, tDrop, tAsg, tPar, tPar3, tAug, tVar, tC, tOp, tUn, rI, rI0, rU, tB, tAnd, tOr, tNot, tAndV, tOrV, tNotV, tIf, gName, gNil, gCons, gTup, gSub, tCB, tCons, tNil, tCall, tChain, ipI, tIsN, tNotN, tBM, tyV, tTup, tLst, rAppend, rCat, scal_ii, scal_bb, scal_ss, scal_ni, scal_in, rEq, rNe, List.getElem?_cons_zero, List.getElem?_cons_succ, List.set_cons_zero, List.set_cons_succ, eq_self, and_assoc, Option.some.injEq, V.int.injEq, V.bl.injEq, V.ref.injEq, V.str.injEq, List.cons.injEq, exists_eq_left', exists_eq_left, exists_and_left, List.nil_append, List.cons_append, List.append_nil, true_and, and_true, decide_eq_true_eq, Bool.not_eq_true', decide_eq_false_iff_not, if_true, if_false, Bool.not_true, Bool.not_false, Bool.false_eq_true, reduceCtorEq, decide_true, decide_false, ite_true, ite_false, rSetL, rIxL, tRaise, jCons, jNil, tFmt, tDNew, rCount, rIndex, tCont, tBreak, Int.reduceToNat, Int.reducePow]
      refine ⟨_, rfl, ⟨t.pr, by omega, by have : (2 : Int) ^ 30 = 1073741824 := (by decide); omega⟩, fun r H1 S1 => ⟨by show 2 ≤ sizeLine; decide, fun a ha => ?_⟩⟩
      exact k _ a _ _ ⟨t.pr, Int.le_refl _, fun _ => rfl, fun h => by have := (ptT_le n1 (by omega)).2.2 h; omega⟩ (fun b o e => keep (S1 _ _ e) ha) upd_same
    · have h10 : 10 ≤ n := by omega
      have mt := madeT_all h10 (by omega)
      refine ⟨⟨by decide, by decide⟩, (n + 3) / 2, by rw [show (((n + 3) / 2 : Nat) : Int) = ((n : Int) + 3) / 2 by omega], ⟨by omega, hM2 n h10 n2⟩, fun q r x H1 Pq S1 hr1 => ?_⟩
      have eq : q = PrT ((n + 3) / 2) := Pq.eq (by omega)
      subst eq
      have qb := ptT_le (show 1 ≤ (n + 3) / 2 by omega) (show (n + 3) / 2 ≤ 29 by omega)
      try simp only [tSeq, tIfS, tTest, tRet, tRetN, tNext, tDrop, tAsg, tPar, tPar3, tAug, tVar, tC, tOp, tUn, rI, rI0, rU, tB, tAnd, tOr, tNot, tAndV, tOrV, tNotV, tIf, gName, gNil, gCons, gTup, gSub, tCB, tCons, tNil, tCall, tChain, ipI, tIsN, tNotN, tBM, tyV, tTup, tLst, rAppend, rCat, scal_ii, scal_bb, scal_ss, scal_ni, scal_in, rEq, rNe, List.getElem?_cons_zero, List.getElem?_cons_succ, List.set_cons_zero, List.set_cons_succ, eq_self, and_assoc, Option.some.injEq, V.int.injEq, V.bl.injEq, V.ref.injEq, V.str.injEq, List.cons.injEq, exists_eq_left', exists_eq_left, exists_and_left, List.nil_append, List.cons_append, List.append_nil, true_and, and_true, decide_eq_true_eq, Bool.not_eq_true', decide_eq_false_iff_not, if_true, if_false, Bool.not_true, Bool.not_false, Bool.false_eq_true, reduceCtorEq, decide_true, decide_false, ite_true, ite_false, rSetL, rIxL, tRaise, jCons, jNil, tFmt, tDNew, rCount, rIndex, tCont, tBreak, Int.reduceToNat, Int.reducePow]
      refine ⟨_, SqT.of hr1, rfl, ?_⟩
      try simp only [tSeq, tIfS, tTest, tRet, tRetN, tNext, tDrop, tAsg, tPar, tPar3, tAug, tVar, tC, tOp, tUn, rI, rI0, rU, tB, tAnd, tOr, tNot, tAndV, tOrV, tNotV, tIf, gName, gNil, gCons, gTup, gSub, tCB, tCons, tNil, tCall, tChain, ipI, tIsN, tNotN, tBM, tyV, tTup, tLst, rAppend, rCat, scal_ii, scal_bb, scal_ss, scal_ni, scal_in, rEq, rNe, List.getElem?_cons_zero, List.getElem?_cons_succ, List.set_cons_zero, List.set_cons_succ, eq_self, and_assoc, Option.some.injEq, V.int.injEq, V.bl.injEq, V.ref.injEq, V.str.injEq, List.cons.injEq, exists_eq_left', exists_eq_left, exists_and_left, List.nil_append, List.cons_append, List.append_nil, true_and, and_true, decide_eq_true_eq, Bool.not_eq_true', decide_eq_false_iff_not, if_true, if_false, Bool.not_true, Bool.not_false, Bool.false_eq_true, reduceCtorEq, decide_true, decide_false, ite_true, ite_false, rSetL, rIxL, tRaise, jCons, jNil, tFmt, tDNew, rCount, rIndex, tCont, tBreak, Int.reduceToNat, Int.reducePow]
      have c1 : CMulB 2 (PrT ((n + 3) / 2) : Int) := .inr ⟨by decide, by omega⟩
      have q9 : (PrT ((n + 3) / 2) : Int) ≤ 10 ^ 29 := by exact_mod_cast qb.2.1
      refine ⟨c1, ⟨by omega, by omega⟩, ?_⟩
      have ek : ((10 ^ (n - 1) : Nat) : Int) / (2 * (PrT ((n + 3) / 2) : Int)) + 1 = ((10 ^ (n - 1) / (2 * PrT ((n + 3) / 2)) + 1 : Nat) : Int) := by
        rw [Int.natCast_add, Int.natCast_ediv, Int.natCast_mul]; rfl
      rw [ek]
      obtain ⟨k0, hk0⟩ : ∃ k0, k0 = 10 ^ (n - 1) / (2 * PrT ((n + 3) / 2)) + 1 := ⟨_, rfl⟩
      have k0l : k0 ≤ KT n := by rw [hk0]; exact mt.k1
      have k01 : 1 ≤ k0 := by rw [hk0]; exact Nat.le_add_left _ _
      have no : n ≤ 16 → ∀ k, k0 ≤ k → k < KT n → ¬ IsPr (mdN (PrT ((n + 3) / 2) : Int) (k : Int)) := by rw [hk0]; exact mt.no
      have mk : IsPr (mdN (PrT ((n + 3) / 2) : Int) (KT n : Int)) := by
        have := mt.pr
        rw [mt.eq] at this
        exact this
      have me : mdN (PrT ((n + 3) / 2) : Int) (KT n : Int) = PrT n := mt.eq.symm
      have md : ∀ k, 1 ≤ k → k ≤ KT n → MdOk (PrT ((n + 3) / 2) : Int) (k : Int) ∧ mdN (PrT ((n + 3) / 2) : Int) (k : Int) ≤ PrT n := fun k a b => md_of h10 (by omega) a b
      rw [← hk0]
      clear hk0 ek mt c1
      generalize (PrT ((n + 3) / 2) : Int) = q at *
      obtain ⟨W, hW⟩ : ∃ W : Nat → St → Hp → Prop, ∀ j σ H', W j σ H' ↔ ∃ c : Nat, j = KT n - c ∧ σ = [some (.int (n : Int)), some (.int ((10 ^ (n - 1) : Nat) : Int)), none, some (.int q), some x, some (.int (c : Int))] ∧ (k0 ≤ c ∧ c ≤ KT n) ∧ Same H H' := ⟨_, fun _ _ _ => Iff.rfl⟩
      refine ⟨W, ⟨_, (hW _ _ _).mpr ⟨k0, rfl, rfl, ⟨Nat.le_refl _, k0l⟩, S1⟩⟩, ?_⟩
      intro j σ H2 hw
      obtain ⟨c, rfl, rfl, ⟨c1, c2⟩, S2⟩ := (hW _ _ _).mp hw
      clear hw
      obtain ⟨M1, le1⟩ := md c (by omega) c2
      simp only [tSeq, tIfS, tTest, tRet, tRetN, tNext, tDrop, tAsg, tPar, tPar3, tAug, tVar, tC, tOp, tUn, rI, rI0, rU, tB, tAnd, tOr, tNot, tAndV, tOrV, tNotV, tIf, gName, gNil, gCons, gTup, gSub, tCB, tCons, tNil, tCall, tChain, ipI, tIsN, tNotN, tBM, tyV, tTup, tLst, rAppend, rCat, scal_ii, scal_bb, scal_ss, scal_ni, scal_in, rEq, rNe, List.getElem?_cons_zero, List.getElem?_cons_succ, List.set_cons_zero, List.set_cons_succ, eq_self, and_assoc, Option.some.injEq, V.int.injEq, V.bl.injEq, V.ref.injEq, V.str.injEq, List.cons.injEq, exists_eq_left', exists_eq_left, exists_and_left, List.nil_append, List.cons_append, List.append_nil, true_and, and_true, decide_eq_true_eq, Bool.not_eq_true', decide_eq_false_iff_not, if_true, if_false, Bool.not_true, Bool.not_false, Bool.false_eq_true, reduceCtorEq, decide_true, decide_false, ite_true, ite_false, rSetL, rIxL, tRaise, jCons, jNil, tFmt, tDNew, rCount, rIndex, tCont, tBreak, Int.reduceToNat, Int.reducePow]
      refine ⟨q, c, x, rfl, M1, fun hp r3 H3 S3 => ?_, fun hp H3 S3 => ?_⟩
      · try simp only [tSeq, tIfS, tTest, tRet, tRetN, tNext, tDrop, tAsg, tPar, tPar3, tAug, tVar, tC, tOp, tUn, rI, rI0, rU, tB, tAnd, tOr, tNot, tAndV, tOrV, tNotV, tIf, gName, gNil, gCons, gTup, gSub, tCB, tCons, tNil, tCall, tChain, ipI, tIsN, tNotN, tBM, tyV, tTup, tLst, rAppend, rCat, scal_ii, scal_bb, scal_ss, scal_ni, scal_in, rEq, rNe, List.getElem?_cons_zero, List.getElem?_cons_succ, List.set_cons_zero, List.set_cons_succ, eq_self, and_assoc, Option.some.injEq, V.int.injEq, V.bl.injEq, V.ref.injEq, V.str.injEq, List.cons.injEq, exists_eq_left', exists_eq_left, exists_and_left, List.nil_append, List.cons_append, List.append_nil, true_and, and_true, decide_eq_true_eq, Bool.not_eq_true', decide_eq_false_iff_not, if_true, if_false, Bool.not_true, Bool.not_false, Bool.false_eq_true, reduceCtorEq, decide_true, decide_false, ite_true, ite_false, rSetL, rIxL, tRaise, jCons, jNil, tFmt, tDNew, rCount, rIndex, tCont, tBreak, Int.reduceToNat, Int.reducePow]
        have n3 := M1.n3
        have nle := M1.le
        have kk := M1.k1
        have qq := M1.pq.1
        have e2 : 2 * (c : Int) * q + 1 = mdN q c := rfl
        try simp only [tSeq, tIfS, tTest, tRet, tRetN, tNext, tDrop, tAsg, tPar, tPar3, tAug, tVar, tC, tOp, tUn, rI, rI0, rU, tB, tAnd, tOr, tNot, tAndV, tOrV, tNotV, tIf, gName, gNil, gCons, gTup, gSub, tCB, tCons, tNil, tCall, tChain, ipI, tIsN, tNotN, tBM, tyV, tTup, tLst, rAppend, rCat, scal_ii, scal_bb, scal_ss, scal_ni, scal_in, rEq, rNe, List.getElem?_cons_zero, List.getElem?_cons_succ, List.set_cons_zero, List.set_cons_succ, eq_self, and_assoc, Option.some.injEq, V.int.injEq, V.bl.injEq, V.ref.injEq, V.str.injEq, List.cons.injEq, exists_eq_left', exists_eq_left, exists_and_left, List.nil_append, List.cons_append, List.append_nil, true_and, and_true, decide_eq_true_eq, Bool.not_eq_true', decide_eq_false_iff_not, if_true, if_false, Bool.not_true, Bool.not_false, Bool.false_eq_true, reduceCtorEq, decide_true, decide_false, ite_true, ite_false, rSetL, rIxL, tRaise, jCons, jNil, tFmt, tDNew, rCount, rIndex, tCont, tBreak, Int.reduceToNat, Int.reducePow]
        refine ⟨.inr ⟨by decide, by omega⟩, .inr ⟨by omega, by omega⟩, ?_⟩
        rw [e2]
        refine ⟨q, c, x, rfl, M1, fun _ r4 H4 S4 => ⟨by show 2 ≤ sizeLine; decide, fun a ha => ?_⟩, fun z => absurd hp z⟩
        refine k (mdN q c) a _ _ ⟨hp, le1, fun h16 => ?_, fun _ => by omega⟩ (fun b o e => keep (S4 _ _ (S3 _ _ (S2 _ _ e))) ha) upd_same
        by_cases e : c = KT n
        · rw [e]; exact me
        · exact absurd hp (no h16 c c1 (by omega))
      · try simp only [tSeq, tIfS, tTest, tRet, tRetN, tNext, tDrop, tAsg, tPar, tPar3, tAug, tVar, tC, tOp, tUn, rI, rI0, rU, tB, tAnd, tOr, tNot, tAndV, tOrV, tNotV, tIf, gName, gNil, gCons, gTup, gSub, tCB, tCons, tNil, tCall, tChain, ipI, tIsN, tNotN, tBM, tyV, tTup, tLst, rAppend, rCat, scal_ii, scal_bb, scal_ss, scal_ni, scal_in, rEq, rNe, List.getElem?_cons_zero, List.getElem?_cons_succ, List.set_cons_zero, List.set_cons_succ, eq_self, and_assoc, Option.some.injEq, V.int.injEq, V.bl.injEq, V.ref.injEq, V.str.injEq, List.cons.injEq, exists_eq_left', exists_eq_left, exists_and_left, List.nil_append, List.cons_append, List.append_nil, true_and, and_true, decide_eq_true_eq, Bool.not_eq_true', decide_eq_false_iff_not, if_true, if_false, Bool.not_true, Bool.not_false, Bool.false_eq_true, reduceCtorEq, decide_true, decide_false, ite_true, ite_false, rSetL, rIxL, tRaise, jCons, jNil, tFmt, tDNew, rCount, rIndex, tCont, tBreak, Int.reduceToNat, Int.reducePow]
        try rw [if_pos rfl]
        refine ⟨fun σ' H4 => ∃ m', m' < KT n - c ∧ W m' σ' H4, fun _ _ h => h, ?_⟩
        have ne : c ≠ KT n := fun z => hp (by rw [z]; exact mk)
        exact ⟨_, by omega, (hW _ _ _).mpr ⟨c + 1, rfl, by simp, ⟨by omega, by omega⟩, S2.trans S3⟩⟩
theorem ok_prime_from (D : Df_prime_from K mg f fd) (T : Txt K mg t1 t2 t3 t4) (o1 : O_least_of_figures P w K mg base) (o2 : O_prime_tried P w K mg base) (o3 : O_full_of_prime P w K mg base) (o4 : O_made_of P w K mg base) : FnOk P w K mg base CX0 69 f fd ["figures"] (spPF 29) :=
  ok_pfs (m := 2) D T o1 o2 o3 o4 (M := 16) (by decide) (fun n _ _ => by omega) (ok_pfs (m := 1) D T o1 o2 o3 o4 (M := 9) (by decide) (fun n _ _ => by omega) (ok_pfs (m := 0) D T o1 o2 o3 o4 (M := 0) (by decide) (fun n _ _ => by omega) ok_pf0))
noncomputable abbrev O_prime_from (P : Program) (w : World) (K : PySem.W.Frag) (mg : Str → Option Value) (base : Heap) : Prop := ∃ f fd, Df_prime_from K mg f fd ∧ FnOk P w K mg base CX0 69 f fd ["figures"] (spPF 29)
noncomputable abbrev s_prime_of : Stmt := top 44
theorem sc_prime_of : FnScope ["figures"] ["figures"] (defScope s_prime_of) := ⟨rfl, rfl, rfl, by decide +kernel, rfl, by decide +kernel, by decide +kernel⟩
noncomputable abbrev Df_prime_of (K : PySem.W.Frag) (mg : Str → Option Value) (f : Addr) (fd : FuncData) : Prop := Def K mg "prime_of" s_prime_of ["figures"] f fd
theorem ok_prime_of (D : Df_prime_of K mg f fd) (T : Txt K mg t1 t2 t3 t4) (o1 : O_want_between P w K mg base) (o2 : O_prime_from P w K mg base) : FnOk P w K mg base CX0 70 f fd ["figures"] (spPF 29) := by
  obtain ⟨_, _, D_want_between, G_want_between⟩ := o1
  obtain ⟨_, _, D_prime_from, G_prime_from⟩ := o2
  refine D.fn.ok sc_prime_of (fun vs H Q E h => ?_) (fun cdv A outer s H vs Q E hr h => ?_)
  · obtain ⟨n, rfl, _⟩ := h
    rfl
  · obtain ⟨n, rfl, ⟨n1, n2⟩, k⟩ := h
    refine ⟨_, (pss_cons (ps_expr (pe_call (G_want_between.mono (by decide)) hr rfl D_want_between.mgx D_want_between.fn.kp D_want_between.bd .nil pass0 (pa_cons (pv 0) (pa_cons pe_int (pa_cons (pe_glob (v := .int _) rfl T.mg_MOST_FIGURES ⟨_, rfl⟩) (pa_cons pe_str pa_nil))))))
 (pss_one (ps_ret (pe_call (G_prime_from.mono (by decide)) hr rfl D_prime_from.mgx D_prime_from.fn.kp D_prime_from.bd .nil pass0 (pa_cons (pv 0) pa_nil))))), ?_⟩
    have e0 : L2.start ["figures"] [.int n] = [some (.int n)] := rfl
    rw [e0]; clear e0
    simp only [tSeq, tIfS, tTest, tRet, tRetN, tNext, tDrop, tAsg, tPar, tPar3, tAug, tVar, tC, tOp, tUn, rI, rI0, rU, tB, tAnd, tOr, tNot, tAndV, tOrV, tNotV, tIf, gName, gNil, gCons, gTup, gSub, tCB, tCons, tNil, tCall, tChain, ipI, tIsN, tNotN, tBM, tyV, tTup, tLst, rAppend, rCat, scal_ii, scal_bb, scal_ss, scal_ni, scal_in, rEq, rNe, List.getElem?_cons_zero, List.getElem?_cons_succ, List.set_cons_zero, List.set_cons_succ, eq_self, and_assoc, Option.some.injEq, V.int.injEq, V.bl.injEq, V.ref.injEq, V.str.injEq, List.cons.injEq, exists_eq_left', exists_eq_left, exists_and_left, List.nil_append, List.cons_append, List.append_nil, true_and, and_true, decide_eq_true_eq, Bool.not_eq_true', decide_eq_false_iff_not, if_true, if_false, Bool.not_true, Bool.not_false, Bool.false_eq_true, reduceCtorEq, decide_true, decide_false, ite_true, ite_false, rSetL, rIxL, tRaise, jCons, jNil, tFmt, tDNew, rCount, rIndex, tCont, tBreak, Int.reduceToNat, Int.reducePow]
    exact ⟨(n : Int), 1, _, _, rfl, ⟨by omega, by omega⟩, n, rfl, ⟨n1, n2⟩, k⟩
noncomputable abbrev O_prime_of (P : Program) (w : World) (K : PySem.W.Frag) (mg : Str → Option Value) (base : Heap) : Prop := ∃ f fd, Df_prime_of K mg f fd ∧ FnOk P w K mg base CX0 70 f fd ["figures"] (spPF 29)
end
end PP
set_option Elab.async false
set_option linter.all false
namespace MM
theorem neg_sq_pow (b : Int) (m : Nat) : (-b) ^ (2 * m) = b ^ (2 * m) := by
  rw [Int.pow_mul, Int.pow_mul]
  congr 1
  rw [Int.pow_succ, Int.pow_succ, Int.pow_zero, Int.pow_succ, Int.pow_succ, Int.pow_zero]
  grind
theorem neg_odd_pow (b : Int) (m : Nat) : (-b) ^ (2 * m + 1) = -(b ^ (2 * m + 1)) := by
  rw [Int.pow_succ, neg_sq_pow, Int.pow_succ]
  grind
theorem cg_powN {n a b : Int} (h : Cg n a b) : ∀ e : Nat, Cg n (a ^ e) (b ^ e)
  | 0 => by rw [Int.pow_zero, Int.pow_zero]; exact ⟨0, by simp⟩
  | e + 1 => by rw [Int.pow_succ, Int.pow_succ]; exact (cg_powN h e).mul h
theorem cg_flip (n b : Int) : Cg n (n - b) (-b) := ⟨1, by omega⟩
theorem pow_flip {n b : Int} (h3 : 3 ≤ n) (ho : n % 2 = 1) : powL n (n - b) = powL n b := by
  obtain ⟨m, hm⟩ : ∃ m, (n - 1).toNat = 2 * m := ⟨((n - 1) / 2).toNat, by omega⟩
  have := cg_eq (cg_powN (cg_flip n b) (2 * m))
  rw [neg_sq_pow] at this
  unfold powL
  rw [hm, this]
theorem halv_flip {n b : Int} (h3 : 3 ≤ n) (ho : n % 2 = 1) : halvB n (n - b) = halvB n b := by
  obtain ⟨_, o⟩ := otw (show 0 < n - 1 by omega)
  have o0 := (op_le (show 0 < n - 1 by omega)).1
  obtain ⟨m, hm⟩ : ∃ m, (op (n - 1)).toNat = 2 * m + 1 := ⟨(op (n - 1) / 2).toNat, by omega⟩
  have c := cg_powN (cg_flip n b) (2 * m + 1)
  rw [neg_odd_pow] at c
  unfold halvB
  rw [hm, tw_even (show 0 < n - 1 by omega) (by omega)]
  generalize tw ((n - 1) / 2) = s
  have ey : (n - b) ^ (2 * m + 1) % n = (-(b ^ (2 * m + 1) % n)) % n := by
    rw [cg_eq c]
    have c2 : Cg n (-(b ^ (2 * m + 1))) (-(b ^ (2 * m + 1) % n)) := by
      obtain ⟨d, hd⟩ := cg_mod n (b ^ (2 * m + 1))
      refine ⟨d, by omega⟩
    exact cg_eq c2
  rw [ey]
  have x0 := Int.emod_nonneg (b ^ (2 * m + 1)) (show n ≠ 0 by omega)
  have x1 := Int.emod_lt_of_pos (b ^ (2 * m + 1)) (show 0 < n by omega)
  generalize b ^ (2 * m + 1) % n = x at *
  have yv : (-x) % n = if x = 0 then 0 else n - x := by
    split
    · rename_i h; rw [h]; simp
    · rw [show -x = (n - x) + n * (-1) by omega, Int.add_mul_emod_self_left, Int.emod_eq_of_lt (by omega) (by omega)]
  show (decide (-x % n = 1) || (decide (-x % n = n - 1) || hvs n s ((-x % n) * (-x % n) % n))) = (decide (x = 1) || (decide (x = n - 1) || hvs n s (x * x % n)))
  have sq : (-x % n) * (-x % n) % n = x * x % n := by
    have c3 : Cg n (-x % n) (-x) := cg_mod n (-x)
    have := cg_eq (c3.mul c3)
    rw [this]
    congr 1
    grind
  rw [sq]
  have e1 : decide (-x % n = 1) = decide (x = n - 1) := by
    rw [yv]
    by_cases h : x = 0
    · rw [if_pos h, decide_eq_false (by decide), decide_eq_false (by omega)]
    · rw [if_neg h]
      exact decide_eq_decide.mpr ⟨fun h => by omega, fun h => by omega⟩
  have e2 : decide (-x % n = n - 1) = decide (x = 1) := by
    rw [yv]
    by_cases h : x = 0
    · rw [if_pos h, decide_eq_false (by omega), decide_eq_false (by omega)]
    · rw [if_neg h]
      exact decide_eq_decide.mpr ⟨fun h => by omega, fun h => by omega⟩
  rw [e1, e2]
  cases decide (x = 1) <;> cases decide (x = n - 1) <;> rfl
theorem pow_order {n b o : Int} (h3 : 3 ≤ n) (ho : Ord b n o) : powL n b = decide ((n - 1) % o = 0) := by
  have o1 := ho.pos
  unfold powL
  by_cases h : b ^ (n - 1).toNat % n = 1
  · rw [decide_eq_true h]
    have c : Cg n (b ^ (n - 1).toNat) 1 := cg_of (by rw [h]; exact (Int.emod_eq_of_lt (by decide) (by omega)).symm)
    obtain ⟨d, hd⟩ := ho.dvd c
    refine (decide_eq_true (Int.emod_eq_zero_of_dvd ⟨d, ?_⟩)).symm
    have e : ((n - 1).toNat : Int) = ((o.toNat * d : Nat) : Int) := by rw [hd]
    rw [Int.natCast_mul] at e
    rw [Int.toNat_of_nonneg (by omega), Int.toNat_of_nonneg (by omega)] at e
    exact e
  · rw [decide_eq_false h]
    refine (decide_eq_false fun z => h ?_).symm
    obtain ⟨d, hd⟩ := Int.dvd_of_emod_eq_zero z
    have d0 : 0 ≤ d := by
      refine Classical.byContradiction fun w => ?_
      have := Int.mul_le_mul_of_nonneg_left (show d ≤ -1 by omega) (show 0 ≤ o by omega)
      omega
    have c := cg_pow_dvd (f := (n - 1).toNat) ho.cg ⟨d.toNat, by rw [hd, Int.toNat_mul (by omega) d0]⟩
    rw [cg_eq c]
    exact Int.emod_eq_of_lt (by decide) (by omega)
theorem pow_shared {n b : Int} (h3 : 3 ≤ n) (hg : Int.gcd b n ≠ 1) : powL n b = false := by
  unfold powL
  refine decide_eq_false fun h => hg ?_
  have c : Cg n (b ^ (n - 1).toNat) 1 := cg_of (by rw [h]; exact (Int.emod_eq_of_lt (by decide) (by omega)).symm)
  have g1 : (Int.gcd b n : Int) ∣ n := Int.gcd_dvd_right ..
  have g2 : (Int.gcd b n : Int) ∣ b := Int.gcd_dvd_left ..
  have g3 : (Int.gcd b n : Int) ∣ b ^ (n - 1).toNat := by
    obtain ⟨k, hk⟩ : ∃ k, (n - 1).toNat = k + 1 := ⟨(n - 1).toNat - 1, by omega⟩
    rw [hk, Int.pow_succ]
    exact Int.dvd_trans g2 (Int.dvd_mul_left _ _)
  have := Int.dvd_sub g3 (Int.dvd_trans g1 c)
  rw [show b ^ (n - 1).toNat - (b ^ (n - 1).toNat - 1) = 1 by omega] at this
  have := Int.le_of_dvd (by decide) this
  have : 0 < Int.gcd b n := Int.gcd_pos_of_ne_zero_right _ (by omega)
  omega
theorem share_eq {m n : Int} (h : 0 < n) : m / (Int.gcd m n : Nat) * n = n / (Int.gcd m n : Nat) * m := by
  have g0 : 0 < Int.gcd m n := Int.gcd_pos_of_ne_zero_right _ (by omega)
  obtain ⟨a, ha⟩ : ((Int.gcd m n : Nat) : Int) ∣ m := Int.gcd_dvd_left ..
  obtain ⟨b, hb⟩ : ((Int.gcd m n : Nat) : Int) ∣ n := Int.gcd_dvd_right ..
  generalize Int.gcd m n = g at *
  subst ha hb
  rw [Int.mul_ediv_cancel_left _ (by omega), Int.mul_ediv_cancel_left _ (by omega)]
  grind
end MM
set_option Elab.async false
set_option linter.all false
set_option maxRecDepth 100000
set_option maxHeartbeats 4000000
namespace PP
open PySem L2 MM
noncomputable def StAt (H : Hp) (a : Addr) : Prop := ∃ x y, H a = some (.lst [.int x, .int y]) ∧ 0 ≤ y ∧ y < 2 ^ 32
noncomputable def But (a : Addr) (H H' : Hp) : Prop := ∀ b o, b ≠ a → H b = some o → H' b = some o
structure Step (a : Addr) (H H' : Hp) : Prop where
  st : StAt H' a
  but : But a H H'
theorem Step.trans {a : Addr} {H H1 H2 : Hp} (x : Step a H H1) (y : Step a H1 H2) : Step a H H2 := ⟨y.st, fun b o hb e => y.but b o hb (x.but b o hb e)⟩
theorem StAt.upd {H : Hp} {a p : Addr} {o : HO} (h : StAt H a) (hp : H p = none) : StAt (upd H p o) a := by
  obtain ⟨x, y, e, r⟩ := h
  exact ⟨x, y, by rw [upd_ne (ne_of_none e hp)]; exact e, r⟩
theorem Step.new {a p : Addr} {H H1 : Hp} {o : HO} (x : Step a H H1) (hp : H1 p = none) : Step a H (upd H1 p o) :=
  ⟨x.st.upd hp, fun b u hb e => by rw [upd_ne (ne_of_none (x.but b u hb e) hp)]; exact x.but b u hb e⟩
theorem Step.refl {a : Addr} {H : Hp} (h : StAt H a) : Step a H H := ⟨h, fun _ _ _ e => e⟩
theorem nb_mod (a : Int) {m : Int} (h0 : 0 < m) (h1 : m < 10 ^ 99) : (a % m).natAbs < 10 ^ 100 := by
  have := Int.emod_nonneg a (show m ≠ 0 by omega)
  have := Int.emod_lt_of_pos a h0
  omega
theorem Step.same {a : Addr} {H H1 H2 : Hp} (x : Step a H H1) (y : Same H1 H2) : Step a H H2 := by
  obtain ⟨u, v, e, r⟩ := x.st
  exact ⟨⟨u, v, y a _ e, r⟩, fun b o hb e => y b o (x.but b o hb e)⟩
section
variable {P : Program} {w : World} {K : PySem.W.Frag} {mg : Str → Option Value} {base : Heap} {t1 t2 t3 t4 : Tok} {f : Addr} {fd : FuncData}
noncomputable abbrev s_law_cell_at : Stmt := top 54
theorem sc_law_cell_at : FnScope ["_law_script", "_law_k"] ["_law_script", "_law_k"] (defScope s_law_cell_at) := ⟨rfl, rfl, rfl, by decide +kernel, rfl, by decide +kernel, by decide +kernel⟩
noncomputable abbrev Df_law_cell_at (K : PySem.W.Frag) (mg : Str → Option Value) (f : Addr) (fd : FuncData) : Prop := Def K mg "_law_cell_at" s_law_cell_at ["_law_script", "_law_k"] f fd
noncomputable def spCell (K : PySem.W.Frag) : Sp := fun vs H Q _ => ∃ (a : Addr) (ns : List Int) (k : Int), vs = [.ref a, .int k] ∧ SqL K H a (ns.map V.int) ∧ ns.length ≤ 63 ∧ 0 ≤ k ∧ ∀ v, Q (.int v) H
theorem ok_law_cell_at (D : Df_law_cell_at K mg f fd) (T : Txt K mg t1 t2 t3 t4) : FnOk P w K mg base CX0 1 f fd ["_law_script", "_law_k"] (spCell K) := by
  refine D.fn.ok sc_law_cell_at (fun vs H Q E h => ?_) (fun cdv A outer s H vs Q E hr h => ?_)
  · obtain ⟨a, ns, k, rfl, _⟩ := h
    rfl
  · obtain ⟨a, ns, k, rfl, hS, hl, h0, q⟩ := h
    refine ⟨_, (pss_cons (ps_if (pt_cmpR op_lt (pv 1) (pe_callB call_len_seq (by rfl) T.no_len PySem.boot_len (pa_cons (pv 0) pa_nil)) (nomark _))
 (pss_one (ps_ret (pe_ix ix_list (pv 0) (pv 1) (fun _ _ => rfl))))
 pss_nil)
 (pss_one (ps_ret pe_int))), ?_⟩
    have e0 : L2.start ["_law_script", "_law_k"] [.ref a, .int k] = [some (.ref a), some (.int k)] := rfl
    rw [e0]; clear e0
    simp only [tSeq, tIfS, tTest, tRet, tRetN, tNext, tDrop, tAsg, tPar, tPar3, tAug, tVar, tC, tOp, tUn, rI, rI0, rU, tB, tAnd, tOr, tNot, tAndV, tOrV, tNotV, tIf, gName, gNil, gCons, gTup, gSub, tCB, tCons, tNil, tCall, tChain, ipI, tIsN, tNotN, tBM, tyV, tTup, tLst, rAppend, rCat, scal_ii, scal_bb, scal_ss, scal_ni, scal_in, rEq, rNe, List.getElem?_cons_zero, List.getElem?_cons_succ, List.set_cons_zero, List.set_cons_succ, eq_self, and_assoc, Option.some.injEq, V.int.injEq, V.bl.injEq, V.ref.injEq, V.str.injEq, List.cons.injEq, exists_eq_left', exists_eq_left, exists_and_left, List.nil_append, List.cons_append, List.append_nil, true_and, and_true, decide_eq_true_eq, Bool.not_eq_true', decide_eq_false_iff_not, if_true, if_false, Bool.not_true, Bool.not_false, Bool.false_eq_true, reduceCtorEq, decide_true, decide_false, ite_true, ite_false, rSetL, rIxL, tRaise, jCons, jNil, tFmt, tDNew, rCount, rIndex, tCont, tBreak, Int.reduceToNat, Int.reducePow]
    refine ⟨_, .inl hS, ?_⟩
    rw [List.length_map]
    refine ite2 (fun hk => ?_) (fun _ => q 0)
    obtain ⟨j, rfl⟩ := Int.eq_ofNat_of_zero_le h0
    have hj : j < ns.length := by omega
    refine ⟨_, hS, .int (ns[j]), atI_nat ?_, q _⟩
    rw [List.getElem?_map, List.getElem?_eq_getElem hj]
    rfl
noncomputable abbrev O_law_cell_at (P : Program) (w : World) (K : PySem.W.Frag) (mg : Str → Option Value) (base : Heap) : Prop := ∃ f fd, Df_law_cell_at K mg f fd ∧ FnOk P w K mg base CX0 1 f fd ["_law_script", "_law_k"] (spCell K)
noncomputable abbrev s_law_state : Stmt := top 55
theorem sc_law_state : FnScope ["_law_script", "_law_k", "_law_cell"] ["_law_script", "_law_k"] (defScope s_law_state) := ⟨rfl, rfl, rfl, by decide +kernel, rfl, by decide +kernel, by decide +kernel⟩
noncomputable abbrev Df_law_state (K : PySem.W.Frag) (mg : Str → Option Value) (f : Addr) (fd : FuncData) : Prop := Def K mg "_law_state" s_law_state ["_law_script", "_law_k"] f fd
noncomputable def spState (K : PySem.W.Frag) : Sp := fun vs H Q _ => ∃ (a : Addr) (ns : List Int) (k : Int), vs = [.ref a, .int k] ∧ SqL K H a (ns.map V.int) ∧ ns.length ≤ 63 ∧ 0 ≤ k ∧ ∀ p x y, 0 ≤ y → y < 2 ^ 32 → H p = none → Q (.ref p) (upd H p (.lst [.int x, .int y]))
theorem ok_law_state (D : Df_law_state K mg f fd) (T : Txt K mg t1 t2 t3 t4) (o1 : O_law_cell_at P w K mg base) : FnOk P w K mg base CX0 2 f fd ["_law_script", "_law_k"] (spState K) := by
  obtain ⟨_, _, D_law_cell_at, G_law_cell_at⟩ := o1
  refine D.fn.ok sc_law_state (fun vs H Q E h => ?_) (fun cdv A outer s H vs Q E hr h => ?_)
  · obtain ⟨a, ns, k, rfl, _⟩ := h
    rfl
  · obtain ⟨a, ns, k, rfl, hS, hl, h0, q⟩ := h
    refine ⟨_, (pss_cons (ps_set (i := 2) sc_law_state.nd rfl (by first | exact Or.inl rfl | exact Or.inr rfl) (pe_call (G_law_cell_at.mono (by decide)) hr rfl D_law_cell_at.mgx D_law_cell_at.fn.kp D_law_cell_at.bd .nil pass0 (pa_cons (pv 0) (pa_cons (pv 1) pa_nil))))
 (pss_one (ps_ret (pe_lst (pa_cons (pe_callB (call_max2 rfl) (by rfl) T.no_max PyProof.Rows.boot_max (pa_cons pe_int (pa_cons (pe_op op_sub (pv 2) (pe_op op_pow pe_int pe_int)) pa_nil))) (pa_cons (pe_op op_mod (pv 2) pe_int) pa_nil)))))), ?_⟩
    have e0 : L2.start ["_law_script", "_law_k", "_law_cell"] [.ref a, .int k] = [some (.ref a), some (.int k), none] := rfl
    rw [e0]; clear e0
    simp only [tSeq, tIfS, tTest, tRet, tRetN, tNext, tDrop, tAsg, tPar, tPar3, tAug, tVar, tC, tOp, tUn, rI, rI0, rU, tB, tAnd, tOr, tNot, tAndV, tOrV, tNotV, tIf, gName, gNil, gCons, gTup, gSub, tCB, tCons, tNil, tCall, tChain, ipI, tIsN, tNotN, tBM, tyV, tTup, tLst, rAppend, rCat, scal_ii, scal_bb, scal_ss, scal_ni, scal_in, rEq, rNe, List.getElem?_cons_zero, List.getElem?_cons_succ, List.set_cons_zero, List.set_cons_succ, eq_self, and_assoc, Option.some.injEq, V.int.injEq, V.bl.injEq, V.ref.injEq, V.str.injEq, List.cons.injEq, exists_eq_left', exists_eq_left, exists_and_left, List.nil_append, List.cons_append, List.append_nil, true_and, and_true, decide_eq_true_eq, Bool.not_eq_true', decide_eq_false_iff_not, if_true, if_false, Bool.not_true, Bool.not_false, Bool.false_eq_true, reduceCtorEq, decide_true, decide_false, ite_true, ite_false, rSetL, rIxL, tRaise, jCons, jNil, tFmt, tDNew, rCount, rIndex, tCont, tBreak, Int.reduceToNat, Int.reducePow]
    refine ⟨a, ns, k, rfl, hS, hl, h0, fun v => ?_⟩
    simp only [tSeq, tIfS, tTest, tRet, tRetN, tNext, tDrop, tAsg, tPar, tPar3, tAug, tVar, tC, tOp, tUn, rI, rI0, rU, tB, tAnd, tOr, tNot, tAndV, tOrV, tNotV, tIf, gName, gNil, gCons, gTup, gSub, tCB, tCons, tNil, tCall, tChain, ipI, tIsN, tNotN, tBM, tyV, tTup, tLst, rAppend, rCat, scal_ii, scal_bb, scal_ss, scal_ni, scal_in, rEq, rNe, List.getElem?_cons_zero, List.getElem?_cons_succ, List.set_cons_zero, List.set_cons_succ, eq_self, and_assoc, Option.some.injEq, V.int.injEq, V.bl.injEq, V.ref.injEq, V.str.injEq, List.cons.injEq, exists_eq_left', exists_eq_left, exists_and_left, List.nil_append, List.cons_append, List.append_nil, true_and, and_true, decide_eq_true_eq, Bool.not_eq_true', decide_eq_false_iff_not, if_true, if_false, Bool.not_true, Bool.not_false, Bool.false_eq_true, reduceCtorEq, decide_true, decide_false, ite_true, ite_false, rSetL, rIxL, tRaise, jCons, jNil, tFmt, tDNew, rCount, rIndex, tCont, tBreak, Int.reduceToNat, Int.reducePow]
    refine ⟨⟨by decide, by decide, by decide⟩, by decide, by show 2 ≤ sizeLine; decide, fun p hp => q p _ _ ?_ ?_ hp⟩ <;> omega
noncomputable abbrev O_law_state (P : Program) (w : World) (K : PySem.W.Frag) (mg : Str → Option Value) (base : Heap) : Prop := ∃ f fd, Df_law_state K mg f fd ∧ FnOk P w K mg base CX0 2 f fd ["_law_script", "_law_k"] (spState K)
noncomputable abbrev s_law_choice : Stmt := top 56
theorem sc_law_choice : FnScope ["_law_state_here", "_law_many", "_law_found", "_law_mixed"] ["_law_state_here", "_law_many"] (defScope s_law_choice) := ⟨rfl, rfl, rfl, by decide +kernel, rfl, by decide +kernel, by decide +kernel⟩
noncomputable abbrev Df_law_choice (K : PySem.W.Frag) (mg : Str → Option Value) (f : Addr) (fd : FuncData) : Prop := Def K mg "_law_choice" s_law_choice ["_law_state_here", "_law_many"] f fd
noncomputable def spTake : Sp := fun vs H Q _ => ∃ (a : Addr) (m : Int), vs = [.ref a, .int m] ∧ (0 < m ∧ m < 10 ^ 90) ∧ StAt H a ∧ ∀ r H', 0 ≤ r → r < m → Step a H H' → Q (.int r) H'
theorem ok_law_choice (D : Df_law_choice K mg f fd) (T : Txt K mg t1 t2 t3 t4) : FnOk P w K mg base CX0 1 f fd ["_law_state_here", "_law_many"] spTake := by
  refine D.fn.ok sc_law_choice (fun vs H Q E h => ?_) (fun cdv A outer s H vs Q E hr h => ?_)
  · obtain ⟨a, m, rfl, _⟩ := h
    rfl
  · obtain ⟨a, m, rfl, ⟨m0, m1⟩, ⟨x, y, hH, y0, y1⟩, q⟩ := h
    refine ⟨_, (pss_cons (ps_if (pt_cmpR op_gt (pe_ix ix_list (pv 0) pe_int (fun _ _ => rfl)) pe_int (nomark _))
 (pss_cons (ps_set (i := 2) sc_law_choice.nd rfl (by first | exact Or.inl rfl | exact Or.inr rfl) (pe_op op_mod (pe_ix ix_list (pv 0) pe_int (fun _ _ => rfl)) (pv 1)))
 (pss_cons (ps_asg (pe_op op_fdivB (pe_ix ix_list (pv 0) pe_int (fun _ _ => rfl)) (pv 1)) (pg_sub (pv 0) pe_int set_list))
 (pss_one (ps_ret (pv 2)))))
 pss_nil)
 (pss_cons (ps_asg (pe_op op_mod (pe_op op_add (pe_op op_mulB (pe_ix ix_list (pv 0) pe_int (fun _ _ => rfl)) pe_int) pe_int) pe_int) (pg_sub (pv 0) pe_int set_list))
 (pss_cons (ps_set (i := 3) sc_law_choice.nd rfl (by first | exact Or.inl rfl | exact Or.inr rfl) (pe_op op_mod (pe_op op_add (pe_op op_add (pe_op op_mulB (pe_ix ix_list (pv 0) pe_int (fun _ _ => rfl)) (pe_ix ix_list (pv 0) pe_int (fun _ _ => rfl))) (pe_op op_mulB pe_int (pe_ix ix_list (pv 0) pe_int (fun _ _ => rfl)))) pe_int) pe_int))
 (pss_cons (ps_set (i := 3) sc_law_choice.nd rfl (by first | exact Or.inl rfl | exact Or.inr rfl) (pe_op op_mod (pe_op op_add (pe_op op_mulB (pv 3) (pv 3)) (pe_op op_mulB pe_int (pv 3))) pe_int))
 (pss_one (ps_ret (pe_op op_mod (pe_op op_fdivB (pv 3) pe_int) (pv 1)))))))), ?_⟩
    have e0 : L2.start ["_law_state_here", "_law_many", "_law_found", "_law_mixed"] [.ref a, .int m] = [some (.ref a), some (.int m), none, none] := rfl
    rw [e0]; clear e0
    simp only [tSeq, tIfS, tTest, tRet, tRetN, tNext, tDrop, tAsg, tPar, tPar3, tAug, tVar, tC, tOp, tUn, rI, rI0, rU, tB, tAnd, tOr, tNot, tAndV, tOrV, tNotV, tIf, gName, gNil, gCons, gTup, gSub, tCB, tCons, tNil, tCall, tChain, ipI, tIsN, tNotN, tBM, tyV, tTup, tLst, rAppend, rCat, scal_ii, scal_bb, scal_ss, scal_ni, scal_in, rEq, rNe, List.getElem?_cons_zero, List.getElem?_cons_succ, List.set_cons_zero, List.set_cons_succ, eq_self, and_assoc, Option.some.injEq, V.int.injEq, V.bl.injEq, V.ref.injEq, V.str.injEq, List.cons.injEq, exists_eq_left', exists_eq_left, exists_and_left, List.nil_append, List.cons_append, List.append_nil, true_and, and_true, decide_eq_true_eq, Bool.not_eq_true', decide_eq_false_iff_not, if_true, if_false, Bool.not_true, Bool.not_false, Bool.false_eq_true, reduceCtorEq, decide_true, decide_false, ite_true, ite_false, rSetL, rIxL, tRaise, jCons, jNil, tFmt, tDNew, rCount, rIndex, tCont, tBreak, Int.reduceToNat, Int.reducePow]
    refine ⟨_, SqL.of hH, _, rfl, _, rfl, ?_⟩
    refine ite2 (fun hx => ?_) (fun hx => ?_)
    · refine ⟨_, SqL.of hH, _, rfl, _, rfl, m0, _, SqL.of hH, _, rfl, _, rfl, ⟨m0, by omega⟩, _, hH, _, rfl, q _ _ (Int.emod_nonneg _ (by omega)) (Int.emod_lt_of_pos _ m0) ⟨⟨_, _, upd_same, y0, y1⟩, fun b o hb e => by rw [upd_ne hb]; exact e⟩⟩
    · have e1 : 0 ≤ (y * 48271 + 29) % 2147483647 := Int.emod_nonneg _ (by omega)
      have e2 : (y * 48271 + 29) % 2147483647 < 2147483647 := Int.emod_lt_of_pos _ (by omega)
      refine ⟨_, SqL.of hH, _, rfl, _, rfl, .inr ⟨by omega, by omega⟩, by decide, _, hH, _, rfl, _, SqL.of upd_same, _, rfl, _, SqL.of upd_same, _, rfl, _, rfl, _, rfl, .inr ⟨nb_mod _ (by decide) (by decide), nb_mod _ (by decide) (by decide)⟩, _, SqL.of upd_same, _, rfl, _, rfl,
        .inr ⟨by decide, nb_mod _ (by decide) (by decide)⟩, by decide, .inr ⟨nb_mod _ (by decide) (by decide), nb_mod _ (by decide) (by decide)⟩, .inr ⟨by decide, nb_mod _ (by decide) (by decide)⟩, by decide, ⟨by decide, by decide⟩, m0,
        q _ _ (Int.emod_nonneg _ (by omega)) (Int.emod_lt_of_pos _ m0) ⟨⟨_, _, upd_same, e1, by omega⟩, fun b o hb e => by rw [upd_ne hb]; exact e⟩⟩
noncomputable abbrev O_law_choice (P : Program) (w : World) (K : PySem.W.Frag) (mg : Str → Option Value) (base : Heap) : Prop := ∃ f fd, Df_law_choice K mg f fd ∧ FnOk P w K mg base CX0 1 f fd ["_law_state_here", "_law_many"] (spTake)
theorem rep3b {K : PySem.W.Frag} {HX : Hp} {l : Addr} {x y z : Bool} (e : HX l = some (.lst [V.bl x, V.bl y, V.bl z])) : Rep K HX (.lst [.bl x, .bl y, .bl z]) (.ref l) := ⟨l, _, rfl, SqL.of e, ⟨_, _, rfl, rfl, _, _, rfl, rfl, _, _, rfl, rfl, rfl⟩⟩
theorem br_if1 {K : PySem.W.Frag} {n b : Int} {l p : Addr} {pr A B C : Bool} {R : TS} {D : Ends} {H : Hp} (e : H p = some (.lst [.bl A, .bl B, .bl C])) (hh : A = true → B = true) (hs : B = true → C = true) (hq : pr = true → A = true ∧ B = true ∧ C = true)
    (h : ∀ H', Same H H' → R D [some (V.int n), some (V.ref l), some (V.bl pr), some (V.int b), some (V.ref p)] H') :
    tSeq (tIfS (tOr (tAnd (tB (tOp (rIxL K) (tVar 4) (tC (V.int 0)))) (tNot (tB (tOp (rIxL K) (tVar 4) (tC (V.int 1)))))) (tOr (tAnd (tB (tOp (rIxL K) (tVar 4) (tC (V.int 1)))) (tNot (tB (tOp (rIxL K) (tVar 4) (tC (V.int 2)))))) (tAnd (tB (tVar 2)) (tTest (tOp (rNeL K) (tVar 4) (tOp rRep (tLst (tCons (tC (V.bl true)) tNil)) (tC (V.int 3)))))))) (tRet (tC (V.bl false))) tNext) R D [some (V.int n), some (V.ref l), some (V.bl pr), some (V.int b), some (V.ref p)] H := by
  have h0 := h H (Same.refl H)
  cases pr with
  | true =>
    obtain ⟨rfl, rfl, rfl⟩ := hq rfl
    simp only [tSeq, tIfS, tTest, tRet, tRetN, tNext, tDrop, tAsg, tPar, tPar3, tAug, tVar, tC, tOp, tUn, rI, rI0, rU, tB, tAnd, tOr, tNot, tAndV, tOrV, tNotV, tIf, gName, gNil, gCons, gTup, gSub, tCB, tCons, tNil, tCall, tChain, ipI, tIsN, tNotN, tBM, tyV, tTup, tLst, rAppend, rCat, scal_ii, scal_bb, scal_ss, scal_ni, scal_in, rEq, rNe, List.getElem?_cons_zero, List.getElem?_cons_succ, List.set_cons_zero, List.set_cons_succ, eq_self, and_assoc, Option.some.injEq, V.int.injEq, V.bl.injEq, V.ref.injEq, V.str.injEq, List.cons.injEq, exists_eq_left', exists_eq_left, exists_and_left, List.nil_append, List.cons_append, List.append_nil, true_and, and_true, decide_eq_true_eq, Bool.not_eq_true', decide_eq_false_iff_not, if_true, if_false, Bool.not_true, Bool.not_false, Bool.false_eq_true, reduceCtorEq, decide_true, decide_false, ite_true, ite_false, rSetL, rIxL, tRaise, jCons, jNil, tFmt, tDNew, rCount, rIndex, tCont, tBreak, Int.reduceToNat, Int.reducePow]
    refine ⟨_, SqL.of e, _, rfl, _, rfl, ?_⟩
    rw [if_pos rfl]
    refine ⟨_, SqL.of e, _, rfl, _, rfl, ?_⟩
    rw [if_neg (by decide)]
    refine ⟨_, SqL.of e, _, rfl, _, rfl, ?_⟩
    rw [if_pos rfl]
    refine ⟨_, SqL.of e, _, rfl, _, rfl, ?_⟩
    rw [if_neg (by decide)]
    refine ⟨by show 1 ≤ sizeLine; decide, fun q1 hq1 => ⟨q1, 3, _, rfl, rfl, upd_same, by decide, by decide, Nat.le_of_lt (small1000 (show 1 * 3 ≤ 1000 by decide)), fun q2 hq2 => ?_⟩⟩
    refine ⟨_, _, rep3b (keep (keep e hq1) hq2), rep3b (x := true) (y := true) (z := true) upd_same, Nat.zero_le _, _, rfl, ?_⟩
    rw [eqDL_self, if_neg (show ¬ (!true) = true by decide)]
    exact h _ fun b o z => keep (keep z hq1) hq2
  | false =>
    simp only [tSeq, tIfS, tTest, tRet, tRetN, tNext, tDrop, tAsg, tPar, tPar3, tAug, tVar, tC, tOp, tUn, rI, rI0, rU, tB, tAnd, tOr, tNot, tAndV, tOrV, tNotV, tIf, gName, gNil, gCons, gTup, gSub, tCB, tCons, tNil, tCall, tChain, ipI, tIsN, tNotN, tBM, tyV, tTup, tLst, rAppend, rCat, scal_ii, scal_bb, scal_ss, scal_ni, scal_in, rEq, rNe, List.getElem?_cons_zero, List.getElem?_cons_succ, List.set_cons_zero, List.set_cons_succ, eq_self, and_assoc, Option.some.injEq, V.int.injEq, V.bl.injEq, V.ref.injEq, V.str.injEq, List.cons.injEq, exists_eq_left', exists_eq_left, exists_and_left, List.nil_append, List.cons_append, List.append_nil, true_and, and_true, decide_eq_true_eq, Bool.not_eq_true', decide_eq_false_iff_not, if_true, if_false, Bool.not_true, Bool.not_false, Bool.false_eq_true, reduceCtorEq, decide_true, decide_false, ite_true, ite_false, rSetL, rIxL, tRaise, jCons, jNil, tFmt, tDNew, rCount, rIndex, tCont, tBreak, Int.reduceToNat, Int.reducePow]
    refine ⟨_, SqL.of e, _, rfl, _, rfl, ?_⟩
    cases A with
    | true =>
      have := hh rfl
      subst this
      have := hs rfl
      subst this
      rw [if_pos rfl]
      refine ⟨_, SqL.of e, _, rfl, _, rfl, ?_⟩
      rw [if_neg (by decide)]
      refine ⟨_, SqL.of e, _, rfl, _, rfl, ?_⟩
      rw [if_pos rfl]
      refine ⟨_, SqL.of e, _, rfl, _, rfl, ?_⟩
      rw [if_neg (by decide)]
      exact h0
    | false =>
      rw [if_neg (by decide)]
      refine ⟨_, SqL.of e, _, rfl, _, rfl, ?_⟩
      cases B with
      | true =>
        have := hs rfl
        subst this
        rw [if_pos rfl]
        refine ⟨_, SqL.of e, _, rfl, _, rfl, ?_⟩
        rw [if_neg (by decide)]
        exact h0
      | false =>
        rw [if_neg (by decide)]
        exact h0
theorem br_if2 {K : PySem.W.Frag} {n b : Int} {l p : Addr} {pr B : Bool} {R : TS} {D : Ends} {H : Hp} (e : H p = some (.lst [.bl (halvB n b), .bl B, .bl (powL n b)])) (n3 : 3 ≤ n) (n30 : n ≤ 10 ^ 30) (no : n % 2 = 1) (b1 : 1 ≤ b) (b2 : b ≤ n - 1)
    (h : ∀ H', Same H H' → R D [some (V.int n), some (V.ref l), some (V.bl pr), some (V.int b), some (V.ref p)] H') :
    tSeq (tIfS (tOr (tTest (tOp rNe (tCall spByH [] E0 (tCons (tVar 0) (tCons (tOp (rI0 fun i j => V.int (i - j)) (tVar 0) (tVar 3)) tNil))) (tOp (rIxL K) (tVar 4) (tC (V.int 0))))) (tTest (tOp rNe (tCall spByP [] E0 (tCons (tVar 0) (tCons (tOp (rI0 fun i j => V.int (i - j)) (tVar 0) (tVar 3)) tNil))) (tOp (rIxL K) (tVar 4) (tC (V.int 2)))))) (tRet (tC (V.bl false))) tNext) R D [some (V.int n), some (V.ref l), some (V.bl pr), some (V.int b), some (V.ref p)] H := by
  have f1 := halv_flip (b := b) n3 no
  have f2 := pow_flip (b := b) n3 no
  simp only [tSeq, tIfS, tTest, tRet, tRetN, tNext, tDrop, tAsg, tPar, tPar3, tAug, tVar, tC, tOp, tUn, rI, rI0, rU, tB, tAnd, tOr, tNot, tAndV, tOrV, tNotV, tIf, gName, gNil, gCons, gTup, gSub, tCB, tCons, tNil, tCall, tChain, ipI, tIsN, tNotN, tBM, tyV, tTup, tLst, rAppend, rCat, scal_ii, scal_bb, scal_ss, scal_ni, scal_in, rEq, rNe, List.getElem?_cons_zero, List.getElem?_cons_succ, List.set_cons_zero, List.set_cons_succ, eq_self, and_assoc, Option.some.injEq, V.int.injEq, V.bl.injEq, V.ref.injEq, V.str.injEq, List.cons.injEq, exists_eq_left', exists_eq_left, exists_and_left, List.nil_append, List.cons_append, List.append_nil, true_and, and_true, decide_eq_true_eq, Bool.not_eq_true', decide_eq_false_iff_not, if_true, if_false, Bool.not_true, Bool.not_false, Bool.false_eq_true, reduceCtorEq, decide_true, decide_false, ite_true, ite_false, rSetL, rIxL, tRaise, jCons, jNil, tFmt, tDNew, rCount, rIndex, tCont, tBreak, Int.reduceToNat, Int.reducePow]
  refine ⟨n, _, rfl, ⟨n3, n30, no, by omega, by omega⟩, fun H2 S2 => ⟨_, SqL.of (S2 _ _ e), _, rfl, rfl, ?_⟩⟩
  rw [if_neg (fun z => z (by rw [f1]))]
  refine ⟨n, _, rfl, ⟨n3, n30, no, by omega, by omega⟩, ⟨_, SqL.of (S2 _ _ e), _, rfl, rfl, ?_⟩⟩
  rw [if_neg (fun z => z (by rw [f2]))]
  exact h H2 S2
theorem br_if3 {K : PySem.W.Frag} {n b : Int} {l p : Addr} {pr A B C : Bool} {D : Ends} {H : Hp} (e : H p = some (.lst [.bl A, .bl B, .bl C])) (n3 : 3 ≤ n) (n30 : n ≤ 10 ^ 30) (no : n % 2 = 1) (b1 : 1 ≤ b) (b2 : b ≤ n - 1) (sz : B = true → J (b % n) n ≠ 0)
    (h : D.nx [some (V.int n), some (V.ref l), some (V.bl pr), some (V.int b), some (V.ref p)] H) :
    tIfS (tAnd (tB (tOp (rIxL K) (tVar 4) (tC (V.int 1)))) (tTest (tOp rEq (tCall spSignP [] E0 (tCons (tVar 3) (tCons (tVar 0) tNil))) (tC (V.int 0))))) (tRet (tC (V.bl false))) tNext D [some (V.int n), some (V.ref l), some (V.bl pr), some (V.int b), some (V.ref p)] H := by
  simp only [tSeq, tIfS, tTest, tRet, tRetN, tNext, tDrop, tAsg, tPar, tPar3, tAug, tVar, tC, tOp, tUn, rI, rI0, rU, tB, tAnd, tOr, tNot, tAndV, tOrV, tNotV, tIf, gName, gNil, gCons, gTup, gSub, tCB, tCons, tNil, tCall, tChain, ipI, tIsN, tNotN, tBM, tyV, tTup, tLst, rAppend, rCat, scal_ii, scal_bb, scal_ss, scal_ni, scal_in, rEq, rNe, List.getElem?_cons_zero, List.getElem?_cons_succ, List.set_cons_zero, List.set_cons_succ, eq_self, and_assoc, Option.some.injEq, V.int.injEq, V.bl.injEq, V.ref.injEq, V.str.injEq, List.cons.injEq, exists_eq_left', exists_eq_left, exists_and_left, List.nil_append, List.cons_append, List.append_nil, true_and, and_true, decide_eq_true_eq, Bool.not_eq_true', decide_eq_false_iff_not, if_true, if_false, Bool.not_true, Bool.not_false, Bool.false_eq_true, reduceCtorEq, decide_true, decide_false, ite_true, ite_false, rSetL, rIxL, tRaise, jCons, jNil, tFmt, tDNew, rCount, rIndex, tCont, tBreak, Int.reduceToNat, Int.reducePow]
  refine ⟨_, SqL.of e, _, rfl, _, rfl, ?_⟩
  cases B with
  | true =>
    rw [if_pos rfl]
    refine ⟨b, n, rfl, ⟨by omega, by omega, by omega, by omega, no⟩, ?_⟩
    try simp only [tSeq, tIfS, tTest, tRet, tRetN, tNext, tDrop, tAsg, tPar, tPar3, tAug, tVar, tC, tOp, tUn, rI, rI0, rU, tB, tAnd, tOr, tNot, tAndV, tOrV, tNotV, tIf, gName, gNil, gCons, gTup, gSub, tCB, tCons, tNil, tCall, tChain, ipI, tIsN, tNotN, tBM, tyV, tTup, tLst, rAppend, rCat, scal_ii, scal_bb, scal_ss, scal_ni, scal_in, rEq, rNe, List.getElem?_cons_zero, List.getElem?_cons_succ, List.set_cons_zero, List.set_cons_succ, eq_self, and_assoc, Option.some.injEq, V.int.injEq, V.bl.injEq, V.ref.injEq, V.str.injEq, List.cons.injEq, exists_eq_left', exists_eq_left, exists_and_left, List.nil_append, List.cons_append, List.append_nil, true_and, and_true, decide_eq_true_eq, Bool.not_eq_true', decide_eq_false_iff_not, if_true, if_false, Bool.not_true, Bool.not_false, Bool.false_eq_true, reduceCtorEq, decide_true, decide_false, ite_true, ite_false, rSetL, rIxL, tRaise, jCons, jNil, tFmt, tDNew, rCount, rIndex, tCont, tBreak, Int.reduceToNat, Int.reducePow]
    rw [if_neg (sz rfl)]
    exact h
  | false =>
    rw [if_neg (by decide)]
    exact h
noncomputable abbrev s_law_bases_right : Stmt := top 57
theorem sc_law_bases_right : FnScope ["_law_n", "_law_bases", "_law_prime", "_law_base", "_law_some"] ["_law_n", "_law_bases", "_law_prime"] (defScope s_law_bases_right) := ⟨rfl, rfl, rfl, by decide +kernel, rfl, by decide +kernel, by decide +kernel⟩
noncomputable abbrev Df_law_bases_right (K : PySem.W.Frag) (mg : Str → Option Value) (f : Addr) (fd : FuncData) : Prop := Def K mg "_law_bases_right" s_law_bases_right ["_law_n", "_law_bases", "_law_prime"] f fd
structure BsOk (n : Int) (bs : List Int) (pr : Bool) : Prop where
  n3 : 3 ≤ n
  n30 : n ≤ 10 ^ 30
  no : n % 2 = 1
  bs : ∀ b ∈ bs, 1 ≤ b ∧ b ≤ n - 1
  pr : pr = true → IsPr n
noncomputable def spBR : Sp := fun vs H Q _ => ∃ (n : Int) (l : Addr) (bs : List Int) (pr : Bool), vs = [.int n, .ref l, .bl pr] ∧ H l = some (.lst (bs.map V.int)) ∧ BsOk n bs pr ∧ ∀ H', Same H H' → Q (.bl true) H'
theorem ok_law_bases_right (D : Df_law_bases_right K mg f fd) (T : Txt K mg t1 t2 t3 t4) (o1 : O_by_halves P w K mg base) (o2 : O_by_signs P w K mg base) (o3 : O_by_powers P w K mg base) (o4 : O_sign P w K mg base) : FnOk P w K mg base CX0 6 f fd ["_law_n", "_law_bases", "_law_prime"] spBR := by
  obtain ⟨_, _, D_by_halves, G_by_halves⟩ := o1
  obtain ⟨_, _, D_by_signs, G_by_signs⟩ := o2
  obtain ⟨_, _, D_by_powers, G_by_powers⟩ := o3
  obtain ⟨_, _, D_sign, G_sign⟩ := o4
  refine D.fn.ok sc_law_bases_right (fun vs H Q E h => ?_) (fun cdv A outer s H vs Q E hr h => ?_)
  · obtain ⟨n, l, bs, pr, rfl, _⟩ := h
    rfl
  · obtain ⟨n, l, bs, pr, rfl, hl, ⟨n3, n30, no, hbs, hpr⟩, k⟩ := h
    refine ⟨_, (pss_cons (ps_for PassesOwn.never rfl (pi_list (pv 1)) (pg_name (i := 3) sc_law_bases_right.nd rfl (by first | exact Or.inl rfl | exact Or.inr rfl))
 (pss_cons (ps_set (i := 4) sc_law_bases_right.nd rfl (by first | exact Or.inl rfl | exact Or.inr rfl) (pe_lst (pa_cons (pe_call (G_by_halves.mono (by decide)) hr rfl D_by_halves.mgx D_by_halves.fn.kp D_by_halves.bd .nil pass0 (pa_cons (pv 0) (pa_cons (pv 3) pa_nil))) (pa_cons (pe_call (G_by_signs.mono (by decide)) hr rfl D_by_signs.mgx D_by_signs.fn.kp D_by_signs.bd .nil pass0 (pa_cons (pv 0) (pa_cons (pv 3) pa_nil))) (pa_cons (pe_call (G_by_powers.mono (by decide)) hr rfl D_by_powers.mgx D_by_powers.fn.kp D_by_powers.bd .nil pass0 (pa_cons (pv 0) (pa_cons (pv 3) pa_nil))) pa_nil)))))
 (pss_cons (ps_if (PW.pt (pw_or (PW.pt (pw_and (pt_val (pe_ix ix_list (pv 4) pe_int (fun _ _ => rfl))) (pw_and1 (pt_not (pt_val (pe_ix ix_list (pv 4) pe_int (fun _ _ => rfl))))))) (pw_or (PW.pt (pw_and (pt_val (pe_ix ix_list (pv 4) pe_int (fun _ _ => rfl))) (pw_and1 (pt_not (pt_val (pe_ix ix_list (pv 4) pe_int (fun _ _ => rfl))))))) (pw_or1 (PW.pt (pw_and (pt_val (pv 2)) (pw_and1 (pt_cmpR (op_neS (hu150 hr)) (pv 4) (pe_op op_rep (pe_lst (pa_cons pe_bl pa_nil)) pe_int) (nomark _)))))))))
 (pss_one (ps_ret pe_bl))
 pss_nil)
 (pss_cons (ps_if (PW.pt (pw_or (pt_cmpR op_ne (pe_call (G_by_halves.mono (by decide)) hr rfl D_by_halves.mgx D_by_halves.fn.kp D_by_halves.bd .nil pass0 (pa_cons (pv 0) (pa_cons (pe_op op_sub (pv 0) (pv 3)) pa_nil))) (pe_ix ix_list (pv 4) pe_int (fun _ _ => rfl)) (nomark _)) (pw_or1 (pt_cmpR op_ne (pe_call (G_by_powers.mono (by decide)) hr rfl D_by_powers.mgx D_by_powers.fn.kp D_by_powers.bd .nil pass0 (pa_cons (pv 0) (pa_cons (pe_op op_sub (pv 0) (pv 3)) pa_nil))) (pe_ix ix_list (pv 4) pe_int (fun _ _ => rfl)) (nomark _)))))
 (pss_one (ps_ret pe_bl))
 pss_nil)
 (pss_one (ps_if (PW.pt (pw_and (pt_val (pe_ix ix_list (pv 4) pe_int (fun _ _ => rfl))) (pw_and1 (pt_cmpR op_eq (pe_call (G_sign.mono (by decide)) hr rfl D_sign.mgx D_sign.fn.kp D_sign.bd .nil pass0 (pa_cons (pv 3) (pa_cons (pv 0) pa_nil))) pe_int (nomark _)))))
 (pss_one (ps_ret pe_bl))
 pss_nil))))))
 (pss_one (ps_ret pe_bl))), ?_⟩
    have e0 : L2.start ["_law_n", "_law_bases", "_law_prime", "_law_base", "_law_some"] [.int n, .ref l, .bl pr] = [some (.int n), some (.ref l), some (.bl pr), none, none] := rfl
    rw [e0]; clear e0
    simp only [tSeq, tIfS, tTest, tRet, tRetN, tNext, tDrop, tAsg, tPar, tPar3, tAug, tVar, tC, tOp, tUn, rI, rI0, rU, tB, tAnd, tOr, tNot, tAndV, tOrV, tNotV, tIf, gName, gNil, gCons, gTup, gSub, tCB, tCons, tNil, tCall, tChain, ipI, tIsN, tNotN, tBM, tyV, tTup, tLst, rAppend, rCat, scal_ii, scal_bb, scal_ss, scal_ni, scal_in, rEq, rNe, List.getElem?_cons_zero, List.getElem?_cons_succ, List.set_cons_zero, List.set_cons_succ, eq_self, and_assoc, Option.some.injEq, V.int.injEq, V.bl.injEq, V.ref.injEq, V.str.injEq, List.cons.injEq, exists_eq_left', exists_eq_left, exists_and_left, List.nil_append, List.cons_append, List.append_nil, true_and, and_true, decide_eq_true_eq, Bool.not_eq_true', decide_eq_false_iff_not, if_true, if_false, Bool.not_true, Bool.not_false, Bool.false_eq_true, reduceCtorEq, decide_true, decide_false, ite_true, ite_false, rSetL, rIxL, tRaise, jCons, jNil, tFmt, tDNew, rCount, rIndex, tCont, tBreak, Int.reduceToNat, Int.reducePow]
    refine ⟨_, rfl, l, rfl, ⟨_, SqL.of hl⟩, for_list (xs := bs.map V.int) (fun j σ H' => Same H H' ∧ ∃ v3 v4, σ = [some (.int n), some (.ref l), some (.bl pr), v3, v4]) ⟨Same.refl H, none, none, rfl⟩ (fun _ _ _ _ h => SqL.of (h.1 _ _ hl)) ?_ ?_⟩
    · rintro j x σ H1 hx ⟨S1, v3, v4, rfl⟩
      obtain ⟨b, hb, rfl⟩ : ∃ b, b ∈ bs ∧ x = .int b := by
        rw [List.getElem?_map] at hx
        cases e : bs[j]? with
        | none => rw [e] at hx; cases hx
        | some b => rw [e] at hx; cases hx; exact ⟨b, List.mem_of_getElem? e, rfl⟩
      obtain ⟨b1, b2⟩ := hbs b hb
      have hh := halv_sgn (b := b) n3 no
      have hs := sgn_pow (b := b) n3 no
      have f1 := halv_flip (b := b) n3 no
      have f2 := pow_flip (b := b) n3 no
      have hq : pr = true → halvB n b = true ∧ sgnL n b = true ∧ powL n b = true := fun z => pr_looks (hpr z) n3 b1 (by omega)
      have sz : sgnL n b = true → J (b % n) n ≠ 0 := fun z => by
        unfold sgnL at z
        have := (Bool.and_eq_true_iff.mp z).1
        simpa using this
      refine tSeq_gen (σ := [some (V.int n), some (V.ref l), some (V.bl pr), some (V.int b), v4]) fun R hR => ?_
      simp only [tSeq, tIfS, tTest, tRet, tRetN, tNext, tDrop, tAsg, tPar, tPar3, tAug, tVar, tC, tOp, tUn, rI, rI0, rU, tB, tAnd, tOr, tNot, tAndV, tOrV, tNotV, tIf, gName, gNil, gCons, gTup, gSub, tCB, tCons, tNil, tCall, tChain, ipI, tIsN, tNotN, tBM, tyV, tTup, tLst, rAppend, rCat, scal_ii, scal_bb, scal_ss, scal_ni, scal_in, rEq, rNe, List.getElem?_cons_zero, List.getElem?_cons_succ, List.set_cons_zero, List.set_cons_succ, eq_self, and_assoc, Option.some.injEq, V.int.injEq, V.bl.injEq, V.ref.injEq, V.str.injEq, List.cons.injEq, exists_eq_left', exists_eq_left, exists_and_left, List.nil_append, List.cons_append, List.append_nil, true_and, and_true, decide_eq_true_eq, Bool.not_eq_true', decide_eq_false_iff_not, if_true, if_false, Bool.not_true, Bool.not_false, Bool.false_eq_true, reduceCtorEq, decide_true, decide_false, ite_true, ite_false, rSetL, rIxL, tRaise, jCons, jNil, tFmt, tDNew, rCount, rIndex, tCont, tBreak, Int.reduceToNat, Int.reducePow]
      refine ⟨n, b, rfl, ⟨n3, n30, no, b1, b2⟩, fun H2 S2 => ?_⟩
      refine ⟨n, b, rfl, ⟨n3, n30, no, b1, b2⟩, ?_⟩
      refine ⟨n, b, rfl, ⟨n3, n30, no, b1, b2⟩, ?_⟩
      refine ⟨by show 3 ≤ sizeLine; decide, fun p hp => ?_⟩
      have S3 : Same H (upd H2 p (.lst [V.bl (halvB n b), V.bl (sgnL n b), V.bl (powL n b)])) := fun c o e => keep (S2 _ _ (S1 _ _ e)) hp
      have e3 : (upd H2 p (.lst [V.bl (halvB n b), V.bl (sgnL n b), V.bl (powL n b)])) p = some (.lst [V.bl (halvB n b), V.bl (sgnL n b), V.bl (powL n b)]) := upd_same
      generalize upd H2 p (.lst [V.bl (halvB n b), V.bl (sgnL n b), V.bl (powL n b)]) = H3 at S3 e3 ⊢
      rw [hR]
      clear hR
      refine br_if1 e3 hh hs hq fun H4 S4 => ?_
      refine br_if2 (S4 _ _ e3) n3 n30 no b1 b2 fun H5 S5 => ?_
      exact br_if3 (S5 _ _ (S4 _ _ e3)) n3 n30 no b1 b2 sz ⟨(S3.trans S4).trans S5, _, _, rfl⟩
    · rintro σ H1 ⟨S1, v3, v4, rfl⟩
      simp only [tSeq, tIfS, tTest, tRet, tRetN, tNext, tDrop, tAsg, tPar, tPar3, tAug, tVar, tC, tOp, tUn, rI, rI0, rU, tB, tAnd, tOr, tNot, tAndV, tOrV, tNotV, tIf, gName, gNil, gCons, gTup, gSub, tCB, tCons, tNil, tCall, tChain, ipI, tIsN, tNotN, tBM, tyV, tTup, tLst, rAppend, rCat, scal_ii, scal_bb, scal_ss, scal_ni, scal_in, rEq, rNe, List.getElem?_cons_zero, List.getElem?_cons_succ, List.set_cons_zero, List.set_cons_succ, eq_self, and_assoc, Option.some.injEq, V.int.injEq, V.bl.injEq, V.ref.injEq, V.str.injEq, List.cons.injEq, exists_eq_left', exists_eq_left, exists_and_left, List.nil_append, List.cons_append, List.append_nil, true_and, and_true, decide_eq_true_eq, Bool.not_eq_true', decide_eq_false_iff_not, if_true, if_false, Bool.not_true, Bool.not_false, Bool.false_eq_true, reduceCtorEq, decide_true, decide_false, ite_true, ite_false, rSetL, rIxL, tRaise, jCons, jNil, tFmt, tDNew, rCount, rIndex, tCont, tBreak, Int.reduceToNat, Int.reducePow]
      exact k H1 S1
noncomputable abbrev O_law_bases_right (P : Program) (w : World) (K : PySem.W.Frag) (mg : Str → Option Value) (base : Heap) : Prop := ∃ f fd, Df_law_bases_right K mg f fd ∧ FnOk P w K mg base CX0 6 f fd ["_law_n", "_law_bases", "_law_prime"] (spBR)
noncomputable abbrev s_law_counts_right : Stmt := top 58
theorem sc_law_counts_right : FnScope ["_law_n", "_law_prime", "_law_halves", "_law_powers"] ["_law_n"] (defScope s_law_counts_right) := ⟨rfl, rfl, rfl, by decide +kernel, rfl, by decide +kernel, by decide +kernel⟩
noncomputable abbrev Df_law_counts_right (K : PySem.W.Frag) (mg : Str → Option Value) (f : Addr) (fd : FuncData) : Prop := Def K mg "_law_counts_right" s_law_counts_right ["_law_n"] f fd
noncomputable def spCR : Sp := fun vs H Q _ => ∃ (n : Int), vs = [.int n] ∧ (3 ≤ n ∧ n ≤ 1000000000 ∧ n % 2 = 1) ∧ ∀ H', Same H H' → Q (.bl true) H'
theorem ok_law_counts_right (D : Df_law_counts_right K mg f fd) (T : Txt K mg t1 t2 t3 t4) (o1 : O_is_prime P w K mg base) (o2 : O_many_by_halves P w K mg base) (o3 : O_many_by_powers P w K mg base) (o4 : O_many_rests P w K mg base) (o5 : O_share_by_halves P w K mg base) (o6 : O_fools_all P w K mg base) : FnOk P w K mg base CX0 9 f fd ["_law_n"] spCR := by
  obtain ⟨_, _, D_is_prime, G_is_prime⟩ := o1
  obtain ⟨_, _, D_many_by_halves, G_many_by_halves⟩ := o2
  obtain ⟨_, _, D_many_by_powers, G_many_by_powers⟩ := o3
  obtain ⟨_, _, D_many_rests, G_many_rests⟩ := o4
  obtain ⟨_, _, D_share_by_halves, G_share_by_halves⟩ := o5
  obtain ⟨_, _, D_fools_all, G_fools_all⟩ := o6
  refine D.fn.ok sc_law_counts_right (fun vs H Q E h => ?_) (fun cdv A outer s H vs Q E hr h => ?_)
  · obtain ⟨n, rfl, _⟩ := h
    rfl
  · obtain ⟨n, rfl, ⟨h1, h2, h3⟩, k⟩ := h
    refine ⟨_, (pss_cons (ps_set (i := 1) sc_law_counts_right.nd rfl (by first | exact Or.inl rfl | exact Or.inr rfl) (pe_call (G_is_prime.mono (by decide)) hr rfl D_is_prime.mgx D_is_prime.fn.kp D_is_prime.bd .nil pass0 (pa_cons (pv 0) pa_nil)))
 (pss_cons (ps_par (i := 2) (j := 3) rfl sc_law_counts_right.nd rfl rfl (by decide) rfl rfl (pa_cons (pe_call (G_many_by_halves.mono (by decide)) hr rfl D_many_by_halves.mgx D_many_by_halves.fn.kp D_many_by_halves.bd .nil pass0 (pa_cons (pv 0) pa_nil)) (pa_cons (pe_call (G_many_by_powers.mono (by decide)) hr rfl D_many_by_powers.mgx D_many_by_powers.fn.kp D_many_by_powers.bd .nil pass0 (pa_cons (pv 0) pa_nil)) pa_nil)) (by first | rfl | with_unfolding_all rfl))
 (pss_cons (ps_if (PW.pt (pw_or (pt_cmpR op_ne (pv 1) (pe_cmpR op_eq (pv 2) (pe_op op_sub (pv 0) pe_int) (nomark _)) (nomark _)) (pw_or (pt_cmpR op_gt (pv 2) (pv 3) (nomark _)) (pw_or1 (pt_cmpR op_gt (pv 3) (pe_call (G_many_rests.mono (by decide)) hr rfl D_many_rests.mgx D_many_rests.fn.kp D_many_rests.bd .nil pass0 (pa_cons (pv 0) pa_nil)) (nomark _))))))
 (pss_one (ps_ret pe_bl))
 pss_nil)
 (pss_cons (ps_if (PW.pt (pw_or (PW.pt (pw_and (pt_cmpR op_gt (pv 0) pe_int (nomark _)) (pw_and (pt_not (pt_val (pv 1))) (pw_and1 (pt_cmpR op_gt (pe_op op_mulB pe_int (pv 2)) (pe_op op_sub (pv 0) pe_int) (nomark _)))))) (pw_or1 (pt_cmpR op_ne (pe_op op_mulB (pe_ix ix_tup (pe_call (G_share_by_halves.mono (by decide)) hr rfl D_share_by_halves.mgx D_share_by_halves.fn.kp D_share_by_halves.bd .nil pass0 (pa_cons (pv 0) pa_nil)) pe_int (fun _ _ => rfl)) (pe_op op_sub (pv 0) pe_int)) (pe_op op_mulB (pe_ix ix_tup (pe_call (G_share_by_halves.mono (by decide)) hr rfl D_share_by_halves.mgx D_share_by_halves.fn.kp D_share_by_halves.bd .nil pass0 (pa_cons (pv 0) pa_nil)) pe_int (fun _ _ => rfl)) (pv 2)) (nomark _)))))
 (pss_one (ps_ret pe_bl))
 pss_nil)
 (pss_one (ps_ret (pe_cmpR op_eq (pe_call (G_fools_all.mono (by decide)) hr rfl D_fools_all.mgx D_fools_all.fn.kp D_fools_all.bd .nil pass0 (pa_cons (pv 0) pa_nil)) (pe_and (pe_not (pv 1)) (pe_one (pe_cmpR op_eq (pv 3) (pe_call (G_many_rests.mono (by decide)) hr rfl D_many_rests.mgx D_many_rests.fn.kp D_many_rests.bd .nil pass0 (pa_cons (pv 0) pa_nil)) (nomark _)))) (nomark _)))))))), ?_⟩
    have e0 : L2.start ["_law_n", "_law_prime", "_law_halves", "_law_powers"] [.int n] = [some (.int n), none, none, none] := rfl
    rw [e0]; clear e0
    simp only [tSeq, tIfS, tTest, tRet, tRetN, tNext, tDrop, tAsg, tPar, tPar3, tAug, tVar, tC, tOp, tUn, rI, rI0, rU, tB, tAnd, tOr, tNot, tAndV, tOrV, tNotV, tIf, gName, gNil, gCons, gTup, gSub, tCB, tCons, tNil, tCall, tChain, ipI, tIsN, tNotN, tBM, tyV, tTup, tLst, rAppend, rCat, scal_ii, scal_bb, scal_ss, scal_ni, scal_in, rEq, rNe, List.getElem?_cons_zero, List.getElem?_cons_succ, List.set_cons_zero, List.set_cons_succ, eq_self, and_assoc, Option.some.injEq, V.int.injEq, V.bl.injEq, V.ref.injEq, V.str.injEq, List.cons.injEq, exists_eq_left', exists_eq_left, exists_and_left, List.nil_append, List.cons_append, List.append_nil, true_and, and_true, decide_eq_true_eq, Bool.not_eq_true', decide_eq_false_iff_not, if_true, if_false, Bool.not_true, Bool.not_false, Bool.false_eq_true, reduceCtorEq, decide_true, decide_false, ite_true, ite_false, rSetL, rIxL, tRaise, jCons, jNil, tFmt, tDNew, rCount, rIndex, tCont, tBreak, Int.reduceToNat, Int.reducePow]
    refine ⟨n, rfl, ⟨by omega, by omega⟩, ?_⟩
    refine ⟨n, rfl, ⟨h1, h2, h3⟩, fun l kk H1 hl mn S1 => ?_⟩
    refine ⟨n, rfl, ⟨h1, h2, h3⟩, fun l2 H2 hl2 S2 => ?_⟩
    have el := hl2.unique hl
    subst el
    have OD : Odd1 n l2 kk := ⟨hl, mn, h1, h3⟩
    try simp only [tSeq, tIfS, tTest, tRet, tRetN, tNext, tDrop, tAsg, tPar, tPar3, tAug, tVar, tC, tOp, tUn, rI, rI0, rU, tB, tAnd, tOr, tNot, tAndV, tOrV, tNotV, tIf, gName, gNil, gCons, gTup, gSub, tCB, tCons, tNil, tCall, tChain, ipI, tIsN, tNotN, tBM, tyV, tTup, tLst, rAppend, rCat, scal_ii, scal_bb, scal_ss, scal_ni, scal_in, rEq, rNe, List.getElem?_cons_zero, List.getElem?_cons_succ, List.set_cons_zero, List.set_cons_succ, eq_self, and_assoc, Option.some.injEq, V.int.injEq, V.bl.injEq, V.ref.injEq, V.str.injEq, List.cons.injEq, exists_eq_left', exists_eq_left, exists_and_left, List.nil_append, List.cons_append, List.append_nil, true_and, and_true, decide_eq_true_eq, Bool.not_eq_true', decide_eq_false_iff_not, if_true, if_false, Bool.not_true, Bool.not_false, Bool.false_eq_true, reduceCtorEq, decide_true, decide_false, ite_true, ite_false, rSetL, rIxL, tRaise, jCons, jNil, tFmt, tDNew, rCount, rIndex, tCont, tBreak, Int.reduceToNat, Int.reducePow]
    have mb := mhal_bound hl (pos1 h1) h2 mn (Nat.le_refl _)
    have mb2 : 1 ≤ mhal n l2 kk ∧ mhal n l2 kk ≤ 10 ^ 20 := mb
    clear mb
    have hp1 := OD.hal_pow
    have pp := OD.pow_phi.1
    have S02 : Same H H2 := S1.trans S2
    have gb := gcd_bound (a := mhal n l2 kk) (posl h1)
    have d1 := Int.ediv_nonneg (a := mhal n l2 kk) (b := (Int.gcd (mhal n l2 kk) (n - 1) : Int)) (by omega) (by omega)
    have d2 := Int.ediv_le_self (b := (Int.gcd (mhal n l2 kk) (n - 1) : Int)) (show 0 ≤ mhal n l2 kk by omega)
    have d3 := Int.ediv_nonneg (a := n - 1) (b := (Int.gcd (mhal n l2 kk) (n - 1) : Int)) (by omega) (by omega)
    have d4 := Int.ediv_le_self (b := (Int.gcd (mhal n l2 kk) (n - 1) : Int)) (show 0 ≤ n - 1 by omega)
    have ip : isPrB n = decide (mhal n l2 kk = n - 1) := by
      by_cases hp : IsPr n
      · rw [isPrB_of hp, decide_eq_true (OD.prime hp)]
      · rw [isPrB_not hp]
        have := OD.quarter hp
        exact (decide_eq_false (by omega)).symm
    have qt : isPrB n = false → 4 * mhal n l2 kk ≤ n - 1 := fun z => OD.quarter fun hp => by rw [isPrB_of hp] at z; cases z
    rw [if_neg (fun h => h ip), if_neg (by omega)]
    refine ⟨n, rfl, ⟨by omega, by omega⟩, fun l3 H3 hl3 S3 => ⟨_, rfl, ?_⟩⟩
    rw [hl3.unique hl, if_neg (by omega)]
    have S03 : Same H H3 := S02.trans S3
    have REST : ∀ {R : VK} , (∀ H', Same H H' → R (.int (mhal n l2 kk / (Int.gcd (mhal n l2 kk) (n - 1) : Nat))) H') → spSH [V.int n] H3 (fun x H1 => rIxT K x (V.int 0) H1 R) E0 := fun {R} hR => by
      refine ⟨n, rfl, ⟨h1, h2, h3⟩, fun l4 k4 p4 H4 hl4 mn4 S4 hp4 => ?_⟩
      rw [hl4.unique hl] at hp4 mn4
      rw [mn4.unique mn] at hp4
      exact ⟨p4, _, _, _, rfl, rfl, SqT.of hp4, rfl, hR H4 (S03.trans S4)⟩
    have R2 : ∀ {R : VK} {H4 : Hp}, Same H H4 → (∀ H', Same H H' → R (.int ((n - 1) / (Int.gcd (mhal n l2 kk) (n - 1) : Nat))) H') → spSH [V.int n] H4 (fun x H1 => rIxT K x (V.int 1) H1 R) E0 := fun {R H4} S4 hR => by
      refine ⟨n, rfl, ⟨h1, h2, h3⟩, fun l4 k4 p4 H5 hl4 mn4 S5 hp4 => ?_⟩
      rw [hl4.unique hl] at hp4 mn4
      rw [mn4.unique mn] at hp4
      exact ⟨p4, _, _, _, rfl, rfl, SqT.of hp4, rfl, hR H5 (S4.trans S5)⟩
    have FIN : ∀ {H4 : Hp}, Same H H4 → spFools [V.int n] H4 (fun x H1 => if isPrB n = false then spMany [V.int n] H1 (fun y H2 => scal (V.int (mpow n l2)) y = true ∧ scal x (V.bl (decide (V.int (mpow n l2) = y))) = true ∧ Q (V.bl (decide (x = V.bl (decide (V.int (mpow n l2) = y))))) H2) E0 else scal x (V.bl false) = true ∧ Q (V.bl (decide (x = V.bl false))) H1) E0 := fun {H4} S4 => by
      refine ⟨n, rfl, ⟨h1, h2, h3⟩, fun l5 H5 hl5 S5 => ?_⟩
      rw [hl5.unique hl, OD.lies]
      cases hb : isPrB n with
      | false =>
        rw [if_pos rfl]
        refine ⟨n, rfl, ⟨by omega, by omega⟩, fun l6 H6 hl6 S6 => ⟨rfl, rfl, ?_⟩⟩
        rw [hl6.unique hl]
        have e : decide (V.bl (!false && decide (mpow n l2 = phi l2)) = V.bl (decide (V.int (mpow n l2) = V.int (phi l2)))) = true := by
          refine decide_eq_true ?_
          rw [Bool.not_false, Bool.true_and]
          congr 1
          exact decide_eq_decide.mpr ⟨fun h => by rw [h], fun h => V.int.inj h⟩
        rw [e]
        exact k H6 ((S4.trans S5).trans S6)
      | true =>
        rw [if_neg (by decide)]
        refine ⟨rfl, ?_⟩
        rw [Bool.not_true, Bool.false_and, decide_eq_true rfl]
        exact k H5 (S4.trans S5)
    have SH : spSH [V.int n] H3 (fun x H1 => rIxT K x (V.int 0) H1 fun x H1 => ∃ i, x = V.int i ∧ CMulB i (n - 1) ∧ spSH [V.int n] H1 (fun x H1 => rIxT K x (V.int 1) H1 fun x H1 => ∃ i_1, x = V.int i_1 ∧ CMulB i_1 (mhal n l2 kk) ∧ if ¬i * (n - 1) = i_1 * mhal n l2 kk then Q (V.bl false) H1 else spFools [V.int n] H1 (fun x H1 => if isPrB n = false then spMany [V.int n] H1 (fun y H2 => scal (V.int (mpow n l2)) y = true ∧ scal x (V.bl (decide (V.int (mpow n l2) = y))) = true ∧ Q (V.bl (decide (x = V.bl (decide (V.int (mpow n l2) = y))))) H2) E0 else scal x (V.bl false) = true ∧ Q (V.bl (decide (x = V.bl false))) H1) E0) E0) E0 := by
      refine REST fun H4 S4 => ⟨_, rfl, .inr ⟨by omega, by omega⟩, R2 S4 fun H5 S5 => ⟨_, rfl, .inr ⟨by omega, by omega⟩, ?_⟩⟩
      rw [if_neg (fun h => h (share_eq (by omega)))]
      exact FIN S5
    by_cases h9 : 9 < n
    · rw [if_pos h9]
      cases hb : isPrB n with
      | false =>
        have q4 := qt hb
        rw [if_pos rfl]
        refine ⟨.inr ⟨by decide, by omega⟩, ?_⟩
        rw [if_neg (by omega)]
        rw [hb] at SH
        exact SH
      | true =>
        rw [if_neg (by decide)]
        rw [hb] at SH
        exact SH
    · rw [if_neg h9]
      exact SH
noncomputable abbrev O_law_counts_right (P : Program) (w : World) (K : PySem.W.Frag) (mg : Str → Option Value) (base : Heap) : Prop := ∃ f fd, Df_law_counts_right K mg f fd ∧ FnOk P w K mg base CX0 9 f fd ["_law_n"] (spCR)
end
end PP
set_option Elab.async false
set_option linter.all false
set_option maxRecDepth 100000
set_option maxHeartbeats 4000000
namespace PP
open PySem L2 MM
section
variable {P : Program} {w : World} {K : PySem.W.Frag} {mg : Str → Option Value} {base : Heap} {t1 t2 t3 t4 : Tok} {f : Addr} {fd : FuncData}
noncomputable abbrev s_law : Stmt := top 59
theorem sc_law : FnScope ["_law_script", "_law_k", "_law_state_here", "_law_wide", "_law_n", "_law_some", "_law_at", "_law_here", "_law_bases", "_law_small", "_law_base", "_law_order"] ["_law_script"] (defScope s_law) := ⟨rfl, rfl, rfl, by decide +kernel, rfl, by decide +kernel, by decide +kernel⟩
noncomputable abbrev Df_law (K : PySem.W.Frag) (mg : Str → Option Value) (f : Addr) (fd : FuncData) : Prop := Def K mg "law" s_law ["_law_script"] f fd
noncomputable abbrev OB_law_choice (P : Program) (w : World) (K : PySem.W.Frag) (mg : Str → Option Value) : Prop := ∃ f fd, Df_law_choice K mg f fd ∧ ∀ b, FnOk P w K mg b CX0 1 f fd ["_law_state_here", "_law_many"] spTake
noncomputable def spLaw (K : PySem.W.Frag) : Sp := fun vs H Q _ => ∃ (a : Addr) (ns : List Int), vs = [.ref a] ∧ SqL K H a (ns.map V.int) ∧ ns.length ≤ 63 ∧ ∀ H', Q (.bl true) H'
theorem ok_law (D : Df_law K mg f fd) (T : Txt K mg t1 t2 t3 t4) (o1 : O_law_state P w K mg base) (o2 : OB_law_choice P w K mg) (o3 : O_prime_of P w K mg base) (o4 : O_law_bases_right P w K mg base) (o5 : O_law_counts_right P w K mg base) (o6 : O_order_of P w K mg base) (o7 : O_by_powers P w K mg base) : FnOk P w K mg base CX0 72 f fd ["_law_script"] (spLaw K) := by
  obtain ⟨_, _, D_law_state, G_law_state⟩ := o1
  obtain ⟨_, _, D_law_choice, B_law_choice⟩ := o2
  obtain ⟨_, _, D_prime_of, G_prime_of⟩ := o3
  obtain ⟨_, _, D_law_bases_right, G_law_bases_right⟩ := o4
  obtain ⟨_, _, D_law_counts_right, G_law_counts_right⟩ := o5
  obtain ⟨_, _, D_order_of, G_order_of⟩ := o6
  obtain ⟨_, _, D_by_powers, G_by_powers⟩ := o7
  have G_law_choice := B_law_choice base
  refine D.fn.ok sc_law (fun vs H Q E h => ?_) (fun cdv A outer s H vs Q E hr h => ?_)
  · obtain ⟨a, ns, rfl, _⟩ := h
    rfl
  · obtain ⟨sa, ns, rfl, hS, hlen, k⟩ := h
    refine ⟨_, (pss_cons (ps_for PassesOwn.never rfl (pi_range1 rfl T.no_range (pa_cons (pe_callB (call_max2 rfl) (by rfl) T.no_max PyProof.Rows.boot_max (pa_cons pe_int (pa_cons (pe_callB (call_min2 rfl) (by rfl) T.no_min PyProof.Rows.boot_min (pa_cons (pe_callB call_len_seq (by rfl) T.no_len PySem.boot_len (pa_cons (pv 0) pa_nil)) (pa_cons pe_int pa_nil))) pa_nil))) pa_nil)) (pg_name (i := 1) sc_law.nd rfl (by first | exact Or.inl rfl | exact Or.inr rfl))
 (pss_cons (ps_set (i := 2) sc_law.nd rfl (by first | exact Or.inl rfl | exact Or.inr rfl) (pe_call (G_law_state.mono (by decide)) hr rfl D_law_state.mgx D_law_state.fn.kp D_law_state.bd .nil pass0 (pa_cons (pv 0) (pa_cons (pv 1) pa_nil))))
 (pss_cons (ps_set (i := 3) sc_law.nd rfl (by first | exact Or.inl rfl | exact Or.inr rfl) (pe_ix ix_list (pe_lst (pa_cons pe_int (pa_cons (pe_op op_mulB pe_int (pe_op op_pow pe_int pe_int)) (pa_cons (pe_op op_mulB pe_int (pe_op op_pow pe_int pe_int)) pa_nil)))) (pe_call (G_law_choice.mono (by decide)) hr rfl D_law_choice.mgx D_law_choice.fn.kp D_law_choice.bd .nil pass0 (pa_cons (pv 2) (pa_cons pe_int pa_nil))) (fun _ _ => rfl)))
 (pss_cons (ps_set (i := 4) sc_law.nd rfl (by first | exact Or.inl rfl | exact Or.inr rfl) (pe_op op_add (pe_op op_mulB pe_int (pe_call (G_law_choice.mono (by decide)) hr rfl D_law_choice.mgx D_law_choice.fn.kp D_law_choice.bd .nil pass0 (pa_cons (pv 2) (pa_cons (pe_op op_sub (pv 3) pe_int) pa_nil)))) pe_int))
 (pss_cons (ps_set (i := 5) sc_law.nd rfl (by first | exact Or.inl rfl | exact Or.inr rfl) (pe_lst (pa_cons (pv 4) (pa_cons (pe_ix ix_list (pe_lst (pa_cons pe_int (pa_cons pe_int (pa_cons pe_int (pa_cons pe_int (pa_cons pe_int (pa_cons pe_int (pa_cons pe_int pa_nil)))))))) (pe_call (G_law_choice.mono (by decide)) hr rfl D_law_choice.mgx D_law_choice.fn.kp D_law_choice.bd .nil pass0 (pa_cons (pv 2) (pa_cons pe_int pa_nil))) (fun _ _ => rfl)) (pa_cons (pe_ix ix_tup (pe_call (G_prime_of.mono (by decide)) hr rfl D_prime_of.mgx D_prime_of.fn.kp D_prime_of.bd .nil pass0 (pa_cons (pe_op op_add pe_int (pe_call (G_law_choice.mono (by decide)) hr rfl D_law_choice.mgx D_law_choice.fn.kp D_law_choice.bd .nil pass0 (pa_cons (pv 2) (pa_cons pe_int pa_nil)))) pa_nil)) pe_int (fun _ _ => rfl)) pa_nil)))))
 (pss_cons (ps_for PassesOwn.never rfl (pi_range1 rfl T.no_range (pa_cons pe_int pa_nil)) (pg_name (i := 6) sc_law.nd rfl (by first | exact Or.inl rfl | exact Or.inr rfl))
 (pss_cons (ps_set (i := 7) sc_law.nd rfl (by first | exact Or.inl rfl | exact Or.inr rfl) (pe_ix ix_list (pv 5) (pv 6) (fun _ _ => rfl)))
 (pss_cons (ps_set (i := 8) sc_law.nd rfl (by first | exact Or.inl rfl | exact Or.inr rfl) (pe_op op_cat (pe_compD (N := ["_law_turn", "_law_state_here", "_law_here"]) (js := [none, some 2, some 7]) (by rfl) rfl (fun _ => rfl) (pi_range1 rfl T.no_range (pa_cons pe_int pa_nil)) (by intro b _ _ _ _; exact (pg_name (i := 0) (show List.Nodup (["_law_turn", "_law_state_here", "_law_here"] : List Str) by decide) rfl (by first | exact Or.inl rfl | exact Or.inr rfl))) (by intro b _ _ _ _; exact pifs_nil) (by intro b _ _ _ _; exact (pe_op op_add pe_int (pe_call ((B_law_choice b).mono (by decide)) hr rfl D_law_choice.mgx D_law_choice.fn.kp D_law_choice.bd .nil pass0 (pa_cons (pv 1) (pa_cons (pe_op op_sub (pv 2) pe_int) pa_nil)))))) (pe_lst (pa_cons pe_int (pa_cons (pe_callB (call_min2 rfl) (by rfl) T.no_min PyProof.Rows.boot_min (pa_cons pe_int (pa_cons (pe_op op_sub (pv 7) pe_int) pa_nil))) (pa_cons (pe_op op_sub (pv 7) pe_int) pa_nil))))))
 (pss_cons (ps_if (pt_not (pt_val (pe_call (G_law_bases_right.mono (by decide)) hr rfl D_law_bases_right.mgx D_law_bases_right.fn.kp D_law_bases_right.bd .nil pass0 (pa_cons (pv 7) (pa_cons (pv 8) (pa_cons (pe_cmpR op_eq (pv 6) pe_int (nomark _)) pa_nil))))))
 (pss_one (ps_ret pe_bl))
 pss_nil)
 (pss_one (ps_if (PW.pt (pw_and (pt_cmpR op_le (pv 7) (pe_op op_pow pe_int pe_int) (nomark _)) (pw_and1 (pt_not (pt_val (pe_call (G_law_counts_right.mono (by decide)) hr rfl D_law_counts_right.mgx D_law_counts_right.fn.kp D_law_counts_right.bd .nil pass0 (pa_cons (pv 7) pa_nil)))))))
 (pss_one (ps_ret pe_bl))
 pss_nil))))))
 (pss_cons (ps_set (i := 9) sc_law.nd rfl (by first | exact Or.inl rfl | exact Or.inr rfl) (pe_op op_add pe_int (pe_op op_mulB pe_int (pe_call (G_law_choice.mono (by decide)) hr rfl D_law_choice.mgx D_law_choice.fn.kp D_law_choice.bd .nil pass0 (pa_cons (pv 2) (pa_cons pe_int pa_nil))))))
 (pss_cons (ps_set (i := 10) sc_law.nd rfl (by first | exact Or.inl rfl | exact Or.inr rfl) (pe_op op_add pe_int (pe_call (G_law_choice.mono (by decide)) hr rfl D_law_choice.mgx D_law_choice.fn.kp D_law_choice.bd .nil pass0 (pa_cons (pv 2) (pa_cons (pe_op op_sub (pv 9) pe_int) pa_nil)))))
 (pss_cons (ps_set (i := 11) sc_law.nd rfl (by first | exact Or.inl rfl | exact Or.inr rfl) (pe_call (G_order_of.mono (by decide)) hr rfl D_order_of.mgx D_order_of.fn.kp D_order_of.bd .nil pass0 (pa_cons (pv 10) (pa_cons (pv 9) pa_nil))))
 (pss_one (ps_if (pt_cmpR op_ne (pe_call (G_by_powers.mono (by decide)) hr rfl D_by_powers.mgx D_by_powers.fn.kp D_by_powers.bd .nil pass0 (pa_cons (pv 9) (pa_cons (pv 10) pa_nil))) (pe_and (pe_cmp (pc_notN (pv 11))) (pe_one (pe_cmpR op_eq (pe_op op_mod (pe_op op_sub (pv 9) pe_int) (pv 11)) pe_int (nomark _)))) (nomark _))
 (pss_one (ps_ret pe_bl))
 pss_nil)))))))))))
 (pss_one (ps_ret pe_bl))), ?_⟩
    have e0 : L2.start ["_law_script", "_law_k", "_law_state_here", "_law_wide", "_law_n", "_law_some", "_law_at", "_law_here", "_law_bases", "_law_small", "_law_base", "_law_order"] [.ref sa] = [some (.ref sa), none, none, none, none, none, none, none, none, none, none, none] := rfl
    rw [e0]; clear e0
    simp only [tSeq, tIfS, tTest, tRet, tRetN, tNext, tDrop, tAsg, tPar, tPar3, tAug, tVar, tC, tOp, tUn, rI, rI0, rU, tB, tAnd, tOr, tNot, tAndV, tOrV, tNotV, tIf, gName, gNil, gCons, gTup, gSub, tCB, tCons, tNil, tCall, tChain, ipI, tIsN, tNotN, tBM, tyV, tTup, tLst, rAppend, rCat, scal_ii, scal_bb, scal_ss, scal_ni, scal_in, rEq, rNe, List.getElem?_cons_zero, List.getElem?_cons_succ, List.set_cons_zero, List.set_cons_succ, eq_self, and_assoc, Option.some.injEq, V.int.injEq, V.bl.injEq, V.ref.injEq, V.str.injEq, List.cons.injEq, exists_eq_left', exists_eq_left, exists_and_left, List.nil_append, List.cons_append, List.append_nil, true_and, and_true, decide_eq_true_eq, Bool.not_eq_true', decide_eq_false_iff_not, if_true, if_false, Bool.not_true, Bool.not_false, Bool.false_eq_true, reduceCtorEq, decide_true, decide_false, ite_true, ite_false, rSetL, rIxL, tRaise, jCons, jNil, tFmt, tDNew, rCount, rIndex, tCont, tBreak, Int.reduceToNat, Int.reducePow]
    refine ⟨_, rfl, sa, rfl, _, .inl hS, _, _, rfl, _, _, rfl, _, rfl, ?_, ?_, for_range (fun i σ H' => Same H H' ∧ ∃ v1 v2 v3 v4 v5 v6 v7 v8 v9 v10 v11, σ = [some (.ref sa), v1, v2, v3, v4, v5, v6, v7, v8, v9, v10, v11]) ⟨Same.refl _, none, none, none, none, none, none, none, none, none, none, none, rfl⟩ ?_ ?_⟩
    · rw [List.length_map]; repeat' split
      all_goals omega
    · rw [List.length_map]; repeat' split
      all_goals omega
    · rintro i σ H1 hi ⟨S, v1, v2, v3, v4, v5, v6, v7, v8, v9, v10, v11, rfl⟩
      simp only [tSeq, tIfS, tTest, tRet, tRetN, tNext, tDrop, tAsg, tPar, tPar3, tAug, tVar, tC, tOp, tUn, rI, rI0, rU, tB, tAnd, tOr, tNot, tAndV, tOrV, tNotV, tIf, gName, gNil, gCons, gTup, gSub, tCB, tCons, tNil, tCall, tChain, ipI, tIsN, tNotN, tBM, tyV, tTup, tLst, rAppend, rCat, scal_ii, scal_bb, scal_ss, scal_ni, scal_in, rEq, rNe, List.getElem?_cons_zero, List.getElem?_cons_succ, List.set_cons_zero, List.set_cons_succ, eq_self, and_assoc, Option.some.injEq, V.int.injEq, V.bl.injEq, V.ref.injEq, V.str.injEq, List.cons.injEq, exists_eq_left', exists_eq_left, exists_and_left, List.nil_append, List.cons_append, List.append_nil, true_and, and_true, decide_eq_true_eq, Bool.not_eq_true', decide_eq_false_iff_not, if_true, if_false, Bool.not_true, Bool.not_false, Bool.false_eq_true, reduceCtorEq, decide_true, decide_false, ite_true, ite_false, rSetL, rIxL, tRaise, jCons, jNil, tFmt, tDNew, rCount, rIndex, tCont, tBreak, Int.reduceToNat, Int.reducePow]
      refine ⟨sa, ns, _, rfl, S.seq hS, hlen, by omega, fun a x y y0 y1 ha => ?_⟩
      try simp only [tSeq, tIfS, tTest, tRet, tRetN, tNext, tDrop, tAsg, tPar, tPar3, tAug, tVar, tC, tOp, tUn, rI, rI0, rU, tB, tAnd, tOr, tNot, tAndV, tOrV, tNotV, tIf, gName, gNil, gCons, gTup, gSub, tCB, tCons, tNil, tCall, tChain, ipI, tIsN, tNotN, tBM, tyV, tTup, tLst, rAppend, rCat, scal_ii, scal_bb, scal_ss, scal_ni, scal_in, rEq, rNe, List.getElem?_cons_zero, List.getElem?_cons_succ, List.set_cons_zero, List.set_cons_succ, eq_self, and_assoc, Option.some.injEq, V.int.injEq, V.bl.injEq, V.ref.injEq, V.str.injEq, List.cons.injEq, exists_eq_left', exists_eq_left, exists_and_left, List.nil_append, List.cons_append, List.append_nil, true_and, and_true, decide_eq_true_eq, Bool.not_eq_true', decide_eq_false_iff_not, if_true, if_false, Bool.not_true, Bool.not_false, Bool.false_eq_true, reduceCtorEq, decide_true, decide_false, ite_true, ite_false, rSetL, rIxL, tRaise, jCons, jNil, tFmt, tDNew, rCount, rIndex, tCont, tBreak, Int.reduceToNat, Int.reducePow]
      have na : H a = none := by
        cases e : H a with
        | none => rfl
        | some o => rw [S a o e] at ha; cases ha
      have S0 : Same H (upd H1 a (.lst [.int x, .int y])) := fun b o e => keep (S b o e) ha
      have st0 : StAt (upd H1 a (.lst [.int x, .int y])) a := ⟨x, y, upd_same, y0, y1⟩
      generalize upd H1 a (.lst [.int x, .int y]) = H2 at S0 st0 ⊢
      have ne_a : ∀ {HX : Hp} {q : Addr}, StAt HX a → HX q = none → q ≠ a := fun st hq z => by
        obtain ⟨_, _, e, _⟩ := st
        rw [z, e] at hq
        cases hq
      refine ⟨⟨by decide, by decide, by decide⟩, .inr ⟨by decide, by decide⟩, ⟨by decide, by decide, by decide⟩, .inr ⟨by decide, by decide⟩, by show 3 ≤ sizeLine; decide, fun q1 hq1 => ?_⟩
      have nq1 := ne_a st0 hq1
      have U1 : Step a H2 (upd H2 q1 (.lst [V.int 1000, V.int (5 * 100000000), V.int (5 * 10000000000000000000000000000)])) := (Step.refl st0).new hq1
      have e1 : (upd H2 q1 (.lst [V.int 1000, V.int (5 * 100000000), V.int (5 * 10000000000000000000000000000)])) q1 = some (.lst [V.int 1000, V.int (5 * 100000000), V.int (5 * 10000000000000000000000000000)]) := upd_same
      generalize upd H2 q1 (.lst [V.int 1000, V.int (5 * 100000000), V.int (5 * 10000000000000000000000000000)]) = H3 at U1 e1 ⊢
      refine ⟨a, _, rfl, ⟨by decide, by decide⟩, U1.st, fun r1 H4 r10 r11 U2 => ⟨_, r1, rfl, SqL.of (U2.but q1 _ nq1 e1), ?_⟩⟩
      obtain ⟨wd, hat, wd1, wd2⟩ : ∃ wd : Int, atI [V.int 1000, V.int (5 * 100000000), V.int (5 * 10000000000000000000000000000)] r1 = some (.int wd) ∧ 1000 ≤ wd ∧ wd ≤ 50000000000000000000000000000 := by
        have hr : r1 = 0 ∨ r1 = 1 ∨ r1 = 2 := by omega
        rcases hr with rfl | rfl | rfl <;> exact ⟨_, rfl, by decide, by decide⟩
      refine ⟨_, hat, _, rfl, ?_⟩
      refine ⟨a, _, rfl, ⟨by omega, by omega⟩, U2.st, fun r2 H5 r20 r21 U3 => ⟨_, rfl, .inr ⟨by decide, by omega⟩, by show 7 ≤ sizeLine; decide, fun q2 hq2 => ?_⟩⟩
      obtain ⟨n, hn, n3, n29, no⟩ : ∃ n, 2 * r2 + 3 = n ∧ 3 ≤ n ∧ n ≤ 10 ^ 29 ∧ n % 2 = 1 := ⟨_, rfl, by omega, by omega, by omega⟩
      rw [hn]
      clear hn
      have nq2 := ne_a U3.st hq2
      have U4 := (U1.trans (U2.trans U3)).new (o := .lst [V.int 561, V.int 1105, V.int 2047, V.int 8911, V.int 9, V.int 25, V.int 49]) hq2
      have e2 : (upd H5 q2 (.lst [V.int 561, V.int 1105, V.int 2047, V.int 8911, V.int 9, V.int 25, V.int 49])) q2 = some (.lst [V.int 561, V.int 1105, V.int 2047, V.int 8911, V.int 9, V.int 25, V.int 49]) := upd_same
      generalize upd H5 q2 (.lst [V.int 561, V.int 1105, V.int 2047, V.int 8911, V.int 9, V.int 25, V.int 49]) = H6 at U4 e2 ⊢
      refine ⟨a, _, rfl, ⟨by decide, by decide⟩, U4.st, fun r3 H7 r30 r31 U5 => ⟨_, r3, rfl, SqL.of (U5.but q2 _ nq2 e2), ?_⟩⟩
      obtain ⟨m, hat2, m3, m29, mo⟩ : ∃ m : Int, atI [V.int 561, V.int 1105, V.int 2047, V.int 8911, V.int 9, V.int 25, V.int 49] r3 = some (.int m) ∧ 3 ≤ m ∧ m ≤ 10 ^ 29 ∧ m % 2 = 1 := by
        have hr : r3 = 0 ∨ r3 = 1 ∨ r3 = 2 ∨ r3 = 3 ∨ r3 = 4 ∨ r3 = 5 ∨ r3 = 6 := by omega
        rcases hr with rfl | rfl | rfl | rfl | rfl | rfl | rfl <;> exact ⟨_, rfl, by decide, by decide, by decide⟩
      refine ⟨_, hat2, ?_⟩
      refine ⟨a, _, rfl, ⟨by decide, by decide⟩, U5.st, fun r4 H8 r40 r41 U6 => ⟨_, rfl, ?_⟩⟩
      refine ⟨(2 + r4).toNat, by rw [Int.toNat_of_nonneg (by omega)], ⟨by omega, by omega⟩, fun pp rr xx H9 Pp S9 hrr => ?_⟩
      have p3 := Pp.ge (by omega)
      have p29 : pp ≤ 10 ^ 29 := by
        have h1 := Pp.le
        have h2 := (ptT_le (f := (2 + r4).toNat) (by omega) (by omega)).2.1
        have h3 : (PrT (2 + r4).toNat : Int) ≤ 10 ^ 29 := by exact_mod_cast h2
        omega
      have po : pp % 2 = 1 := by
        have hp := Pp.pr
        obtain ⟨q, rfl⟩ := Int.eq_ofNat_of_zero_le (show 0 ≤ pp by omega)
        have := pr_odd_nat (p := q) hp (by omega)
        omega
      have ppr := Pp.pr
      refine ⟨rr, _, _, _, rfl, rfl, SqT.of hrr, rfl, ?_⟩
      refine ⟨by show 3 ≤ sizeLine; decide, fun ls hls => ?_⟩
      have U7 := ((U4.trans (U5.trans U6)).same S9)
      have nls := ne_a U7.st hls
      have U8 := U7.new (o := .lst [V.int n, V.int m, V.int pp]) hls
      have els : (upd H9 ls (.lst [V.int n, V.int m, V.int pp])) ls = some (.lst [V.int n, V.int m, V.int pp]) := upd_same
      generalize upd H9 ls (.lst [V.int n, V.int m, V.int pp]) = HA at U8 els ⊢
      clear U1 U2 U3 U4 U5 U6 U7 e1 e2 hat hat2 S9 hrr
      refine ⟨_, rfl, by decide, by decide, ?_⟩
      obtain ⟨Pv, hPv⟩ : ∃ Pv : Nat → St → Hp → Prop, ∀ j σ H', Pv j σ H' ↔ (∃ u6 u7 u8, σ = [some (.ref sa), some (.int (0 + (i : Int))), some (.ref a), some (.int wd), some (.int n), some (.ref ls), u6, u7, u8, v9, v10, v11]) ∧ Step a H2 H' ∧ H' ls = some (.lst [V.int n, V.int m, V.int pp]) := ⟨_, fun _ _ _ => Iff.rfl⟩
      refine for_range (lo := 0) (n := 3) Pv ((hPv _ _ _).mpr ⟨⟨_, _, _, rfl⟩, U8, els⟩) ?_ ?_
      · intro j σ HB hj h
        obtain ⟨⟨u6, u7, u8, rfl⟩, UB, elB⟩ := (hPv _ _ _).mp h
        obtain ⟨he, hath, e3, e29, eo, epr⟩ : ∃ he : Int, atI [V.int n, V.int m, V.int pp] (0 + (j : Int)) = some (.int he) ∧ 3 ≤ he ∧ he ≤ 10 ^ 29 ∧ he % 2 = 1 ∧ ((0 : Int) + j = 2 → IsPr he) := by
          have hj' : j = 0 ∨ j = 1 ∨ j = 2 := by omega
          rcases hj' with rfl | rfl | rfl
          · exact ⟨n, rfl, n3, n29, no, fun h => absurd h (by decide)⟩
          · exact ⟨m, rfl, m3, m29, mo, fun h => absurd h (by decide)⟩
          · exact ⟨pp, rfl, p3, p29, po, fun _ => ppr⟩
        simp only [tSeq, tIfS, tTest, tRet, tRetN, tNext, tDrop, tAsg, tPar, tPar3, tAug, tVar, tC, tOp, tUn, rI, rI0, rU, tB, tAnd, tOr, tNot, tAndV, tOrV, tNotV, tIf, gName, gNil, gCons, gTup, gSub, tCB, tCons, tNil, tCall, tChain, ipI, tIsN, tNotN, tBM, tyV, tTup, tLst, rAppend, rCat, scal_ii, scal_bb, scal_ss, scal_ni, scal_in, rEq, rNe, List.getElem?_cons_zero, List.getElem?_cons_succ, List.set_cons_zero, List.set_cons_succ, eq_self, and_assoc, Option.some.injEq, V.int.injEq, V.bl.injEq, V.ref.injEq, V.str.injEq, List.cons.injEq, exists_eq_left', exists_eq_left, exists_and_left, List.nil_append, List.cons_append, List.append_nil, true_and, and_true, decide_eq_true_eq, Bool.not_eq_true', decide_eq_false_iff_not, if_true, if_false, Bool.not_true, Bool.not_false, Bool.false_eq_true, reduceCtorEq, decide_true, decide_false, ite_true, ite_false, rSetL, rIxL, tRaise, jCons, jNil, tFmt, tDNew, rCount, rIndex, tCont, tBreak, Int.reduceToNat, Int.reducePow]
        refine ⟨_, SqL.of elB, _, hath, ?_⟩
        refine tCompC_of ?_
        refine ⟨_, rfl, by decide, by decide, fun b D hcb hD => ?_⟩
        have nD := ne_a UB.st hD
        have nlsD : ls ≠ D := ne_of_none elB hD
        obtain ⟨Pv3, hPv3⟩ : ∃ Pv : Nat → St → Hp → Prop, ∀ i σ H', Pv i σ H' ↔ (∃ v0, σ = [v0, some (.ref a), some (.int he)]) ∧ Step a H2 H' ∧ H' ls = some (.lst [V.int n, V.int m, V.int pp]) ∧ ∃ bs : List Int, H' D = some (.lst (bs.map V.int)) ∧ bs.length = i ∧ ∀ b ∈ bs, 1 ≤ b ∧ b ≤ he - 1 := ⟨_, fun _ _ _ => Iff.rfl⟩
        refine comp_range (lo := 0) (n := 4) Pv3 ((hPv3 _ _ _).mpr ⟨⟨_, rfl⟩, UB.new hD, keep elB hD, [], upd_same, rfl, fun b hb => by cases hb⟩) ?_ ?_
        · intro i2 σ HC hi2 h2
          obtain ⟨⟨v0, rfl⟩, UC, elC, bs, eD, bl, hb⟩ := (hPv3 _ _ _).mp h2
          simp only [tSeq, tIfS, tTest, tRet, tRetN, tNext, tDrop, tAsg, tPar, tPar3, tAug, tVar, tC, tOp, tUn, rI, rI0, rU, tB, tAnd, tOr, tNot, tAndV, tOrV, tNotV, tIf, gName, gNil, gCons, gTup, gSub, tCB, tCons, tNil, tCall, tChain, ipI, tIsN, tNotN, tBM, tyV, tTup, tLst, rAppend, rCat, scal_ii, scal_bb, scal_ss, scal_ni, scal_in, rEq, rNe, List.getElem?_cons_zero, List.getElem?_cons_succ, List.set_cons_zero, List.set_cons_succ, eq_self, and_assoc, Option.some.injEq, V.int.injEq, V.bl.injEq, V.ref.injEq, V.str.injEq, List.cons.injEq, exists_eq_left', exists_eq_left, exists_and_left, List.nil_append, List.cons_append, List.append_nil, true_and, and_true, decide_eq_true_eq, Bool.not_eq_true', decide_eq_false_iff_not, if_true, if_false, Bool.not_true, Bool.not_false, Bool.false_eq_true, reduceCtorEq, decide_true, decide_false, ite_true, ite_false, rSetL, rIxL, tRaise, jCons, jNil, tFmt, tDNew, rCount, rIndex, tCont, tBreak, Int.reduceToNat, Int.reducePow, CT, tYes]
          refine ⟨a, _, rfl, ⟨by omega, by omega⟩, UC.st, fun r5 HD r50 r51 UD => ⟨_, rfl, ?_⟩⟩
          have eD2 := UD.but D _ nD eD
          refine ⟨_, eD2, small1000 (by rw [List.length_map]; omega), (hPv3 _ _ _).mpr ⟨⟨_, rfl⟩, ?_, by rw [upd_ne nlsD]; exact UD.but ls _ nls elC, bs ++ [1 + r5], by rw [upd_same, List.map_append]; rfl, by rw [List.length_append, bl]; rfl, fun b hb' => ?_⟩⟩
          · obtain ⟨u, v, e, rr'⟩ := (UC.trans UD).st
            refine ⟨⟨u, v, by rw [upd_ne (Ne.symm nD)]; exact e, rr'⟩, fun c o hc e => ?_⟩
            have z := (UC.trans UD).but c o hc e
            rw [upd_ne (fun w => ?_)]
            · exact z
            · subst w
              have := UB.but c o hc e
              rw [hD] at this
              cases this
          · rcases List.mem_append.mp hb' with w | w
            · exact hb b w
            · have : b = 1 + r5 := by simpa using w
              omega
        · intro σ HC h2
          obtain ⟨⟨v0, rfl⟩, UC, elC, bs, eD, bl, hb⟩ := (hPv3 _ _ _).mp h2
          try simp only [tSeq, tIfS, tTest, tRet, tRetN, tNext, tDrop, tAsg, tPar, tPar3, tAug, tVar, tC, tOp, tUn, rI, rI0, rU, tB, tAnd, tOr, tNot, tAndV, tOrV, tNotV, tIf, gName, gNil, gCons, gTup, gSub, tCB, tCons, tNil, tCall, tChain, ipI, tIsN, tNotN, tBM, tyV, tTup, tLst, rAppend, rCat, scal_ii, scal_bb, scal_ss, scal_ni, scal_in, rEq, rNe, List.getElem?_cons_zero, List.getElem?_cons_succ, List.set_cons_zero, List.set_cons_succ, eq_self, and_assoc, Option.some.injEq, V.int.injEq, V.bl.injEq, V.ref.injEq, V.str.injEq, List.cons.injEq, exists_eq_left', exists_eq_left, exists_and_left, List.nil_append, List.cons_append, List.append_nil, true_and, and_true, decide_eq_true_eq, Bool.not_eq_true', decide_eq_false_iff_not, if_true, if_false, Bool.not_true, Bool.not_false, Bool.false_eq_true, reduceCtorEq, decide_true, decide_false, ite_true, ite_false, rSetL, rIxL, tRaise, jCons, jNil, tFmt, tDNew, rCount, rIndex, tCont, tBreak, Int.reduceToNat, Int.reducePow]
          rw [if_neg (show ¬ he - 1 < 2 by omega)]
          refine ⟨by show 3 ≤ sizeLine; decide, fun q5 hq5 => ?_⟩
          refine ⟨_, keep eD hq5, _, upd_same, Nat.le_of_lt (small1000 (by rw [List.length_map]; show bs.length + 3 ≤ 1000; omega)), fun q6 hq6 => ?_⟩
          refine ⟨he, q6, bs ++ [1, 2, he - 1], _, rfl, by rw [upd_same, List.map_append]; rfl, ⟨e3, by omega, eo, fun b hb' => ?_, fun h => epr (of_decide_eq_true h)⟩, fun HE SE => ⟨true, rfl, ?_⟩⟩
          · rcases List.mem_append.mp hb' with w | w
            · exact hb b w
            · have : b = 1 ∨ b = 2 ∨ b = he - 1 := by simpa using w
              omega
          rw [if_neg (by decide)]
          refine ⟨⟨by decide, by decide, by decide⟩, ?_⟩
          have UE : Step a H2 HE := ((UC.new hq5).new hq6).same SE
          have elE := SE _ _ (keep (keep elC hq5) hq6)
          refine ite2 (fun h9 => ?_) (fun _ => (hPv _ _ _).mpr ⟨⟨_, _, _, rfl⟩, UE, elE⟩)
          refine ⟨he, rfl, ⟨e3, h9, eo⟩, fun HF SF => ⟨true, rfl, ?_⟩⟩
          rw [if_neg (by decide)]
          exact (hPv _ _ _).mpr ⟨⟨_, _, _, rfl⟩, UE.same SF, SF _ _ elE⟩
      · intro σ HB h
        obtain ⟨⟨u6, u7, u8, rfl⟩, UB, elB⟩ := (hPv _ _ _).mp h
        clear hPv
        simp only [tSeq, tIfS, tTest, tRet, tRetN, tNext, tDrop, tAsg, tPar, tPar3, tAug, tVar, tC, tOp, tUn, rI, rI0, rU, tB, tAnd, tOr, tNot, tAndV, tOrV, tNotV, tIf, gName, gNil, gCons, gTup, gSub, tCB, tCons, tNil, tCall, tChain, ipI, tIsN, tNotN, tBM, tyV, tTup, tLst, rAppend, rCat, scal_ii, scal_bb, scal_ss, scal_ni, scal_in, rEq, rNe, List.getElem?_cons_zero, List.getElem?_cons_succ, List.set_cons_zero, List.set_cons_succ, eq_self, and_assoc, Option.some.injEq, V.int.injEq, V.bl.injEq, V.ref.injEq, V.str.injEq, List.cons.injEq, exists_eq_left', exists_eq_left, exists_and_left, List.nil_append, List.cons_append, List.append_nil, true_and, and_true, decide_eq_true_eq, Bool.not_eq_true', decide_eq_false_iff_not, if_true, if_false, Bool.not_true, Bool.not_false, Bool.false_eq_true, reduceCtorEq, decide_true, decide_false, ite_true, ite_false, rSetL, rIxL, tRaise, jCons, jNil, tFmt, tDNew, rCount, rIndex, tCont, tBreak, Int.reduceToNat, Int.reducePow]
        refine ⟨a, _, rfl, ⟨by decide, by decide⟩, UB.st, fun r6 HC r60 r61 UC => ⟨_, rfl, .inr ⟨by decide, by omega⟩, ?_⟩⟩
        refine ⟨a, _, rfl, ⟨by omega, by omega⟩, UC.st, fun r7 HD r70 r71 UD => ⟨_, rfl, ?_⟩⟩
        obtain ⟨sm, hsm, s3, s9, so⟩ : ∃ sm, 3 + 2 * r6 = sm ∧ 3 ≤ sm ∧ sm ≤ 803 ∧ sm % 2 = 1 := ⟨_, rfl, by omega, by omega, by omega⟩
        rw [hsm] at r71 ⊢
        have SH : Same H HD := fun b o e => (UB.trans (UC.trans UD)).but b o (ne_of_none e na) (S0 b o e)
        refine ⟨_, _, rfl, ⟨by omega, by omega, by omega, by omega⟩, fun hg => ?_, fun hg o HE ho ole SE => ?_⟩
        · refine ⟨_, _, rfl, ⟨by omega, by omega, so, by omega, by omega⟩, ?_⟩
          dsimp only
          rw [if_neg (fun h => h rfl)]
          refine ⟨rfl, ?_⟩
          rw [if_neg (fun h => h (by rw [pow_shared s3 hg]))]
          exact ⟨SH, _, rfl⟩
        · refine ⟨_, _, rfl, ⟨by omega, by omega, so, by omega, by omega⟩, ?_⟩
          dsimp only
          rw [if_pos (show ¬ V.int o = V.non from fun h => nomatch h)]
          refine ⟨_, rfl, by have := ho.pos; omega, rfl, ?_⟩
          rw [if_neg (fun h => h (by rw [pow_order s3 ho]))]
          exact ⟨SH.trans SE, _, rfl⟩
    · rintro σ H1 ⟨S, v1, v2, v3, v4, v5, v6, v7, v8, v9, v10, v11, rfl⟩
      simp only [tSeq, tIfS, tTest, tRet, tRetN, tNext, tDrop, tAsg, tPar, tPar3, tAug, tVar, tC, tOp, tUn, rI, rI0, rU, tB, tAnd, tOr, tNot, tAndV, tOrV, tNotV, tIf, gName, gNil, gCons, gTup, gSub, tCB, tCons, tNil, tCall, tChain, ipI, tIsN, tNotN, tBM, tyV, tTup, tLst, rAppend, rCat, scal_ii, scal_bb, scal_ss, scal_ni, scal_in, rEq, rNe, List.getElem?_cons_zero, List.getElem?_cons_succ, List.set_cons_zero, List.set_cons_succ, eq_self, and_assoc, Option.some.injEq, V.int.injEq, V.bl.injEq, V.ref.injEq, V.str.injEq, List.cons.injEq, exists_eq_left', exists_eq_left, exists_and_left, List.nil_append, List.cons_append, List.append_nil, true_and, and_true, decide_eq_true_eq, Bool.not_eq_true', decide_eq_false_iff_not, if_true, if_false, Bool.not_true, Bool.not_false, Bool.false_eq_true, reduceCtorEq, decide_true, decide_false, ite_true, ite_false, rSetL, rIxL, tRaise, jCons, jNil, tFmt, tDNew, rCount, rIndex, tCont, tBreak, Int.reduceToNat, Int.reducePow]
      exact k _
end
end PP
set_option Elab.async false
set_option linter.all false
set_option maxRecDepth 100000
set_option maxHeartbeats 4000000
namespace L2
open PySem PySem.Spec PyProof.Rows
theorem walk_ofX {l : PySem.W.OpenLaw} {n k : Nat} {q : Program} {loose : List Str} {XP : (Str → Option Value) → Heap → Prop} {YP : World → Heap → Prop} {d : DefRec} {K : Params → PySem.W.Frag} {CX : World → CXT} {sp : PySem.W.Frag → Sp} {x : Str}
    (hn : l.most = some n) (hn2 : n ≤ sizeLine) (hdf : d.params.defaults = []) (hr : Room k callerA)
    (hY : ∀ (w : World) (h : Heap), YP w h → (K w.params).In h)
    (F : ∀ (w : World) (mg : Str → Option Value) (fa : Addr) (h : Heap), (K w.params).In h → h.Ns mainGlobals mg → XP mg h → mg d.name = some (.ref fa) →
      ∃ fd : FuncData, (∀ (s : Shared) (u : Value), BindsTo s fd ⟨[u], []⟩ [(x, u)]) ∧
        ∀ base : Heap, (K w.params).In base → base.Ns mainGlobals mg → FnOk l.prog w (K w.params) mg base (CX w) k fa fd [x] (sp (K w.params)))
    (hsp : ∀ (K : PySem.W.Frag) (H : Hp) (a : Addr) (ns : List Int), ns.length ≤ n → Only H → SqL K H a (ns.map V.int) → sp K [.ref a] H (fun v _ => v = .bl true) fun _ _ _ => False)
    (hCX : ∀ (w : World) (H : Hp) (s : Shared) (e : Value) (s' : Shared), CX w [] H s (fun _ _ _ => False) e s' → False) :
    PySem.W.WalkO q loose XP YP l.row.toRowW d [] (fun f vs => PySem.call f vs) := by
  refine Att.attach_call hn hdf fun w s₀ s₁ mg mb fa o pm cd doc a vs ns G Y ho hd hcd hmg hobj hints hlen hg => ?_
  have KX := hY w _ Y
  obtain ⟨fd, hb, hF⟩ := F w mg fa _ KX G.T.g G.X hmg
  exact law_call KX G.T.g G.T.b G.T.builtins G.T.nolimit hg hobj hints (Nat.le_trans hlen hn2) hr hF hb (fun H hO hS => hsp (K w.params) H a ns hlen hO hS) fun H e s' => hCX w H s₁ e s'
theorem loose_int {p : Program} {lv : List (Str × PySem.W.WData)} {mg : Str → Option Value} {h : Heap} {n : Str} {i : Int} (x : PySem.W.XL p lv mg h) (hm : (n, PySem.W.WData.int i) ∈ lv) : ∃ t, mg n = some (.int i t) := by
  obtain ⟨v, a, b⟩ := x.2.val _ hm
  cases b
  exact ⟨_, a⟩
end L2
set_option Elab.async false
set_option linter.all false
set_option maxRecDepth 100000
namespace OP
open PySem PySem.W PySem.Calls PyProof.Rows
noncomputable def topRunT (tb : String → Option Builtin) (p : Program) (w : World) (n₀ : Nat) (ann : Option Value) : Nat → SharedT → Thread → Option SharedT
  | 0, _, _ => none
  | n + 1, s, t => match through t with
    | true => some s
    | false => match stepOk n₀ ann t with
      | false => none
      | true => match stepT (denote tb) p w s t with
        | some (s', t') => topRunT tb p w n₀ ann n s' t'
        | none => none
theorem topRun_of {tb : String → Option Builtin} {p : Program} {w : World} {n₀ : Nat} {ann : Option Value} : ∀ {n : Nat} {s s' : SharedT} {t : Thread}, topRunT tb p w n₀ ann n s t = some s' → topRun tb p w n₀ ann n s.abs t = some s'.abs
  | 0, _, _, _, h => by cases h
  | n + 1, s, s', t, h => by
    unfold topRunT at h
    unfold topRun
    cases he : through t with
    | true => rw [he] at h; cases h; rfl
    | false =>
      rw [he] at h
      cases hk : stepOk n₀ ann t with
      | false => rw [hk] at h; cases h
      | true =>
        rw [hk] at h
        cases hs : stepT (denote tb) p w s t with
        | none => rw [hs] at h; cases h
        | some r => obtain ⟨s₂, t₂⟩ := r; rw [hs] at h; rw [stepT_spec hs]; exact topRun_of h
noncomputable def bootT (P : Params) : BT :=
  .node (boot_o_0 P)
    (.node (boot_o_1 P) (.node (boot_o_3 P) (.node (boot_o_7 P) .nil .nil) .nil) (.node (boot_o_5 P) (.node (boot_o_9 P) .nil .nil) .nil))
    (.node (boot_o_2 P) (.node (boot_o_4 P) (.node (boot_o_8 P) .nil .nil) .nil) (.node (boot_o_6 P) (.node (boot_o_10 P) .nil .nil) .nil))
noncomputable def bootS (P : Params) (os : OsState) : SharedT := ⟨bootT P, 11, (boot_heap P).life, Array.mk [], boot_drawn, boot_toks, os⟩
theorem bootS_abs (P : Params) (os : OsState) : (bootS P os).abs = ⟨boot_heap P, Array.mk [], boot_drawn, boot_toks, os⟩ := rfl
noncomputable def annOf (P : Params) : Option Value := (boot_heap P).nsMap mainGlobals "__annotations__"
theorem boot_size (P : Params) : ((boot_heap P).isNs mainGlobals && (Array.mk [] : Array GenState).size == 0) = true := by kernel_rfl
noncomputable def goT {α : Type} (h₀ : Heap) (ann : Option Value) (s₀ : SharedT) (p q : Program) (loose : List Str) (Xt : Shared → Bool) (Yf : Shared → α) (M : Nat) (w : World) :=
  (topRunT treeTable p w 11 ann M s₀ (topStub p)).map fun s =>
    ((staticsOk (importedModules p.main.body) h₀ s.abs.heap && namesBound p s.abs.heap && gensDone s.abs && laidKept h₀ s.abs.heap),
      openSeen q loose (importedModules p.main.body) Xt true s.abs, Yf s.abs)
theorem left_of_run {p q : Program} {loose : List Str} {Xt : Shared → Bool} {α : Type} {Yf : Shared → α} {Ya : World → α} {N M : Nat}
    (e : opening p = plainProg p.main.scope.names) (hN : Nat.ble 600 N = true) (f : ∀ s, fenceModules? p s = some s)
    (run : ∀ (w : World) (os : OsState), goT (boot_heap w.params) (annOf w.params) (bootS w.params os) p q loose Xt Yf M w = some (true, openGood q loose, Ya w)) (le : Nat.ble M N = true) : LeftO p q loose Xt Yf Ya N := fun w => by
  obtain ⟨⟨h, gs, d, k, os⟩, e1, e2⟩ := Option.map_eq_some_iff.mp (boot_open e hN f w)
  obtain ⟨rfl, rfl, rfl, rfl⟩ : h = boot_heap w.params ∧ gs = Array.mk [] ∧ d = boot_drawn ∧ k = boot_toks := by simpa using e2
  obtain ⟨s, hs, hl⟩ := Option.map_eq_some_iff.mp (run w os)
  have r := topRun_mono (N - M) _ _ _ _ (topRun_of hs)
  rw [show M + (N - M) = N by have := Nat.le_of_ble_eq_true le; omega, bootS_abs] at r
  obtain ⟨l1, l2, l3⟩ : _ ∧ _ ∧ _ := by simpa only [Prod.mk.injEq] using hl
  have t : topFrom treeTable p w N ⟨boot_heap w.params, Array.mk [], boot_drawn, boot_toks, os⟩ = some s.abs := by
    unfold topFrom
    dsimp only
    rw [boot_size]
    dsimp only
    rw [show (boot_heap w.params).objs.size = 11 from rfl]
    unfold annOf at r
    rw [r]
    show (match staticsOk (importedModules p.main.body) (boot_heap w.params) s.abs.heap && namesBound p s.abs.heap && gensDone s.abs && laidKept (boot_heap w.params) s.abs.heap with | true => _ | false => _) = _
    rw [l1]
  unfold openEnds
  rw [e1]
  show (topFrom treeTable p w N _).map _ = _
  rw [t]
  exact congrArg some (Prod.ext l2 l3)
end OP
set_option maxHeartbeats 0
lay_quick OP.goT
namespace OP
open PySem PySem.W PySem.Calls PyProof.Rows
noncomputable def qOf (n : Nat) (p : Program) : Program := { p with main := { p.main with body := [p.main.body.getD n (.Pass ⟨0, 0, 0, 0⟩)] } }
theorem left_tw {p p' : Program} {n : Nat} {loose : List Str} {lv : List (Str × WData)} {R : WRecords} {α : Type} {Yf : Shared → α} {Ya : World → α} {N : Nat} (M : Nat) (hp : p = p')
    (e : opening p = plainProg p.main.scope.names) (hN : Nat.ble 600 N = true) (f : ∀ s, fenceModules? p s = some s) (le : Nat.ble M N = true)
    (run : ∀ (w : World) (os : OsState), PySem.W.Fast.tw9285885503168683399 (boot_heap w.params) (annOf w.params) (bootS w.params os) p' (qOf n p') loose (fun s => xlAt (qOf n p') lv s && recOk R s) Yf M w = some (true, openGood (qOf n p') loose, Ya w)) :
    LeftO p (qOf n p) loose (fun s => xlAt (qOf n p) lv s && recOk R s) Yf Ya N := by
  subst hp
  refine left_of_run e hN f (fun w os => ?_) le
  rw [PySem.W.Fast.te9285885503168683399]
  exact run w os
end OP
set_option Elab.async false
set_option linter.all false
set_option maxRecDepth 100000
set_option maxHeartbeats 8000000
namespace PP
open PySem L2 MM
theorem def_mk {K : PySem.W.Frag} {h : Heap} {mg : Str → Option Value} {x : Str} {st : Stmt} {ps : List Str} {f : Addr} {oc : Value} {od an : Option Addr} {osl : Array (Option Value)} {kV doc pm cdv ct : Value} (X : K.In h) (G : h.Ns mainGlobals mg)
    (a : PySem.W.nsIn K mainGlobals x = some (some (.ref f))) (l : K.lookup f = some ⟨oc, od, .func (PySem.W.fnOf x x (defArgs st) (defBody st) (defScope st) .none kV doc pm an cdv ct), osl⟩) (c : PySem.W.codeIn K cdv x = true) (k : PySem.W.keepIn K (.ref f) = true)
    (hb : ∀ (kV doc pm : Value) (an : Option Addr) (cdv ct : Value) (us : List Value), us.length = ps.length → bindArgs (PySem.W.fnOf x x (defArgs st) (defBody st) (defScope st) .none kV doc pm an cdv ct) ⟨us, []⟩ = pure (ps.zip us)) : ∃ fd, Def K mg x st ps f fd := by
  have F := fun_mk (st := st) l c k
  exact ⟨_, F, F.binds hb, PySem.W.mg_of X G a⟩
section
variable {P : Program} {w : World} {K : PySem.W.Frag} {mg : Str → Option Value} {base : Heap}
theorem all_ok {t1 t2 t3 t4 : Tok} {fa : Addr} {fd : FuncData} (T : Txt K mg t1 t2 t3 t4)  (d_is_whole : ∃ f fd, Df_is_whole K mg f fd) (d_is_between : ∃ f fd, Df_is_between K mg f fd) (d_want_between : ∃ f fd, Df_want_between K mg f fd) (d_want_tried : ∃ f fd, Df_want_tried K mg f fd) (d_want_far : ∃ f fd, Df_want_far K mg f fd) (d_power_rest : ∃ f fd, Df_power_rest K mg f fd) (d_greatest_in_both : ∃ f fd, Df_greatest_in_both K mg f fd) (d_least_part : ∃ f fd, Df_least_part K mg f fd) (d_is_prime : ∃ f fd, Df_is_prime K mg f fd) (d_want_odd : ∃ f fd, Df_want_odd K mg f fd) (d_want_look : ∃ f fd, Df_want_look K mg f fd) (d_by_powers : ∃ f fd, Df_by_powers K mg f fd) (d_halved : ∃ f fd, Df_halved K mg f fd) (d_lets_by_halves : ∃ f fd, Df_lets_by_halves K mg f fd) (d_by_halves : ∃ f fd, Df_by_halves K mg f fd) (d_sign_by : ∃ f fd, Df_sign_by K mg f fd) (d_sign : ∃ f fd, Df_sign K mg f fd) (d_by_signs : ∃ f fd, Df_by_signs K mg f fd) (d_parts_of : ∃ f fd, Df_parts_of K mg f fd) (d_primes_of : ∃ f fd, Df_primes_of K mg f fd) (d_many_rests : ∃ f fd, Df_many_rests K mg f fd) (d_order_of : ∃ f fd, Df_order_of K mg f fd) (d_want_counted : ∃ f fd, Df_want_counted K mg f fd) (d_many_by_powers : ∃ f fd, Df_many_by_powers K mg f fd) (d_many_by_halves : ∃ f fd, Df_many_by_halves K mg f fd) (d_share_by_halves : ∃ f fd, Df_share_by_halves K mg f fd) (d_lies_to_all : ∃ f fd, Df_lies_to_all K mg f fd) (d_fools_all : ∃ f fd, Df_fools_all K mg f fd) (d_is_base : ∃ f fd, Df_is_base K mg f fd) (d_least_base : ∃ f fd, Df_least_base K mg f fd) (d_full_rows : ∃ f fd, Df_full_rows K mg f fd) (d_full_of_prime : ∃ f fd, Df_full_of_prime K mg f fd) (d_least_of_figures : ∃ f fd, Df_least_of_figures K mg f fd) (d_prime_tried : ∃ f fd, Df_prime_tried K mg f fd) (d_made_of : ∃ f fd, Df_made_of K mg f fd) (d_prime_from : ∃ f fd, Df_prime_from K mg f fd) (d_prime_of : ∃ f fd, Df_prime_of K mg f fd) (d_law_cell_at : ∃ f fd, Df_law_cell_at K mg f fd) (d_law_state : ∃ f fd, Df_law_state K mg f fd) (d_law_choice : ∃ f fd, Df_law_choice K mg f fd) (d_law_bases_right : ∃ f fd, Df_law_bases_right K mg f fd) (d_law_counts_right : ∃ f fd, Df_law_counts_right K mg f fd) (D_law : Df_law K mg fa fd) : FnOk P w K mg base CX0 72 fa fd ["_law_script"] (spLaw K) := by
  obtain ⟨f_is_whole, fd_is_whole, D_is_whole⟩ := d_is_whole
  have O_is_whole : ∃ f fd, Df_is_whole K mg f fd ∧ FnOk P w K mg base CX0 1 f fd _ _ := ⟨_, _, D_is_whole, ok_is_whole D_is_whole T⟩
  obtain ⟨f_is_between, fd_is_between, D_is_between⟩ := d_is_between
  have O_is_between : ∃ f fd, Df_is_between K mg f fd ∧ FnOk P w K mg base CX0 2 f fd _ _ := ⟨_, _, D_is_between, ok_is_between D_is_between T D_is_whole⟩
  obtain ⟨f_want_between, fd_want_between, D_want_between⟩ := d_want_between
  have O_want_between : ∃ f fd, Df_want_between K mg f fd ∧ FnOk P w K mg base CX0 3 f fd _ _ := ⟨_, _, D_want_between, ok_want_between D_want_between T D_is_whole D_is_between⟩
  obtain ⟨f_want_tried, fd_want_tried, D_want_tried⟩ := d_want_tried
  have O_want_tried : ∃ f fd, Df_want_tried K mg f fd ∧ FnOk P w K mg base CX0 4 f fd _ _ := ⟨_, _, D_want_tried, ok_want_tried D_want_tried T D_is_whole D_is_between D_want_between⟩
  obtain ⟨f_want_far, fd_want_far, D_want_far⟩ := d_want_far
  have O_want_far : ∃ f fd, Df_want_far K mg f fd ∧ FnOk P w K mg base CX0 4 f fd _ _ := ⟨_, _, D_want_far, ok_want_far D_want_far T D_is_whole D_is_between D_want_between⟩
  obtain ⟨f_power_rest, fd_power_rest, D_power_rest⟩ := d_power_rest
  have O_power_rest : ∃ f fd, Df_power_rest K mg f fd ∧ FnOk P w K mg base CX0 1 f fd _ _ := ⟨_, _, D_power_rest, ok_power_rest D_power_rest T⟩
  obtain ⟨f_greatest_in_both, fd_greatest_in_both, D_greatest_in_both⟩ := d_greatest_in_both
  have O_greatest_in_both : ∃ f fd, Df_greatest_in_both K mg f fd ∧ FnOk P w K mg base CX0 1 f fd _ _ := ⟨_, _, D_greatest_in_both, ok_greatest_in_both D_greatest_in_both T⟩
  obtain ⟨f_least_part, fd_least_part, D_least_part⟩ := d_least_part
  have O_least_part : ∃ f fd, Df_least_part K mg f fd ∧ FnOk P w K mg base CX0 1 f fd _ _ := ⟨_, _, D_least_part, ok_least_part D_least_part T⟩
  obtain ⟨f_is_prime, fd_is_prime, D_is_prime⟩ := d_is_prime
  have O_is_prime : ∃ f fd, Df_is_prime K mg f fd ∧ FnOk P w K mg base CX0 5 f fd _ _ := ⟨_, _, D_is_prime, ok_is_prime D_is_prime T O_want_between O_least_part⟩
  obtain ⟨f_want_odd, fd_want_odd, D_want_odd⟩ := d_want_odd
  have O_want_odd : ∃ f fd, Df_want_odd K mg f fd ∧ FnOk P w K mg base CX0 3 f fd _ _ := ⟨_, _, D_want_odd, ok_want_odd D_want_odd T D_is_whole D_is_between⟩
  obtain ⟨f_want_look, fd_want_look, D_want_look⟩ := d_want_look
  have O_want_look : ∃ f fd, Df_want_look K mg f fd ∧ FnOk P w K mg base CX0 4 f fd _ _ := ⟨_, _, D_want_look, ok_want_look D_want_look T O_want_odd O_want_between⟩
  obtain ⟨f_by_powers, fd_by_powers, D_by_powers⟩ := d_by_powers
  have O_by_powers : ∃ f fd, Df_by_powers K mg f fd ∧ FnOk P w K mg base CX0 5 f fd _ _ := ⟨_, _, D_by_powers, ok_by_powers D_by_powers T O_want_look O_power_rest⟩
  obtain ⟨f_halved, fd_halved, D_halved⟩ := d_halved
  have O_halved : ∃ f fd, Df_halved K mg f fd ∧ FnOk P w K mg base CX0 1 f fd _ _ := ⟨_, _, D_halved, ok_halved D_halved T⟩
  have OB_halved : ∃ f fd, Df_halved K mg f fd ∧ ∀ b, FnOk P w K mg b CX0 1 f fd _ _ := ⟨_, _, D_halved, fun b => ok_halved D_halved T⟩
  obtain ⟨f_lets_by_halves, fd_lets_by_halves, D_lets_by_halves⟩ := d_lets_by_halves
  have O_lets_by_halves : ∃ f fd, Df_lets_by_halves K mg f fd ∧ FnOk P w K mg base CX0 2 f fd _ _ := ⟨_, _, D_lets_by_halves, ok_lets_by_halves D_lets_by_halves T O_halved O_power_rest⟩
  obtain ⟨f_by_halves, fd_by_halves, D_by_halves⟩ := d_by_halves
  have O_by_halves : ∃ f fd, Df_by_halves K mg f fd ∧ FnOk P w K mg base CX0 5 f fd _ _ := ⟨_, _, D_by_halves, ok_by_halves D_by_halves T O_want_look O_lets_by_halves⟩
  obtain ⟨f_sign_by, fd_sign_by, D_sign_by⟩ := d_sign_by
  have O_sign_by : ∃ f fd, Df_sign_by K mg f fd ∧ FnOk P w K mg base CX0 1 f fd _ _ := ⟨_, _, D_sign_by, ok_sign_by D_sign_by T⟩
  obtain ⟨f_sign, fd_sign, D_sign⟩ := d_sign
  have O_sign : ∃ f fd, Df_sign K mg f fd ∧ FnOk P w K mg base CX0 5 f fd _ _ := ⟨_, _, D_sign, ok_sign D_sign T O_want_far O_want_odd O_sign_by⟩
  obtain ⟨f_by_signs, fd_by_signs, D_by_signs⟩ := d_by_signs
  have O_by_signs : ∃ f fd, Df_by_signs K mg f fd ∧ FnOk P w K mg base CX0 5 f fd _ _ := ⟨_, _, D_by_signs, ok_by_signs D_by_signs T O_want_look O_sign_by O_power_rest⟩
  obtain ⟨f_parts_of, fd_parts_of, D_parts_of⟩ := d_parts_of
  have O_parts_of : ∃ f fd, Df_parts_of K mg f fd ∧ FnOk P w K mg base CX0 5 f fd _ _ := ⟨_, _, D_parts_of, ok_parts_of D_parts_of T O_want_tried O_least_part⟩
  obtain ⟨f_primes_of, fd_primes_of, D_primes_of⟩ := d_primes_of
  have O_primes_of : ∃ f fd, Df_primes_of K mg f fd ∧ FnOk P w K mg base CX0 6 f fd _ _ := ⟨_, _, D_primes_of, ok_primes_of D_primes_of T O_parts_of⟩
  obtain ⟨f_many_rests, fd_many_rests, D_many_rests⟩ := d_many_rests
  have O_many_rests : ∃ f fd, Df_many_rests K mg f fd ∧ FnOk P w K mg base CX0 6 f fd _ _ := ⟨_, _, D_many_rests, ok_many_rests D_many_rests T O_want_tried O_parts_of⟩
  obtain ⟨f_order_of, fd_order_of, D_order_of⟩ := d_order_of
  have O_order_of : ∃ f fd, Df_order_of K mg f fd ∧ FnOk P w K mg base CX0 7 f fd _ _ := ⟨_, _, D_order_of, ok_order_of D_order_of T O_want_far O_want_tried O_greatest_in_both O_many_rests O_primes_of O_power_rest⟩
  obtain ⟨f_want_counted, fd_want_counted, D_want_counted⟩ := d_want_counted
  have O_want_counted : ∃ f fd, Df_want_counted K mg f fd ∧ FnOk P w K mg base CX0 4 f fd _ _ := ⟨_, _, D_want_counted, ok_want_counted D_want_counted T O_want_odd⟩
  obtain ⟨f_many_by_powers, fd_many_by_powers, D_many_by_powers⟩ := d_many_by_powers
  have O_many_by_powers : ∃ f fd, Df_many_by_powers K mg f fd ∧ FnOk P w K mg base CX0 7 f fd _ _ := ⟨_, _, D_many_by_powers, ok_many_by_powers D_many_by_powers T O_want_counted O_primes_of O_greatest_in_both⟩
  obtain ⟨f_many_by_halves, fd_many_by_halves, D_many_by_halves⟩ := d_many_by_halves
  have O_many_by_halves : ∃ f fd, Df_many_by_halves K mg f fd ∧ FnOk P w K mg base CX0 7 f fd _ _ := ⟨_, _, D_many_by_halves, ok_many_by_halves D_many_by_halves T O_want_counted O_primes_of O_greatest_in_both OB_halved⟩
  obtain ⟨f_share_by_halves, fd_share_by_halves, D_share_by_halves⟩ := d_share_by_halves
  have O_share_by_halves : ∃ f fd, Df_share_by_halves K mg f fd ∧ FnOk P w K mg base CX0 8 f fd _ _ := ⟨_, _, D_share_by_halves, ok_share_by_halves D_share_by_halves T O_many_by_halves O_greatest_in_both⟩
  obtain ⟨f_lies_to_all, fd_lies_to_all, D_lies_to_all⟩ := d_lies_to_all
  have O_lies_to_all : ∃ f fd, Df_lies_to_all K mg f fd ∧ FnOk P w K mg base CX0 6 f fd _ _ := ⟨_, _, D_lies_to_all, ok_lies_to_all D_lies_to_all T O_parts_of⟩
  obtain ⟨f_fools_all, fd_fools_all, D_fools_all⟩ := d_fools_all
  have O_fools_all : ∃ f fd, Df_fools_all K mg f fd ∧ FnOk P w K mg base CX0 7 f fd _ _ := ⟨_, _, D_fools_all, ok_fools_all D_fools_all T O_want_odd O_lies_to_all⟩
  obtain ⟨f_is_base, fd_is_base, D_is_base⟩ := d_is_base
  have O_is_base : ∃ f fd, Df_is_base K mg f fd ∧ FnOk P w K mg base CX0 2 f fd _ _ := ⟨_, _, D_is_base, ok_is_base D_is_base T O_power_rest⟩
  obtain ⟨f_least_base, fd_least_base, D_least_base⟩ := d_least_base
  have O_least_base : ∃ f fd, Df_least_base K mg f fd ∧ FnOk P w K mg base CX0 3 f fd _ _ := ⟨_, _, D_least_base, ok_least_base D_least_base T O_is_base⟩
  obtain ⟨f_full_rows, fd_full_rows, D_full_rows⟩ := d_full_rows
  obtain ⟨f_full_of_prime, fd_full_of_prime, D_full_of_prime⟩ := d_full_of_prime
  have O_full_of_prime : ∃ f fd, Df_full_of_prime K mg f fd ∧ FnOk P w K mg base CX0 66 f fd _ _ := ⟨_, _, D_full_of_prime, ok_full D_full_of_prime T (fun b => ⟨_, _, D_parts_of, ok_parts_of D_parts_of T ⟨_, _, D_want_tried, ok_want_tried D_want_tried T D_is_whole D_is_between D_want_between⟩ ⟨_, _, D_least_part, ok_least_part D_least_part T⟩⟩) (fun b => ⟨_, _, D_primes_of, ok_primes_of D_primes_of T ⟨_, _, D_parts_of, ok_parts_of D_parts_of T ⟨_, _, D_want_tried, ok_want_tried D_want_tried T D_is_whole D_is_between D_want_between⟩ ⟨_, _, D_least_part, ok_least_part D_least_part T⟩⟩⟩) (fun b => ⟨_, _, D_least_base, ok_least_base D_least_base T ⟨_, _, D_is_base, ok_is_base D_is_base T ⟨_, _, D_power_rest, ok_power_rest D_power_rest T⟩⟩⟩) D_full_rows 30 base⟩
  obtain ⟨f_least_of_figures, fd_least_of_figures, D_least_of_figures⟩ := d_least_of_figures
  have O_least_of_figures : ∃ f fd, Df_least_of_figures K mg f fd ∧ FnOk P w K mg base CX0 1 f fd _ _ := ⟨_, _, D_least_of_figures, ok_least_of_figures D_least_of_figures T⟩
  obtain ⟨f_prime_tried, fd_prime_tried, D_prime_tried⟩ := d_prime_tried
  have O_prime_tried : ∃ f fd, Df_prime_tried K mg f fd ∧ FnOk P w K mg base CX0 6 f fd _ _ := ⟨_, _, D_prime_tried, ok_prime_tried D_prime_tried T O_is_prime⟩
  obtain ⟨f_made_of, fd_made_of, D_made_of⟩ := d_made_of
  have O_made_of : ∃ f fd, Df_made_of K mg f fd ∧ FnOk P w K mg base CX0 3 f fd _ _ := ⟨_, _, D_made_of, ok_made_of D_made_of T O_lets_by_halves O_greatest_in_both O_power_rest⟩
  obtain ⟨f_prime_from, fd_prime_from, D_prime_from⟩ := d_prime_from
  have O_prime_from : ∃ f fd, Df_prime_from K mg f fd ∧ FnOk P w K mg base CX0 69 f fd _ _ := ⟨_, _, D_prime_from, ok_prime_from D_prime_from T O_least_of_figures O_prime_tried O_full_of_prime O_made_of⟩
  obtain ⟨f_prime_of, fd_prime_of, D_prime_of⟩ := d_prime_of
  have O_prime_of : ∃ f fd, Df_prime_of K mg f fd ∧ FnOk P w K mg base CX0 70 f fd _ _ := ⟨_, _, D_prime_of, ok_prime_of D_prime_of T O_want_between O_prime_from⟩
  obtain ⟨f_law_cell_at, fd_law_cell_at, D_law_cell_at⟩ := d_law_cell_at
  have O_law_cell_at : ∃ f fd, Df_law_cell_at K mg f fd ∧ FnOk P w K mg base CX0 1 f fd _ _ := ⟨_, _, D_law_cell_at, ok_law_cell_at D_law_cell_at T⟩
  obtain ⟨f_law_state, fd_law_state, D_law_state⟩ := d_law_state
  have O_law_state : ∃ f fd, Df_law_state K mg f fd ∧ FnOk P w K mg base CX0 2 f fd _ _ := ⟨_, _, D_law_state, ok_law_state D_law_state T O_law_cell_at⟩
  obtain ⟨f_law_choice, fd_law_choice, D_law_choice⟩ := d_law_choice
  have O_law_choice : ∃ f fd, Df_law_choice K mg f fd ∧ FnOk P w K mg base CX0 1 f fd _ _ := ⟨_, _, D_law_choice, ok_law_choice D_law_choice T⟩
  have OB_law_choice : ∃ f fd, Df_law_choice K mg f fd ∧ ∀ b, FnOk P w K mg b CX0 1 f fd _ _ := ⟨_, _, D_law_choice, fun b => ok_law_choice D_law_choice T⟩
  obtain ⟨f_law_bases_right, fd_law_bases_right, D_law_bases_right⟩ := d_law_bases_right
  have O_law_bases_right : ∃ f fd, Df_law_bases_right K mg f fd ∧ FnOk P w K mg base CX0 6 f fd _ _ := ⟨_, _, D_law_bases_right, ok_law_bases_right D_law_bases_right T O_by_halves O_by_signs O_by_powers O_sign⟩
  obtain ⟨f_law_counts_right, fd_law_counts_right, D_law_counts_right⟩ := d_law_counts_right
  have O_law_counts_right : ∃ f fd, Df_law_counts_right K mg f fd ∧ FnOk P w K mg base CX0 9 f fd _ _ := ⟨_, _, D_law_counts_right, ok_law_counts_right D_law_counts_right T O_is_prime O_many_by_halves O_many_by_powers O_many_rests O_share_by_halves O_fools_all⟩
  exact ok_law D_law T O_law_state OB_law_choice O_prime_of O_law_bases_right O_law_counts_right O_order_of O_by_powers
end
end PP
set_option maxHeartbeats 0
noncomputable def OP.lo : List PySem.Str := [PySem.Str.ofString "__name__", PySem.Str.ofString "PrimeError", PySem.Str.ofString "NoNumber", PySem.Str.ofString "MOST", PySem.Str.ofString "MOST_TRIED", PySem.Str.ofString "MOST_FIGURES", PySem.Str.ofString "is_whole", PySem.Str.ofString "is_between", PySem.Str.ofString "want_between", PySem.Str.ofString "want_odd", PySem.Str.ofString "want_tried", PySem.Str.ofString "want_far", PySem.Str.ofString "is_prime", PySem.Str.ofString "parts_of", PySem.Str.ofString "primes_of", PySem.Str.ofString "least_part", PySem.Str.ofString "power_rest", PySem.Str.ofString "greatest_in_both", PySem.Str.ofString "by_powers", PySem.Str.ofString "by_halves", PySem.Str.ofString "many_by_powers", PySem.Str.ofString "many_by_halves", PySem.Str.ofString "share_by_halves", PySem.Str.ofString "want_look", PySem.Str.ofString "want_counted", PySem.Str.ofString "lets_by_halves", PySem.Str.ofString "halved", PySem.Str.ofString "fools_all", PySem.Str.ofString "lies_to_all", PySem.Str.ofString "order_of", PySem.Str.ofString "many_rests", PySem.Str.ofString "least_base", PySem.Str.ofString "is_base", PySem.Str.ofString "full_of_prime", PySem.Str.ofString "full_rows", PySem.Str.ofString "FIGURES_TRIED", PySem.Str.ofString "prime_of", PySem.Str.ofString "made_of", PySem.Str.ofString "prime_from", PySem.Str.ofString "least_of_figures", PySem.Str.ofString "prime_tried", PySem.Str.ofString "sign", PySem.Str.ofString "by_signs", PySem.Str.ofString "sign_by", PySem.Str.ofString "_law_cell_at", PySem.Str.ofString "_law_state", PySem.Str.ofString "_law_choice", PySem.Str.ofString "_law_bases_right", PySem.Str.ofString "_law_counts_right"]
theorem OP.pwe : PySem.Challenge.pw_primepapers_k90_whole_looks = PySem.Challenge.pw_primepapers_k90_whole_looks := rfl
name_quick pT for PySem.Challenge.pw_primepapers_k90_whole_looks by OP.pwe
open PySem PySem.W PyProof.Rows in
local macro_rules | `(tactic| o_head $H) => `(tactic| (
  refine PySem.W.holds_open (q := (OP.qOf 59 PySem.Challenge.pw_primepapers_k90_whole_looks)) (loose := OP.lo) (Xt := fun s => xlAt (OP.qOf 59 PySem.Challenge.pw_primepapers_k90_whole_looks) ([("MOST", PySem.W.WData.int 1000000000000000000000000000000), ("MOST_TRIED", PySem.W.WData.int 1000000000), ("MOST_FIGURES", PySem.W.WData.int 30), ("FIGURES_TRIED", PySem.W.WData.int 9)] : List (PySem.Str × PySem.W.WData)) s && recOk (PySem.Challenge.rw_primepapers_k90_whole_looks.row.records) s) (XP := XL (OP.qOf 59 PySem.Challenge.pw_primepapers_k90_whole_looks) ([("MOST", PySem.W.WData.int 1000000000000000000000000000000), ("MOST_TRIED", PySem.W.WData.int 1000000000), ("MOST_FIGURES", PySem.W.WData.int 30), ("FIGURES_TRIED", PySem.W.WData.int 9)] : List (PySem.Str × PySem.W.WData))) (Yf := Hook.obs $H) (Ya := Hook.val $H) (YP := Hook.says $H) (N := 20000)
    (OP.left_tw 20000 PySem.W.Fast.pT_eq (by kernel_rfl) (by decide) (fun s => by kernel_rfl) (by decide) (fun w os => by kernel_rfl))
    (Hook.of $H) (Hook.keeps $H) (fun s e => xl_of s (Bool.and_eq_true_iff.mp e).1) XL.keeps (by rfl) (by rfl) (by rfl) (fun s e => recFacts_of (Bool.and_eq_true_iff.mp e).2) (by rfl) (by first | assumption | decide +kernel) (by decide +kernel) ⟨rfl, rfl, rfl, rfl, rfl, by decide +kernel⟩ ?hw ?hc))
open PySem PySem.W PyProof.Rows
set_option maxRecDepth 100000 in
set_option maxHeartbeats 0 in
theorem PySem.Challenge.cw_primepapers_k90_whole_looks_holds : PySem.Challenge.rw_primepapers_k90_whole_looks.Holds := by
  w_on; o_law; k_head; (case hw => w_witness2)
  k_fill
  refine L2.walk_ofX (l := PySem.Challenge.rw_primepapers_k90_whole_looks) (n := 63) (k := 72) (x := "_law_script") (CX := fun _ => L2.CX0) (sp := PP.spLaw) rfl (by decide) rfl ⟨rfl, by decide, by decide, rfl⟩ (fun w h Y => PySem.W.kIn_of Y) ?F ?S ?C
  case F =>
    intro w mg fa h KX G hX hmg
    have d_is_whole : ∃ f fd, PP.Df_is_whole (L2.KOf KX) mg f fd := by
      dsimp only [L2.KOf]
      refine' ⟨_, PP.def_mk KX G ?a ?l ?c ?k ?b⟩
      (case a => k_is); (case l => k_is); (case c => k_is); (case k => k_is)
      case b => exact fun _ _ _ _ _ _ us hl => match us, hl with | [_], _ => rfl
    have d_is_between : ∃ f fd, PP.Df_is_between (L2.KOf KX) mg f fd := by
      dsimp only [L2.KOf]
      refine' ⟨_, PP.def_mk KX G ?a ?l ?c ?k ?b⟩
      (case a => k_is); (case l => k_is); (case c => k_is); (case k => k_is)
      case b => exact fun _ _ _ _ _ _ us hl => match us, hl with | [_, _, _], _ => rfl
    have d_want_between : ∃ f fd, PP.Df_want_between (L2.KOf KX) mg f fd := by
      dsimp only [L2.KOf]
      refine' ⟨_, PP.def_mk KX G ?a ?l ?c ?k ?b⟩
      (case a => k_is); (case l => k_is); (case c => k_is); (case k => k_is)
      case b => exact fun _ _ _ _ _ _ us hl => match us, hl with | [_, _, _, _], _ => rfl
    have d_want_tried : ∃ f fd, PP.Df_want_tried (L2.KOf KX) mg f fd := by
      dsimp only [L2.KOf]
      refine' ⟨_, PP.def_mk KX G ?a ?l ?c ?k ?b⟩
      (case a => k_is); (case l => k_is); (case c => k_is); (case k => k_is)
      case b => exact fun _ _ _ _ _ _ us hl => match us, hl with | [_, _], _ => rfl
    have d_want_far : ∃ f fd, PP.Df_want_far (L2.KOf KX) mg f fd := by
      dsimp only [L2.KOf]
      refine' ⟨_, PP.def_mk KX G ?a ?l ?c ?k ?b⟩
      (case a => k_is); (case l => k_is); (case c => k_is); (case k => k_is)
      case b => exact fun _ _ _ _ _ _ us hl => match us, hl with | [_, _], _ => rfl
    have d_power_rest : ∃ f fd, PP.Df_power_rest (L2.KOf KX) mg f fd := by
      dsimp only [L2.KOf]
      refine' ⟨_, PP.def_mk KX G ?a ?l ?c ?k ?b⟩
      (case a => k_is); (case l => k_is); (case c => k_is); (case k => k_is)
      case b => exact fun _ _ _ _ _ _ us hl => match us, hl with | [_, _, _], _ => rfl
    have d_greatest_in_both : ∃ f fd, PP.Df_greatest_in_both (L2.KOf KX) mg f fd := by
      dsimp only [L2.KOf]
      refine' ⟨_, PP.def_mk KX G ?a ?l ?c ?k ?b⟩
      (case a => k_is); (case l => k_is); (case c => k_is); (case k => k_is)
      case b => exact fun _ _ _ _ _ _ us hl => match us, hl with | [_, _], _ => rfl
    have d_least_part : ∃ f fd, PP.Df_least_part (L2.KOf KX) mg f fd := by
      dsimp only [L2.KOf]
      refine' ⟨_, PP.def_mk KX G ?a ?l ?c ?k ?b⟩
      (case a => k_is); (case l => k_is); (case c => k_is); (case k => k_is)
      case b => exact fun _ _ _ _ _ _ us hl => match us, hl with | [_, _], _ => rfl
    have d_is_prime : ∃ f fd, PP.Df_is_prime (L2.KOf KX) mg f fd := by
      dsimp only [L2.KOf]
      refine' ⟨_, PP.def_mk KX G ?a ?l ?c ?k ?b⟩
      (case a => k_is); (case l => k_is); (case c => k_is); (case k => k_is)
      case b => exact fun _ _ _ _ _ _ us hl => match us, hl with | [_], _ => rfl
    have d_want_odd : ∃ f fd, PP.Df_want_odd (L2.KOf KX) mg f fd := by
      dsimp only [L2.KOf]
      refine' ⟨_, PP.def_mk KX G ?a ?l ?c ?k ?b⟩
      (case a => k_is); (case l => k_is); (case c => k_is); (case k => k_is)
      case b => exact fun _ _ _ _ _ _ us hl => match us, hl with | [_, _, _, _], _ => rfl
    have d_want_look : ∃ f fd, PP.Df_want_look (L2.KOf KX) mg f fd := by
      dsimp only [L2.KOf]
      refine' ⟨_, PP.def_mk KX G ?a ?l ?c ?k ?b⟩
      (case a => k_is); (case l => k_is); (case c => k_is); (case k => k_is)
      case b => exact fun _ _ _ _ _ _ us hl => match us, hl with | [_, _], _ => rfl
    have d_by_powers : ∃ f fd, PP.Df_by_powers (L2.KOf KX) mg f fd := by
      dsimp only [L2.KOf]
      refine' ⟨_, PP.def_mk KX G ?a ?l ?c ?k ?b⟩
      (case a => k_is); (case l => k_is); (case c => k_is); (case k => k_is)
      case b => exact fun _ _ _ _ _ _ us hl => match us, hl with | [_, _], _ => rfl
    have d_halved : ∃ f fd, PP.Df_halved (L2.KOf KX) mg f fd := by
      dsimp only [L2.KOf]
      refine' ⟨_, PP.def_mk KX G ?a ?l ?c ?k ?b⟩
      (case a => k_is); (case l => k_is); (case c => k_is); (case k => k_is)
      case b => exact fun _ _ _ _ _ _ us hl => match us, hl with | [_], _ => rfl
    have d_lets_by_halves : ∃ f fd, PP.Df_lets_by_halves (L2.KOf KX) mg f fd := by
      dsimp only [L2.KOf]
      refine' ⟨_, PP.def_mk KX G ?a ?l ?c ?k ?b⟩
      (case a => k_is); (case l => k_is); (case c => k_is); (case k => k_is)
      case b => exact fun _ _ _ _ _ _ us hl => match us, hl with | [_, _], _ => rfl
    have d_by_halves : ∃ f fd, PP.Df_by_halves (L2.KOf KX) mg f fd := by
      dsimp only [L2.KOf]
      refine' ⟨_, PP.def_mk KX G ?a ?l ?c ?k ?b⟩
      (case a => k_is); (case l => k_is); (case c => k_is); (case k => k_is)
      case b => exact fun _ _ _ _ _ _ us hl => match us, hl with | [_, _], _ => rfl
    have d_sign_by : ∃ f fd, PP.Df_sign_by (L2.KOf KX) mg f fd := by
      dsimp only [L2.KOf]
      refine' ⟨_, PP.def_mk KX G ?a ?l ?c ?k ?b⟩
      (case a => k_is); (case l => k_is); (case c => k_is); (case k => k_is)
      case b => exact fun _ _ _ _ _ _ us hl => match us, hl with | [_, _], _ => rfl
    have d_sign : ∃ f fd, PP.Df_sign (L2.KOf KX) mg f fd := by
      dsimp only [L2.KOf]
      refine' ⟨_, PP.def_mk KX G ?a ?l ?c ?k ?b⟩
      (case a => k_is); (case l => k_is); (case c => k_is); (case k => k_is)
      case b => exact fun _ _ _ _ _ _ us hl => match us, hl with | [_, _], _ => rfl
    have d_by_signs : ∃ f fd, PP.Df_by_signs (L2.KOf KX) mg f fd := by
      dsimp only [L2.KOf]
      refine' ⟨_, PP.def_mk KX G ?a ?l ?c ?k ?b⟩
      (case a => k_is); (case l => k_is); (case c => k_is); (case k => k_is)
      case b => exact fun _ _ _ _ _ _ us hl => match us, hl with | [_, _], _ => rfl
    have d_parts_of : ∃ f fd, PP.Df_parts_of (L2.KOf KX) mg f fd := by
      dsimp only [L2.KOf]
      refine' ⟨_, PP.def_mk KX G ?a ?l ?c ?k ?b⟩
      (case a => k_is); (case l => k_is); (case c => k_is); (case k => k_is)
      case b => exact fun _ _ _ _ _ _ us hl => match us, hl with | [_], _ => rfl
    have d_primes_of : ∃ f fd, PP.Df_primes_of (L2.KOf KX) mg f fd := by
      dsimp only [L2.KOf]
      refine' ⟨_, PP.def_mk KX G ?a ?l ?c ?k ?b⟩
      (case a => k_is); (case l => k_is); (case c => k_is); (case k => k_is)
      case b => exact fun _ _ _ _ _ _ us hl => match us, hl with | [_], _ => rfl
    have d_many_rests : ∃ f fd, PP.Df_many_rests (L2.KOf KX) mg f fd := by
      dsimp only [L2.KOf]
      refine' ⟨_, PP.def_mk KX G ?a ?l ?c ?k ?b⟩
      (case a => k_is); (case l => k_is); (case c => k_is); (case k => k_is)
      case b => exact fun _ _ _ _ _ _ us hl => match us, hl with | [_], _ => rfl
    have d_order_of : ∃ f fd, PP.Df_order_of (L2.KOf KX) mg f fd := by
      dsimp only [L2.KOf]
      refine' ⟨_, PP.def_mk KX G ?a ?l ?c ?k ?b⟩
      (case a => k_is); (case l => k_is); (case c => k_is); (case k => k_is)
      case b => exact fun _ _ _ _ _ _ us hl => match us, hl with | [_, _], _ => rfl
    have d_want_counted : ∃ f fd, PP.Df_want_counted (L2.KOf KX) mg f fd := by
      dsimp only [L2.KOf]
      refine' ⟨_, PP.def_mk KX G ?a ?l ?c ?k ?b⟩
      (case a => k_is); (case l => k_is); (case c => k_is); (case k => k_is)
      case b => exact fun _ _ _ _ _ _ us hl => match us, hl with | [_], _ => rfl
    have d_many_by_powers : ∃ f fd, PP.Df_many_by_powers (L2.KOf KX) mg f fd := by
      dsimp only [L2.KOf]
      refine' ⟨_, PP.def_mk KX G ?a ?l ?c ?k ?b⟩
      (case a => k_is); (case l => k_is); (case c => k_is); (case k => k_is)
      case b => exact fun _ _ _ _ _ _ us hl => match us, hl with | [_], _ => rfl
    have d_many_by_halves : ∃ f fd, PP.Df_many_by_halves (L2.KOf KX) mg f fd := by
      dsimp only [L2.KOf]
      refine' ⟨_, PP.def_mk KX G ?a ?l ?c ?k ?b⟩
      (case a => k_is); (case l => k_is); (case c => k_is); (case k => k_is)
      case b => exact fun _ _ _ _ _ _ us hl => match us, hl with | [_], _ => rfl
    have d_share_by_halves : ∃ f fd, PP.Df_share_by_halves (L2.KOf KX) mg f fd := by
      dsimp only [L2.KOf]
      refine' ⟨_, PP.def_mk KX G ?a ?l ?c ?k ?b⟩
      (case a => k_is); (case l => k_is); (case c => k_is); (case k => k_is)
      case b => exact fun _ _ _ _ _ _ us hl => match us, hl with | [_], _ => rfl
    have d_lies_to_all : ∃ f fd, PP.Df_lies_to_all (L2.KOf KX) mg f fd := by
      dsimp only [L2.KOf]
      refine' ⟨_, PP.def_mk KX G ?a ?l ?c ?k ?b⟩
      (case a => k_is); (case l => k_is); (case c => k_is); (case k => k_is)
      case b => exact fun _ _ _ _ _ _ us hl => match us, hl with | [_], _ => rfl
    have d_fools_all : ∃ f fd, PP.Df_fools_all (L2.KOf KX) mg f fd := by
      dsimp only [L2.KOf]
      refine' ⟨_, PP.def_mk KX G ?a ?l ?c ?k ?b⟩
      (case a => k_is); (case l => k_is); (case c => k_is); (case k => k_is)
      case b => exact fun _ _ _ _ _ _ us hl => match us, hl with | [_], _ => rfl
    have d_is_base : ∃ f fd, PP.Df_is_base (L2.KOf KX) mg f fd := by
      dsimp only [L2.KOf]
      refine' ⟨_, PP.def_mk KX G ?a ?l ?c ?k ?b⟩
      (case a => k_is); (case l => k_is); (case c => k_is); (case k => k_is)
      case b => exact fun _ _ _ _ _ _ us hl => match us, hl with | [_, _, _], _ => rfl
    have d_least_base : ∃ f fd, PP.Df_least_base (L2.KOf KX) mg f fd := by
      dsimp only [L2.KOf]
      refine' ⟨_, PP.def_mk KX G ?a ?l ?c ?k ?b⟩
      (case a => k_is); (case l => k_is); (case c => k_is); (case k => k_is)
      case b => exact fun _ _ _ _ _ _ us hl => match us, hl with | [_, _], _ => rfl
    have d_full_rows : ∃ f fd, PP.Df_full_rows (L2.KOf KX) mg f fd := by
      dsimp only [L2.KOf]
      refine' ⟨_, PP.def_mk KX G ?a ?l ?c ?k ?b⟩
      (case a => k_is); (case l => k_is); (case c => k_is); (case k => k_is)
      case b => exact fun _ _ _ _ _ _ us hl => match us, hl with | [_], _ => rfl
    have d_full_of_prime : ∃ f fd, PP.Df_full_of_prime (L2.KOf KX) mg f fd := by
      dsimp only [L2.KOf]
      refine' ⟨_, PP.def_mk KX G ?a ?l ?c ?k ?b⟩
      (case a => k_is); (case l => k_is); (case c => k_is); (case k => k_is)
      case b => exact fun _ _ _ _ _ _ us hl => match us, hl with | [_], _ => rfl
    have d_least_of_figures : ∃ f fd, PP.Df_least_of_figures (L2.KOf KX) mg f fd := by
      dsimp only [L2.KOf]
      refine' ⟨_, PP.def_mk KX G ?a ?l ?c ?k ?b⟩
      (case a => k_is); (case l => k_is); (case c => k_is); (case k => k_is)
      case b => exact fun _ _ _ _ _ _ us hl => match us, hl with | [_], _ => rfl
    have d_prime_tried : ∃ f fd, PP.Df_prime_tried (L2.KOf KX) mg f fd := by
      dsimp only [L2.KOf]
      refine' ⟨_, PP.def_mk KX G ?a ?l ?c ?k ?b⟩
      (case a => k_is); (case l => k_is); (case c => k_is); (case k => k_is)
      case b => exact fun _ _ _ _ _ _ us hl => match us, hl with | [_], _ => rfl
    have d_made_of : ∃ f fd, PP.Df_made_of (L2.KOf KX) mg f fd := by
      dsimp only [L2.KOf]
      refine' ⟨_, PP.def_mk KX G ?a ?l ?c ?k ?b⟩
      (case a => k_is); (case l => k_is); (case c => k_is); (case k => k_is)
      case b => exact fun _ _ _ _ _ _ us hl => match us, hl with | [_, _, _], _ => rfl
    have d_prime_from : ∃ f fd, PP.Df_prime_from (L2.KOf KX) mg f fd := by
      dsimp only [L2.KOf]
      refine' ⟨_, PP.def_mk KX G ?a ?l ?c ?k ?b⟩
      (case a => k_is); (case l => k_is); (case c => k_is); (case k => k_is)
      case b => exact fun _ _ _ _ _ _ us hl => match us, hl with | [_], _ => rfl
    have d_prime_of : ∃ f fd, PP.Df_prime_of (L2.KOf KX) mg f fd := by
      dsimp only [L2.KOf]
      refine' ⟨_, PP.def_mk KX G ?a ?l ?c ?k ?b⟩
      (case a => k_is); (case l => k_is); (case c => k_is); (case k => k_is)
      case b => exact fun _ _ _ _ _ _ us hl => match us, hl with | [_], _ => rfl
    have d_law_cell_at : ∃ f fd, PP.Df_law_cell_at (L2.KOf KX) mg f fd := by
      dsimp only [L2.KOf]
      refine' ⟨_, PP.def_mk KX G ?a ?l ?c ?k ?b⟩
      (case a => k_is); (case l => k_is); (case c => k_is); (case k => k_is)
      case b => exact fun _ _ _ _ _ _ us hl => match us, hl with | [_, _], _ => rfl
    have d_law_state : ∃ f fd, PP.Df_law_state (L2.KOf KX) mg f fd := by
      dsimp only [L2.KOf]
      refine' ⟨_, PP.def_mk KX G ?a ?l ?c ?k ?b⟩
      (case a => k_is); (case l => k_is); (case c => k_is); (case k => k_is)
      case b => exact fun _ _ _ _ _ _ us hl => match us, hl with | [_, _], _ => rfl
    have d_law_choice : ∃ f fd, PP.Df_law_choice (L2.KOf KX) mg f fd := by
      dsimp only [L2.KOf]
      refine' ⟨_, PP.def_mk KX G ?a ?l ?c ?k ?b⟩
      (case a => k_is); (case l => k_is); (case c => k_is); (case k => k_is)
      case b => exact fun _ _ _ _ _ _ us hl => match us, hl with | [_, _], _ => rfl
    have d_law_bases_right : ∃ f fd, PP.Df_law_bases_right (L2.KOf KX) mg f fd := by
      dsimp only [L2.KOf]
      refine' ⟨_, PP.def_mk KX G ?a ?l ?c ?k ?b⟩
      (case a => k_is); (case l => k_is); (case c => k_is); (case k => k_is)
      case b => exact fun _ _ _ _ _ _ us hl => match us, hl with | [_, _, _], _ => rfl
    have d_law_counts_right : ∃ f fd, PP.Df_law_counts_right (L2.KOf KX) mg f fd := by
      dsimp only [L2.KOf]
      refine' ⟨_, PP.def_mk KX G ?a ?l ?c ?k ?b⟩
      (case a => k_is); (case l => k_is); (case c => k_is); (case k => k_is)
      case b => exact fun _ _ _ _ _ _ us hl => match us, hl with | [_], _ => rfl
    have d_law : ∃ f fd, PP.Df_law (L2.KOf KX) mg f fd := by
      dsimp only [L2.KOf]
      refine' ⟨_, PP.def_mk KX G ?a ?l ?c ?k ?b⟩
      (case a => k_is); (case l => k_is); (case c => k_is); (case k => k_is)
      case b => exact fun _ _ _ _ _ _ us hl => match us, hl with | [_], _ => rfl
    have c_MOST : ∃ t, mg "MOST" = some (.int 1000000000000000000000000000000 t) := by
      exact L2.loose_int hX (by simp)
    have c_MOST_TRIED : ∃ t, mg "MOST_TRIED" = some (.int 1000000000 t) := by
      exact L2.loose_int hX (by simp)
    have c_MOST_FIGURES : ∃ t, mg "MOST_FIGURES" = some (.int 30 t) := by
      exact L2.loose_int hX (by simp)
    have c_FIGURES_TRIED : ∃ t, mg "FIGURES_TRIED" = some (.int 9 t) := by
      exact L2.loose_int hX (by simp)
    have n_len : mg "len" = none := by
      refine' PySem.W.mg_none_of KX G ?a
      (case a => k_is)
    have n_isinstance : mg "isinstance" = none := by
      refine' PySem.W.mg_none_of KX G ?a
      (case a => k_is)
    have n_int : mg "int" = none := by
      refine' PySem.W.mg_none_of KX G ?a
      (case a => k_is)
    have n_bool : mg "bool" = none := by
      refine' PySem.W.mg_none_of KX G ?a
      (case a => k_is)
    have n_range : mg "range" = none := by
      refine' PySem.W.mg_none_of KX G ?a
      (case a => k_is)
    have n_abs : mg "abs" = none := by
      refine' PySem.W.mg_none_of KX G ?a
      (case a => k_is)
    have n_max : mg "max" = none := by
      refine' PySem.W.mg_none_of KX G ?a
      (case a => k_is)
    have n_min : mg "min" = none := by
      refine' PySem.W.mg_none_of KX G ?a
      (case a => k_is)
    have n_tuple : mg "tuple" = none := by
      refine' PySem.W.mg_none_of KX G ?a
      (case a => k_is)
    obtain ⟨fl, fdl, D_law⟩ := d_law
    obtain ⟨t_MOST, c_MOST⟩ := c_MOST
    obtain ⟨t_MOST_TRIED, c_MOST_TRIED⟩ := c_MOST_TRIED
    obtain ⟨t_MOST_FIGURES, c_MOST_FIGURES⟩ := c_MOST_FIGURES
    obtain ⟨t_FIGURES_TRIED, c_FIGURES_TRIED⟩ := c_FIGURES_TRIED
    have e0 := hmg.symm.trans D_law.mgx
    cases e0
    have T : PP.Txt (L2.KOf KX) mg t_MOST t_MOST_TRIED t_MOST_FIGURES t_FIGURES_TRIED := ⟨c_MOST, c_MOST_TRIED, c_MOST_FIGURES, c_FIGURES_TRIED, n_len, n_isinstance, n_int, n_bool, n_range, n_abs, n_max, n_min, n_tuple⟩
    refine ⟨fdl, fun s u => ?_, fun base kb nb => PP.all_ok T  d_is_whole d_is_between d_want_between d_want_tried d_want_far d_power_rest d_greatest_in_both d_least_part d_is_prime d_want_odd d_want_look d_by_powers d_halved d_lets_by_halves d_by_halves d_sign_by d_sign d_by_signs d_parts_of d_primes_of d_many_rests d_order_of d_want_counted d_many_by_powers d_many_by_halves d_share_by_halves d_lies_to_all d_fools_all d_is_base d_least_base d_full_rows d_full_of_prime d_least_of_figures d_prime_tried d_made_of d_prime_from d_prime_of d_law_cell_at d_law_state d_law_choice d_law_bases_right d_law_counts_right D_law⟩
    obtain ⟨⟨oc, od, kV, doc, pm, an, cdv, ct, osl, e, _⟩, _⟩ := D_law.fn
    rw [e]
    exact .of_eq rfl
  case S => exact fun K H a ns hl _ hS => ⟨a, ns, rfl, hS, hl, fun _ => rfl⟩
  case C => exact fun _ _ _ _ _ z => z
