import PyProof.Rows.All
import Wide.All
import OpenK.AllK
import Wide.FinOn
import Lean
import PyProof.EqAt
import PyProof.EqKinds
import PyProof.TupleCall
import PySem.Challenge.RW_primepapers_k63_whole_signs
import PyProof.NeKinds
import KE.KLam
import PyProof.Conv_int_bool
import PyProof.Rows.SortStr
import PyProof.Rows.RuleB_bool
import PyProof.FactsAll.bool_2
set_option Elab.async false
set_option linter.all false
set_option maxRecDepth 100000
namespace L2
open PySem PySem.Spec PyProof.Rows
abbrev Key := Sum Int Str
def keyIs : Key → Value → Bool
  | .inl k, v => Value.isInt k v
  | .inr x, v => Value.isStrOf x v
def keyH (w : World) : Key → Int
  | .inl k => hashInt k
  | .inr x => hashStr w x
theorem keyIs_shape : ∀ {k : Key} {v : Value}, keyIs k v = true → (∃ i t, k = Sum.inl i ∧ v = Value.int i t) ∨ (∃ x t, k = Sum.inr x ∧ v = Value.str x t)
  | .inl i, v, h => by
    obtain ⟨t, e⟩ := Value.isInt_shape (k := i) (v := v) h
    exact .inl ⟨i, t, rfl, e⟩
  | .inr x, v, h => by
    obtain ⟨t, e⟩ := Value.isStrOf_shape (x := x) (v := v) h
    exact .inr ⟨x, t, rfl, e⟩
theorem key_ll (a b : Int) : decide ((Sum.inl a : Key) = Sum.inl b) = (a == b) := by
  by_cases e : a = b
  · subst e; simp
  · have h : ¬ (Sum.inl a : Key) = Sum.inl b := fun q => e (Sum.inl.inj q)
    rw [decide_eq_false h]
    exact (beq_eq_false_iff_ne.mpr e).symm
theorem key_rr (a b : Str) : decide ((Sum.inr a : Key) = Sum.inr b) = decide (a = b) := by
  by_cases e : a = b
  · subst e; simp
  · have h : ¬ (Sum.inr a : Key) = Sum.inr b := fun q => e (Sum.inr.inj q)
    rw [decide_eq_false h, decide_eq_false e]
theorem key_lr (a : Int) (b : Str) : decide ((Sum.inl a : Key) = Sum.inr b) = false := decide_eq_false (fun q => nomatch q)
theorem key_rl (a : Str) (b : Int) : decide ((Sum.inr a : Key) = Sum.inl b) = false := decide_eq_false (fun q => nomatch q)
def mixKind (prog : Program) (w : World) : PySem.KeyKind prog w Key where
  is := keyIs
  hash := keyH w
  inj := fun v a b ha hb => by
    rcases keyIs_shape ha with ⟨i, t, rfl, rfl⟩ | ⟨x, t, rfl, rfl⟩
    · rcases keyIs_shape hb with ⟨j, u, rfl, e⟩ | ⟨y, u, rfl, e⟩
      · injection e with e1 _; rw [e1]
      · exact nomatch e
    · rcases keyIs_shape hb with ⟨j, u, rfl, e⟩ | ⟨y, u, rfl, e⟩
      · exact nomatch e
      · injection e with e1 _; rw [e1]
  byValue := fun k v h => by
    rcases keyIs_shape h with ⟨i, t, rfl, rfl⟩ | ⟨x, t, rfl, rfl⟩ <;> rfl
  pyHash := fun hv h => by
    rcases keyIs_shape hv with ⟨i, t, rfl, rfl⟩ | ⟨x, t, rfl, rfl⟩
    · exact wpAny_pyHash_int h
    · exact wpAny_pyHash_str h
  eqBool := fun hu hv h => by
    rcases keyIs_shape hu with ⟨i, t, rfl, rfl⟩ | ⟨x, t, rfl, rfl⟩
    · rcases keyIs_shape hv with ⟨j, u, rfl, rfl⟩ | ⟨y, u, rfl, rfl⟩
      · rw [key_ll] at h; exact wpAny_eqBool_int h
      · rw [key_lr] at h; exact SeqAt.EqAt.int_str i t y u _ _ _ _ h
    · rcases keyIs_shape hv with ⟨j, u, rfl, rfl⟩ | ⟨y, u, rfl, rfl⟩
      · rw [key_rl] at h; exact SeqAt.EqAt.str_int x t j u _ _ _ _ h
      · rw [key_rr] at h; exact wpAny_eqBool_str h
  «strs» := fun k x t v h => by
    rcases keyIs_shape h with ⟨i, u, rfl, e⟩ | ⟨y, u, rfl, e⟩
    · exact nomatch e
    · injection e with e1 _
      subst e1
      cases v <;> rfl
end L2
namespace L2
open PySem PySem.Spec PyProof.Rows
inductive V where
  | non | bl (b : Bool) | int (i : Int) | str (x : Str) | byt (b : Array UInt8) | flt (b : UInt64) | ref (a : Addr) | ty (n : String)
  deriving DecidableEq
def RelV : V → Value → Prop
  | .non, u => u = Value.none
  | .bl b, u => u = Value.bool b
  | .int i, u => ∃ t, u = Value.int i t
  | .str x, u => ∃ t, u = Value.str x t
  | .byt b, u => ∃ t, u = Value.bytes b t
  | .flt b, u => ∃ t, u = Value.float b t
  | .ref a, u => u = Value.ref a
  | .ty n, u => u = Value.type n
abbrev Vals : List V → List Value → Prop := Paired RelV
theorem Vals.length {xs : List V} {us : List Value} (r : Vals xs us) : xs.length = us.length := Paired.length r
theorem Vals.get : ∀ {xs : List V} {us : List Value} {i : Nat} {x : V}, Vals xs us → xs[i]? = some x → ∃ u, us[i]? = some u ∧ RelV x u
  | _, _, _, _, .nil, e => by simp at e
  | _, _, 0, _, .cons r _, e => by simp at e; subst e; exact ⟨_, rfl, r⟩
  | _, _, i + 1, x, .cons _ t, e => by
    obtain ⟨u, h1, h2⟩ := Vals.get (i := i) (x := x) t (by simpa using e)
    exact ⟨u, by simpa using h1, h2⟩
theorem Vals.set {x : V} {u : Value} (r : RelV x u) : ∀ {xs : List V} {us : List Value} (i : Nat), Vals xs us → Vals (xs.set i x) (us.set i u)
  | _, _, _, .nil => .nil
  | _, _, 0, .cons _ t => .cons r t
  | _, _, i + 1, .cons q t => .cons q (Vals.set r i t)
theorem Vals.append : ∀ {xs ys : List V} {us ws : List Value}, Vals xs us → Vals ys ws → Vals (xs ++ ys) (us ++ ws)
  | _, _, _, _, .nil, s => s
  | _, _, _, _, .cons r t, s => .cons r (Vals.append t s)
theorem Vals.take : ∀ {xs : List V} {us : List Value} (n : Nat), Vals xs us → Vals (xs.take n) (us.take n)
  | _, _, 0, _ => .nil
  | _, _, _ + 1, .nil => .nil
  | _, _, n + 1, .cons r t => .cons r (Vals.take n t)
theorem Vals.drop : ∀ {xs : List V} {us : List Value} (n : Nat), Vals xs us → Vals (xs.drop n) (us.drop n)
  | _, _, 0, r => r
  | _, _, _ + 1, .nil => .nil
  | _, _, n + 1, .cons _ t => Vals.drop n t
def RelO : Option V → Option Value → Prop
  | some v, some u => RelV v u
  | none, none => True
  | _, _ => False
def KV {κ : Type} : List (κ × V) → List (κ × Value) → Prop := Paired fun (p : κ × V) (q : κ × Value) => p.1 = q.1 ∧ RelV p.2 q.2
def kV : Key → V
  | .inl i => .int i
  | .inr x => .str x
inductive HO where
  
  | lst (xs : List V)
  
  | tup (xs : List V)
  
  | dK (kvs : List (Key × V)) | dT (kvs : List (List Key × V))
  
  | set (S : Int → Bool) (n : Nat)
  
  | ins (C dx : Addr) (fs : List (Str × V))
  
  | own (x : Addr)
  
  | xd (fs : List (Str × V))
  
  | met (f x : Addr)
  
  | rng (lo hi : Int)
  
  | frz (o : Obj) (u : HO)
  
  | tbl (ps : Array Value)
  
  | ext (φ : Heap → Prop)
abbrev Hp := Addr → Option HO
def upd (H : Hp) (a : Addr) (o : HO) : Hp := fun b => if b = a then some o else H b
theorem upd_same {H : Hp} {a : Addr} {o : HO} : upd H a o a = some o := by unfold upd; rw [if_pos rfl]
theorem upd_ne {H : Hp} {a b : Addr} {o : HO} (h : b ≠ a) : upd H a o b = H b := by unfold upd; rw [if_neg h]
theorem ne_of_none {H : Hp} {a b : Addr} {o : HO} (h : H a = some o) (h' : H b = none) : a ≠ b := by
  intro e; subst e; rw [h] at h'; cases h'
section
variable (P : Program) (w : World)
def ObjOk (H : Hp) (h : Heap) (a : Addr) : HO → Prop
  | .lst xs => xs.length ≤ sizeLine ∧ ∃ (its : List Value) (n : Nat), Vals xs its ∧ h.get? a = some { cls := .type "list", data := .seq its.toArray n }
  | .tup xs => xs.length ≤ sizeLine ∧ ∃ its : List Value, Vals xs its ∧ IsTup h a its.toArray
  | .dK kvs => kvs.length ≤ sizeLine ∧ (a == sysModules) = false ∧ ∃ vs, KV kvs vs ∧ h.DictOf (mixKind P w) a vs
  | .dT kvs => kvs.length ≤ sizeLine ∧ (a == sysModules) = false ∧ ∃ xs : List (List Key × Addr × Value),
      Paired (fun (p : List Key × V) (q : List Key × Addr × Value) => p.1 = q.1 ∧ H q.2.1 = some (.tup (p.1.map kV)) ∧ RelV p.2 q.2.2) kvs xs ∧
      ∃ o es ep, h.get? a = some o ∧ o.ExactDict ∧ o.data = .dict es ep ∧ es.toList = xs.map (entryOfKey (tupleKind (mixKind P w))) ∧ (xs.map (·.1)).Nodup
  | .set S n => h.SetOf (intKind P w) a S n
  | .ins C dx fs => H dx = some (.own a) ∧ fs.length ≤ 1000 ∧ dx ≠ a ∧ h.get? a = some (PySem.W.instObj C dx) ∧
      ∃ mA, h.Ns1 dx mA ∧ (∀ f, RelO (fs.lookup f) (mA f)) ∧ PySem.Within mA (fs.map (·.1))
  | .own _ => ∃ o, h.get? a = some o
  | .xd fs => ∃ mA, h.Ns1 a mA ∧ ∀ f, RelO (fs.lookup f) (mA f)
  | .rng lo hi => ∃ t u v, h.get? a = some { cls := .type "range", data := .fields #[.int lo t, .int hi u, .int 1 v] }
  | .frz o u => h.get? a = some o ∧ ObjOk H h a u
  | .tbl ps => h.get? a = some { cls := .none, data := .fields ps }
  | .met f x => h.get? a = some (PySem.W.methodObj (.ref f) (.ref x))
  | .ext φ => φ h ∧ (∃ o, h.get? a = some o) ∧ ∀ h1 h2 : Heap, φ h1 → (∀ o, h1.get? a = some o → h2.get? a = some o) → φ h2
def HOk (H : Hp) (h : Heap) : Prop := ∀ a o, H a = some o → ObjOk P w H h a o
end
section
variable {P : Program} {w : World} {H H' : Hp} {h h' : Heap} {a : Addr} {o : HO}
theorem ObjOk.lt (x : ObjOk P w H h a o) : a < h.objs.size := by
  cases o with
  | lst xs => obtain ⟨_, _, _, _, e⟩ := x; exact Heap.lt_size e
  | tup xs => obtain ⟨_, _, _, p⟩ := x; exact p.lt
  | dK kvs => obtain ⟨_, _, _, _, o, _, _, e, _⟩ := x; exact Heap.lt_size e
  | dT kvs => obtain ⟨_, _, _, _, o, _, _, e, _⟩ := x; exact Heap.lt_size e
  | set S n => obtain ⟨o, _, _, _, e, _⟩ := x; exact Heap.lt_size e
  | ins C dx fs => obtain ⟨_, _, _, e, _⟩ := x; exact Heap.lt_size e
  | own y => obtain ⟨_, e⟩ := x; exact Heap.lt_size e
  | xd fs => obtain ⟨_, ⟨_, _, _, e, _⟩, _⟩ := x; exact Heap.lt_size e
  | rng lo hi => obtain ⟨_, _, _, e⟩ := x; exact Heap.lt_size e
  | frz ob u => obtain ⟨e, _⟩ := x; exact Heap.lt_size e
  | tbl ps => exact Heap.lt_size (show h.get? a = some _ from x)
  | met f y => exact Heap.lt_size (show h.get? a = some _ from x)
  | ext φ => obtain ⟨_, ⟨_, e⟩, _⟩ := x; exact Heap.lt_size e
theorem Paired.mapP {α β : Type} {F G : α → β → Prop} : ∀ {l₁ : List α} {l₂ : List β}, Paired F l₁ l₂ → (∀ a b, F a b → G a b) → Paired G l₁ l₂
  | _, _, .nil, _ => .nil
  | _, _, .cons r t, f => .cons (f _ _ r) (Paired.mapP t f)
theorem ObjOk.stay (x : ObjOk P w H h a o) (k : ∀ b u, (b = a ∨ H b = some (.own a)) → h.get? b = some u → h'.get? b = some u)
    (ho : ∀ b, H b = some (.own a) → H' b = some (.own a)) (ht : ∀ b xs, H b = some (.tup xs) → H' b = some (.tup xs)) : ObjOk P w H' h' a o := by
  induction o with
  | lst xs => obtain ⟨z, its, n, r, e⟩ := x; exact ⟨z, its, n, r, k _ _ (.inl rfl) e⟩
  | tup xs => obtain ⟨z, its, r, ob, e, c⟩ := x; exact ⟨z, its, r, ob, k _ _ (.inl rfl) e, c⟩
  | dK kvs => obtain ⟨z, y, vs, r, ob, es, ep, e, c⟩ := x; exact ⟨z, y, vs, r, ob, es, ep, k _ _ (.inl rfl) e, c⟩
  | dT kvs =>
    obtain ⟨z, y, xs, r, ob, es, ep, e, c⟩ := x
    exact ⟨z, y, xs, Paired.mapP r fun p q z => ⟨z.1, ht _ _ z.2.1, z.2.2⟩, ob, es, ep, k _ _ (.inl rfl) e, c⟩
  | set S n => obtain ⟨ob, es, ep, t, e, c⟩ := x; exact ⟨ob, es, ep, t, k _ _ (.inl rfl) e, c⟩
  | ins C dx fs =>
    obtain ⟨d, z, ne, e, mA, ⟨od, es, ep, e2, c⟩, r⟩ := x
    exact ⟨ho _ d, z, ne, k _ _ (.inl rfl) e, mA, ⟨od, es, ep, k _ _ (.inr d) e2, c⟩, r⟩
  | own y => obtain ⟨ob, e⟩ := x; exact ⟨ob, k _ _ (.inl rfl) e⟩
  | xd fs => obtain ⟨mA, ⟨od, es, ep, e, c⟩, r⟩ := x; exact ⟨mA, ⟨od, es, ep, k _ _ (.inl rfl) e, c⟩, r⟩
  | rng lo hi => obtain ⟨t, u, v, e⟩ := x; exact ⟨t, u, v, k _ _ (.inl rfl) e⟩
  | frz ob u ih => obtain ⟨e, q⟩ := x; exact ⟨k _ _ (.inl rfl) e, ih q⟩
  | tbl ps =>
    have e : h.get? a = some { cls := .none, data := .fields ps } := x
    show h'.get? a = some { cls := .none, data := .fields ps }
    exact k a _ (.inl rfl) e
  | met f y =>
    have e : h.get? a = some (PySem.W.methodObj (.ref f) (.ref y)) := x
    show h'.get? a = some (PySem.W.methodObj (.ref f) (.ref y))
    exact k a _ (.inl rfl) e
  | ext φ => obtain ⟨p, ⟨o, e⟩, st⟩ := x; exact ⟨st _ _ p fun o q => k _ _ (.inl rfl) q, ⟨o, k _ _ (.inl rfl) e⟩, st⟩
theorem HOk.lt (x : HOk P w H h) (e : H a = some o) : a < h.objs.size := (x a o e).lt
theorem HOk.fresh (x : HOk P w H h) (e : h.objs.size ≤ a) : H a = none := by
  cases q : H a with
  | none => rfl
  | some u => exact absurd (Nat.lt_of_lt_of_le (x.lt q) e) (Nat.lt_irrefl _)
theorem HOk.kept (x : HOk P w H h) (k : ∀ b u, h.get? b = some u → h'.get? b = some u) : HOk P w H h' := fun a o e =>
  (x a o e).stay (fun b u _ q => k b u q) (fun _ q => q) fun _ _ q => q
theorem HOk.laid (x : HOk P w H h) (k : ∀ b u, h.get? b = some u → h'.get? b = some u) (hp : h.objs.size ≤ a) (new : ObjOk P w (upd H a o) h' a o) : HOk P w (upd H a o) h' := fun b u e => by
  have hn := x.fresh hp
  by_cases hb : b = a
  · subst hb; rw [upd_same] at e; cases e; exact new
  · rw [upd_ne hb] at e
    exact (x b u e).stay (fun c v _ q => k c v q) (fun c q => by rw [upd_ne (ne_of_none q hn)]; exact q) fun c xs q => by rw [upd_ne (ne_of_none q hn)]; exact q
end
def Rd (H : Hp) (a : Addr) (u : HO) : Prop := H a = some u ∨ ∃ o, H a = some (.frz o u)
theorem Rd.of {H : Hp} {a : Addr} {u : HO} (h : H a = some u) : Rd H a u := .inl h
theorem Rd.ok {P : Program} {w : World} {H : Hp} {h : Heap} {a : Addr} {u : HO} (r : Rd H a u) (x : HOk P w H h) : ObjOk P w H h a u := by
  rcases r with r | ⟨o, r⟩
  · exact x a u r
  · obtain ⟨_, q⟩ := x a _ r
    exact q
def Mut : Option HO → Prop
  | some (.lst _) => True
  | some (.dK _) => True
  | some (.dT _) => True
  | some (.set _ _) => True
  | some (.ins _ _ _) => True
  | some (.ext _) => True
  | _ => False
section
variable {P : Program} {w : World} {H : Hp} {h h' : Heap} {x e : Addr} {o' : HO}
theorem HOk.write (ok : HOk P w H h) (mu : Mut (H x)) (he : e = x ∨ H e = some (.own x)) (k : ∀ b u, b ≠ e → h.get? b = some u → h'.get? b = some u) (heo : ∃ u, h'.get? e = some u)
    (new : ObjOk P w (upd H x o') h' x o') : HOk P w (upd H x o') h' := fun b u q => by
  have nown : ∀ c y, H c = some (.own y) → c ≠ x := fun c y r z => by subst z; rw [r] at mu; exact mu
  have ntup : ∀ c xs, H c = some (.tup xs) → c ≠ x := fun c xs r z => by subst z; rw [r] at mu; exact mu
  by_cases hb : b = x
  · subst hb; rw [upd_same] at q; cases q; exact new
  · rw [upd_ne hb] at q
    by_cases hbe : b = e
    · have q' : H b = some (.own x) := by
        rcases he with z | z
        · exact absurd (hbe.trans z) hb
        · rw [hbe]; exact z
      rw [q] at q'; cases q'
      obtain ⟨v, hv⟩ := heo
      exact ⟨v, by rw [hbe]; exact hv⟩
    · refine (ok b u q).stay (fun c v hc r => k c v ?_ r) (fun c r => by rw [upd_ne (nown c b r)]; exact r) fun c xs r => by rw [upd_ne (ntup c xs r)]; exact r
      rcases hc with rfl | hc
      · exact hbe
      · rintro rfl
        rcases he with z | z
        · exact nown c b hc z
        · rw [hc] at z; cases z; exact hb rfl
end
structure Un (fs ex : List Addr) (H H' : Hp) (h h' : Heap) : Prop where
  keep : ∀ b o, h.get? b = some o → H b = none → b ∉ fs → b ∉ ex → h'.get? b = some o
  slot : ∀ b o, h.get? b = some o → H b = none → b ∈ fs → b ∉ ex → ∃ sl, h'.get? b = some { o with slots := sl }
  free : ∀ b o, h.get? b = some o → H b = none → b ∉ ex → H' b = none
  there : ∀ b o, h.get? b = some o → b ∉ ex → ∃ o', h'.get? b = some o'
  tups : ∀ b xs, H b = some (.tup xs) → H' b = some (.tup xs)
  frzs : ∀ b o u, H b = some (.frz o u) → H' b = some (.frz o u)
  tbls : ∀ b ps, H b = some (.tbl ps) → ∃ more, H' b = some (.tbl (ps ++ more))
section
variable {fs fs' ex ex' : List Addr} {H H1 H2 : Hp} {h h1 h2 h' : Heap} {a x e : Addr} {o : HO}
theorem Un.any (u : Un fs ex H H1 h h1) {b : Addr} {ob : Obj} (q : h.get? b = some ob) (n : H b = none) (hx : b ∉ ex) : ∃ sl, h1.get? b = some { ob with slots := sl } := by
  by_cases hb : b ∈ fs
  · exact u.slot b ob q n hb hx
  · exact ⟨ob.slots, u.keep b ob q n hb hx⟩
theorem Un.trans (a : Un fs ex H H1 h h1) (b : Un fs ex H1 H2 h1 h2) : Un fs ex H H2 h h2 where
  keep := fun c ob q n hc hx => b.keep c ob (a.keep c ob q n hc hx) (a.free c ob q n hx) hc hx
  slot := fun c ob q n hc hx => by
    obtain ⟨sl, e1⟩ := a.slot c ob q n hc hx
    obtain ⟨sl', e2⟩ := b.slot c _ e1 (a.free c ob q n hx) hc hx
    exact ⟨sl', e2⟩
  free := fun c ob q n hx => by
    obtain ⟨o', e1⟩ := a.there c ob q hx
    exact b.free c o' e1 (a.free c ob q n hx) hx
  there := fun c ob q hx => by
    obtain ⟨o', e1⟩ := a.there c ob q hx
    exact b.there c o' e1 hx
  tups := fun c xs q => b.tups c xs (a.tups c xs q)
  frzs := fun c ob xs q => b.frzs c ob xs (a.frzs c ob xs q)
  tbls := fun c ps q => by
    obtain ⟨m1, e1⟩ := a.tbls c ps q
    obtain ⟨m2, e2⟩ := b.tbls c _ e1
    exact ⟨m1 ++ m2, by rw [e2, Array.append_assoc]⟩
theorem Un.kept (k : ∀ b u, h.get? b = some u → h'.get? b = some u) : Un fs ex H H h h' :=
  ⟨fun b ob q _ _ _ => k b ob q, fun b ob q _ _ _ => ⟨ob.slots, k b ob q⟩, fun _ _ _ n _ => n, fun b ob q _ => ⟨ob, k b ob q⟩, fun _ _ q => q, fun _ _ _ q => q, fun _ ps q => ⟨#[], by rw [q]; simp⟩⟩
theorem Un.refl : Un fs ex H H h h := Un.kept fun _ _ q => q
theorem Un.laid (k : ∀ b u, h.get? b = some u → h'.get? b = some u) (hp : h.objs.size ≤ a) (hn : H a = none) : Un fs ex H (upd H a o) h h' where
  keep := fun b u q _ _ _ => k b u q
  slot := fun b u q _ _ _ => ⟨u.slots, k b u q⟩
  free := fun b u q n _ => by rw [upd_ne (Nat.ne_of_lt (Nat.lt_of_lt_of_le (Heap.lt_size q) hp))]; exact n
  there := fun b u q _ => ⟨u, k b u q⟩
  tups := fun b xs q => by rw [upd_ne (ne_of_none q hn)]; exact q
  frzs := fun b u xs q => by rw [upd_ne (ne_of_none q hn)]; exact q
  tbls := fun b ps q => ⟨#[], by rw [upd_ne (ne_of_none q hn), q]; simp⟩
theorem Un.write (mu : Mut (H x)) (he : e = x ∨ H e = some (.own x)) (k : ∀ b u, b ≠ e → h.get? b = some u → h'.get? b = some u) (heo : ∃ u, h'.get? e = some u) : Un fs ex H (upd H x o) h h' := by
  have hx : ∀ b, H b = none → b ≠ x := fun b n z => by subst z; rw [n] at mu; exact mu
  have hb : ∀ b, H b = none → b ≠ e := fun b n z => by
    subst z
    rcases he with r | r
    · exact hx b n r
    · rw [n] at r; cases r
  have hm : ∀ b u, H b = some u → ¬ Mut (some u) → b ≠ x := fun b u q nm z => by subst z; rw [q] at mu; exact nm mu
  refine ⟨fun b u q n _ _ => k b u (hb b n) q, fun b u q n _ _ => ⟨u.slots, k b u (hb b n) q⟩, fun b u q n _ => by rw [upd_ne (hx b n)]; exact n, fun b u q _ => ?_,
    fun b xs q => by rw [upd_ne (hm b _ q fun z => z)]; exact q, fun b u xs q => by rw [upd_ne (hm b _ q fun z => z)]; exact q, fun b ps q => ⟨#[], by rw [upd_ne (hm b _ q fun z => z), q]; simp⟩⟩
  by_cases hbe : b = e
  · subst hbe; exact heo
  · exact ⟨u, k b u hbe q⟩
theorem Un.mono (u : Un fs ex H H1 h h1) (hs : ∀ b ∈ fs, b ∈ fs') (hx : ∀ b ∈ ex, b ∈ ex') : Un fs' ex' H H1 h h1 :=
  ⟨fun b ob q n hb he => u.keep b ob q n (fun z => hb (hs b z)) fun z => he (hx b z), fun _ _ q n _ he => u.any q n fun z => he (hx _ z), fun b ob q n he => u.free b ob q n fun z => he (hx b z), fun b ob q he => u.there b ob q fun z => he (hx b z), u.tups, u.frzs, u.tbls⟩
end
def trk (h : Heap) (H : Hp) : List Addr := (List.range h.objs.size).filter fun a => (H a).isSome
def hidT (h : Heap) (H : Hp) : Heap := PySem.W.hideAll h (trk h H)
theorem hidT_size (h : Heap) (H : Hp) : (hidT h H).objs.size = h.objs.size := PySem.W.hideAll_size _ _
theorem hidT_get {h : Heap} {H : Hp} {b : Addr} {o : Obj} (e : h.get? b = some o) (n : H b = none) : (hidT h H).get? b = some o :=
  PySem.W.hideAll_get _ e fun hm => by
    have q : (H b).isSome = true := (List.mem_filter.mp hm).2
    rw [n] at q; simp at q
theorem of_hidT {h : Heap} {H : Hp} {b : Addr} {o : Obj} (e : (hidT h H).get? b = some o) : h.get? b = some o ∧ H b = none := by
  have e' : h.get? b = some o := PySem.W.of_hideAll (trk h H) e
  refine ⟨e', ?_⟩
  cases q : H b with
  | none => rfl
  | some x =>
    have hm : b ∈ trk h H := List.mem_filter.mpr ⟨List.mem_range.mpr (Heap.lt_size e'), by simp [q]⟩
    have z : (hidT h H).get? b = none := PySem.W.hideAll_none (trk h H) hm
    rw [z] at e; cases e
def allNews (g h : Heap) (L : Addr) : List (Addr × Obj) := (List.range h.objs.size).filterMap fun a => if a = L ∨ (g.get? a).isSome = true then none else (h.get? a).map fun o => (a, o)
def rest (g h : Heap) (L d : Addr) : List (Addr × Obj) := (allNews g h L).filter fun p => decide (p.1 ≠ d)
end L2
namespace L2
open PySem PySem.Spec PyProof.Rows
structure Mod (K : PySem.W.Frag) (mg : Str → Option Value) (base : Heap) : Prop where
  kin : K.In base
  glob : base.Ns mainGlobals mg
  blt : ∃ mb, base.Ns builtinsNs mb ∧ ∀ x : Str, x ≠ "__name__" → mb x = bootBuiltins x
  nolimit : base.NoLimit
structure Cx where
  prog : Program
  w : World
  K : PySem.W.Frag
  mg : Str → Option Value
  base : Heap
  A : Around
  N : List Str
  s₀ : Shared
  H₀ : Hp
  env : Env
  outer : List Env
  stack : List Env
  ex : List Addr
  fn : Str → Bool
  calm : Bool
  pn : List (Addr × Obj)
  xe : Value → Shared → Prop
def frs (l : List Env) : List Addr := l.filterMap (·.frame)
abbrev Cx.fs (X : Cx) : List Addr := frs X.outer
def Vis (sc : Scope) (x : Str) : Prop := sc.names.lookup x = some .local ∨ sc.names.lookup x = some .cell ∨ sc.names.lookup x = some .free
def Loc (sc : Scope) (x : Str) : Prop := sc.names.lookup x = some .local ∨ sc.names.lookup x = some .cell
def Look (env : Env) (h : Heap) (m : Str → Option Value) (x : Str) (u : Value) : Prop :=
  (env.kindOf x = some .local ∧ m x = some u) ∨ ((env.kindOf x = some .cell ∨ env.kindOf x = some .free) ∧ ∃ c, env.cells.lookup x = some c ∧ h.IsCell c (some u))
structure Cx.Ok (X : Cx) : Prop where
  mod : Mod X.K X.mg X.base
  kind : X.env.scope.kind = .function
  glob : X.env.globals = mainGlobals
  blt : X.env.builtins = builtinsNs
  above : X.s₀.heap.objs.size ≤ X.env.locals
  inj : ∀ x y c, X.env.cells.lookup x = some c → X.env.cells.lookup y = some c → x = y
  has : ∀ x, (X.env.kindOf x = some .cell ∨ X.env.kindOf x = some .free) → ∃ c, X.env.cells.lookup x = some c
  cab : ∀ x c, X.fn x = true → X.env.cells.lookup x = some c → X.s₀.heap.objs.size ≤ c
  hd : X.calm = true → X.A.handled = none
  frames : X.A.frames = some X.stack
  stk : X.stack = X.outer ∨ (X.stack = X.env :: X.outer ∧ X.env.frame = some X.env.locals)
  exf : ∀ b ∈ X.ex, b ≠ X.env.locals ∧ ∀ x c, X.env.cells.lookup x = some c → c ≠ b
  bs : ∀ b o, X.base.get? b = some o → X.s₀.heap.get? b = some o ∧ X.H₀ b = none
  bsz : X.base.objs.size ≤ X.s₀.heap.objs.size
  noex : ∀ b o, X.base.get? b = some o → b ∉ X.ex
  exfs : ∀ b ∈ X.ex, b ∉ X.fs
  funs : X.s₀.heap.FunFrames X.base X.outer
  frf : ∀ b ∈ X.fs, X.H₀ b = none
structure Inv (X : Cx) (pins : List (Addr × Obj)) (σ : List (Option V)) (H : Hp) (s : Shared) : Prop where
  ok : X.Ok
  os : s.os = X.s₀.os
  bare : AllBare s.gens
  base : Un X.fs X.ex X.H₀ H X.s₀.heap s.heap
  loc : ∃ m, s.heap.Ns X.env.locals m ∧ ∀ (i : Nat) (x : Str) (v : V), X.N[i]? = some x → σ[i]? = some (some v) → Vis X.env.scope x → ∃ u, RelV v u ∧ Look X.env s.heap m x u
  cell : ∀ x c, X.env.cells.lookup x = some c → ∃ v, s.heap.IsCell c v
  free : H X.env.locals = none
  freeC : ∀ x c, X.env.cells.lookup x = some c → H c = none
  pin : ∀ p ∈ X.pn ++ pins, s.heap.get? p.1 = some p.2 ∧ H p.1 = none ∧ p.1 ≠ X.env.locals ∧ p.1 ∉ X.fs ∧ ∀ v, p.2.data ≠ .cell v
  hok : HOk X.prog X.w H s.heap
  len : σ.length = X.N.length
section
variable {X : Cx} {pins : List (Addr × Obj)} {σ : List (Option V)} {H H' : Hp} {s : Shared} {h' : Heap}
theorem Cx.Ok.nofr (ok : X.Ok) {b : Addr} {o : Obj} (e : X.base.get? b = some o) : b ∉ X.fs := fun hb => by
  have := (ok.funs.mem hb).1
  rw [e] at this; cases this
theorem Inv.bs (I : Inv X pins σ H s) : ∀ b o, X.base.get? b = some o → s.heap.get? b = some o ∧ H b = none := fun b o e =>
  ⟨I.base.keep b o (I.ok.bs b o e).1 (I.ok.bs b o e).2 (I.ok.nofr e) (I.ok.noex b o e), I.base.free b o (I.ok.bs b o e).1 (I.ok.bs b o e).2 (I.ok.noex b o e)⟩
theorem Inv.bk (I : Inv X pins σ H s) : ∀ b o, X.base.get? b = some o → s.heap.get? b = some o := fun b o e => (I.bs b o e).1
theorem Inv.mod (I : Inv X pins σ H s) : Mod X.K X.mg X.base := I.ok.mod
theorem Inv.kIn (I : Inv X pins σ H s) : X.K.In s.heap := I.ok.mod.kin.keeps I.bk
theorem Inv.nolimit (I : Inv X pins σ H s) : s.heap.NoLimit := I.ok.mod.nolimit.keeps I.bk
theorem Inv.lt (I : Inv X pins σ H s) : X.env.locals < s.heap.objs.size := let ⟨_, hn, _⟩ := I.loc; hn.lt
theorem Inv.sz (I : Inv X pins σ H s) : X.s₀.heap.objs.size ≤ s.heap.objs.size := Nat.le_trans I.ok.above (Nat.le_of_lt I.lt)
theorem Inv.nofs (I : Inv X pins σ H s) {a : Addr} (h : s.heap.objs.size ≤ a) : a ∉ X.fs := fun hb => by
  obtain ⟨_, o, ho, _⟩ := I.ok.funs.mem hb
  exact absurd (Nat.lt_of_lt_of_le (Heap.lt_size ho) (Nat.le_trans I.sz h)) (Nat.lt_irrefl _)
theorem Inv.cne (I : Inv X pins σ H s) : ∀ x c, X.env.cells.lookup x = some c → c ≠ X.env.locals := fun x c e z => by
  obtain ⟨v, o, ho, hd⟩ := I.cell x c e
  obtain ⟨m, ⟨o', es, ep, ho', hd', _⟩, _⟩ := I.loc
  rw [z, ho'] at ho; cases ho; rw [hd'] at hd; cases hd
theorem Inv.funs (I : Inv X pins σ H s) : s.heap.FunFrames X.base X.outer := by
  have all : ∀ (l : List Env), (∀ b ∈ frs l, b ∈ X.fs) → X.s₀.heap.FunFrames X.base l → s.heap.FunFrames X.base l := by
    intro l
    induction l with
    | nil => intro _ _; trivial
    | cons env r ih =>
      intro hs hl
      obtain ⟨hk, ⟨L, o, hf, hn, ho, hd⟩, hr⟩ := hl
      have hL : L ∈ X.fs := hs L (by unfold frs; rw [List.filterMap_cons, hf]; exact List.mem_cons_self)
      obtain ⟨sl, e⟩ := I.base.slot L o ho (I.ok.frf L hL) hL fun z => I.ok.exfs L z hL
      exact ⟨hk, ⟨L, _, hf, hn, e, hd⟩, ih (fun b hb => hs b (by unfold frs; rw [List.filterMap_cons, hf]; exact List.mem_cons_of_mem _ hb)) hr⟩
  exact all X.outer (fun _ hb => hb) I.ok.funs
theorem Inv.stack (I : Inv X pins σ H s) : s.heap.FunFrames X.base X.stack := by
  rcases I.ok.stk with e | ⟨e, hf⟩
  · rw [e]; exact I.funs
  · rw [e]
    obtain ⟨m, hn, _⟩ := I.loc
    refine .cons (by rw [I.ok.kind]; decide) hf hn ?_ I.funs
    exact Heap.get?_none_of_le (Nat.le_trans I.ok.bsz I.ok.above)
theorem Inv.stkSub (I : Inv X pins σ H s) : ∀ b ∈ frs X.stack, b ∈ X.env.locals :: X.fs := fun b hb => by
  rcases I.ok.stk with e | ⟨e, hf⟩
  · rw [e] at hb; exact List.mem_cons_of_mem _ hb
  · rw [e] at hb
    unfold frs at hb
    rw [List.filterMap_cons, hf] at hb
    exact hb
theorem Inv.stkFree (I : Inv X pins σ H s) : ∀ b ∈ frs X.stack, H b = none := fun b hb => by
  rcases List.mem_cons.mp (I.stkSub b hb) with e | hb
  · rw [e]; exact I.free
  · obtain ⟨_, o, ho, _⟩ := I.ok.funs.mem hb
    exact I.base.free b o ho (I.ok.frf b hb) fun z => I.ok.exfs b z hb
theorem Inv.step {g' : Array GenState} {t' : Nat} {d' : Drawn} {ch : List Addr} (I : Inv X pins σ H s)
    (hch : ∀ b ∈ ch, (b ∈ X.ex ∨ X.s₀.heap.objs.size ≤ b) ∧ b ≠ X.env.locals ∧ (∀ x c, X.env.cells.lookup x = some c → c ≠ b) ∧ ∀ p ∈ X.pn ++ pins, p.1 ≠ b)
    (keep : ∀ b o, b ≠ X.env.locals → b ∉ X.fs → b ∉ ch → s.heap.get? b = some o → H b = none → h'.get? b = some o)
    (slot : ∀ b o, b ≠ X.env.locals → b ∈ X.fs → b ∉ ch → s.heap.get? b = some o → H b = none → ∃ sl, h'.get? b = some { o with slots := sl }) (free : ∀ b o, b ∉ ch → s.heap.get? b = some o → H b = none → H' b = none)
    (there : ∀ b o, b ∉ ch → s.heap.get? b = some o → ∃ o', h'.get? b = some o')
    (tups : ∀ b xs, H b = some (.tup xs) → H' b = some (.tup xs)) (frzs : ∀ b o u, H b = some (.frz o u) → H' b = some (.frz o u)) (tbls : ∀ b ps, H b = some (.tbl ps) → ∃ more, H' b = some (.tbl (ps ++ more)))
    (ns : ∀ m, s.heap.Ns X.env.locals m → h'.Ns X.env.locals m) (hok : HOk X.prog X.w H' h') (hg : AllBare g') :
    Inv X pins σ H' { s with heap := h', gens := g', drawn := d', toks := t' } := by
  have neL : ∀ b o, X.s₀.heap.get? b = some o → b ≠ X.env.locals := fun b o e => Nat.ne_of_lt (Nat.lt_of_lt_of_le (Heap.lt_size e) I.ok.above)
  have neC : ∀ b o, X.s₀.heap.get? b = some o → b ∉ X.ex → b ∉ ch := fun b o e hx hb => by
    rcases (hch b hb).1 with z | z
    · exact hx z
    · exact absurd (Nat.lt_of_lt_of_le (Heap.lt_size e) z) (Nat.lt_irrefl _)
  have cellK : ∀ x c, X.env.cells.lookup x = some c → ∀ v, s.heap.IsCell c v → h'.IsCell c v := fun x c e v ⟨o, ho, hd⟩ => by
    have nch : c ∉ ch := fun z => (hch c z).2.2.1 x c e rfl
    by_cases hc : c ∈ X.fs
    · obtain ⟨sl, q⟩ := slot c o (I.cne x c e) hc nch ho (I.freeC x c e)
      exact ⟨_, q, hd⟩
    · exact ⟨o, keep c o (I.cne x c e) hc nch ho (I.freeC x c e), hd⟩
  refine ⟨I.ok, I.os, hg, ⟨fun b o e n hb hx => ?_, fun b o e n hb hx => ?_, fun b o e n hx => ?_, fun b o e hx => ?_, fun b xs e => tups b xs (I.base.tups b xs e), fun b o xs e => frzs b o xs (I.base.frzs b o xs e), fun b ps e => ?_⟩, ?_, fun x c e => ?_, ?_, fun x c e => ?_, fun p hp => ?_, hok, I.len⟩
  · exact keep b o (neL b o e) hb (neC b o e hx) (I.base.keep b o e n hb hx) (I.base.free b o e n hx)
  · obtain ⟨sl, e1⟩ := I.base.slot b o e n hb hx
    obtain ⟨sl', e2⟩ := slot b _ (neL b o e) hb (neC b o e hx) e1 (I.base.free b o e n hx)
    exact ⟨sl', e2⟩
  · obtain ⟨o', e1⟩ := I.base.there b o e hx
    exact free b o' (neC b o e hx) e1 (I.base.free b o e n hx)
  · obtain ⟨o', e1⟩ := I.base.there b o e hx
    exact there b o' (neC b o e hx) e1
  · obtain ⟨m1, e1⟩ := I.base.tbls b ps e
    obtain ⟨m2, e2⟩ := tbls b _ e1
    exact ⟨m1 ++ m2, by rw [e2, Array.append_assoc]⟩
  · obtain ⟨m, hn, hl⟩ := I.loc
    refine ⟨m, ns m hn, fun i x v e1 e2 e3 => ?_⟩
    obtain ⟨u, r, l⟩ := hl i x v e1 e2 e3
    refine ⟨u, r, ?_⟩
    rcases l with l | ⟨k, c, e, z⟩
    · exact .inl l
    · exact .inr ⟨k, c, e, cellK x c e _ z⟩
  · obtain ⟨v, z⟩ := I.cell x c e
    exact ⟨v, cellK x c e v z⟩
  · obtain ⟨m, ⟨o, _, _, ho, _⟩, _⟩ := I.loc
    exact free _ o (fun z => (hch _ z).2.1 rfl) ho I.free
  · obtain ⟨v, o, ho, hd⟩ := I.cell x c e
    exact free c o (fun z => (hch c z).2.2.1 x c e rfl) ho (I.freeC x c e)
  · obtain ⟨e, n, ne, nf, d⟩ := I.pin p hp
    have nch : p.1 ∉ ch := fun z => (hch p.1 z).2.2.2 p hp rfl
    exact ⟨keep p.1 p.2 ne nf nch e n, free p.1 p.2 nch e n, ne, nf, d⟩
theorem Inv.un {t' : Nat} (I : Inv X pins σ H s) (u : Un X.fs [] H H' s.heap h') (hok : HOk X.prog X.w H' h') : Inv X pins σ H' { s with heap := h', toks := t' } := by
  obtain ⟨m, ⟨o, es, ep, ho, r⟩, _⟩ := id I.loc
  obtain ⟨sl, hL⟩ := u.any ho I.free (by simp)
  exact I.step (g' := s.gens) (d' := s.drawn) (ch := []) (fun _ z => nomatch z) (fun b o _ hb _ e n => u.keep b o e n hb (by simp)) (fun b o _ hb _ e n => u.slot b o e n hb (by simp)) (fun b o _ e n => u.free b o e n (by simp)) (fun b o _ e => u.there b o e (by simp)) u.tups u.frzs u.tbls (fun m' hm => by
    obtain ⟨o', es', ep', ho', r'⟩ := hm
    rw [ho] at ho'; cases ho'
    exact ⟨_, es', ep', hL, r'⟩) hok I.bare
theorem Inv.call {g' : Array GenState} {t' : Nat} {d' : Drawn} {ch : List Addr} (I : Inv X pins σ H s) (u : Un (frs X.stack) ch H H' s.heap h') (hok : HOk X.prog X.w H' h') (hg : AllBare g')
    (hch : ∀ b ∈ ch, (b ∈ X.ex ∨ X.s₀.heap.objs.size ≤ b) ∧ b ≠ X.env.locals ∧ (∀ x c, X.env.cells.lookup x = some c → c ≠ b) ∧ ∀ p ∈ X.pn ++ pins, p.1 ≠ b) :
    Inv X pins σ H' { s with heap := h', gens := g', drawn := d', toks := t' } := by
  obtain ⟨m, ⟨o, es, ep, ho, r⟩, _⟩ := id I.loc
  obtain ⟨sl, hL⟩ := u.any ho I.free fun z => (hch _ z).2.1 rfl
  exact I.step (ch := ch) hch (fun b o hL hb hc e n => u.keep b o e n (fun z => (List.mem_cons.mp (I.stkSub b z)).elim hL hb) hc) (fun b o _ _ hc e n => u.any e n hc) (fun b o hc e n => u.free b o e n hc) (fun b o hc e => u.there b o e hc) u.tups u.frzs u.tbls (fun m' hm => by
    obtain ⟨o', es', ep', ho', r'⟩ := hm
    rw [ho] at ho'; cases ho'
    exact ⟨_, es', ep', hL, r'⟩) hok hg
theorem Inv.turned {t' : Nat} {it : Addr} (I : Inv X pins σ H s) (k : ∀ b o, b ≠ it → s.heap.get? b = some o → h'.get? b = some o) (hn : H it = none) (hL : it ≠ X.env.locals)
    (h1 : it ∈ X.ex ∨ X.s₀.heap.objs.size ≤ it) (h2 : ∀ x c, X.env.cells.lookup x = some c → c ≠ it) (h3 : ∀ p ∈ X.pn ++ pins, p.1 ≠ it) : Inv X pins σ H { s with heap := h', toks := t' } := by
  have nit : ∀ b u, H b = some u → b ≠ it := fun b u e z => by rw [z, hn] at e; cases e
  refine I.step (g' := s.gens) (d' := s.drawn) (ch := [it]) (fun b hb => ?_) (fun b o _ _ hc e _ => k b o (fun z => hc (by simp [z])) e) (fun b o _ _ hc e _ => ⟨o.slots, k b o (fun z => hc (by simp [z])) e⟩) (fun _ _ _ _ n => n)
    (fun b o hc e => ⟨o, k b o (fun z => hc (by simp [z])) e⟩) (fun _ _ e => e) (fun _ _ _ e => e) (fun b ps e => ⟨#[], by rw [e]; simp⟩) (fun m hm => ?_) (fun b u e => ?_) I.bare
  · have e : b = it := by simpa using hb
    subst e
    exact ⟨h1, hL, h2, h3⟩
  · obtain ⟨o, es, ep, ho, r⟩ := hm
    exact ⟨o, es, ep, k _ o (Ne.symm hL) ho, r⟩
  · refine (I.hok b u e).stay (fun c v hc q => k c v ?_ q) (fun _ q => q) fun _ _ q => q
    rcases hc with z | z
    · rw [z]; exact nit b u e
    · exact nit c _ z
theorem Inv.tok (I : Inv X pins σ H s) (t : Nat) : Inv X pins σ H { s with toks := t } := I.un (h' := s.heap) (t' := t) Un.refl I.hok
theorem Inv.kept {t' : Nat} (I : Inv X pins σ H s) (k : ∀ b u, s.heap.get? b = some u → h'.get? b = some u) : Inv X pins σ H { s with heap := h', toks := t' } := I.un (Un.kept k) (I.hok.kept k)
theorem Inv.laid {a : Addr} {o : HO} {t' : Nat} (I : Inv X pins σ H s) (k : ∀ b u, s.heap.get? b = some u → h'.get? b = some u) (hp : s.heap.objs.size ≤ a) (new : ObjOk X.prog X.w (upd H a o) h' a o) :
    Inv X pins σ (upd H a o) { s with heap := h', toks := t' } := I.un (Un.laid k hp (I.hok.fresh hp)) (I.hok.laid k hp new)
theorem Inv.write {x e : Addr} {o : HO} {t' : Nat} (I : Inv X pins σ H s) (mu : Mut (H x)) (he : e = x ∨ H e = some (.own x)) (k : ∀ b u, b ≠ e → s.heap.get? b = some u → h'.get? b = some u) (heo : ∃ u, h'.get? e = some u)
    (new : ObjOk X.prog X.w (upd H x o) h' x o) : Inv X pins σ (upd H x o) { s with heap := h', toks := t' } := I.un (Un.write mu he k heo) (I.hok.write mu he k heo new)
theorem Inv.pins_of {pins' : List (Addr × Obj)} (I : Inv X pins σ H s) (h : ∀ p ∈ pins', s.heap.get? p.1 = some p.2 ∧ H p.1 = none ∧ p.1 ≠ X.env.locals ∧ p.1 ∉ X.fs ∧ ∀ v, p.2.data ≠ .cell v) : Inv X pins' σ H s :=
  ⟨I.ok, I.os, I.bare, I.base, I.loc, I.cell, I.free, I.freeC, fun p hp => (List.mem_append.mp hp).elim (fun z => I.pin p (List.mem_append_left _ z)) (h p), I.hok, I.len⟩
theorem nodup_ix {N : List Str} (hN : N.Nodup) {i j : Nat} {x : Str} (a : N[i]? = some x) (b : N[j]? = some x) : i = j := by
  obtain ⟨h1, e1⟩ := List.getElem?_eq_some_iff.mp a
  obtain ⟨h2, e2⟩ := List.getElem?_eq_some_iff.mp b
  exact (List.getElem_inj hN).mp (e1.trans e2.symm)
theorem store_ok2 {M : Model} {A : Around} {E : Value → Shared → Prop} {i : Nat} {x : Str} {v : V} {u : Value} {Q : Unit → Shared → Prop} (I : Inv X pins σ H s) (hN : X.N.Nodup) (hi : X.N[i]? = some x) (hx : Loc X.env.scope x) (r : RelV v u)
    (h : ∀ s', Inv X pins (σ.set i (some v)) H s' → (∃ a, Heap.SameBut a s.heap s'.heap ∧ (a = X.env.locals ∨ X.env.cells.lookup x = some a)) → Q () s') (hf : X.fn x = true ∨ X.env.scope.names.lookup x = some .local := by first | exact .inl rfl | exact .inr rfl | assumption) : wpAny M A (storeName X.env x u) Q E s := by
  obtain ⟨m, hn, hl⟩ := id I.loc
  have hcls : (X.env.scope.kind == .class || (X.env.scope.kind == .module && X.env.locals != X.env.globals)) = false := by rw [I.ok.kind]; rfl
  have hiσ : i < σ.length := by rw [I.len]; exact (List.getElem?_eq_some_iff.mp hi).1
  have cne := I.cne
  have tracked : ∀ {a : Addr} {h' : Heap}, (∃ o, s.heap.get? a = some o ∧ H a = none) → Heap.SameBut a s.heap h' → HOk X.prog X.w H h' := fun {a h'} ha hs b ob e => by
    obtain ⟨_, _, hfree⟩ := ha
    refine (I.hok b ob e).stay (fun c w' hc q => (hs.2 c ?_).trans q) (fun _ q => q) fun _ _ q => q
    rintro rfl
    rcases hc with rfl | hc
    · rw [hfree] at e; cases e
    · rw [hfree] at hc; cases hc
  rcases hx with hk | hk
  · refine wpAny_storeName_local hk hn (fun h' hn' hs => ?_) hcls
    obtain ⟨oL, _, _, hoL, _⟩ := id hn
    refine h _ ⟨I.ok, I.os, I.bare, ⟨fun b o e n hb hx => ?_, fun b o e n hb hx => ?_, I.base.free, fun b o e hx => ?_, I.base.tups, I.base.frzs, I.base.tbls⟩, ⟨_, hn', fun j y v' e1 e2 e3 => ?_⟩, fun y c e => ?_, I.free, I.freeC, fun p hp => ?_, tracked ⟨oL, hoL, I.free⟩ hs, by simpa using I.len⟩ ⟨_, hs, .inl rfl⟩
    · exact (hs.2 b (Nat.ne_of_lt (Nat.lt_of_lt_of_le (Heap.lt_size e) I.ok.above))).trans (I.base.keep b o e n hb hx)
    · obtain ⟨sl, e1⟩ := I.base.slot b o e n hb hx
      exact ⟨sl, (hs.2 b (Nat.ne_of_lt (Nat.lt_of_lt_of_le (Heap.lt_size e) I.ok.above))).trans e1⟩
    · obtain ⟨o', e1⟩ := I.base.there b o e hx
      exact ⟨o', (hs.2 b (Nat.ne_of_lt (Nat.lt_of_lt_of_le (Heap.lt_size e) I.ok.above))).trans e1⟩
    · by_cases hj : j = i
      · subst hj
        rw [hi] at e1; cases e1
        rw [List.getElem?_set_self hiσ] at e2
        cases e2
        exact ⟨u, r, .inl ⟨hk, by simp⟩⟩
      · rw [List.getElem?_set_ne (Ne.symm hj)] at e2
        obtain ⟨u', r', q⟩ := hl j y v' e1 e2 e3
        refine ⟨u', r', ?_⟩
        rcases q with ⟨k, e⟩ | ⟨k, c, e, z⟩
        · refine .inl ⟨k, ?_⟩
          have : y ≠ x := fun e => hj (nodup_ix hN e1 (e ▸ hi))
          simp [this, e]
        · exact .inr ⟨k, c, e, z.sameBut hs (cne y c e)⟩
    · obtain ⟨w', z⟩ := I.cell y c e
      exact ⟨w', z.sameBut hs (cne y c e)⟩
    · obtain ⟨e, n, ne, nf, d⟩ := I.pin p hp
      exact ⟨(hs.2 p.1 ne).trans e, n, ne, nf, d⟩
  · have hfn : X.fn x = true := by
      rcases hf with z | z
      · exact z
      · rw [z] at hk; cases hk
    obtain ⟨c, hc⟩ := I.ok.has x (.inl hk)
    obtain ⟨w', z⟩ := I.cell x c hc
    refine wpAny_storeName_cell I.ok.kind hk hc z (fun h' hc' hs => ?_)
    obtain ⟨oc, hoc, hocd⟩ := id z
    refine h { s with heap := h' } ⟨I.ok, I.os, I.bare, ⟨fun b o e n hb hx => ?_, fun b o e n hb hx => ?_, I.base.free, fun b o e hx => ?_, I.base.tups, I.base.frzs, I.base.tbls⟩, ⟨m, hn.sameBut hs (Ne.symm (cne x c hc)), fun j y v' e1 e2 e3 => ?_⟩, fun y c' e => ?_, I.free, I.freeC, fun p hp => ?_, tracked ⟨oc, hoc, I.freeC x c hc⟩ hs, by simpa using I.len⟩ ⟨c, hs, .inr hc⟩
    · exact (hs.2 b (Nat.ne_of_lt (Nat.lt_of_lt_of_le (Heap.lt_size e) (I.ok.cab x c hfn hc)))).trans (I.base.keep b o e n hb hx)
    · obtain ⟨sl, e1⟩ := I.base.slot b o e n hb hx
      exact ⟨sl, (hs.2 b (Nat.ne_of_lt (Nat.lt_of_lt_of_le (Heap.lt_size e) (I.ok.cab x c hfn hc)))).trans e1⟩
    · obtain ⟨o', e1⟩ := I.base.there b o e hx
      exact ⟨o', (hs.2 b (Nat.ne_of_lt (Nat.lt_of_lt_of_le (Heap.lt_size e) (I.ok.cab x c hfn hc)))).trans e1⟩
    · by_cases hj : j = i
      · subst hj
        rw [hi] at e1; cases e1
        rw [List.getElem?_set_self hiσ] at e2
        cases e2
        exact ⟨u, r, .inr ⟨.inl hk, c, hc, hc'⟩⟩
      · rw [List.getElem?_set_ne (Ne.symm hj)] at e2
        obtain ⟨u', r', q⟩ := hl j y v' e1 e2 e3
        refine ⟨u', r', ?_⟩
        rcases q with q | ⟨k, c', e, z'⟩
        · exact .inl q
        · refine .inr ⟨k, c', e, z'.sameBut hs ?_⟩
          rintro rfl
          exact hj (nodup_ix hN e1 (I.ok.inj _ _ _ e hc ▸ hi))
    · by_cases hcc : c' = c
      · subst hcc; exact ⟨_, hc'⟩
      · obtain ⟨w2, z2⟩ := I.cell y c' e
        exact ⟨w2, z2.sameBut hs hcc⟩
    · obtain ⟨e, n, ne, nf, d⟩ := I.pin p hp
      refine ⟨(hs.2 p.1 ?_).trans e, n, ne, nf, d⟩
      intro q
      rw [q, hoc] at e
      have q' : oc = p.2 := Option.some.inj e
      exact d w' (by rw [← q']; exact hocd)
theorem store_ok {M : Model} {A : Around} {E : Value → Shared → Prop} {i : Nat} {x : Str} {v : V} {u : Value} {Q : Unit → Shared → Prop} (I : Inv X pins σ H s) (hN : X.N.Nodup) (hi : X.N[i]? = some x) (hx : Loc X.env.scope x) (r : RelV v u)
    (h : ∀ s', Inv X pins (σ.set i (some v)) H s' → Q () s') (hf : X.fn x = true ∨ X.env.scope.names.lookup x = some .local := by first | exact .inl rfl | exact .inr rfl | assumption) : wpAny M A (storeName X.env x u) Q E s :=
  store_ok2 I hN hi hx r (fun s' I' _ => h s' I') hf
end
abbrev XK := Value → Option Addr → Hp → Prop
abbrev St := List (Option V)
abbrev VK := V → Hp → Prop
abbrev TE := St → Hp → VK → Prop
abbrev TT := St → Hp → (Bool → Hp → Prop) → Prop
abbrev TA := St → Hp → (List V → Hp → Prop) → Prop
structure Ends where
  nx : St → Hp → Prop
  rt : VK
  bk : St → Hp → Prop := fun _ _ => False
  ct : St → Hp → Prop := fun _ _ => False
abbrev TS := Ends → St → Hp → Prop
def EP (X : Cx) (pins : List (Addr × Obj)) (σ : St) (Q : VK) (u : Value) (s' : Shared) : Prop := ∃ v H', Inv X pins σ H' s' ∧ RelV v u ∧ Q v H'
def TP (X : Cx) (pins : List (Addr × Obj)) (σ : St) (Q : Bool → Hp → Prop) (b : Bool) (s' : Shared) : Prop := ∃ H', Inv X pins σ H' s' ∧ Q b H'
def AP (X : Cx) (pins : List (Addr × Obj)) (σ : St) (Q : List V → Hp → Prop) (us : List Value) (s' : Shared) : Prop := ∃ vs H', Inv X pins σ H' s' ∧ Vals vs us ∧ Q vs H'
def SP (X : Cx) (pins : List (Addr × Obj)) (D : Ends) (f : Flow) (s' : Shared) : Prop :=
  match f with
  | .next => ∃ σ' H', Inv X pins σ' H' s' ∧ D.nx σ' H'
  | .brk => ∃ σ' H', Inv X pins σ' H' s' ∧ D.bk σ' H'
  | .cont => ∃ σ' H', Inv X pins σ' H' s' ∧ D.ct σ' H'
  | .ret u => ∃ v σ' H', Inv X pins σ' H' s' ∧ RelV v u ∧ D.rt v H'
def PE (X : Cx) (e : Expr) (t : TE) : Prop :=
  ∀ (pins : List (Addr × Obj)) (s : Shared) (σ : St) (H : Hp) (Q : VK), Inv X pins σ H s → t σ H Q → wpAny (model X.prog X.w) X.A (eval e X.env) (EP X pins σ Q) X.xe s
def PT (X : Cx) (e : Expr) (t : TT) : Prop :=
  ∀ (pins : List (Addr × Obj)) (s : Shared) (σ : St) (H : Hp) (Q : Bool → Hp → Prop), Inv X pins σ H s → t σ H Q → wpAny (model X.prog X.w) X.A (isTrue e X.env (eval e X.env)) (TP X pins σ Q) X.xe s
def PW (X : Cx) (e : Expr) (t : TT) : Prop :=
  ∀ (whole : Sem Value) (pins : List (Addr × Obj)) (s : Shared) (σ : St) (H : Hp) (Q : Bool → Hp → Prop), Inv X pins σ H s → t σ H Q → wpAny (model X.prog X.w) X.A (isTrue e X.env whole) (TP X pins σ Q) X.xe s
theorem PW.pt {X : Cx} {e : Expr} {t : TT} (h : PW X e t) : PT X e t := h _
def PA (X : Cx) (es : List Expr) (t : TA) : Prop :=
  ∀ (pos : Pos) (pins : List (Addr × Obj)) (s : Shared) (σ : St) (H : Hp) (Q : List V → Hp → Prop), Inv X pins σ H s → t σ H Q → wpAny (model X.prog X.w) X.A (spliced (backTo pos (starEach es X.env))) (AP X pins σ Q) X.xe s
def PS (X : Cx) (st : Stmt) (t : TS) : Prop :=
  ∀ (pins : List (Addr × Obj)) (s : Shared) (σ : St) (H : Hp) (D : Ends), Inv X pins σ H s → t D σ H → wpAny (model X.prog X.w) X.A (exec st X.env) (SP X pins D) X.xe s
def PSs (X : Cx) (st : List Stmt) (t : TS) : Prop :=
  ∀ (pins : List (Addr × Obj)) (s : Shared) (σ : St) (H : Hp) (D : Ends), Inv X pins σ H s → t D σ H → wpAny (model X.prog X.w) X.A (execs st X.env) (SP X pins D) X.xe s
theorem thn {α : Type} {t : Sem α} {Q Q' : α → Shared → Prop} {M : Model} {A : Around} {E : Value → Shared → Prop} {s : Shared} (h : wpAny M A t Q E s) (hQ : ∀ a s, Q a s → Q' a s) : wpAny M A t Q' E s := wpAny_mono h hQ fun _ _ x => x
end L2
namespace L2
open PySem PySem.Spec PyProof.Rows
section
variable {X : Cx}
def tVar (i : Nat) : TE := fun σ H Q => ∃ v, σ[i]? = some (some v) ∧ Q v H
def tC (v : V) : TE := fun _ H Q => Q v H
theorem pe_var {i : Nat} {x : Str} {pos : Pos} (hN : X.N[i]? = some x) (hv : Vis X.env.scope x) (hd : (x == ("__debug__" : Str)) = false := by decide) (hcd : (x == ("__classdict__" : Str)) = false := by decide) : PE X (.Name x pos) (tVar i) := by
  intro pins s σ H Q I h
  obtain ⟨v, e, h⟩ := h
  obtain ⟨m, hn, hl⟩ := I.loc
  obtain ⟨u, r, l⟩ := hl i x v hN e hv
  have fin : EP X pins σ Q u s := ⟨v, H, I, r, h⟩
  rcases l with ⟨hk, hm⟩ | ⟨hk, c, hc, hcell⟩
  · exact wpAny_Name (wpAny_loadName_local I.ok.kind hk hn hm fin) hd
  · rcases hk with hk | hk
    · exact wpAny_Name (wpAny_loadName_cell I.ok.kind hk hc hcell fin) hd
    · exact wpAny_Name (wpAny_loadName_free I.ok.kind hk hc hcell fin hcd) hd
theorem pe_int {i j pos} : PE X (.Constant (.int i) j pos) (tC (.int i)) := fun _ _ _ H _ I h => wpAny_Constant_int ⟨.int i, H, I.tok _, ⟨_, rfl⟩, h⟩
theorem pe_bl {b j pos} : PE X (.Constant (.bool b) j pos) (tC (.bl b)) := fun _ _ _ H _ I h => Constant_bool ⟨.bl b, H, I, rfl, h⟩
theorem pe_non {j pos} : PE X (.Constant .none j pos) (tC .non) := fun _ _ _ H _ I h => Constant_none ⟨.non, H, I, rfl, h⟩
theorem pe_str {x j pos} : PE X (.Constant (.str x) j pos) (tC (.str x)) := fun _ _ _ H _ I h => Calls.Constant_str ⟨.str x, H, I.tok _, ⟨_, rfl⟩, h⟩
def Gl (X : Cx) (x : Str) : Prop := X.env.kindOf x = some .globalImplicit
theorem ld_glob {E : Value → Shared → Prop} {pins : List (Addr × Obj)} {s : Shared} {σ : St} {H : Hp} {x : Str} {u : Value} {pos : Pos} {Q : Value → Shared → Prop} (I : Inv X pins σ H s) (hg : Gl X x) (hm : X.mg x = some u) (h : Q u s)
    (hd : (x == ("__debug__" : Str)) = false := by decide) : wpAny (model X.prog X.w) X.A (eval (.Name x pos) X.env) Q E s :=
  Calls.Name_function_global I.ok.kind hg (Calls.loadGlobal_global (by rw [I.ok.glob]; exact I.mod.glob.keeps I.bk) hm h) hd
theorem ld_blt {E : Value → Shared → Prop} {pins : List (Addr × Obj)} {s : Shared} {σ : St} {H : Hp} {x : Str} {u : Value} {pos : Pos} {Q : Value → Shared → Prop} (I : Inv X pins σ H s) (hg : Gl X x) (hm : X.mg x = none) (hv : bootBuiltins x = some u) (h : Q u s)
    (hn : x ≠ "__name__" := by decide) (hd : (x == ("__debug__" : Str)) = false := by decide) : wpAny (model X.prog X.w) X.A (eval (.Name x pos) X.env) Q E s := by
  obtain ⟨mb, h1, h2⟩ := I.mod.blt
  exact Calls.Name_function_global I.ok.kind hg (Calls.loadGlobal_builtin (by rw [I.ok.glob]; exact I.mod.glob.keeps I.bk) hm (by rw [I.ok.blt]; exact h1.keeps I.bk) ((h2 x hn).trans hv) h) hd
theorem pe_glob {x : Str} {v : V} {u : Value} {pos : Pos} (hg : Gl X x) (hm : X.mg x = some u) (r : RelV v u) (hd : (x == ("__debug__" : Str)) = false := by decide) : PE X (.Name x pos) (tC v) :=
  fun _ _ _ H _ I h => ld_glob I hg hm ⟨v, H, I, r, h⟩ hd
theorem pe_bltn {x : Str} {v : V} {u : Value} {pos : Pos} (hg : Gl X x) (hm : X.mg x = none) (hv : bootBuiltins x = some u) (r : RelV v u) (hn : x ≠ "__name__" := by decide) (hd : (x == ("__debug__" : Str)) = false := by decide) : PE X (.Name x pos) (tC v) :=
  fun _ _ _ H _ I h => ld_blt I hg hm hv ⟨v, H, I, r, h⟩ hn hd
def t2I (ta tb : TE) (k : Int → Int → Hp → Prop) : St → Hp → Prop := fun σ H => ta σ H fun x H1 => tb σ H1 fun y H2 => ∃ i j, x = .int i ∧ y = .int j ∧ k i j H2
def tAdd (ta tb : TE) : TE := fun σ H Q => t2I ta tb (fun i j H2 => Q (.int (i + j)) H2) σ H
def tSub (ta tb : TE) : TE := fun σ H Q => t2I ta tb (fun i j H2 => Q (.int (i - j)) H2) σ H
def tMul (ta tb : TE) : TE := fun σ H Q => t2I ta tb (fun i j H2 => (-(2 ^ 64) < i ∧ i < 2 ^ 64) ∧ Q (.int (i * j)) H2) σ H
variable {a b : Expr} {ta tb : TE} {pos : Pos}
def PC (X : Cx) (op : CmpOp) (a b : Expr) (t : TE) : Prop :=
  ∀ (pins : List (Addr × Obj)) (s : Shared) (σ : St) (H : Hp) (Q : VK), Inv X pins σ H s → t σ H Q →
    wpAny (model X.prog X.w) X.A (eval a X.env) (fun v s₁ => wpAny (model X.prog X.w) X.A (eval b X.env) (fun u s₂ => wpAny (model X.prog X.w) X.A (compareOp op v u) (EP X pins σ Q) X.xe s₂) X.xe s₁) X.xe s
theorem nobehind (b : Expr) {op : CmpOp} (h : op ≠ .In) (h2 : op ≠ .NotIn) : behindInMarks op b = false := by
  have e1 : (op == CmpOp.In) = false := by cases op <;> first | rfl | exact absurd rfl h
  have e2 : (op == CmpOp.NotIn) = false := by cases op <;> first | rfl | exact absurd rfl h2
  cases b <;> simp [behindInMarks, e1, e2]
def tCmp (p : Int → Int → Bool) (ta tb : TE) : TE := fun σ H Q => t2I ta tb (fun i j H2 => Q (.bl (p i j)) H2) σ H
abbrev tLt : TE → TE → TE := tCmp fun i j => decide (i < j)
abbrev tLe : TE → TE → TE := tCmp fun i j => decide (i ≤ j)
abbrev tGt : TE → TE → TE := tCmp fun i j => decide (j < i)
abbrev tGe : TE → TE → TE := tCmp fun i j => decide (j ≤ i)
abbrev tEqI : TE → TE → TE := tCmp fun i j => decide (i = j)
abbrev tNeI : TE → TE → TE := tCmp fun i j => !decide (i = j)
def tIsN (ta : TE) : TE := fun σ H Q => ta σ H fun x H1 => Q (.bl (decide (x = .non))) H1
def tNotN (ta : TE) : TE := fun σ H Q => ta σ H fun x H1 => Q (.bl (!decide (x = .non))) H1
theorem RelV.none_iff {x : V} {v : Value} (r : RelV x v) : (v == Value.none) = decide (x = .non) := by
  cases x with
  | non => cases r; rfl
  | bl _ => cases r; rfl
  | int _ => obtain ⟨t, rfl⟩ := r; rfl
  | str _ => obtain ⟨t, rfl⟩ := r; rfl
  | byt _ => obtain ⟨t, rfl⟩ := r; rfl
  | flt _ => obtain ⟨t, rfl⟩ := r; rfl
  | ref _ => cases r; rfl
  | ty _ => cases r; rfl
theorem pc_isN {j pos'} (ha : PE X a ta) : PC X .Is a (.Constant .none j pos') (tIsN ta) := by
  intro pins s σ H Q I h
  refine thn (ha pins s σ H _ I h) fun v s1 ⟨x, H1, I1, r1, q1⟩ => ?_
  exact Constant_none (is_none_gen ⟨.bl _, H1, I1, by rw [r1.none_iff]; rfl, q1⟩)
theorem pc_notN {j pos'} (ha : PE X a ta) : PC X .IsNot a (.Constant .none j pos') (tNotN ta) := by
  intro pins s σ H Q I h
  refine thn (ha pins s σ H _ I h) fun v s1 ⟨x, H1, I1, r1, q1⟩ => ?_
  exact Constant_none (isnot_none_gen ⟨.bl _, H1, I1, by rw [r1.none_iff]; rfl, q1⟩)
def tB (t : TE) : TT := fun σ H Q => t σ H fun x H1 => ∃ c, x = .bl c ∧ Q c H1
theorem pt_cmp {op : CmpOp} {t : TE} (h : PC X op a b t) (h1 : behindInMarks op b = false := by first | exact nobehind _ (by decide) (by decide) | rfl) : PT X (.Compare a [op] [b] pos) (tB t) := by
  intro pins s σ H Q I hw
  refine wpAny_isTrue_Compare1 (thn (h pins s σ H _ I hw) fun v s1 h1 => thn h1 fun u s2 h2 => thn h2 fun c s3 ⟨x, H1, I1, r1, q1⟩ => ?_) h1
  obtain ⟨d, rfl, q⟩ := q1
  cases r1
  exact wpAny_truthy_bool ⟨H1, I1, q⟩
theorem pt_val {e : Expr} {t : TE} (h : PE X e t) (he : ∀ whole, isTrue e X.env whole = (do let v ← whole; standAt e.pos; holding [v] (truthy v)) := by intro _; rfl) : PT X e (tB t) := by
  intro pins s σ H Q I hw
  refine isTrue_plain (thn (h pins s σ H _ I hw) fun v s1 ⟨x, H1, I1, r1, q1⟩ => ?_) (he _)
  obtain ⟨d, rfl, q⟩ := q1
  cases r1
  exact wpAny_truthy_bool ⟨H1, I1, q⟩
variable {tA tB' : TT} {rest : List Expr}
def tAnd (t u : TT) : TT := fun σ H Q => t σ H fun c H1 => if c = true then u σ H1 Q else Q false H1
def tOr (t u : TT) : TT := fun σ H Q => t σ H fun c H1 => if c = true then Q true H1 else u σ H1 Q
def tNot (t : TT) : TT := fun σ H Q => t σ H fun c H1 => Q (!c) H1
theorem pw_and1 (ha : PT X a tA) : PW X (.BoolOp .And [a] pos) tA := by
  intro wh pins s σ H Q I h
  refine isTrue_and (thn (ha pins s σ H Q I h) fun c s1 e => ?_)
  cases c with
  | true => exact isTrue_and_nil e
  | false => exact e
theorem pw_or1 (ha : PT X a tA) : PW X (.BoolOp .Or [a] pos) tA := by
  intro wh pins s σ H Q I h
  refine isTrue_or (thn (ha pins s σ H Q I h) fun c s1 e => ?_)
  cases c with
  | false => exact isTrue_or_nil e
  | true => exact e
theorem pw_and (ha : PT X a tA) (hb : PW X (.BoolOp .And (b :: rest) pos) tB') : PW X (.BoolOp .And (a :: b :: rest) pos) (tAnd tA tB') := by
  intro wh pins s σ H Q I h
  refine isTrue_and (thn (ha pins s σ H _ I h) fun c s1 ⟨H1, I1, q1⟩ => ?_)
  cases c with
  | true => exact hb wh pins s1 σ H1 Q I1 q1
  | false => exact ⟨H1, I1, q1⟩
theorem pw_or (ha : PT X a tA) (hb : PW X (.BoolOp .Or (b :: rest) pos) tB') : PW X (.BoolOp .Or (a :: b :: rest) pos) (tOr tA tB') := by
  intro wh pins s σ H Q I h
  refine isTrue_or (thn (ha pins s σ H _ I h) fun c s1 ⟨H1, I1, q1⟩ => ?_)
  cases c with
  | true => exact ⟨H1, I1, q1⟩
  | false => exact hb wh pins s1 σ H1 Q I1 q1
theorem pt_not (ha : PT X a tA) : PT X (.UnaryOp .Not a pos) (tNot tA) := by
  intro pins s σ H Q I h
  exact isTrue_not (ha pins s σ H (fun c H1 => Q (!c) H1) I h)
def tAndV (ta tb : TE) : TE := fun σ H Q => ta σ H fun x H1 => ∃ c, x = .bl c ∧ if c = true then tb σ H1 Q else Q (.bl false) H1
def tOrV (ta tb : TE) : TE := fun σ H Q => ta σ H fun x H1 => ∃ c, x = .bl c ∧ if c = true then Q (.bl true) H1 else tb σ H1 Q
def tNotV (ta : TE) : TE := fun σ H Q => ta σ H fun x H1 => ∃ c, x = .bl c ∧ Q (.bl (!c)) H1
theorem pe_one {op} {t : TE} (h : PE X a t) : PE X (.BoolOp op [a] pos) t := fun pins s σ H Q I hw => BoolOp_one (h pins s σ H Q I hw)
theorem pe_and (ha : PE X a ta) (hb : PE X (.BoolOp .And (b :: rest) pos) tb) : PE X (.BoolOp .And (a :: b :: rest) pos) (tAndV ta tb) := by
  intro pins s σ H Q I h
  refine BoolOp_and (thn (ha pins s σ H _ I h) fun v s1 ⟨x, H1, I1, r1, q1⟩ => ?_)
  obtain ⟨c, rfl, q1⟩ := q1
  cases r1
  refine wpAny_truthy_bool ?_
  cases c with
  | true => exact hb pins s1 σ H1 Q I1 q1
  | false => exact ⟨.bl false, H1, I1, rfl, q1⟩
theorem pe_not (ha : PE X a ta) : PE X (.UnaryOp .Not a pos) (tNotV ta) := by
  intro pins s σ H Q I h
  refine UnaryOp_ (thn (ha pins s σ H _ I h) fun v s1 ⟨x, H1, I1, r1, q1⟩ => ?_)
  obtain ⟨c, rfl, q1⟩ := q1
  cases r1
  exact not_of (wpAny_truthy_bool ⟨.bl (!c), H1, I1, rfl, q1⟩)
def tIf (t : TT) (ta tb : TE) : TE := fun σ H Q => t σ H fun c H1 => if c = true then ta σ H1 Q else tb σ H1 Q
theorem pe_ifExp {c : Expr} (hc : PT X c tA) (ha : PE X a ta) (hb : PE X b tb) : PE X (.IfExp c a b pos) (tIf tA ta tb) := by
  intro pins s σ H Q I h
  refine wpAny_IfExp (thn (hc pins s σ H _ I h) fun d s1 ⟨H1, I1, q1⟩ => ?_)
  cases d with
  | true => exact ha pins s1 σ H1 Q I1 q1
  | false => exact hb pins s1 σ H1 Q I1 q1
end
end L2
namespace L2
open PySem PySem.Spec PyProof.Rows
def SqL (K : PySem.W.Frag) (H : Hp) (a : Addr) (xs : List V) : Prop :=
  Rd H a (.lst xs) ∨
    ∃ (o : Obj) (its : Array Value) (n : Nat), K.lookup a = some o ∧ o.cls = .type "list" ∧ o.dict = none ∧ o.data = .seq its n ∧ its.size ≤ sizeLine ∧ Vals xs its.toList
def SqT (K : PySem.W.Frag) (H : Hp) (a : Addr) (xs : List V) : Prop :=
  Rd H a (.tup xs) ∨
    ∃ (o : Obj) (its : Array Value) (n : Nat), K.lookup a = some o ∧ o.cls = .type "tuple" ∧ o.data = .seq its n ∧ its.size ≤ sizeLine ∧ Vals xs its.toList
def absV : Value → Option V
  | .none => some .non
  | .bool b => some (.bl b)
  | .int i _ => some (.int i)
  | .str x _ => some (.str x)
  | .bytes b _ => some (.byt b)
  | .float b _ => some (.flt b)
  | .ref a => some (.ref a)
  | .type n => some (.ty n)
  | _ => none
theorem RelV.abs {x : V} {u : Value} (r : RelV x u) : absV u = some x := by
  cases x with
  | non => cases r; rfl
  | bl _ => cases r; rfl
  | int _ => obtain ⟨t, rfl⟩ := r; rfl
  | str _ => obtain ⟨t, rfl⟩ := r; rfl
  | byt _ => obtain ⟨t, rfl⟩ := r; rfl
  | flt _ => obtain ⟨t, rfl⟩ := r; rfl
  | ref _ => cases r; rfl
  | ty _ => cases r; rfl
theorem RelV.inj {x y : V} {u : Value} (r : RelV x u) (q : RelV y u) : x = y := Option.some.inj (r.abs.symm.trans q.abs)
theorem Vals.inj : ∀ {xs ys : List V} {us : List Value}, Vals xs us → Vals ys us → xs = ys
  | _, _, _, .nil, .nil => rfl
  | _, _, _, .cons r t, .cons r' t' => by rw [r.inj r', Vals.inj t t']
section
variable {X : Cx} {pins : List (Addr × Obj)} {σ : St} {H : Hp} {s : Shared} {a : Addr} {xs ys : List V}
theorem SqL.of {K : PySem.W.Frag} (h : H a = some (.lst xs)) : SqL K H a xs := .inl (.inl h)
theorem SqT.of {K : PySem.W.Frag} (h : H a = some (.tup xs)) : SqT K H a xs := .inl (.inl h)
theorem Inv.list (I : Inv X pins σ H s) (h : SqL X.K H a xs) : ∃ its : List Value, Vals xs its ∧ PlainL s.heap a its.toArray ∧ xs.length ≤ sizeLine := by
  rcases h with h | ⟨o, its, n, hk, hc, hd, hs, hz, r⟩
  · obtain ⟨z, its, n, r, e⟩ := h.ok I.hok
    exact ⟨its, r, ⟨_, n, e, rfl, rfl, rfl⟩, z⟩
  · refine ⟨its.toList, r, ⟨o, n, I.kIn a o hk, hc, hd, by simpa using hs⟩, ?_⟩
    have e := r.length
    simp only [Array.length_toList] at e
    omega
theorem Inv.tuple (I : Inv X pins σ H s) (h : SqT X.K H a xs) : ∃ its : List Value, Vals xs its ∧ IsTup s.heap a its.toArray ∧ xs.length ≤ sizeLine := by
  rcases h with h | ⟨o, its, n, hk, hc, hs, hz, r⟩
  · obtain ⟨z, its, r, p⟩ := h.ok I.hok
    exact ⟨its, r, p, z⟩
  · refine ⟨its.toList, r, ⟨o, I.kIn a o hk, hc, n, by simpa using hs⟩, ?_⟩
    have e := r.length
    simp only [Array.length_toList] at e
    omega
theorem Inv.list_inj (I : Inv X pins σ H s) (h : SqL X.K H a xs) (h' : SqL X.K H a ys) : xs = ys := by
  obtain ⟨its, r, ⟨o, n, e, _, _, d⟩, _⟩ := I.list h
  obtain ⟨its', r', ⟨o', n', e', _, _, d'⟩, _⟩ := I.list h'
  rw [e] at e'; cases e'
  rw [d] at d'
  injection d' with d1 _
  have : its = its' := by simpa using congrArg Array.toList d1
  subst this
  exact r.inj r'
theorem Inv.tuple_inj (I : Inv X pins σ H s) (h : SqT X.K H a xs) (h' : SqT X.K H a ys) : xs = ys := by
  obtain ⟨its, r, ⟨o, e, _, n, d⟩, _⟩ := I.tuple h
  obtain ⟨its', r', ⟨o', e', _, n', d'⟩, _⟩ := I.tuple h'
  rw [e] at e'; cases e'
  rw [d] at d'
  injection d' with d1 _
  have : its = its' := by simpa using congrArg Array.toList d1
  subst this
  exact r.inj r'
end
abbrev Cx.wish (X : Cx) (E : Value → Shared → Prop) : Cx := { X with xe := E }
abbrev Cx.nox (X : Cx) : Cx := X.wish fun _ _ => False
theorem Cx.Ok.wish {X : Cx} (ok : X.Ok) (E : Value → Shared → Prop) : (X.wish E).Ok :=
  ⟨ok.mod, ok.kind, ok.glob, ok.blt, ok.above, ok.inj, ok.has, ok.cab, ok.hd, ok.frames, ok.stk, ok.exf, ok.bs, ok.bsz, ok.noex, ok.exfs, ok.funs, ok.frf⟩
theorem Cx.Ok.unwish {X : Cx} {E : Value → Shared → Prop} (ok : (X.wish E).Ok) : X.Ok :=
  ⟨ok.mod, ok.kind, ok.glob, ok.blt, ok.above, ok.inj, ok.has, ok.cab, ok.hd, ok.frames, ok.stk, ok.exf, ok.bs, ok.bsz, ok.noex, ok.exfs, ok.funs, ok.frf⟩
section
variable {X : Cx} {pins : List (Addr × Obj)} {σ : St} {H : Hp} {s : Shared} {E : Value → Shared → Prop}
theorem Inv.wish (I : Inv X pins σ H s) (E : Value → Shared → Prop) : Inv (X.wish E) pins σ H s := ⟨I.ok.wish E, I.os, I.bare, I.base, I.loc, I.cell, I.free, I.freeC, I.pin, I.hok, I.len⟩
theorem Inv.unwish (I : Inv (X.wish E) pins σ H s) : Inv X pins σ H s := ⟨I.ok.unwish, I.os, I.bare, I.base, I.loc, I.cell, I.free, I.freeC, I.pin, I.hok, I.len⟩
theorem SP.unwish {D : Ends} {f : Flow} {s' : Shared} (h : SP (X.wish E) pins D f s') : SP X pins D f s' := by
  cases f with
  | next => obtain ⟨σ', H', I, q⟩ := h; exact ⟨σ', H', I.unwish, q⟩
  | brk => obtain ⟨σ', H', I, q⟩ := h; exact ⟨σ', H', I.unwish, q⟩
  | cont => obtain ⟨σ', H', I, q⟩ := h; exact ⟨σ', H', I.unwish, q⟩
  | ret u => obtain ⟨v, σ', H', I, r, q⟩ := h; exact ⟨v, σ', H', I.unwish, r, q⟩
theorem PE.nox {e : Expr} {t : TE} (h : PE X.nox e t) : PE X e t := fun pins s σ H Q I hw =>
  wpAny_mono (h pins s σ H Q (I.wish _) hw) (fun _ _ ⟨v, H', I', r, q⟩ => ⟨v, H', I'.unwish, r, q⟩) fun _ _ z => False.elim z
theorem PT.nox {e : Expr} {t : TT} (h : PT X.nox e t) : PT X e t := fun pins s σ H Q I hw =>
  wpAny_mono (h pins s σ H Q (I.wish _) hw) (fun _ _ ⟨H', I', q⟩ => ⟨H', I'.unwish, q⟩) fun _ _ z => False.elim z
theorem PSs.nox {st : List Stmt} {t : TS} (h : PSs X.nox st t) : PSs X st t := fun pins s σ H D I hw =>
  wpAny_mono (h pins s σ H D (I.wish _) hw) (fun _ _ q => q.unwish) fun _ _ z => False.elim z
end
section
variable {X : Cx} {st : Stmt} {rest : List Stmt} {t u : TS} {e : Expr} {te : TE} {pos : Pos}
def tNext : TS := fun D σ H => D.nx σ H
def tSeq (t u : TS) : TS := fun D σ H => t { D with nx := u D } σ H
theorem pss_nil : PSs X [] tNext := fun _ _ σ H _ I h => wpAny_execs_nil ⟨σ, H, I, h⟩
theorem pss_cons (h1 : PS X st t) (h2 : PSs X rest u) : PSs X (st :: rest) (tSeq t u) := by
  intro pins s σ H D I h
  refine wpAny_execs_cons (thn (h1 pins s σ H { D with nx := u D } I h) fun f s1 q => ?_)
  cases f with
  | next =>
    obtain ⟨σ', H', I', q⟩ := q
    exact h2 pins s1 σ' H' D I' q
  | ret v => exact q
  | brk => exact q
  | cont => exact q
theorem pss_one (h1 : PS X st t) : PSs X [st] t := by
  intro pins s σ H D I h
  refine wpAny_execs_cons (thn (h1 pins s σ H D I h) fun f s1 q => ?_)
  cases f with
  | next => exact wpAny_execs_nil q
  | ret v => exact q
  | brk => exact q
  | cont => exact q
def tBreak : TS := fun D σ H => D.bk σ H
def tCont : TS := fun D σ H => D.ct σ H
theorem Inv.quiet {pins : List (Addr × Obj)} {σ : St} {H : Hp} {s : Shared} (I : Inv X pins σ H s) : interactive X.env = false := by simp [interactive, I.ok.kind]
def tDrop (te : TE) : TS := fun D σ H => te σ H fun _ H1 => D.nx σ H1
theorem ps_expr (he : PE X e te) (hs : swapsWith e none pos.line X.env = pure false := by rfl) : PS X (.Expr e pos) (tDrop te) := by
  intro pins s σ H D I h
  exact wpAny_Expr_any (thn (he pins s σ H _ I h) fun v s1 ⟨x, H1, I1, r1, q1⟩ => ⟨σ, H1, I1, q1⟩) I.quiet hs
def tRet (te : TE) : TS := fun D σ H => te σ H D.rt
theorem ps_ret (he : PE X e te) : PS X (.Return (some e) pos) (tRet te) := by
  intro pins s σ H D I h
  exact wpAny_Return_some (thn (he pins s σ H _ I h) fun v s1 ⟨x, H1, I1, r1, q1⟩ => ⟨x, σ, H1, I1, r1, q1⟩)
def tRetN : TS := fun D _ H => D.rt .non H
def tIfS (c : TT) (t u : TS) : TS := fun D σ H => c σ H fun b H1 => if b = true then t D σ H1 else u D σ H1
theorem ps_if {c : Expr} {a b : List Stmt} {tc : TT} (hc : PT X c tc) (ha : PSs X a t) (hb : PSs X b u) : PS X (.If c a b pos) (tIfS tc t u) := by
  intro pins s σ H D I h
  refine wpAny_If (thn (hc pins s σ H _ I h) fun d s1 ⟨H1, I1, q1⟩ => ?_)
  cases d with
  | true => exact ha pins s1 σ H1 D I1 q1
  | false => exact hb pins s1 σ H1 D I1 q1
def tNever : TS := fun _ _ _ => False
theorem ps_never : PS X st tNever := fun _ _ _ _ _ _ h => h.elim
end
abbrev TG := V → St → Hp → (St → Hp → Prop) → Prop
abbrev TGs := List V → St → Hp → (St → Hp → Prop) → Prop
def PG (X : Cx) (target : Expr) (t : TG) : Prop :=
  ∀ (pins : List (Addr × Obj)) (s : Shared) (σ : St) (H : Hp) (v : V) (u : Value) (Q : St → Hp → Prop), Inv X pins σ H s → RelV v u → t v σ H Q →
    wpAny (model X.prog X.w) X.A (assign target X.env u) (fun _ s' => ∃ σ' H', Inv X pins σ' H' s' ∧ Q σ' H') X.xe s
def PGs (X : Cx) (ts : List Expr) (t : TGs) : Prop :=
  ∀ (pins : List (Addr × Obj)) (s : Shared) (σ : St) (H : Hp) (vs : List V) (us : List Value) (Q : St → Hp → Prop), Inv X pins σ H s → Vals vs us → t vs σ H Q →
    wpAny (model X.prog X.w) X.A (assignInOrder ((assignEach ts X.env).map (·.2)) us) (fun _ s' => ∃ σ' H', Inv X pins σ' H' s' ∧ Q σ' H') X.xe s
abbrev TSet := V → V → V → Hp → (Hp → Prop) → Prop
def PSet (X : Cx) (t : TSet) : Prop :=
  ∀ (pins : List (Addr × Obj)) (s : Shared) (σ : St) (H : Hp) (o i v : V) (ov iv u : Value) (Q : Hp → Prop), Inv X pins σ H s → RelV o ov → RelV i iv → RelV v u → t o i v H Q →
    wpAny (model X.prog X.w) X.A (setItem ov iv u) (fun _ s' => ∃ H', Inv X pins σ H' s' ∧ Q H') X.xe s
abbrev TIp := V → V → Hp → VK → Prop
def PIp (X : Cx) (op : Operator) (t : TIp) : Prop :=
  ∀ (pins : List (Addr × Obj)) (s : Shared) (σ : St) (H : Hp) (x y : V) (v u : Value) (Q : VK), Inv X pins σ H s → RelV x v → RelV y u → t x y H Q →
    wpAny (model X.prog X.w) X.A (inplaceOp op v u) (EP X pins σ Q) X.xe s
section
variable {X : Cx} {pos : Pos}
def gName (i : Nat) : TG := fun v σ H Q => Q (σ.set i (some v)) H
theorem pg_name {i : Nat} {x : Str} (hN : X.N.Nodup) (hi : X.N[i]? = some x) (hx : Loc X.env.scope x) (hf : X.fn x = true ∨ X.env.scope.names.lookup x = some .local := by first | exact .inl rfl | exact .inr rfl | assumption) : PG X (.Name x pos) (gName i) := by
  intro pins s σ H v u Q I r h
  exact wpAny_assign_Name (store_ok I hN hi hx r (fun s' I' => ⟨_, H, I', h⟩) hf)
def gNil : TGs := fun vs σ H Q => vs = [] ∧ Q σ H
def gCons (t : TG) (u : TGs) : TGs := fun vs σ H Q => ∃ v r, vs = v :: r ∧ t v σ H fun σ' H' => u r σ' H' Q
theorem pgs_nil : PGs X [] gNil := by
  intro pins s σ H vs us Q I r h
  obtain ⟨e, h⟩ := h
  subst e
  cases r
  exact assignInOrder_nil ⟨σ, H, I, h⟩
theorem pgs_cons {e : Expr} {es : List Expr} {t : TG} {u : TGs} (h1 : PG X e t) (h2 : PGs X es u)
    (hs : (assignEach (e :: es) X.env).map (·.2) = assign e X.env :: (assignEach es X.env).map (·.2) := by rfl) : PGs X (e :: es) (gCons t u) := by
  intro pins s σ H vs us Q I r h
  obtain ⟨v, vr, e1, h⟩ := h
  subst e1
  cases r with
  | cons r rr =>
    rw [hs]
    refine assignInOrder_cons (thn (h1 pins s σ H _ _ _ I r h) fun _ s1 ⟨σ1, H1, I1, q1⟩ => ?_)
    exact h2 pins s1 σ1 H1 _ _ Q I1 rr q1
def gTup (K : PySem.W.Frag) (n : Nat) (t : TGs) : TG := fun v σ H Q => ∃ a xs, v = .ref a ∧ SqT K H a xs ∧ xs.length = n ∧ t xs σ H Q
theorem pg_tup {es : List Expr} {k : Nat} {t : TGs} {n : Nat} (hc : X.calm = true) (h : PGs X es t)
    (hn : (assignEach es X.env).length = n := by rfl) (hst : (assignEach es X.env).findIdx? (·.1) = none := by rfl) : PG X (.Tuple es k pos) (gTup X.K n t) := by
  intro pins s σ H v u Q I r hw
  obtain ⟨a, xs, e1, hq, hl, hw⟩ := hw
  subst e1
  cases r
  obtain ⟨its, rv, ht, hz⟩ := I.tuple hq
  refine assign_Tuple_tuple (I.ok.hd hc) ht (by simp [hn, ← hl, rv.length]) hst fun h' hx => ?_
  have I1 : Inv X pins σ H { s with heap := h' } := I.kept (t' := s.toks) fun b o e => hx b o (Nat.ne_of_lt (Heap.lt_size e)) e
  exact h pins _ σ H xs _ Q I1 (by simpa using rv) hw
def gSub (to ti : TE) (t : TSet) : TG := fun v σ H Q => to σ H fun o H1 => ti σ H1 fun i H2 => t o i v H2 fun H3 => Q σ H3
theorem pg_sub {o i : Expr} {to ti : TE} {t : TSet} (ho : PE X o to) (hi : PE X i ti) (hs : PSet X t)
    (ha : ∀ v, assign (.Subscript o i pos) X.env v = (do
      let ov ← holding [v] (eval o X.env)
      let iv ← holding [v, ov] (eval i X.env)
      standAt pos
      holding [v, ov, iv] (setItem ov iv v)
      release [v, ov, iv] []) := by intro _; rfl) : PG X (.Subscript o i pos) (gSub to ti t) := by
  intro pins s σ H v u Q I r h
  rw [ha]
  refine wpAny_bind (wpAny_holding (thn (ho pins s σ H _ I h) fun ov s1 ⟨x, H1, I1, r1, q1⟩ => ?_))
  refine wpAny_bind (wpAny_holding (thn (hi pins s1 σ H1 _ I1 q1) fun iv s2 ⟨y, H2, I2, r2, q2⟩ => ?_))
  refine wpAny_bind (wpAny_standAt (wpAny_bind (wpAny_holding (thn (hs pins s2 σ H2 x y v ov iv u _ I2 r1 r2 r q2) fun _ s3 ⟨H3, I3, q3⟩ => ?_))))
  exact wpAny_release ⟨σ, H3, I3, q3⟩
def tAsg (te : TE) (g : TG) : TS := fun D σ H => te σ H fun x H1 => g x σ H1 D.nx
theorem ps_asg {tg e : Expr} {te : TE} {g : TG} (he : PE X e te) (hg : PG X tg g) (hs : swapsWithSole [tg] e pos.line X.env = pure false := by rfl) (hw : swappedStores [tg] e X.env = pure none := by rfl)
    (h1 : (assignEach [tg] X.env).map (·.2) = [assign tg X.env] := by rfl) : PS X (.Assign [tg] e pos) (tAsg te g) := by
  intro pins s σ H D I h
  refine wpAny_Assign_stores (thn (he pins s σ H _ I h) fun v s1 ⟨x, H1, I1, r1, q1⟩ => ?_) hs hw
  rw [h1]
  exact thn (hg pins s1 σ H1 x v _ I1 r1 q1) fun _ s2 q => q
theorem ps_set {i : Nat} {x : Str} {e : Expr} {te : TE} {pos' : Pos} (hN : X.N.Nodup) (hi : X.N[i]? = some x) (hx : Loc X.env.scope x) (he : PE X e te) (hs : swapsWith e (some (.Name x pos')) pos.line X.env = pure false := by rfl) (hf : X.fn x = true ∨ X.env.scope.names.lookup x = some .local := by first | exact .inl rfl | exact .inr rfl | assumption) :
    PS X (.Assign [.Name x pos'] e pos) (tAsg te (gName i)) := by
  intro pins s σ H D I h
  refine wpAny_Assign_Name (thn (he pins s σ H _ I h) fun v s1 ⟨y, H1, I1, r1, q1⟩ => ?_) hs
  exact store_ok I1 hN hi hx r1 (fun s2 I2 => ⟨_, H1, I2, q1⟩) hf
def tPar (i j : Nat) (ta : TA) : TS := fun D σ H => ta σ H fun vs H1 => ∃ v w, vs = [v, w] ∧ D.nx ((σ.set i (some v)).set j (some w)) H1
theorem ps_par {i j : Nat} {x y : Str} {a b : Expr} {ta : TA} {px py pt : Pos} {kt k2 pt2} (hc : X.calm = true) (hN : X.N.Nodup) (hi : X.N[i]? = some x) (hj : X.N[j]? = some y) (hij : i ≠ j)
    (hx : X.env.scope.names.lookup x = some .local) (hy : X.env.scope.names.lookup y = some .local) (ha : PA X [a, b] ta)
    (hw : swappedStores [.Tuple [.Name x px, .Name y py] kt pt] (.Tuple [a, b] k2 pt2) X.env = pure (some [x, y]))
    (hs : swapsWithSole [.Tuple [.Name x px, .Name y py] kt pt] (.Tuple [a, b] k2 pt2) pos.line X.env = pure false := by rfl) :
    PS X (.Assign [.Tuple [.Name x px, .Name y py] kt pt] (.Tuple [a, b] k2 pt2) pos) (tPar i j ta) := by
  intro pins s σ H D I h
  rw [exec_Assign_arm]
  refine wpAny_bind (wpAny_standAt ?_)
  rw [hs]
  refine wpAny_bind (wpAny_pure ?_)
  rw [if_neg (by decide)]
  refine wpAny_bind (Tuple_ (thn (ha _ pins s σ H _ I h) fun us s1 ⟨vs, H1, I1, r1, q1⟩ => ?_))
  obtain ⟨v, w, e1, q1⟩ := q1
  subst e1
  obtain ⟨u1, u2, rfl, rv, rw'⟩ : ∃ u1 u2, us = [u1, u2] ∧ RelV v u1 ∧ RelV w u2 := by
    cases r1 with
    | cons p q =>
      cases q with
      | cons p' q' =>
        cases q'
        exact ⟨_, _, rfl, p, p'⟩
  refine wpAny_newObj_type ?_ (by show 2 ≤ sizeLine; decide)
  have I2 : Inv X pins σ H1 { s1 with heap := s1.heap.push { cls := .type "tuple", data := .seq [u1, u2].toArray } } := I1.kept (t' := s1.toks) fun b o e => Heap.get?_push_of_some _ e
  rw [hw]
  refine wpAny_bind (wpAny_pure ?_)
  show wpAny (model X.prog X.w) X.A (do rule "assign.swapped-stores"; let items ← unpackItems (.ref s1.heap.objs.size) 2 none; assignInOrder [fun v => bindName X.env y v, fun v => bindName X.env x v] items.reverse; pure Flow.next) _ _ _
  refine wpAny_bind (wpAny_rule (wpAny_bind (unpackItems_tuple (items := #[u1, u2]) (I.ok.hd hc) (IsTup.new s1.heap _) fun h' hx' => ?_)))
  have I3 := I2.kept (h' := h') (t' := s1.toks) fun b o e => hx' b o (Nat.ne_of_lt (Heap.lt_size e)) e
  show wpAny _ _ (assignInOrder [fun v => bindName X.env y v, fun v => bindName X.env x v] [u2, u1] >>= fun _ => pure Flow.next) _ _ _
  refine wpAny_bind (assignInOrder_cons (wpAny_bindName (store_ok I3 hN hj (.inl hy) rw' (fun s2 I4 => ?_) (.inr hy))))
  refine assignInOrder_cons (wpAny_bindName (store_ok I4 hN hi (.inl hx) rv (fun s3 I5 => assignInOrder_nil (wpAny_pure ?_)) (.inr hx)))
  rw [List.set_comm _ _ (Ne.symm hij)] at I5
  exact ⟨_, H1, I5, q1⟩
def tAug (i : Nat) (te : TE) (ti : TIp) : TS := fun D σ H => ∃ x, σ[i]? = some (some x) ∧ te σ H fun y H1 => ti x y H1 fun z H2 => D.nx (σ.set i (some z)) H2
theorem ps_aug {i : Nat} {x : Str} {e : Expr} {te : TE} {op : Operator} {ti : TIp} {pos' : Pos} (hN : X.N.Nodup) (hi : X.N[i]? = some x) (hx : Loc X.env.scope x) (he : PE X e te) (ho : PIp X op ti) (hf : X.fn x = true ∨ X.env.scope.names.lookup x = some .local := by first | exact .inl rfl | exact .inr rfl | assumption) :
    PS X (.AugAssign (.Name x pos') op e pos) (tAug i te ti) := by
  intro pins s σ H D I h
  obtain ⟨v, e1, h⟩ := h
  obtain ⟨m, hn, hl⟩ := I.loc
  have vis : Vis X.env.scope x := by rcases hx with k | k; exact .inl k; exact .inr (.inl k)
  obtain ⟨u, r, l⟩ := hl i x v hi e1 vis
  refine wpAny_AugAssign_Name ?_
  have go : wpAny (model X.prog X.w) X.A (eval e X.env) (fun w s₂ => wpAny (model X.prog X.w) X.A (inplaceOp op u w) (fun r s₃ => wpAny (model X.prog X.w) X.A (storeName X.env x r) (fun _ => SP X pins D .next) X.xe s₃) X.xe s₂) X.xe s := by
    refine thn (he pins s σ H _ I h) fun w s1 ⟨y, H1, I1, r1, q1⟩ => ?_
    refine thn (ho pins s1 σ H1 v y u w _ I1 r r1 q1) fun z s2 ⟨zv, H2, I2, r2, q2⟩ => ?_
    exact store_ok I2 hN hi hx r2 (fun s3 I3 => ⟨_, H2, I3, q2⟩) hf
  rcases l with ⟨hk, hm⟩ | ⟨hk, c, hc, hcell⟩
  · exact wpAny_loadName_local I.ok.kind hk hn hm go
  · rcases hk with hk | hk
    · exact wpAny_loadName_cell I.ok.kind hk hc hcell go
    · rcases hx with k | k
      · have : X.env.scope.names.lookup x = some .free := hk
        rw [k] at this; cases this
      · have : X.env.scope.names.lookup x = some .free := hk
        rw [k] at this; cases this
def tAugS (to ti te : TE) (tget : V → V → Hp → VK → Prop) (tip : TIp) (tset : TSet) : TS := fun D σ H => to σ H fun o H1 => ti σ H1 fun i H2 => tget o i H2 fun x H3 => te σ H3 fun y H4 => tip x y H4 fun z H5 => tset o i z H5 fun H6 => D.nx σ H6
def PGet (X : Cx) (t : V → V → Hp → VK → Prop) : Prop :=
  ∀ (pins : List (Addr × Obj)) (s : Shared) (σ : St) (H : Hp) (o i : V) (ov iv : Value) (Q : VK), Inv X pins σ H s → RelV o ov → RelV i iv → t o i H Q →
    wpAny (model X.prog X.w) X.A (getItem ov iv) (EP X pins σ Q) X.xe s
def ipI (f : Int → Int → Int) : TIp := fun x y H Q => ∃ i j, x = .int i ∧ y = .int j ∧ Q (.int (f i j)) H
theorem ip_add : PIp X .Add (ipI fun i j => i + j) := by
  intro pins s σ H x y v u Q I r1 r2 h
  obtain ⟨i, j, e1, e2, q⟩ := h
  subst e1; subst e2
  obtain ⟨t, rfl⟩ := r1
  obtain ⟨t', rfl⟩ := r2
  exact iadd_int ⟨.int _, H, I.tok _, ⟨_, rfl⟩, q⟩
end
section
variable {X : Cx} {pos : Pos}
def tWhile (c : TT) (tb : TS) : TS := fun D σ H => ∃ W : Nat → St → Hp → Prop, (∃ m, W m σ H) ∧ ∀ m σ H, W m σ H →
  c σ H fun b H1 => if b = true then ∃ N : St → Hp → Prop, (∀ σ' H', N σ' H' → ∃ m', m' < m ∧ W m' σ' H') ∧ tb { D with nx := N, ct := N, bk := D.nx } σ H1 else D.nx σ H1
theorem ps_while {c : Expr} {body : List Stmt} {tc : TT} {tb : TS} (hp : PassesOwn (model X.prog X.w) X.A X.env X.xe) (hc : PT X c tc) (hb : PSs X body tb) : PS X (.While c body [] pos) (tWhile tc tb) := by
  intro pins s σ H D I h
  obtain ⟨W, ⟨m0, w0⟩, turn⟩ := h
  refine wpAny_While (codeAny_whileLoop (fun n s' => ∃ σ' H', Inv X pins σ' H' s' ∧ W n σ' H') ?_ m0 ⟨σ, H, I, w0⟩)
  rintro n s1 ⟨σ1, H1, I1, w1⟩
  refine wpAny_passesOwn hp (thn (hc pins s1 σ1 H1 _ I1 (turn n σ1 H1 w1)) fun b s2 ⟨H2, I2, q2⟩ => ?_)
  cases b with
  | true =>
    obtain ⟨N, hN, q2⟩ := q2
    rw [if_pos rfl]
    refine wpAny_passesOwn hp (thn (hb pins s2 σ1 H2 _ I2 q2) fun f s3 q3 => ?_)
    cases f with
    | next =>
      obtain ⟨σ3, H3, I3, n3⟩ := q3
      obtain ⟨m', hm, w3⟩ := hN σ3 H3 n3
      exact ⟨m', hm, σ3, H3, I3, w3⟩
    | cont =>
      obtain ⟨σ3, H3, I3, n3⟩ := q3
      obtain ⟨m', hm, w3⟩ := hN σ3 H3 n3
      exact ⟨m', hm, σ3, H3, I3, w3⟩
    | brk => exact q3
    | ret v => exact q3
  | false =>
    rw [if_neg Bool.false_ne_true]
    exact wpAny_execs_nil ⟨σ1, H2, I2, q2⟩
end
structure It where
  go : Nat → Hp → Prop
  yld : Nat → Hp → V → Hp → Prop
  stop : Nat → Hp → Prop
def FpOk (X : Cx) (pins : List (Addr × Obj)) (H : Hp) (b : Addr) : Prop :=
  H b = none ∧ b ≠ X.env.locals ∧ b ∉ X.fs ∧ (b ∈ X.ex ∨ X.s₀.heap.objs.size ≤ b) ∧ (∀ x c, X.env.cells.lookup x = some c → c ≠ b) ∧ ∀ p ∈ X.pn ++ pins, p.1 ≠ b
theorem Inv.fpOk {X : Cx} {pins : List (Addr × Obj)} {σ : St} {H H' : Hp} {s : Shared} {b : Addr} (I : Inv X pins σ H s) (hb : s.heap.objs.size ≤ b) (hn : H' b = none) : FpOk X pins H' b := by
  refine ⟨hn, Nat.ne_of_gt (Nat.lt_of_lt_of_le I.lt hb), I.nofs hb, .inr (Nat.le_trans I.sz hb), fun x c e z => ?_, fun p hp z => ?_⟩
  · obtain ⟨v, q⟩ := I.cell x c e
    exact absurd (Nat.lt_of_lt_of_le q.lt (by rw [z]; exact hb)) (Nat.lt_irrefl _)
  · exact absurd (Nat.lt_of_lt_of_le (Heap.lt_size (I.pin p hp).1) (by rw [z]; exact hb)) (Nat.lt_irrefl _)
structure Turn (P : Program) (w : World) (K : PySem.W.Frag) (tg : Expr) (J : It) (fp : List Addr) (it : Addr) (tn : Nat → Heap → Prop) : Prop where
  mem : it ∈ fp
  obj : ∀ i h, tn i h → ∀ b ∈ fp, ∃ o, h.get? b = some o ∧ ∀ v, o.data ≠ .cell v
  keep : ∀ i h h', tn i h → (∀ b ∈ fp, ∀ o, h.get? b = some o → h'.get? b = some o) → tn i h'
  item : ∀ (X : Cx), X.prog = P → X.w = w → X.K = K → X.calm = true → ∀ (i : Nat) (pins : List (Addr × Obj)) (s : Shared) (σ : St) (H : Hp) (E : Value → Shared → Prop), Inv X pins σ H s → (∀ b ∈ fp, FpOk X pins H b) → tn i s.heap → J.go i H →
    wpAny (model P w) X.A (pyNext (.ref it)) (fun r s1 => ∃ u, r = some u ∧
      wpAny (model P w) X.A (letOwnedTupleGo tg (.ref it) u) (fun _ s2 => ∃ x H', Inv X pins σ H' s2 ∧ RelV x u ∧ J.yld i H x H' ∧ tn (i + 1) s2.heap ∧ ∀ b ∈ fp, H' b = none) E s1) E s
  done : ∀ (X : Cx), X.prog = P → X.w = w → X.K = K → X.calm = true → ∀ (i : Nat) (pins : List (Addr × Obj)) (s : Shared) (σ : St) (H : Hp) (E : Value → Shared → Prop), Inv X pins σ H s → (∀ b ∈ fp, FpOk X pins H b) → tn i s.heap → J.stop i H →
    wpAny (model P w) X.A (pyNext (.ref it)) (fun r s1 => r = none ∧ Inv X pins σ H s1) E s
  self : ∀ (A : Around) (i : Nat) (s : Shared) (Q : Value → Shared → Prop) (E : Value → Shared → Prop), tn i s.heap → Q (.ref it) s → wpAny (model P w) A (pyIter (.ref it)) Q E s
abbrev TI := St → Hp → (It → Hp → Prop) → Prop
def PIE (X : Cx) (pins : List (Addr × Obj)) (σ : St) (tg : Expr) (R : It → Hp → Prop) (itv : Value) (s2 : Shared) : Prop :=
  ∃ (it : Addr) (fp : List Addr) (tn : Nat → Heap → Prop) (J : It) (H' : Hp), itv = .ref it ∧ Inv X pins σ H' s2 ∧ Turn X.prog X.w X.K tg J fp it tn ∧ tn 0 s2.heap ∧ (∀ b ∈ fp, FpOk X pins H' b) ∧ R J H'
def PI (X : Cx) (tg iter : Expr) (wi : TI) : Prop :=
  ∀ (pins : List (Addr × Obj)) (s : Shared) (σ : St) (H : Hp) (R : It → Hp → Prop), Inv X pins σ H s → wi σ H R →
    wpAny (model X.prog X.w) X.A (eval iter X.env) (fun v s1 => wpAny (model X.prog X.w) X.A (pyIter v) (PIE X pins σ tg R) X.xe s1) X.xe s
theorem go_of {M : Model} {A : Around} {E : Value → Shared → Prop} {s : Shared} {tg : Expr} {it : Addr} {u : Value} {o : Obj} {n : String} {vs : Array Value} {Q : Unit → Shared → Prop} (ho : s.heap.get? it = some o) (hc : o.cls = .type n) (hd : o.data = .fields vs)
    (hn : ["enumerate", "zip", "dict_itemiterator", "dict_reverseitemiterator", "odict_iterator", "itertools.zip_longest", "itertools.pairwise"].contains n = false) (hQ : Q () s) : wpAny M A (letOwnedTupleGo tg (.ref it) u) Q E s := by
  unfold letOwnedTupleGo
  cases tg <;> first
    | exact wpAny_pure hQ
    | (cases u <;> first
        | exact wpAny_pure hQ
        | (refine wpAny_bind (wpAny_load ho ?_)
           rw [hc, hd]
           show wpAny M A (if (["enumerate", "zip", "dict_itemiterator", "dict_reverseitemiterator", "odict_iterator", "itertools.zip_longest", "itertools.pairwise"].contains n && vs[0]? == some (rawInt _)) = true then _ else _) Q E s
           rw [if_neg (by intro h; rw [hn, Bool.false_and] at h; cases h)]
           exact wpAny_pure hQ))
def Itl (K : PySem.W.Frag) (a : Addr) : It :=
  ⟨fun i H => ∃ xs x, SqL K H a xs ∧ xs[i]? = some x, fun i H x H' => H' = H ∧ ∀ xs, SqL K H a xs → xs[i]? = some x, fun i H => ∃ xs, SqL K H a xs ∧ xs.length ≤ i⟩
def Itt (K : PySem.W.Frag) (a : Addr) : It :=
  ⟨fun i H => ∃ xs x, SqT K H a xs ∧ xs[i]? = some x, fun i H x H' => H' = H ∧ ∀ xs, SqT K H a xs → xs[i]? = some x, fun i H => ∃ xs, SqT K H a xs ∧ xs.length ≤ i⟩
def Itr (lo : Int) (n : Nat) : It := ⟨fun i _ => i < n, fun i H x H' => H' = H ∧ x = .int (lo + i), fun i _ => n ≤ i⟩
theorem turn_list {P : Program} {w : World} {K : PySem.W.Frag} {tg : Expr} (a it : Addr) : Turn P w K tg (Itl K a) [it] it (fun i h => h.IsListIter it a i) where
  mem := by simp
  obj := fun i h st b hb => by
    have e : b = it := by simpa using hb
    subst e
    obtain ⟨o, e, c, d⟩ := st
    exact ⟨o, e, fun v z => by rw [d] at z; cases z⟩
  keep := fun i h h' st k => st.at fun o e => k it (by simp) o e
  item := by
    intro X hP hw hK hc i pins s σ H E I hf st hg
    subst hP hw hK
    obtain ⟨xs, x, hq, hx⟩ := hg
    obtain ⟨its, rv, p, hz⟩ := I.list hq
    obtain ⟨u, hu, ru⟩ := rv.get hx
    obtain ⟨f0, f1, f2, f3, f4, f5⟩ := hf it (by simp)
    refine wpAny_pyNext_list_item st p.isList (x := u) (by simpa using hu) fun h' st' sb => ?_
    have I1 : Inv X pins σ H { s with heap := h' } := I.turned (t' := s.toks) (fun b o hb e => (sb.2 b hb).trans e) f0 f1 f3 f4 f5
    obtain ⟨o, e, c, d⟩ := id st'
    exact ⟨u, rfl, go_of (s := { s with heap := h' }) e c d (by decide) ⟨x, H, I1, ru, ⟨rfl, fun ys hy => by rw [I.list_inj hy hq]; exact hx⟩, st', fun b hb => (hf b hb).1⟩⟩
  done := by
    intro X hP hw hK hc i pins s σ H E I hf st hg
    subst hP hw hK
    obtain ⟨xs, hq, hx⟩ := hg
    obtain ⟨its, rv, p, hz⟩ := I.list hq
    obtain ⟨f0, f1, f2, f3, f4, f5⟩ := hf it (by simp)
    have hl := rv.length
    exact wpAny_pyNext_list_end (I.ok.hd hc) st p.isList (by simp; omega) fun h' eb => ⟨rfl, I.turned (t' := s.toks) (fun b o hb e => eb b o hb e) f0 f1 f3 f4 f5⟩
  self := fun _ _ _ _ _ st h => wpAny_pyIter_listiter st h
theorem turn_range {P : Program} {w : World} {K : PySem.W.Frag} {tg : Expr} (it : Addr) (lo : Int) (n : Nat) : Turn P w K tg (Itr lo n) [it] it (fun i h => IsRangeIter h it (lo + (i : Nat) * 1) ((n : Int) - (i : Nat)) 1) where
  mem := by simp
  obj := fun i h st b hb => by
    have e : b = it := by simpa using hb
    subst e
    exact ⟨_, st, fun v z => by
      have z' : Data.fields _ = Data.cell v := z
      cases z'⟩
  keep := fun i h h' st k => k it (by simp) _ st
  item := by
    intro X hP hw hK hc i pins s σ H E I hf st hg
    subst hP hw hK
    obtain ⟨f0, f1, f2, f3, f4, f5⟩ := hf it (by simp)
    have W := Walks.range (prog := X.prog) (w := X.w) (I.ok.hd hc) it lo 1 n
    refine W.item i s _ _ hg st fun v h' tk hv st' kk => ?_
    obtain ⟨t, rfl⟩ := hv
    have I1 : Inv X pins σ H { s with heap := h', toks := tk } := I.turned (fun b o hb e => kk b o (by simpa using hb) e) f0 f1 f3 f4 f5
    refine ⟨_, rfl, go_of (s := { s with heap := h', toks := tk }) (n := "range_iterator") st' rfl rfl (by decide) ⟨.int (lo + i), H, I1, ⟨t, ?_⟩, ⟨rfl, rfl⟩, st', fun b hb => (hf b hb).1⟩⟩
    rw [Int.mul_one]
  done := by
    intro X hP hw hK hc i pins s σ H E I hf st hg
    subst hP hw hK
    obtain ⟨f0, f1, f2, f3, f4, f5⟩ := hf it (by simp)
    exact wpAny_pyNext_range_end (I.ok.hd hc) st (by have : n ≤ i := hg; omega) fun h' eb => ⟨rfl, I.turned (t' := s.toks) (fun b o hb e => eb b o hb e) f0 f1 f3 f4 f5⟩
  self := fun _ _ _ _ _ st h => wpAny_pyIter_rangeiter st h
end L2
namespace L2
open PySem PySem.Spec PyProof.Rows
section
variable {X : Cx} {tg : Expr}
def iList (K : PySem.W.Frag) (tl : TE) : TI := fun σ H R => tl σ H fun x H1 => ∃ a, x = .ref a ∧ (∃ xs, SqL K H1 a xs) ∧ R (Itl K a) H1
def iTup (K : PySem.W.Frag) (tl : TE) : TI := fun σ H R => tl σ H fun x H1 => ∃ a, x = .ref a ∧ (∃ xs, SqT K H1 a xs) ∧ R (Itt K a) H1
theorem pi_list {l : Expr} {tl : TE} (hl : PE X l tl) : PI X tg l (iList X.K tl) := by
  intro pins s σ H R I h
  refine thn (hl pins s σ H _ I h) fun v s1 ⟨x, H1, I1, r1, q1⟩ => ?_
  obtain ⟨a, e, ⟨xs, hq⟩, q⟩ := q1
  subst e
  cases r1
  obtain ⟨its, rv, p, hz⟩ := I1.list hq
  refine wpAny_pyIter_list p.isList ?_
  refine ⟨s1.heap.objs.size, [s1.heap.objs.size], _, _, H1, rfl, I1.kept (t' := s1.toks) fun b o e => Heap.get?_push_of_some _ e, turn_list a _, ⟨_, Heap.get?_push_size _ rfl, rfl, rfl⟩, fun b hb => ?_, q⟩
  have e : b = s1.heap.objs.size := by simpa using hb
  subst e
  exact I1.fpOk (Nat.le_refl _) (I1.hok.fresh (Nat.le_refl _))
theorem range_it {pins : List (Addr × Obj)} {σ : St} {H : Hp} {s : Shared} {R : It → Hp → Prop} {E : Value → Shared → Prop} {lo hi : Int} {t u v : Tok} {tk : Nat} (I : Inv X pins σ H s) (h1 : -(2 ^ 62) ≤ lo) (h2 : lo < 2 ^ 62) (h3 : -(2 ^ 62) ≤ hi) (h4 : hi < 2 ^ 62)
    (q : R (Itr lo (hi - lo).toNat) H) : wpAny (model X.prog X.w) X.A (pyIter (.ref s.heap.objs.size)) (PIE X pins σ tg R) E { s with heap := s.heap.push { cls := .type "range", data := .fields #[.int lo t, .int hi u, .int 1 v] }, toks := tk } := by
  refine wpAny_pyIter_range (IsRange.new ..) (small_one h1 h2 h3 h4) ?_
  have I1 : Inv X pins σ H { s with heap := s.heap.push { cls := .type "range", data := .fields #[.int lo t, .int hi u, .int 1 v] }, toks := tk } := I.kept fun b o e => Heap.get?_push_of_some _ e
  refine ⟨(s.heap.push { cls := .type "range", data := .fields #[.int lo t, .int hi u, .int 1 v] }).objs.size, [(s.heap.push { cls := .type "range", data := .fields #[.int lo t, .int hi u, .int 1 v] }).objs.size], _, _, H, rfl,
    I1.kept (t' := tk) fun b o e => Heap.get?_push_of_some _ e, turn_range _ lo (hi - lo).toNat, ?_, fun b hb => ?_, q⟩
  · have e1 : lo + ((0 : Nat) : Int) * 1 = lo := by simp
    have e2 : (((hi - lo).toNat : Nat) : Int) - ((0 : Nat) : Int) = Builtin.Range.rangeSize lo hi 1 := by rw [rangeSize_one]; split <;> omega
    show IsRangeIter _ _ (lo + ((0 : Nat) : Int) * 1) ((((hi - lo).toNat : Nat) : Int) - ((0 : Nat) : Int)) 1
    rw [e1, e2]
    exact Heap.get?_push_size _ rfl
  · have e : b = (s.heap.push { cls := .type "range", data := .fields #[.int lo t, .int hi u, .int 1 v] }).objs.size := by simpa using hb
    subst e
    exact I1.fpOk (Nat.le_refl _) (I1.hok.fresh (Nat.le_refl _))
def iRng1 (ta : TA) : TI := fun σ H R => ta σ H fun vs H1 => ∃ j : Int, vs = [.int j] ∧ -(2 ^ 62) ≤ j ∧ j < 2 ^ 62 ∧ R (Itr 0 j.toNat) H1
def iRng2 (ta : TA) : TI := fun σ H R => ta σ H fun vs H1 => ∃ i j : Int, vs = [.int i, .int j] ∧ (-(2 ^ 62) ≤ i ∧ i < 2 ^ 62 ∧ -(2 ^ 62) ≤ j ∧ j < 2 ^ 62) ∧ R (Itr i (j - i).toNat) H1
theorem pi_range1 {a : Expr} {ta : TA} {p pos : Pos} (hg : Gl X "range") (hm : X.mg "range" = none) (ha : PA X [a] ta) (hs : starEach [a] X.env = [(false, eval a X.env)] := by rfl) : PI X tg (.Call (.Name "range" p) [a] [] pos) (iRng1 ta) := by
  intro pins s σ H R I h
  refine Call_ (ld_blt I hg hm boot_range (PyProof.Rows.callWith_type1 (thn (ha pos pins s σ H _ I h) fun us s1 ⟨vs, H1, I1, r1, q1⟩ => ?_) hs rfl))
  obtain ⟨j, e, q1, q2, q⟩ := q1
  subst e
  cases r1 with
  | cons r rr =>
    cases rr
    obtain ⟨t, rfl⟩ := r
    exact call_range_1 (range_it I1 (by omega) (by omega) q1 q2 (by simpa using q))
def tFor (wi : TI) (g : TG) (tb : TS) : TS := fun D σ H => wi σ H fun J H1 => ∃ W : Nat → Nat → St → Hp → Prop, (∃ m, W 0 m σ H1) ∧ ∀ i m σ H, W i m σ H →
  (J.stop i H ∧ D.nx σ H) ∨ (J.go i H ∧ ∃ N : St → Hp → Prop, (∀ σ' H', N σ' H' → ∃ m', m' < m ∧ W (i + 1) m' σ' H') ∧ ∀ x H', J.yld i H x H' → g x σ H' fun σ2 H2 => tb { D with nx := N, ct := N, bk := D.nx } σ2 H2)
def pinsAt (fp : List Addr) (h : Heap) : List (Addr × Obj) := fp.filterMap fun b => (h.get? b).map fun o => (b, o)
theorem mem_pinsAt {fp : List Addr} {h : Heap} {b : Addr} {o : Obj} (hb : b ∈ fp) (e : h.get? b = some o) : (b, o) ∈ pinsAt fp h := List.mem_filterMap.mpr ⟨b, hb, by rw [e]; rfl⟩
theorem of_pinsAt {fp : List Addr} {h : Heap} {p : Addr × Obj} (hp : p ∈ pinsAt fp h) : p.1 ∈ fp ∧ h.get? p.1 = some p.2 := by
  obtain ⟨b, hb, e⟩ := List.mem_filterMap.mp hp
  cases q : h.get? b with
  | none => rw [q] at e; cases e
  | some o =>
    rw [q] at e
    have e' : (b, o) = p := Option.some.inj e
    subst e'
    exact ⟨hb, q⟩
theorem Inv.pinned {pins : List (Addr × Obj)} {σ : St} {H : Hp} {s : Shared} {fp : List Addr} (I : Inv X pins σ H s) (hf : ∀ b ∈ fp, FpOk X pins H b) (ho : ∀ b ∈ fp, ∃ o, s.heap.get? b = some o ∧ ∀ v, o.data ≠ .cell v) : Inv X (pins ++ pinsAt fp s.heap) σ H s :=
  I.pins_of fun p hp => (List.mem_append.mp hp).elim (fun z => I.pin p (List.mem_append_right _ z)) fun z => by
    obtain ⟨hb, e⟩ := of_pinsAt z
    obtain ⟨f0, f1, f2, _⟩ := hf p.1 hb
    obtain ⟨o, e', d⟩ := ho p.1 hb
    rw [e] at e'; cases e'
    exact ⟨e, f0, f1, f2, d⟩
theorem Inv.unpinned {pins pl : List (Addr × Obj)} {σ : St} {H : Hp} {s : Shared} (I : Inv X (pins ++ pl) σ H s) : Inv X pins σ H s := I.pins_of fun p hp => I.pin p (List.mem_append_right _ (List.mem_append_left _ hp))
theorem ps_for {iter : Expr} {body : List Stmt} {wi : TI} {g : TG} {tb : TS} {pos : Pos} (hp : PassesOwn (model X.prog X.w) X.A X.env X.xe) (hc : X.calm = true) (hi : PI X tg iter wi) (hg : PG X tg g) (hb : PSs X body tb)
    (hs : ∀ x, foldedSetIterable iter X.env x = pure x := by intro _; rfl) : PS X (.For tg iter body [] pos) (tFor wi g tb) := by
  intro pins s σ H D I h
  refine wpAny_For (thn (hi pins s σ H _ I h) fun v s1 h1 => thn h1 fun itv s2 h2 => ?_) hs
  obtain ⟨it, fp, tn, J, H2, e, I2, T, st2, f2, W, ⟨m0, w0⟩, turn⟩ := h2
  subst e
  have stat : ∀ {H' : Hp}, (∀ b ∈ fp, H' b = none) → ∀ b ∈ fp, FpOk X pins H' b := fun hn b hb => ⟨hn b hb, (f2 b hb).2⟩
  refine codeAny_forLoop_any (fun n s' => ∃ i σ' H', Inv X pins σ' H' s' ∧ tn i s'.heap ∧ (∀ b ∈ fp, H' b = none) ∧ W i n σ' H') ?_ m0 ⟨0, σ, H2, I2, st2, fun b hb => (f2 b hb).1, w0⟩
  rintro n s3 ⟨i, σ3, H3, I3, st3, fr3, w3⟩
  rcases turn i n σ3 H3 w3 with ⟨stop, qn⟩ | ⟨go, N, hN, step⟩
  · refine wpAny_passesOwn hp (thn (T.done X rfl rfl rfl hc i pins s3 σ3 H3 X.xe I3 (stat fr3) st3 stop) fun r s4 ⟨hr, I4⟩ => ?_)
    subst hr
    exact wpAny_execs_nil ⟨σ3, H3, I4, qn⟩
  · refine wpAny_passesOwn hp (thn (T.item X rfl rfl rfl hc i pins s3 σ3 H3 X.xe I3 (stat fr3) st3 go) fun r s4 ⟨u, hr, h4⟩ => ?_)
    subst hr
    refine wpAny_passesOwn hp (thn h4 fun _ s5 ⟨x, H5, I5, r5, y5, st5, fr5⟩ => ?_)
    have I5' := I5.pinned (stat fr5) (T.obj _ _ st5)
    refine wpAny_passesOwn hp (thn (hg _ s5 σ3 H5 x u _ I5' r5 (step x H5 y5)) fun _ s6 ⟨σ6, H6, I6, q6⟩ => ?_)
    refine wpAny_passesOwn hp (thn (hb _ s6 σ6 H6 _ I6 q6) fun f s7 q7 => ?_)
    have again : ∀ {σ7 : St} {H7 : Hp}, Inv X (pins ++ pinsAt fp s5.heap) σ7 H7 s7 → N σ7 H7 → ∃ m, m < n ∧ ∃ i σ' H', Inv X pins σ' H' s7 ∧ tn i s7.heap ∧ (∀ b ∈ fp, H' b = none) ∧ W i m σ' H' := fun {σ7 H7} I7 n7 => by
      obtain ⟨m', hm, w7⟩ := hN σ7 H7 n7
      refine ⟨m', hm, i + 1, σ7, H7, I7.unpinned, T.keep _ _ _ st5 fun b hb o e => (I7.pin (b, o) (List.mem_append_right _ (List.mem_append_right _ (mem_pinsAt hb e)))).1, fun b hb => ?_, w7⟩
      obtain ⟨o, e, d⟩ := T.obj _ _ st5 b hb
      exact (I7.pin (b, o) (List.mem_append_right _ (List.mem_append_right _ (mem_pinsAt hb e)))).2.1
    cases f with
    | next => obtain ⟨σ7, H7, I7, n7⟩ := q7; exact again I7 n7
    | cont => obtain ⟨σ7, H7, I7, n7⟩ := q7; exact again I7 n7
    | brk => obtain ⟨σ7, H7, I7, q7⟩ := q7; exact ⟨σ7, H7, I7.unpinned, q7⟩
    | ret v => obtain ⟨x7, σ7, H7, I7, r7, q7⟩ := q7; exact ⟨x7, σ7, H7, I7.unpinned, r7, q7⟩
end
theorem for_list {K : PySem.W.Frag} {a : Addr} {xs : List V} {g : TG} {tb : TS} {D : Ends} {σ : St} {H : Hp} (Pv : Nat → St → Hp → Prop) (h0 : Pv 0 σ H) (hl : ∀ i σ H, i ≤ xs.length → Pv i σ H → SqL K H a xs)
    (hs : ∀ i x σ H, xs[i]? = some x → Pv i σ H → g x σ H fun σ2 H2 => tb { D with nx := Pv (i + 1), ct := Pv (i + 1), bk := D.nx } σ2 H2) (hd : ∀ σ H, Pv xs.length σ H → D.nx σ H) :
    ∃ W : Nat → Nat → St → Hp → Prop, (∃ m, W 0 m σ H) ∧ ∀ i m σ H, W i m σ H →
      ((Itl K a).stop i H ∧ D.nx σ H) ∨ ((Itl K a).go i H ∧ ∃ N : St → Hp → Prop, (∀ σ' H', N σ' H' → ∃ m', m' < m ∧ W (i + 1) m' σ' H') ∧ ∀ x H', (Itl K a).yld i H x H' → g x σ H' fun σ2 H2 => tb { D with nx := N, ct := N, bk := D.nx } σ2 H2) := by
  refine ⟨fun i m σ H => m = xs.length - i ∧ i ≤ xs.length ∧ Pv i σ H, ⟨xs.length, by simp, Nat.zero_le _, h0⟩, ?_⟩
  rintro i m σ H ⟨rfl, hi, p⟩
  have q := hl i σ H hi p
  by_cases hlt : i < xs.length
  · refine .inr ⟨⟨xs, xs[i], q, by simp [hlt]⟩, Pv (i + 1), fun σ' H' p' => ⟨xs.length - (i + 1), by omega, rfl, hlt, p'⟩, fun x H' y => ?_⟩
    obtain ⟨e, y⟩ := y
    subst e
    exact hs i x σ _ (y xs q) p
  · have e : i = xs.length := by omega
    subst e
    exact .inl ⟨⟨xs, q, Nat.le_refl _⟩, hd σ H p⟩
theorem for_range {lo : Int} {n : Nat} {g : TG} {tb : TS} {D : Ends} {σ : St} {H : Hp} (Pv : Nat → St → Hp → Prop) (h0 : Pv 0 σ H)
    (hs : ∀ i σ H, i < n → Pv i σ H → g (.int (lo + i)) σ H fun σ2 H2 => tb { D with nx := Pv (i + 1), ct := Pv (i + 1), bk := D.nx } σ2 H2) (hd : ∀ σ H, Pv n σ H → D.nx σ H) :
    ∃ W : Nat → Nat → St → Hp → Prop, (∃ m, W 0 m σ H) ∧ ∀ i m σ H, W i m σ H →
      ((Itr lo n).stop i H ∧ D.nx σ H) ∨ ((Itr lo n).go i H ∧ ∃ N : St → Hp → Prop, (∀ σ' H', N σ' H' → ∃ m', m' < m ∧ W (i + 1) m' σ' H') ∧ ∀ x H', (Itr lo n).yld i H x H' → g x σ H' fun σ2 H2 => tb { D with nx := N, ct := N, bk := D.nx } σ2 H2) := by
  refine ⟨fun i m σ H => m = n - i ∧ i ≤ n ∧ Pv i σ H, ⟨n, by simp, Nat.zero_le _, h0⟩, ?_⟩
  rintro i m σ H ⟨rfl, hi, p⟩
  by_cases hlt : i < n
  · refine .inr ⟨hlt, Pv (i + 1), fun σ' H' p' => ⟨n - (i + 1), by omega, rfl, hlt, p'⟩, fun x H' y => ?_⟩
    obtain ⟨e, y⟩ := y
    subst e y
    exact hs i σ _ hlt p
  · have e : i = n := by omega
    subst e
    exact .inl ⟨Nat.le_refl _, hd σ H p⟩
end L2
namespace L2
open PySem PySem.Spec PyProof.Rows
abbrev R2 := V → V → Hp → VK → Prop
def OpR (X : Cx) (f : Value → Value → Sem Value) (r : R2) : Prop :=
  ∀ (pins : List (Addr × Obj)) (s : Shared) (σ : St) (H : Hp) (x y : V) (v u : Value) (Q : VK), Inv X pins σ H s → RelV x v → RelV y u → r x y H Q →
    wpAny (model X.prog X.w) X.A (f v u) (EP X pins σ Q) X.xe s
def UnR (X : Cx) (f : Value → Sem Value) (r : V → Hp → VK → Prop) : Prop :=
  ∀ (pins : List (Addr × Obj)) (s : Shared) (σ : St) (H : Hp) (x : V) (v : Value) (Q : VK), Inv X pins σ H s → RelV x v → r x H Q →
    wpAny (model X.prog X.w) X.A (f v) (EP X pins σ Q) X.xe s
def CallR (X : Cx) (f : Value) (r : List V → Hp → VK → Prop) : Prop :=
  ∀ (pins : List (Addr × Obj)) (s : Shared) (σ : St) (H : Hp) (xs : List V) (us : List Value) (Q : VK), Inv X pins σ H s → Vals xs us → r xs H Q →
    wpAny (model X.prog X.w) X.A (call f us) (EP X pins σ Q) X.xe s
def TruR (X : Cx) (r : V → Hp → (Bool → Hp → Prop) → Prop) : Prop :=
  ∀ (pins : List (Addr × Obj)) (s : Shared) (σ : St) (H : Hp) (x : V) (v : Value) (Q : Bool → Hp → Prop), Inv X pins σ H s → RelV x v → r x H Q →
    wpAny (model X.prog X.w) X.A (truthy v) (TP X pins σ Q) X.xe s
def tOp (r : R2) (ta tb : TE) : TE := fun σ H Q => ta σ H fun x H1 => tb σ H1 fun y H2 => r x y H2 Q
def tUn (r : V → Hp → VK → Prop) (ta : TE) : TE := fun σ H Q => ta σ H fun x H1 => r x H1 Q
def rI (C : Int → Int → Prop) (g : Int → Int → V) : R2 := fun x y H Q => ∃ i j, x = .int i ∧ y = .int j ∧ C i j ∧ Q (g i j) H
def rI0 (g : Int → Int → V) : R2 := fun x y H Q => ∃ i j, x = .int i ∧ y = .int j ∧ Q (g i j) H
def rU (g : Int → V) : V → Hp → VK → Prop := fun x H Q => ∃ i, x = .int i ∧ Q (g i) H
section
variable {X : Cx} {a b c : Expr} {ta tb tc : TE} {pos : Pos}
theorem binT (ha : PE X a ta) (hb : PE X b tb) {pins : List (Addr × Obj)} {s : Shared} {σ : St} {H : Hp} {R : V → V → Hp → Prop} (I : Inv X pins σ H s)
    (h : ta σ H fun x H1 => tb σ H1 fun y H2 => R x y H2) {Q : Value → Shared → Prop} {f : Value → Value → Sem Value}
    (hf : ∀ v u s2 x y H2, Inv X pins σ H2 s2 → RelV x v → RelV y u → R x y H2 → wpAny (model X.prog X.w) X.A (f v u) Q X.xe s2) :
    wpAny (model X.prog X.w) X.A (eval a X.env) (fun v s₁ => wpAny (model X.prog X.w) X.A (eval b X.env) (fun u s₂ => wpAny (model X.prog X.w) X.A (f v u) Q X.xe s₂) X.xe s₁) X.xe s := by
  refine thn (ha pins s σ H _ I h) fun v s1 ⟨x, H1, I1, r1, q1⟩ => ?_
  refine thn (hb pins s1 σ H1 _ I1 q1) fun u s2 ⟨y, H2, I2, r2, q2⟩ => ?_
  exact hf v u s2 x y H2 I2 r1 r2 q2
theorem pe_op {op : Operator} {r : R2} (ho : OpR X (binaryOp op) r) (ha : PE X a ta) (hb : PE X b tb) : PE X (.BinOp a op b pos) (tOp r ta tb) := by
  intro pins s σ H Q I h
  exact wpAny_BinOp (binT ha hb I h fun v u s2 x y H2 I2 rx ry q => ho pins s2 σ H2 x y v u Q I2 rx ry q)
theorem pe_un {op : UnaryOp} {r : V → Hp → VK → Prop} (ho : UnR X (unaryOp op) r) (ha : PE X a ta) : PE X (.UnaryOp op a pos) (tUn r ta) := by
  intro pins s σ H Q I h
  exact UnaryOp_ (thn (ha pins s σ H _ I h) fun v s1 ⟨x, H1, I1, r1, q1⟩ => ho pins s1 σ H1 x v Q I1 r1 q1)
theorem opI {f : Value → Value → Sem Value} {C : Int → Int → Prop} {g : Int → Int → Int}
    (rule : ∀ (i j : Int) (t u : Tok) (s : Shared) (Q : Value → Shared → Prop) (E : Value → Shared → Prop), C i j → Q (.int (g i j) s.toks) { s with toks := s.toks + 1 } → wpAny (model X.prog X.w) X.A (f (.int i t) (.int j u)) Q E s) :
    OpR X f (rI C fun i j => .int (g i j)) := by
  intro pins s σ H x y v u Q I rx ry h
  obtain ⟨i, j, rfl, rfl, hc, q⟩ := h
  obtain ⟨t, rfl⟩ := rx
  obtain ⟨t', rfl⟩ := ry
  exact rule i j t t' s _ _ hc ⟨.int (g i j), H, I.tok _, ⟨_, rfl⟩, q⟩
theorem opI0 {f : Value → Value → Sem Value} {g : Int → Int → Int}
    (rule : ∀ (i j : Int) (t u : Tok) (s : Shared) (Q : Value → Shared → Prop) (E : Value → Shared → Prop), Q (.int (g i j) s.toks) { s with toks := s.toks + 1 } → wpAny (model X.prog X.w) X.A (f (.int i t) (.int j u)) Q E s) :
    OpR X f (rI0 fun i j => .int (g i j)) := by
  intro pins s σ H x y v u Q I rx ry h
  obtain ⟨i, j, rfl, rfl, q⟩ := h
  obtain ⟨t, rfl⟩ := rx
  obtain ⟨t', rfl⟩ := ry
  exact rule i j t t' s _ _ ⟨.int (g i j), H, I.tok _, ⟨_, rfl⟩, q⟩
theorem opB0 {f : Value → Value → Sem Value} {g : Int → Int → Bool}
    (rule : ∀ (i j : Int) (t u : Tok) (s : Shared) (Q : Value → Shared → Prop) (E : Value → Shared → Prop), Q (.bool (g i j)) s → wpAny (model X.prog X.w) X.A (f (.int i t) (.int j u)) Q E s) :
    OpR X f (rI0 fun i j => .bl (g i j)) := by
  intro pins s σ H x y v u Q I rx ry h
  obtain ⟨i, j, rfl, rfl, q⟩ := h
  obtain ⟨t, rfl⟩ := rx
  obtain ⟨t', rfl⟩ := ry
  exact rule i j t t' s _ _ ⟨.bl (g i j), H, I, rfl, q⟩
def CDiv (i j : Int) : Prop := 0 < j ∧ j < 1073741824
def CDivN (i j : Int) : Prop := j ≠ 0 ∧ j.natAbs < 1073741824
def CPow (i j : Int) : Prop := 0 ≤ j ∧ j ≤ 1000000 ∧ i.natAbs < 2 ^ 64
def CMul (i j : Int) : Prop := (-(2 ^ 64) < i ∧ i < 2 ^ 64) ∨ (-(2 ^ 64) < j ∧ j < 2 ^ 64)
theorem CMul.ok {i j : Int} (h : CMul i j) : IntMulOk i j := by
  rcases h with ⟨h1, h2⟩ | ⟨h1, h2⟩
  · exact .of_left (intBits_le_64 h1 h2)
  · exact .of_right (intBits_le_64 h1 h2)
theorem op_add : OpR X (binaryOp .Add) (rI0 fun i j => .int (i + j)) := opI0 fun _ _ _ _ _ _ _ q => add_int q
theorem op_sub : OpR X (binaryOp .Sub) (rI0 fun i j => .int (i - j)) := opI0 fun _ _ _ _ _ _ _ q => sub_int q
theorem op_mod : OpR X (binaryOp .Mod) (rI (fun _ j => 0 < j) fun i j => .int (i % j)) := opI fun i j _ _ _ _ _ hc q => by
  have h1 : (0 : Int) < j := hc
  exact mod_int' (by omega) (by rw [Int.fmod_eq_emod_of_nonneg i (by omega)]; exact q)
theorem op_pow : OpR X (binaryOp .Pow) (rI CPow fun i j => .int (i ^ j.toNat)) := opI fun _ _ _ _ _ _ _ hc q => pow_int_small hc.1 hc.2.1 hc.2.2 q
theorem unI {f : Value → Sem Value} {g : Int → Int}
    (rule : ∀ (i : Int) (t : Tok) (s : Shared) (Q : Value → Shared → Prop) (E : Value → Shared → Prop), Q (.int (g i) s.toks) { s with toks := s.toks + 1 } → wpAny (model X.prog X.w) X.A (f (.int i t)) Q E s) :
    UnR X f (rU fun i => .int (g i)) := by
  intro pins s σ H x v Q I rx h
  obtain ⟨i, rfl, q⟩ := h
  obtain ⟨t, rfl⟩ := rx
  exact rule i t s _ _ ⟨.int (g i), H, I.tok _, ⟨_, rfl⟩, q⟩
theorem un_neg : UnR X (unaryOp .USub) (rU fun i => .int (-i)) := unI fun _ _ _ _ _ q => neg_int q
end
def scal : V → V → Bool
  | .non, .non => true | .non, .int _ => true | .int _, .non => true | .non, .bl _ => true | .bl _, .non => true | .non, .str _ => true | .str _, .non => true
  | .int _, .int _ => true | .bl _, .bl _ => true | .str _, .str _ => true | .byt _, .byt _ => true
  | .int _, .str _ => true | .str _, .int _ => true | .bl _, .str _ => true | .str _, .bl _ => true
  | _, _ => false
def rEq : R2 := fun x y H Q => scal x y = true ∧ Q (.bl (decide (x = y))) H
def rNe : R2 := fun x y H Q => scal x y = true ∧ Q (.bl (!decide (x = y))) H
theorem dec_int {i j : Int} : decide (V.int i = V.int j) = (i == j) := by
  rw [Bool.eq_iff_iff]
  simp
theorem dec_bl {i j : Bool} : decide (V.bl i = V.bl j) = (i == j) := by
  rw [Bool.eq_iff_iff]
  simp
theorem dec_str {i j : Str} : decide (V.str i = V.str j) = (i == j) := by
  rw [Bool.eq_iff_iff]
  simp
theorem dec_byt {i j : Array UInt8} : decide (V.byt i = V.byt j) = (i.toList == j.toList) := by
  rw [Bool.eq_iff_iff]
  cases i
  cases j
  simp
section
variable {X : Cx} {a b c : Expr} {ta tb tc : TE} {pos : Pos}
theorem fin_bl {pins : List (Addr × Obj)} {σ : St} {H : Hp} {s : Shared} {Q : VK} {k k' : Bool} (I : Inv X pins σ H s) (q : Q (.bl k) H) (e : k = k') : EP X pins σ Q (.bool k') s := by
  subst e
  exact ⟨.bl k, H, I, rfl, q⟩
theorem op_eq : OpR X (compareOp .Eq) rEq := by
  intro pins s σ H x y v u Q I rx ry h
  obtain ⟨hs, q⟩ := h
  cases x with
  | non =>
    cases rx
    cases y with
    | non => cases ry; exact PySem.EqNone.eq_none_none (fin_bl I q (by simp))
    | bl j => cases ry; exact PySem.EqNone.eq_none_bool (fin_bl I q (by simp))
    | int j => obtain ⟨t', rfl⟩ := ry; exact PySem.EqNone.eq_none_int (fin_bl I q (by simp))
    | str j => obtain ⟨t', rfl⟩ := ry; exact PySem.EqNone.eq_none_str (fin_bl I q (by simp))
    | _ => exact absurd (show false = true from hs) Bool.false_ne_true
  | bl i =>
    cases rx
    cases y with
    | non => cases ry; exact PySem.EqNone.eq_bool_none (fin_bl I q (by simp))
    | bl j => cases ry; exact eq_bool (fin_bl I q dec_bl)
    | str j => obtain ⟨t', rfl⟩ := ry; exact PySem.EqMixed.eq_bool_str (fin_bl I q (by simp))
    | _ => exact absurd (show false = true from hs) Bool.false_ne_true
  | int i =>
    obtain ⟨t, rfl⟩ := rx
    cases y with
    | non => cases ry; exact PySem.EqNone.eq_int_none (fin_bl I q (by simp))
    | int j => obtain ⟨t', rfl⟩ := ry; exact eq_int (fin_bl I q dec_int)
    | str j => obtain ⟨t', rfl⟩ := ry; exact PySem.EqMixed.eq_int_str (fin_bl I q (by simp))
    | _ => exact absurd (show false = true from hs) Bool.false_ne_true
  | str i =>
    obtain ⟨t, rfl⟩ := rx
    cases y with
    | non => cases ry; exact PySem.EqNone.eq_str_none (fin_bl I q (by simp))
    | bl j => cases ry; exact PySem.EqMixed.eq_str_bool (fin_bl I q (by simp))
    | int j => obtain ⟨t', rfl⟩ := ry; exact PySem.EqMixed.eq_str_int (fin_bl I q (by simp))
    | str j => obtain ⟨t', rfl⟩ := ry; exact eq_str (fin_bl I q dec_str)
    | _ => exact absurd (show false = true from hs) Bool.false_ne_true
  | byt i =>
    obtain ⟨t, rfl⟩ := rx
    cases y with
    | byt j => obtain ⟨t', rfl⟩ := ry; exact PySem.W.eq_bytes (fin_bl I q dec_byt)
    | _ => exact absurd (show false = true from hs) Bool.false_ne_true
  | _ => cases y <;> exact absurd (show false = true from hs) Bool.false_ne_true
theorem op_ne : OpR X (compareOp .NotEq) rNe := by
  intro pins s σ H x y v u Q I rx ry h
  obtain ⟨hs, q⟩ := h
  cases x with
  | non =>
    cases rx
    cases y with
    | non => cases ry; exact PySem.EqNone.ne_none_none (fin_bl I q (by simp))
    | bl j => cases ry; exact PySem.EqNone.ne_none_bool (fin_bl I q (by simp))
    | int j => obtain ⟨t', rfl⟩ := ry; exact PySem.EqNone.ne_none_int (fin_bl I q (by simp))
    | str j => obtain ⟨t', rfl⟩ := ry; exact PySem.EqNone.ne_none_str (fin_bl I q (by simp))
    | _ => exact absurd (show false = true from hs) Bool.false_ne_true
  | bl i =>
    cases rx
    cases y with
    | non => cases ry; exact PySem.EqNone.ne_bool_none (fin_bl I q (by simp))
    | bl j => cases ry; exact ne_bool (fin_bl I q (congrArg not dec_bl))
    | str j => obtain ⟨t', rfl⟩ := ry; exact PySem.EqMixed.ne_bool_str (fin_bl I q (by simp))
    | _ => exact absurd (show false = true from hs) Bool.false_ne_true
  | int i =>
    obtain ⟨t, rfl⟩ := rx
    cases y with
    | non => cases ry; exact PySem.EqNone.ne_int_none (fin_bl I q (by simp))
    | int j => obtain ⟨t', rfl⟩ := ry; exact ne_int (fin_bl I q (congrArg not dec_int))
    | str j => obtain ⟨t', rfl⟩ := ry; exact PySem.EqMixed.ne_int_str (fin_bl I q (by simp))
    | _ => exact absurd (show false = true from hs) Bool.false_ne_true
  | str i =>
    obtain ⟨t, rfl⟩ := rx
    cases y with
    | non => cases ry; exact PySem.EqNone.ne_str_none (fin_bl I q (by simp))
    | bl j => cases ry; exact PySem.EqMixed.ne_str_bool (fin_bl I q (by simp))
    | int j => obtain ⟨t', rfl⟩ := ry; exact PySem.EqMixed.ne_str_int (fin_bl I q (by simp))
    | str j => obtain ⟨t', rfl⟩ := ry; exact ne_str (fin_bl I q (congrArg not dec_str))
    | _ => exact absurd (show false = true from hs) Bool.false_ne_true
  | byt i =>
    obtain ⟨t, rfl⟩ := rx
    cases y with
    | byt j => obtain ⟨t', rfl⟩ := ry; exact PySem.W.ne_bytes (fin_bl I q (congrArg not dec_byt))
    | _ => exact absurd (show false = true from hs) Bool.false_ne_true
  | _ => cases y <;> exact absurd (show false = true from hs) Bool.false_ne_true
theorem op_lt : OpR X (compareOp .Lt) (rI0 fun i j => .bl (decide (i < j))) := opB0 fun _ _ _ _ _ _ _ q => lt_int q
theorem op_le : OpR X (compareOp .LtE) (rI0 fun i j => .bl (decide (i ≤ j))) := opB0 fun _ _ _ _ _ _ _ q => le_int q
theorem op_gt : OpR X (compareOp .Gt) (rI0 fun i j => .bl (decide (j < i))) := opB0 fun _ _ _ _ _ _ _ q => gt_int q
theorem op_ge : OpR X (compareOp .GtE) (rI0 fun i j => .bl (decide (j ≤ i))) := opB0 fun _ _ _ _ _ _ _ q => ge_int q
def isObj : HO → Bool
  | .lst _ => true
  | .ins _ _ _ => true
  | _ => false
theorem OpR.or {f : Value → Value → Sem Value} {r r' : R2} (h : OpR X f r) (h' : OpR X f r') : OpR X f (fun x y H Q => r x y H Q ∨ r' x y H Q) := by
  intro pins s σ H x y v u Q I rx ry q
  rcases q with q | q
  · exact h pins s σ H x y v u Q I rx ry q
  · exact h' pins s σ H x y v u Q I rx ry q
theorem nomark (b : Expr) {op : CmpOp} (h : op ≠ .In := by decide) (h2 : op ≠ .NotIn := by decide) : behindInMarks op b = false := by
  have e1 : (op == CmpOp.In) = false := by cases op <;> first | rfl | exact absurd rfl h
  have e2 : (op == CmpOp.NotIn) = false := by cases op <;> first | rfl | exact absurd rfl h2
  cases b <;> simp [behindInMarks, e1, e2]
theorem pe_cmpR {op : CmpOp} {r : R2} (ho : OpR X (compareOp op) r) (ha : PE X a ta) (hb : PE X b tb) (hm : behindInMarks op b = false) : PE X (.Compare a [op] [b] pos) (tOp r ta tb) := by
  intro pins s σ H Q I h
  exact wpAny_Compare1 (binT ha hb I h fun v u s2 x y H2 I2 rx ry q => ho pins s2 σ H2 x y v u Q I2 rx ry q) hm
def tTest (t : TE) : TT := fun σ H Q => t σ H fun x H' => ∃ k, x = .bl k ∧ Q k H'
theorem pt_cmpR {op : CmpOp} {r : R2} (ho : OpR X (compareOp op) r) (ha : PE X a ta) (hb : PE X b tb) (hm : behindInMarks op b = false) : PT X (.Compare a [op] [b] pos) (tTest (tOp r ta tb)) := by
  intro pins s σ H Q I h
  refine wpAny_isTrue_Compare1 (thn (ha pins s σ H _ I h) fun v s1 ⟨x, H1, I1, r1, q1⟩ => thn (hb pins s1 σ H1 _ I1 q1) fun u s2 ⟨y, H2, I2, r2, q2⟩ =>
    thn (ho pins s2 σ H2 x y v u _ I2 r1 r2 q2) fun c s3 ⟨z, H3, I3, r3, k, e, q3⟩ => ?_) hm
  subst e
  cases r3
  exact wpAny_truthy_bool ⟨H3, I3, q3⟩
def tChain (r r' : R2) (ta tb tc : TE) : TE := fun σ H Q => ta σ H fun x H1 => tb σ H1 fun y H2 => r x y H2 fun z H3 => ∃ k, z = .bl k ∧
  (if k = true then tc σ H3 fun w' H4 => r' y w' H4 Q else Q (.bl false) H3)
theorem pe_chain {op op' : CmpOp} {r r' : R2} (ho : OpR X (compareOp op) r) (ho' : OpR X (compareOp op') r') (ha : PE X a ta) (hb : PE X b tb) (hc : PE X c tc)
    (hm : lastMarks [op, op'] [b, c] = false := by with_unfolding_all rfl) : PE X (.Compare a [op, op'] [b, c] pos) (tChain r r' ta tb tc) := by
  intro pins s σ H Q I h
  refine Compare_chain (thn (ha pins s σ H _ I h) fun v s1 ⟨x, H1, I1, r1, q1⟩ => chain_link (thn (hb pins s1 σ H1 _ I1 q1) fun u s2 ⟨y, H2, I2, r2, q2⟩ =>
    thn (ho pins s2 σ H2 x y v u _ I2 r1 r2 q2) fun d s3 ⟨z, H3, I3, r3, k, e, q3⟩ => ?_)) hm
  subst e
  cases r3
  refine wpAny_truthy_bool ?_
  cases k with
  | false => exact ite_ff ⟨.bl false, H3, I3, rfl, q3⟩
  | true => exact ite_tt (chain_last (thn (hc pins s3 σ H3 _ I3 q3) fun w' s4 ⟨z', H4, I4, r4, q4⟩ => ho' pins s4 σ H4 y z' u w' Q I4 r2 r4 q4))
def TruV (K : PySem.W.Frag) (x : V) (H : Hp) (k : Bool) : Prop :=
  match x with
  | .non => k = false
  | .bl b => k = b
  | .int i => k = (i != 0)
  | .str y => y.length ≤ sizeLine ∧ k = ((y.length : Int) != 0)
  | .byt y => y.size ≤ sizeLine ∧ k = ((y.size : Int) != 0)
  | .ref p => (∃ xs, SqL K H p xs ∧ k = !xs.isEmpty) ∨ (∃ xs, SqT K H p xs ∧ k = !xs.isEmpty) ∨ ∃ kvs, H p = some (.dK kvs) ∧ k = !kvs.isEmpty
  | _ => False
theorem line63 : (sizeLine : Nat) < 2 ^ 63 := by rw [sizeLine_eq]; decide
def PlainIxT (b : Expr) : Prop := ∀ o i, subscripted b false o i = operate [o, i] (getItem o i)
theorem vals1 {x : V} {us : List Value} (r : Vals [x] us) : ∃ u, us = [u] ∧ RelV x u := by
  cases r with
  | cons r1 r2 => cases r2; exact ⟨_, rfl, r1⟩
theorem vals2 {x y : V} {us : List Value} (r : Vals [x, y] us) : ∃ u w', us = [u, w'] ∧ RelV x u ∧ RelV y w' := by
  cases r with
  | cons r1 r2 =>
    cases r2 with
    | cons r3 r4 => cases r4; exact ⟨_, _, rfl, r1, r3⟩
theorem call_abs : CallR X (.builtin "abs") (fun xs H Q => ∃ i, xs = [.int i] ∧ Q (.int (if i < 0 then -i else i)) H) := by
  intro pins s σ H xs us Q I r h
  obtain ⟨i, rfl, q⟩ := h
  obtain ⟨u, rfl, t, rfl⟩ := vals1 r
  exact call_abs_int fun u tk => ⟨.int (if i < 0 then -i else i), H, I.tok _, ⟨_, rfl⟩, q⟩
theorem call_max2 (hc : X.calm = true) : CallR X (.builtin "max") (fun xs H Q => ∃ i j, xs = [.int i, .int j] ∧ Q (.int (if j > i then j else i)) H) := by
  intro pins s σ H xs us Q I r h
  obtain ⟨i, j, rfl, q⟩ := h
  obtain ⟨u, w', rfl, ⟨t, rfl⟩, ⟨t', rfl⟩⟩ := vals2 r
  refine max_two_ints (I.ok.hd hc) fun h' tk k => ⟨_, H, I.kept k, ?_, q⟩
  by_cases hj : j > i
  · rw [if_pos hj, if_pos hj]; exact ⟨_, rfl⟩
  · rw [if_neg hj, if_neg hj]; exact ⟨_, rfl⟩
theorem call_min2 (hc : X.calm = true) : CallR X (.builtin "min") (fun xs H Q => ∃ i j, xs = [.int i, .int j] ∧ Q (.int (if j < i then j else i)) H) := by
  intro pins s σ H xs us Q I r h
  obtain ⟨i, j, rfl, q⟩ := h
  obtain ⟨u, w', rfl, ⟨t, rfl⟩, ⟨t', rfl⟩⟩ := vals2 r
  refine min_two_ints (I.ok.hd hc) fun h' tk k => ⟨_, H, I.kept k, ?_, q⟩
  by_cases hj : j < i
  · rw [if_pos hj, if_pos hj]; exact ⟨_, rfl⟩
  · rw [if_neg hj, if_neg hj]; exact ⟨_, rfl⟩
def LenV (K : PySem.W.Frag) (x : V) (H : Hp) (n : Nat) : Prop :=
  match x with
  | .str y => y.length ≤ sizeLine ∧ n = y.length
  | .byt y => y.size ≤ sizeLine ∧ n = y.size
  | .ref p => (∃ xs, SqL K H p xs ∧ n = xs.length) ∨ ∃ xs, SqT K H p xs ∧ n = xs.length
  | _ => False
end
end L2
namespace L2
open PySem PySem.Spec PyProof.Rows
structure ObjM (h : Heap) (x dx C : Addr) (mA : Str → Option Value) : Prop where
  obj : h.get? x = some (PySem.W.instObj C dx)
  ns : h.Ns1 dx mA
  ne : dx ≠ x
theorem lookIn_ns {h : Heap} {dx : Addr} {mA : Str → Option Value} (n : h.Ns1 dx mA) : ∃ od, h.get? dx = some od ∧ ∀ name, PySem.W.lookIn name od = some (mA name) := by
  obtain ⟨o, es, ep, ho, hd, hk, _, hm⟩ := n
  refine ⟨o, ho, fun name => ?_⟩
  have e := hm name
  unfold nsFind findBy at e
  rw [← Array.find?_toList] at e
  unfold PySem.W.lookIn
  rw [hd]
  dsimp only
  split
  · rename_i y q
    rw [q] at e
    exact congrArg some e
  · rename_i q
    rw [q] at e
    have a : es.toList.any (·.refKey) = false := by
      rw [List.any_eq_false]
      intro y hy
      obtain ⟨z, t, hkey⟩ := hk y (Array.mem_toList_iff.mp hy)
      simp [DictEntry.refKey, hkey]
    have a' : ¬ es.toList.any (·.refKey) = true := by rw [a]; exact Bool.false_ne_true
    rw [if_neg a']
    exact congrArg some e
theorem ObjM.look {h : Heap} {x dx C : Addr} {mA : Str → Option Value} (I : ObjM h x dx C mA) : ∃ od, PySem.W.InstAt h x (PySem.W.instObj C dx) C (some od) ∧ ∀ name, PySem.W.lookIn name od = some (mA name) :=
  let ⟨od, ho, hl⟩ := lookIn_ns I.ns
  ⟨od, ⟨I.obj, rfl, rfl, ho⟩, hl⟩
section
variable {prog : Program} {w : World} {A : Around} {E : Value → Shared → Prop} {s : Shared} {K : PySem.W.Frag} {x dx C f : Addr} {mA : Str → Option Value} {name : Str} {v : Value}
end
def putF (f : Str) (v : V) : List (Str × V) → List (Str × V)
  | [] => [(f, v)]
  | (g, x) :: r => if g = f then (g, v) :: r else (g, x) :: putF f v r
section
variable {P : Program} {w : World} {H H' : Hp} {h h' : Heap} {a C dx : Addr} {fs fs' : List (Str × V)}
theorem ins_get (hok : HOk P w H h) (e : H a = some (.ins C dx fs)) : ∃ mA, ObjM h a dx C mA ∧ (∀ f, RelO (fs.lookup f) (mA f)) ∧ PySem.Within mA (fs.map (·.1)) ∧ fs.length ≤ 1000 ∧ H dx = some (.own a) := by
  obtain ⟨d, z, ne, ob, mA, n, r, q⟩ := (show ObjOk P w H h a (.ins C dx fs) from hok a _ e)
  exact ⟨mA, ⟨ob, n, ne⟩, r, q, z, d⟩
end
structure Cls (K : PySem.W.Frag) (C : Addr) : Prop where
  pg : PySem.W.plainGet K C Str.empty = true
  hd : PySem.W.hasDictIn K C = true
  po : PySem.W.plainOver K C = true
  sa : PySem.W.findIn K (.ref C) "__setattr__" = some (some (.builtin "object.__setattr__"))
theorem Cls.get {K : PySem.W.Frag} {C : Addr} (c : Cls K C) (f : Str) : PySem.W.plainGet K C f = true := c.pg
def NoAttr (K : PySem.W.Frag) (C : Addr) (f : Str) : Prop := PySem.W.findIn K (.ref C) f = some none
structure Con (K : PySem.W.Frag) (C : Addr) (f : Str) (v : V) (u : Value) : Prop where
  at_ : PySem.W.findIn K (.ref C) f = some (some u)
  rel : RelV v u
  get : PySem.W.specialIn K u "__get__" = some none
  cp : PySem.W.copiedNames.contains f = false
structure Meth (K : PySem.W.Frag) (C : Addr) (m : Str) (f : Addr) : Prop where
  at_ : PySem.W.findIn K (.ref C) m = some (some (.ref f))
  fn : PySem.W.isFn K (.ref f) = true
  kp : PySem.W.keepIn K (.ref f) = true
section
variable {X : Cx} {pins : List (Addr × Obj)} {σ : St} {H : Hp} {s : Shared} {a C dx : Addr} {fs : List (Str × V)} {f : Str} {v : V} {A : Around} {E : Value → Shared → Prop}
theorem Inv.made (I : Inv X pins σ H s) : Inv X pins σ (upd (upd H s.heap.objs.size (.own (s.heap.objs.size + 1))) (s.heap.objs.size + 1) (.ins C s.heap.objs.size []))
    { s with heap := (s.heap.push PySem.W.emptyDict).push (PySem.W.instObj C s.heap.objs.size) } := by
  have e1 : (s.heap.push PySem.W.emptyDict).get? s.heap.objs.size = some PySem.W.emptyDict := Heap.get?_push_size s.heap rfl
  have e2 : ((s.heap.push PySem.W.emptyDict).push (PySem.W.instObj C s.heap.objs.size)).get? (s.heap.objs.size + 1) = some (PySem.W.instObj C s.heap.objs.size) := by
    have := Heap.get?_push_size (s.heap.push PySem.W.emptyDict) (o := PySem.W.instObj C s.heap.objs.size) rfl
    rwa [Heap.size_push] at this
  have e3 : (s.heap.push PySem.W.emptyDict).Ns s.heap.objs.size (fun _ => none) := ⟨PySem.W.emptyDict, #[], _, e1, rfl, (fun e he => absurd he (by simp)), fun _ => rfl⟩
  have I1 := I.laid (a := s.heap.objs.size) (o := .own (s.heap.objs.size + 1)) (h' := s.heap.push PySem.W.emptyDict) (t' := s.toks) (fun b u q => Heap.get?_push_of_some _ q) (Nat.le_refl _) ⟨_, e1⟩
  refine I1.laid (a := s.heap.objs.size + 1) (o := .ins C s.heap.objs.size []) (t' := s.toks) (fun b u q => Heap.get?_push_of_some _ q) (Nat.le_of_eq (Heap.size_push _ _)) ?_
  have ne : s.heap.objs.size ≠ s.heap.objs.size + 1 := Nat.ne_of_lt (Nat.lt_succ_self _)
  refine ⟨by rw [upd_ne ne, upd_same], Nat.zero_le _, ne, e2, fun _ => none, (Heap.Ns1.of_empty e3).at fun o q => Heap.get?_push_of_some _ q, fun _ => True.intro, fun y hy => absurd rfl hy⟩
end
def tFld (K : PySem.W.Frag) (ta : TE) (f : Str) : TE := fun σ H Q => ta σ H fun x H1 => ∃ a C dx fs v, x = .ref a ∧ H1 a = some (.ins C dx fs) ∧ Cls K C ∧ NoAttr K C f ∧ fs.lookup f = some v ∧ Q v H1
def tCon (K : PySem.W.Frag) (ta : TE) (f : Str) : TE := fun σ H Q => ta σ H fun x H1 => ∃ a C dx fs v u, x = .ref a ∧ H1 a = some (.ins C dx fs) ∧ Cls K C ∧ Con K C f v u ∧ fs.lookup f = none ∧ Q v H1
def sFld (K : PySem.W.Frag) (ta tv : TE) (f : Str) : TS := fun D σ H => tv σ H fun y H1 => ta σ H1 fun x H2 => ∃ a C dx fs, x = .ref a ∧ H2 a = some (.ins C dx fs) ∧ Cls K C ∧ NoAttr K C f ∧ fs.length < 1000 ∧
  D.nx σ (upd H2 a (.ins C dx (putF f y fs)))
def InOp (X : Cx) (op : Operator) (rd : V → V → Hp → VK → Prop) : Prop :=
  ∀ (pins : List (Addr × Obj)) (s : Shared) (σ : St) (H : Hp) (x y : V) (u v : Value) (Q : VK), Inv X pins σ H s → RelV x u → RelV y v → rd x y H Q → wpAny (model X.prog X.w) X.A (inplaceOp op u v) (EP X pins σ Q) X.xe s
def sFldAug (K : PySem.W.Frag) (ta tv : TE) (rd : V → V → Hp → VK → Prop) (f : Str) : TS := fun D σ H => ta σ H fun x H1 => ∃ a C dx fs v, x = .ref a ∧ H1 a = some (.ins C dx fs) ∧ Cls K C ∧ NoAttr K C f ∧ fs.lookup f = some v ∧
  tv σ H1 fun y H2 => rd v y H2 fun z H3 => ∃ dx' fs', H3 a = some (.ins C dx' fs') ∧ fs'.length < 1000 ∧ D.nx σ (upd H3 a (.ins C dx' (putF f z fs')))
section
variable {X : Cx} {o e value : Expr} {f : Str} {pos pos' tpos : Pos} {ta tv : TE}
def rAdd : V → V → Hp → VK → Prop := fun x y H Q => ∃ i j, x = .int i ∧ y = .int j ∧ Q (.int (i + j)) H
def rSub : V → V → Hp → VK → Prop := fun x y H Q => ∃ i j, x = .int i ∧ y = .int j ∧ Q (.int (i - j)) H
end
section
variable {X : Cx} {pins : List (Addr × Obj)} {σ : St} {H : Hp} {s : Shared} {A : Around} {E : Value → Shared → Prop} {Q : Value → Shared → Prop} {c : Value} {b : Bool}
inductive TyOf (K : PySem.W.Frag) (H : Hp) : V → Value → Prop where
  | non : TyOf K H .non (.type "NoneType")
  | bl (x : Bool) : TyOf K H (.bl x) (.type "bool")
  | int (i : Int) : TyOf K H (.int i) (.type "int")
  | str (x : Str) : TyOf K H (.str x) (.type "str")
  | flt (x : UInt64) : TyOf K H (.flt x) (.type "float")
  | lst {a : Addr} {xs : List V} (e : H a = some (.lst xs)) : TyOf K H (.ref a) (.type "list")
  | frz {a : Addr} {o : Obj} {xs : List V} (e : H a = some (.frz o (.lst xs))) : TyOf K H (.ref a) (.type "list")
  | tup {a : Addr} {xs : List V} (e : H a = some (.tup xs)) : TyOf K H (.ref a) (.type "tuple")
  | dK {a : Addr} {kvs : List (Key × V)} (e : H a = some (.dK kvs)) : TyOf K H (.ref a) (.type "dict")
  | dT {a : Addr} {kvs : List (List Key × V)} (e : H a = some (.dT kvs)) : TyOf K H (.ref a) (.type "dict")
  | ins {a C dx : Addr} {fs : List (Str × V)} (e : H a = some (.ins C dx fs)) (cl : Cls K C) (ha : PySem.W.findIn K (.ref C) "__class__" = some (some (.builtin "object.__class__")))
      (hn : PySem.W.specialIn K (.builtin "object.__class__") "__get__" = some (some (.builtin "getset_descriptor.__get__"))) (htk : PySem.W.takesIn K (.builtin "object.__class__") = some true)
      (hm : PySem.W.mroIn K C (.type "object") = some true) : TyOf K H (.ref a) (.ref C)
end
end L2
namespace L2
open PySem PySem.Spec PyProof.Rows
structure Room (k : Nat) (A : Around) : Prop where
  hd : A.handled = none
  dp : A.depth + 3 * k + 5 < recursionLimit
  un : A.units + 16 * k + 200 < cLine
  gd : A.guards = some []
theorem Room.mono {j k : Nat} {A : Around} (r : Room k A) (h : j ≤ k) : Room j A := ⟨r.hd, by have := r.dp; omega, by have := r.un; omega, r.gd⟩
theorem Room.deeper {k : Nat} {A : Around} (r : Room (k + 1) A) (env : Env) : Room k (A.deeper env) :=
  ⟨r.hd, by have := r.dp; show A.depth + 1 + 3 * k + 5 < _; omega, by have := r.un; show A.units + 3 + 16 * k + 200 < _; omega, r.gd⟩
theorem Room.in1 {k : Nat} {A : Around} (r : Room (k + 1) A) : Room k A.in1 :=
  ⟨r.hd, by have := r.dp; show A.depth + 3 * k + 5 < _; omega, by have := r.un; show A.units + 1 + 16 * k + 200 < _; omega, r.gd⟩
theorem Room.depth {k : Nat} {A : Around} (r : Room k A) : A.depth < recursionLimit := by have := r.dp; omega
theorem Room.units {k : Nat} {A : Around} (r : Room k A) : A.units + 64 < cLine := by have := r.un; omega
def tNil : TA := fun _ H Q => Q [] H
def tCons (ta : TE) (tr : TA) : TA := fun σ H Q => ta σ H fun x H1 => tr σ H1 fun xs H2 => Q (x :: xs) H2
section
variable {X : Cx} {e : Expr} {es : List Expr} {te : TE} {t : TA} {pos : Pos}
theorem pa_nil : PA X [] tNil := fun _ _ _ _ H Q I h => Calls.spliced_nil ⟨[], H, I, .nil, h⟩
theorem pa_cons (ha : PE X e te) (hr : PA X es t) (hs : starEach (e :: es) X.env = (false, eval e X.env) :: starEach es X.env := by rfl) : PA X (e :: es) (tCons te t) := by
  intro pos pins s σ H Q I h
  rw [hs]
  show wpAny _ _ (spliced ((false, eval e X.env) :: backTo pos (starEach es X.env))) _ _ s
  refine Calls.spliced_cons (thn (ha pins s σ H _ I h) fun u s1 ⟨x, H1, I1, r1, q1⟩ => ?_)
  exact thn (hr pos pins s1 σ H1 _ I1 q1) fun us s2 ⟨xs, H2, I2, r2, q2⟩ => ⟨x :: xs, H2, I2, .cons r1 r2, q2⟩
def tTup (t : TA) : TE := fun σ H Q => t σ H fun xs H1 => xs.length ≤ sizeLine ∧ ∀ p, H1 p = none → Q (.ref p) (upd H1 p (.tup xs))
def tLst (t : TA) : TE := fun σ H Q => t σ H fun xs H1 => xs.length ≤ sizeLine ∧ ∀ p, H1 p = none → Q (.ref p) (upd H1 p (.lst xs))
theorem pe_tup {x1} (h : PA X es t) : PE X (.Tuple es x1 pos) (tTup t) := by
  intro pins s σ H Q I hq
  refine wpAny_Tuple_spliced (thn (h pos pins s σ H _ I hq) fun us s1 ⟨xs, H1, I1, r, z, q⟩ => ⟨by rw [← r.length]; exact z, ?_⟩)
  have hf : H1 s1.heap.objs.size = none := I1.hok.fresh (Nat.le_refl _)
  refine ⟨.ref s1.heap.objs.size, upd H1 s1.heap.objs.size (.tup xs), I1.laid (t' := s1.toks) (fun b u e => Heap.get?_push_of_some _ e) (Nat.le_refl _) ?_, rfl, q _ hf⟩
  exact ⟨z, us, r, ⟨_, Heap.get?_push_size _ rfl, rfl, _, rfl⟩⟩
theorem pe_lst (h : PA X es t) : PE X (.List es pos) (tLst t) := by
  intro pins s σ H Q I hq
  refine wpAny_List_spliced (thn (h pos pins s σ H _ I hq) fun us s1 ⟨xs, H1, I1, r, z, q⟩ => ⟨by rw [← r.length]; exact z, ?_⟩)
  have hf : H1 s1.heap.objs.size = none := I1.hok.fresh (Nat.le_refl _)
  refine ⟨.ref s1.heap.objs.size, upd H1 s1.heap.objs.size (.lst xs), I1.laid (t' := s1.toks) (fun b u e => Heap.get?_push_of_some _ e) (Nat.le_refl _) ?_, rfl, q _ hf⟩
  exact ⟨z, us, 0, r, Heap.get?_push_size _ rfl⟩
end
abbrev Sp := List V → Hp → VK → XK → Prop
abbrev CXT := List Env → Hp → Shared → XK → Value → Shared → Prop
structure Env0 (P : Program) (w : World) (K : PySem.W.Frag) (mg : Str → Option Value) (base : Heap) (A : Around) (outer : List Env) (s : Shared) (H : Hp) : Prop where
  frames : A.frames = some outer
  mod : Mod K mg base
  bs : ∀ b o, base.get? b = some o → s.heap.get? b = some o ∧ H b = none
  bsz : base.objs.size ≤ s.heap.objs.size
  funs : s.heap.FunFrames base outer
  frf : ∀ b ∈ frs outer, H b = none
  hok : HOk P w H s.heap
  bare : AllBare s.gens
def CE (outer : List Env) (P : Program) (w : World) (H : Hp) (s : Shared) (Q : VK) (u : Value) (s' : Shared) : Prop :=
  ∃ v H', s'.os = s.os ∧ AllBare s'.gens ∧ Un (frs outer) [] H H' s.heap s'.heap ∧ HOk P w H' s'.heap ∧ RelV v u ∧ Q v H'
def CR (CX : CXT) (outer : List Env) (P : Program) (w : World) (H : Hp) (s : Shared) (Q : VK) (E : XK) (r : Result) (s' : Shared) : Prop :=
  match r with
  | .ok (.ret u) => CE outer P w H s Q u s'
  | .ok _ => False
  | .error e => CX outer H s E e s'
structure FnOk (P : Program) (w : World) (K : PySem.W.Frag) (mg : Str → Option Value) (base : Heap) (CX : CXT) (k : Nat) (f : Addr) (fd : FuncData) (ps : List Str) (sp : Sp) : Prop where
  len : ∀ vs H Q E, sp vs H Q E → vs.length = ps.length
  run : ∀ (A : Around) (outer : List Env) (s : Shared) (H : Hp) (args : Args) (us : List Value) (vs : List V) (Q : VK) (E : XK), Room k A → Env0 P w K mg base A outer s H → BindsTo s fd args (ps.zip us) → Vals vs us → sp vs H Q E →
    codeAny (model P w) A (.call (.ref f) args) (CR CX outer P w H s Q E) s
theorem FnOk.mono {P : Program} {w : World} {K : PySem.W.Frag} {mg : Str → Option Value} {base : Heap} {CX : CXT} {j k : Nat} {f : Addr} {fd : FuncData} {ps : List Str} {sp : Sp} (F : FnOk P w K mg base CX j f fd ps sp) (h : j ≤ k) :
    FnOk P w K mg base CX k f fd ps sp := ⟨F.len, fun A outer s H args us vs Q E hr => F.run A outer s H args us vs Q E (hr.mono h)⟩
theorem Env0.in1 {P : Program} {w : World} {K : PySem.W.Frag} {mg : Str → Option Value} {base : Heap} {A : Around} {outer : List Env} {s : Shared} {H : Hp} (e : Env0 P w K mg base A outer s H) :
    Env0 P w K mg base A.in1 outer s H := ⟨e.frames, e.mod, e.bs, e.bsz, e.funs, e.frf, e.hok, e.bare⟩
section
variable {X : Cx} {pins : List (Addr × Obj)} {σ : St} {H : Hp} {s s' : Shared}
theorem Inv.env0 (I : Inv X pins σ H s) : Env0 X.prog X.w X.K X.mg X.base X.A X.stack s H :=
  ⟨I.ok.frames, I.ok.mod, I.bs, Nat.le_trans I.ok.bsz I.sz, I.stack, I.stkFree, I.hok, I.bare⟩
theorem Inv.after {Q : VK} {u : Value} (I : Inv X pins σ H s) (h : CE X.stack X.prog X.w H s Q u s') : EP X pins σ Q u s' := by
  obtain ⟨v, H', os, bare, un, hok, r, q⟩ := h
  obtain ⟨hh, g, d, t, os'⟩ := s'
  obtain rfl : os' = s.os := os
  exact ⟨v, H', I.call (h' := hh) (g' := g) (d' := d) (t' := t) (ch := []) un hok bare (fun b z => absurd z (by simp)), r, q⟩
end
def tCall (sp : Sp) (dvs : List V) (E : XK) (t : TA) : TE := fun σ H Q => t σ H fun vs H1 => sp (vs ++ dvs) H1 Q E
def tMeth (C : Addr) (m : Str) (sp : Sp) (dvs : List V) (E : XK) (ta : TE) (t : TA) : TE := fun σ H Q => ta σ H fun x H1 => ∃ a dx fs, x = .ref a ∧ H1 a = some (.ins C dx fs) ∧ fs.lookup m = none ∧
  t σ H1 fun vs H2 => sp (x :: (vs ++ dvs)) H2 Q E
def tMake (C : Addr) (sp : Sp) (dvs : List V) (E : XK) (t : TA) : TE := fun σ H Q => t σ H fun vs H1 => ∀ x dx, H1 x = none → H1 dx = none → dx ≠ x →
  sp (.ref x :: (vs ++ dvs)) (upd (upd H1 dx (.own x)) x (.ins C dx [])) (fun v H2 => v = .non ∧ Q (.ref x) H2) E
def Binds (K : PySem.W.Frag) (fd : FuncData) (ps : List Str) (ds : List Value) : Prop :=
  ∀ (s : Shared) (us : List Value), K.In s.heap → (us ++ ds).length = ps.length → BindsTo s fd ⟨us, []⟩ (ps.zip (us ++ ds))
theorem Binds.all {K : PySem.W.Frag} {fd : FuncData} {ps : List Str} (h : ∀ us : List Value, us.length = ps.length → bindArgs fd ⟨us, []⟩ = pure (ps.zip us)) : Binds K fd ps [] := fun s us _ hl => by
  rw [List.append_nil] at hl ⊢
  exact .of_eq (h us hl)
def Passes (CX : CXT) (X : Cx) (E : XK) : Prop := ∀ (pins : List (Addr × Obj)) (σ : St) (H : Hp) (s : Shared) (e : Value) (s' : Shared), Inv X pins σ H s → CX X.stack H s E e s' → X.xe e s'
section
variable {X : Cx} {CX : CXT} {k : Nat} {f C : Addr} {fd : FuncData} {ps : List Str} {sp : Sp} {dvs : List V} {ds : List Value} {E : XK} {x m : Str} {p pos apos : Pos} {e o : Expr} {es : List Expr} {ta : TE} {t : TA}
theorem run_fn {pins : List (Addr × Obj)} {σ : St} {H : Hp} {s : Shared} {Q : VK} {us : List Value} {vs : List V} (F : FnOk X.prog X.w X.K X.mg X.base CX k f fd ps sp) (hr : Room k X.A) (hb : Binds X.K fd ps ds) (hd : Vals dvs ds) (hx : Passes CX X E)
    (I : Inv X pins σ H s) (r : Vals vs us) (h : sp (vs ++ dvs) H Q E) : wpAny (model X.prog X.w) X.A (call (.ref f) us) (EP X pins σ Q) X.xe s := by
  have r2 : Vals (vs ++ dvs) (us ++ ds) := r.append hd
  have hl : (us ++ ds).length = ps.length := by rw [← r2.length]; exact F.len _ _ _ _ h
  refine wpAny_call (codeAny_mono (F.run X.A X.stack s H ⟨us, []⟩ (us ++ ds) (vs ++ dvs) Q E hr I.env0 (hb s us I.kIn hl) r2 h) fun r s' hq => ?_)
  cases r with
  | error e => exact hx pins σ H s e s' I hq
  | ok fl =>
    cases fl with
    | ret u => exact I.after hq
    | next => exact False.elim hq
    | brk => exact False.elim hq
    | cont => exact False.elim hq
theorem pe_call (F : FnOk X.prog X.w X.K X.mg X.base CX k f fd ps sp) (hr : Room k X.A) (hg : Gl X x) (hm : X.mg x = some (.ref f)) (hk : PySem.W.keepIn X.K (.ref f) = true) (hb : Binds X.K fd ps ds) (hd : Vals dvs ds) (hx : Passes CX X E)
    (ha : PA X (e :: es) t) (hdb : (x == ("__debug__" : Str)) = false := by decide) (he : starEach (e :: es) X.env = (false, eval e X.env) :: starEach es X.env := by rfl) (hpl : (backTo pos (starEach es X.env)).any (·.1) = false := by rfl) :
    PE X (.Call (.Name x p) (e :: es) [] pos) (tCall sp dvs E t) := by
  intro pins s σ H Q I h
  refine wpAny_Call_Name_kw (ld_glob I hg hm ?_ hdb)
  refine PySem.W.callWith_K (h₀ := X.base) I.ok.mod.kin hk (thn (ha pos pins s σ H _ I h) fun us s1 ⟨vs, H1, I1, r, q⟩ => ⟨I1.kIn, ?_⟩) he hpl
  exact run_fn F hr hb hd hx I1 r q
structure Mk (K : PySem.W.Frag) (C f : Addr) : Prop where
  makes : PySem.W.makesIn K C = true
  init : PySem.W.findIn K (.ref C) "__init__" = some (some (.ref f))
  fn : PySem.W.isFn K (.ref f) = true
  kp : PySem.W.keepIn K (.ref C) = true
end
def PK (X : Cx) (kws : List Keyword) (t : TA) : Prop :=
  ∀ (pos : Pos) (pins : List (Addr × Obj)) (s : Shared) (σ : St) (H : Hp) (Q : List V → Hp → Prop), Inv X pins σ H s → t σ H Q → wpAny (model X.prog X.w) X.A (evalAll ((backToKw pos (keywordEach kws X.env)).map (·.2))) (AP X pins σ Q) X.xe s
section
variable {X : Cx} {CX : CXT} {k : Nat} {f C : Addr} {fd : FuncData} {ps ks : List Str} {sp : Sp} {E : XK} {x m : Str} {p pos apos kpos : Pos} {e o : Expr} {es : List Expr} {kws : List Keyword} {te ta : TE} {t tk : TA} {nm : Option Str}
structure KBinds (K : PySem.W.Frag) (fd : FuncData) (ps ks : List Str) (g : List Value → List Value → List Value) (gV : List V → List V → List V) : Prop where
  to : ∀ (s : Shared) (us ws : List Value), K.In s.heap → (g us ws).length = ps.length → BindsTo s fd ⟨us, ks.zip ws⟩ (ps.zip (g us ws))
  rel : ∀ {vs : List V} {us : List Value} {zs : List V} {ws : List Value}, Vals vs us → Vals zs ws → Vals (gV vs zs) (g us ws)
def tCallK (sp : Sp) (gV : List V → List V → List V) (E : XK) (t tk : TA) : TE := fun σ H Q => t σ H fun vs H1 => tk σ H1 fun zs H2 => sp (gV vs zs) H2 Q E
variable {g : List Value → List Value → List Value} {gV : List V → List V → List V}
end
structure FnScope (N P : List Str) (sc : Scope) : Prop where
  kind : sc.kind = .function
  co : sc.isCoroutine = false
  gen : sc.isGenerator = false
  nd : N.Nodup
  pre : N.take P.length = P
  par : ∀ x ∈ P, sc.names.lookup x = some .local ∨ sc.names.lookup x = some .cell
  nofree : ∀ y ∈ sc.names, y.2 ≠ .free
theorem bindL_out {kindOf : Str → Option NameKind} {x : Str} : ∀ {binds : List (Str × Value)} {m : Str → Option Value}, (∀ v, (x, v) ∉ binds) → bindL kindOf binds m x = m x
  | [], _, _ => rfl
  | (n, v) :: r, m, h => by
    unfold bindL
    rw [bindL_out fun w hw => h w (List.mem_cons_of_mem _ hw)]
    split
    · have : x ≠ n := by rintro rfl; exact h v List.mem_cons_self
      simp [this]
    · rfl
theorem bindC_out {kindOf : Str → Option NameKind} {x : Str} : ∀ {binds : List (Str × Value)} {m : Str → Option Value}, (∀ v, (x, v) ∉ binds) → bindC kindOf binds m x = m x
  | [], _, _ => rfl
  | (n, v) :: r, m, h => by
    unfold bindC
    rw [bindC_out fun w hw => h w (List.mem_cons_of_mem _ hw)]
    split
    · rfl
    · have : x ≠ n := by rintro rfl; exact h v List.mem_cons_self
      simp [this]
theorem bindL_get {kindOf : Str → Option NameKind} {x : Str} {v : Value} : ∀ {P : List Str} {vs : List Value} {i : Nat} {m : Str → Option Value}, P.Nodup → P[i]? = some x → vs[i]? = some v → kindOf x = some .local →
    bindL kindOf (P.zip vs) m x = some v
  | [], _, _, _, _, h, _, _ => by simp at h
  | _ :: _, [], _, _, _, _, h, _ => by simp at h
  | p :: P, w :: vs, 0, m, nd, h1, h2, hk => by
    simp at h1 h2; subst h1; subst h2
    show bindL kindOf ((p, w) :: P.zip vs) m p = _
    unfold bindL
    rw [bindL_out fun v hv => (List.nodup_cons.mp nd).1 (List.of_mem_zip hv).1, if_pos hk]
    simp
  | p :: P, w :: vs, i + 1, m, nd, h1, h2, hk => by
    show bindL kindOf ((p, w) :: P.zip vs) m x = _
    unfold bindL
    exact bindL_get (i := i) (List.nodup_cons.mp nd).2 (by simpa using h1) (by simpa using h2) hk
theorem bindC_get {kindOf : Str → Option NameKind} {x : Str} {v : Value} : ∀ {P : List Str} {vs : List Value} {i : Nat} {m : Str → Option Value}, P.Nodup → P[i]? = some x → vs[i]? = some v → kindOf x ≠ some .local →
    bindC kindOf (P.zip vs) m x = some v
  | [], _, _, _, _, h, _, _ => by simp at h
  | _ :: _, [], _, _, _, _, h, _ => by simp at h
  | p :: P, w :: vs, 0, m, nd, h1, h2, hk => by
    simp at h1 h2; subst h1; subst h2
    show bindC kindOf ((p, w) :: P.zip vs) m p = _
    unfold bindC
    rw [bindC_out fun v hv => (List.nodup_cons.mp nd).1 (List.of_mem_zip hv).1, if_neg hk]
    simp
  | p :: P, w :: vs, i + 1, m, nd, h1, h2, hk => by
    show bindC kindOf ((p, w) :: P.zip vs) m x = _
    unfold bindC
    exact bindC_get (i := i) (List.nodup_cons.mp nd).2 (by simpa using h1) (by simpa using h2) hk
def start (N : List Str) (vs : List V) : St := vs.map some ++ List.replicate (N.length - vs.length) none
def cxOf (CX : CXT) (P : Program) (w : World) (K : PySem.W.Frag) (mg : Str → Option Value) (base : Heap) (N : List Str) (qual : Str) (scope : Scope) (f : Addr) (cd : Value) (A : Around) (outer : List Env) (s : Shared) (H : Hp) (E : XK) : Cx where
  prog := P
  w := w
  K := K
  mg := mg
  base := base
  A := A.deeper (envOfC qual scope s.heap.objs.size f cd)
  N := N
  s₀ := s
  H₀ := H
  env := envOfC qual scope s.heap.objs.size f cd
  outer := outer
  stack := envOfC qual scope s.heap.objs.size f cd :: outer
  ex := []
  calm := true
  fn := fun _ => true
  pn := []
  xe := fun e s' => wpAny (model P w) (A.deeper (envOfC qual scope s.heap.objs.size f cd)) (leaving (envOfC qual scope s.heap.objs.size f cd) e) (fun _ s'' => CX outer H s E e s'') (fun e' s'' => CX outer H s E e' s'') s'
theorem cell_has {sc : Scope} {n : Nat} {x : Str} (h : sc.names.lookup x = some .cell) : ∃ c, (cellsFrom n sc.names []).lookup x = some c := by
  have q := PySem.W.cellsFrom_some sc.names n [] (.inl h)
  exact Option.isSome_iff_exists.mp q
theorem inv_start {CX : CXT} {P : Program} {w : World} {K : PySem.W.Frag} {mg : Str → Option Value} {base : Heap} {N ps : List Str} {qual : Str} {scope : Scope} {f : Addr} {cd : Value} {A : Around} {outer : List Env} {s s1 : Shared} {H : Hp} {E : XK} {us : List Value} {vs : List V}
    (S : FnScope N ps scope) (hd : A.handled = none) (e0 : Env0 P w K mg base A outer s H) (hl : vs.length = ps.length) (r : Vals vs us)
    (x : InCallC s s.heap.objs.size (bindL (envOfC qual scope s.heap.objs.size f cd).kindOf (ps.zip us) fun _ => none) (cellsFrom (s.heap.objs.size + 1) scope.names []) (bindC (envOfC qual scope s.heap.objs.size f cd).kindOf (ps.zip us) fun _ => none) s1) :
    Inv (cxOf CX P w K mg base N qual scope f cd A outer s H E) [] (start N vs) H s1 := by
  have hpl : ps.length ≤ N.length := by have := congrArg List.length S.pre; rw [List.length_take] at this; omega
  obtain ⟨h1, tk, rfl, hk⟩ := x.done
  have noA : ∀ b : Addr, b ∉ (cxOf CX P w K mg base N qual scope f cd A outer s H E).ex := fun b z => absurd (show b ∈ ([] : List Addr) from z) (by simp)
  refine ⟨⟨e0.mod, S.kind, rfl, rfl, Nat.le_refl _, fun y z c h1 h2 => ?_, fun y hy => ?_, fun y c _ h => ?_, fun _ => hd, Around.frames_deeper e0.frames, .inr ⟨rfl, rfl⟩, fun b z => absurd z (noA b), e0.bs, e0.bsz, fun b _ _ => noA b, fun b z => absurd z (noA b), e0.funs, e0.frf⟩,
    rfl, e0.bare, Un.kept hk, ⟨_, x.toInCall.ns, fun i y v h1 h2 h3 => ?_⟩, fun y c h => ⟨_, x.cell y c h⟩, e0.hok.fresh (Nat.le_refl _), fun y c h => ?_, fun p hp => absurd (show p ∈ ([] : List (Addr × Obj)) from hp) (by simp), e0.hok.kept hk, ?_⟩
  · exact name_of_addr x.apart (PySem.mem_of_lookup h1) (PySem.mem_of_lookup h2)
  · have hy : scope.names.lookup y = some .cell ∨ scope.names.lookup y = some .free := hy
    rcases hy with hy | hy
    · exact cell_has hy
    · exact absurd rfl (S.nofree _ (PySem.mem_of_lookup hy))
  · exact Nat.le_of_lt (x.above y c (PySem.mem_of_lookup h))
  · have hi : i < vs.length := by
      unfold start at h2
      by_cases hi : i < vs.length
      · exact hi
      · rw [List.getElem?_append_right (by simpa using hi)] at h2
        rw [List.getElem?_replicate] at h2
        split at h2 <;> cases h2
    have ha : vs[i]? = some v := by
      unfold start at h2
      rw [List.getElem?_append_left (by simpa using hi), List.getElem?_map] at h2
      cases e : vs[i]? with
      | none => rw [e] at h2; cases h2
      | some a => rw [e] at h2; cases h2; rfl
    obtain ⟨u, hu, rv⟩ := r.get ha
    have hp : ps[i]? = some y := by
      rw [← S.pre, List.getElem?_take_of_lt (by omega)]; exact h1
    have ndP : ps.Nodup := by rw [← S.pre]; exact S.nd.sublist (List.take_sublist _ _)
    refine ⟨u, rv, ?_⟩
    rcases S.par y (List.mem_of_getElem? hp) with k | k
    · exact .inl ⟨k, bindL_get ndP hp hu k⟩
    · obtain ⟨c, e⟩ := cell_has (n := s.heap.objs.size + 1) k
      refine .inr ⟨.inl k, c, e, ?_⟩
      have q := x.cell y c e
      rw [bindC_get ndP hp hu (by show scope.names.lookup y ≠ _; rw [k]; decide)] at q
      exact q
  · exact e0.hok.fresh (Nat.le_of_lt (x.above y c (PySem.mem_of_lookup h)))
  · unfold start
    show _ = N.length
    rw [List.length_append, List.length_map, List.length_replicate]
    omega
theorem fn_of {CX : CXT} {P : Program} {w : World} {K : PySem.W.Frag} {mg : Str → Option Value} {base : Heap} {k : Nat} {f : Addr} {name qual : Str} {params : Arguments} {body : List Stmt} {scope : Scope} {dV kV doc pm cdv ct oc : Value} {an od : Option Addr}
    {osl : Array (Option Value)} {N ps : List Str} {sp : Sp} (lk : K.lookup f = some ⟨oc, od, .func (PySem.W.fnOf name qual params body scope dV kV doc pm an cdv ct), osl⟩) (hcd : PySem.W.codeIn K cdv qual = true) (S : FnScope N ps scope)
    (len : ∀ vs H Q E, sp vs H Q E → vs.length = ps.length)
    (hbody : ∀ (A : Around) (outer : List Env) (s : Shared) (H : Hp) (vs : List V) (Q : VK) (E : XK), Room k (A.deeper (envOfC qual scope s.heap.objs.size f cdv)) → sp vs H Q E →
      ∃ t, PSs (cxOf CX P w K mg base N qual scope f cdv A outer s H E) body t ∧ t { nx := fun _ H' => Q .non H', rt := Q } (start N vs) H) :
    FnOk P w K mg base CX (k + 1) f (PySem.W.fnOf name qual params body scope dV kV doc pm an cdv ct) ps sp := by
  refine ⟨len, fun A outer s H args us vs Q E hr e0 hb r hsp => ?_⟩
  have hl := len _ _ _ _ hsp
  have KX : K.In s.heap := e0.mod.kin.keeps fun b o e => (e0.bs b o e).1
  have lim : s.heap.NoLimit := e0.mod.nolimit.keeps fun b o e => (e0.bs b o e).1
  have hkind : ∀ y ∈ ps.zip us, scope.names.lookup y.1 = some .local ∨ (scope.names.lookup y.1 = some .cell ∧ ((cellsFrom (s.heap.objs.size + 1) scope.names []).lookup y.1).isSome = true) := fun ⟨n, v⟩ hy => by
    rcases S.par n (List.of_mem_zip hy).1 with q | q
    · exact .inl q
    · exact .inr ⟨q, PySem.W.cellsFrom_some _ _ _ (.inl q)⟩
  refine codeAny_call_function hr.depth (KX _ _ lk) rfl S.co S.gen rfl (PySem.W.codeRec_of KX hcd) (hb _ _ _ _ ?_)
  refine wpAny_newFunctionEnv_cells S.kind hkind fun env he s1 x => ?_
  subst he
  refine ⟨lim.keeps x.toInCall.keep, codeAny_func ?_⟩
  obtain ⟨t, ht, hq⟩ := hbody A outer s H vs Q E (hr.deeper _) hsp
  have I : Inv (cxOf CX P w K mg base N qual scope f cdv A outer s H E) [] (start N vs) H s1 := inv_start S hr.hd e0 hl r x
  refine wpAny_mono (ht [] s1 (start N vs) H _ I hq) (fun fl s' hs => ?_) fun e s' hs => hs
  have fin : ∀ {σ' : St} {H' : Hp} {v : V} {u : Value}, Inv (cxOf CX P w K mg base N qual scope f cdv A outer s H E) [] σ' H' s' → RelV v u → Q v H' → CE outer P w H s Q u s' :=
    fun {σ' H' v u} J rv q => ⟨v, H', J.os, J.bare, J.base, J.hok, rv, q⟩
  cases fl with
  | ret u =>
    obtain ⟨v, σ', H', J, rv, q⟩ := hs
    exact fin J rv q
  | next =>
    obtain ⟨σ', H', J, q⟩ := hs
    exact fin (v := V.non) (u := Value.none) J rfl q
  | brk =>
    obtain ⟨_, _, _, q⟩ := hs
    exact False.elim q
  | cont =>
    obtain ⟨_, _, _, q⟩ := hs
    exact False.elim q
end L2
namespace L2
open PySem PySem.Spec PyProof.Rows
section
variable {X : Cx} {x : Str} {p pos : Pos} {e : Expr} {es : List Expr} {t : TA} {id T : String} {r : List V → Hp → VK → Prop}
def tCB (r : List V → Hp → VK → Prop) (t : TA) : TE := fun σ H Q => t σ H fun vs H1 => r vs H1 Q
theorem pe_callB (hc : CallR X (.builtin id) r) (hg : Gl X x) (hm : X.mg x = none) (hv : bootBuiltins x = some (.builtin id)) (ha : PA X (e :: es) t) (hn : x ≠ "__name__" := by decide) (hdb : (x == ("__debug__" : Str)) = false := by decide)
    (he : starEach (e :: es) X.env = (false, eval e X.env) :: starEach es X.env := by rfl) (hpl : (backTo pos (starEach es X.env)).any (·.1) = false := by rfl) : PE X (.Call (.Name x p) (e :: es) [] pos) (tCB r t) := by
  intro pins s σ H Q I h
  refine wpAny_Call_Name_kw (ld_blt I hg hm hv ?_ hn hdb)
  exact PyProof.Rows.callWith_builtin1 (thn (ha pos pins s σ H _ I h) fun us s1 ⟨vs, H1, I1, r1, q1⟩ => hc pins s1 σ H1 vs us Q I1 r1 q1) he hpl
theorem pe_callTy (hc : CallR X (.type T) r) (hg : Gl X x) (hm : X.mg x = none) (hv : bootBuiltins x = some (.type T)) (ha : PA X (e :: es) t) (hn : x ≠ "__name__" := by decide) (hdb : (x == ("__debug__" : Str)) = false := by decide)
    (he : starEach (e :: es) X.env = (false, eval e X.env) :: starEach es X.env := by rfl) (hpl : (backTo pos (starEach es X.env)).any (·.1) = false := by rfl) : PE X (.Call (.Name x p) (e :: es) [] pos) (tCB r t) := by
  intro pins s σ H Q I h
  refine wpAny_Call_Name_kw (ld_blt I hg hm hv ?_ hn hdb)
  exact PyProof.Rows.callWith_type1 (thn (ha pos pins s σ H _ I h) fun us s1 ⟨vs, H1, I1, r1, q1⟩ => hc pins s1 σ H1 vs us Q I1 r1 q1) he hpl
end
end L2
namespace HT
open PySem PyProof.Rows
def lexLt : List Int → List Int → Bool
  | [], [] => false
  | [], _ :: _ => true
  | _ :: _, [] => false
  | x :: xs, y :: ys => if x = y then lexLt xs ys else decide (x < y)
section
open PySem.SeqAt
open PySem.AutoSeq1 (wpAny_loadPart')
open PySem.MeetsSeq PySem.MeetsSeq2 PySem.MeetsSeq3
end
section
variable {prog : Program} {w : World} {A : Around} {E : Value → Shared → Prop} {s : Shared}
def sIx (n d : Nat) : Option Int → Nat
  | none => d
  | some v => if v < 0 then (v + (n : Int)).toNat else min v.toNat n
end
end HT
namespace L2
open PySem PySem.Spec PyProof.Rows
abbrev TO := St → Hp → (Option Int → Hp → Prop) → Prop
def PO (X : Cx) (e : Option Expr) (t : TO) : Prop :=
  ∀ (pins : List (Addr × Obj)) (s : Shared) (σ : St) (H : Hp) (Q : Option Int → Hp → Prop), Inv X pins σ H s → t σ H Q →
    wpAny (model X.prog X.w) X.A (evalPart e X.env) (fun u s' => ∃ o H', Inv X pins σ H' s' ∧ IsPart u o ∧ Q o H') X.xe s
def tNoPart : TO := fun _ H Q => Q none H
def tPart (t : TE) : TO := fun σ H Q => t σ H fun x H1 => ∃ i, x = .int i ∧ Q (some i) H1
section
variable {X : Cx} {e : Expr} {te : TE} {lo hi : Option Expr} {tl th : TO} {pos p2 : Pos}
def SlR (X : Cx) (r : V → Option Int → Option Int → Hp → VK → Prop) : Prop :=
  ∀ (pins : List (Addr × Obj)) (s : Shared) (σ : St) (H : Hp) (x : V) (v vl vu : Value) (lo hi : Option Int) (sl : Addr) (Q : VK), Inv X pins σ H s → RelV x v → s.heap.IsSliceOf sl vl vu .none → IsPart vl lo → IsPart vu hi → r x lo hi H Q →
    ∃ T id, typeLookup (.type T) "__getitem__" = pure (some (.builtin id)) ∧ s.TypeIs v T ∧ wpAny (model X.prog X.w) X.A (getItem v (.ref sl)) (EP X pins σ Q) X.xe s
theorem SlR.or {r r' : V → Option Int → Option Int → Hp → VK → Prop} (h : SlR X r) (h' : SlR X r') : SlR X (fun x lo hi H Q => r x lo hi H Q ∨ r' x lo hi H Q) := by
  intro pins s σ H x v vl vu lo hi sl Q I rx hs pl pu q
  rcases q with q | q
  · exact h pins s σ H x v vl vu lo hi sl Q I rx hs pl pu q
  · exact h' pins s σ H x v vl vu lo hi sl Q I rx hs pl pu q
def tSl (r : V → Option Int → Option Int → Hp → VK → Prop) (te : TE) (tl th : TO) : TE := fun σ H Q => te σ H fun x H1 => tl σ H1 fun l H2 => th σ H2 fun u H3 => r x l u H3 Q
def cutV (xs : List V) (lo hi : Option Int) : List V := (xs.drop (HT.sIx xs.length 0 lo)).take (HT.sIx xs.length xs.length hi - HT.sIx xs.length 0 lo)
def rSlT (K : PySem.W.Frag) : V → Option Int → Option Int → Hp → VK → Prop := fun x lo hi H Q => ∃ a xs, x = .ref a ∧ SqT K H a xs ∧
  ¬ (HT.sIx xs.length 0 lo = 0 ∧ HT.sIx xs.length xs.length hi = xs.length) ∧ ∀ p, H p = none → Q (.ref p) (upd H p (.tup (cutV xs lo hi)))
def rLtT (K : PySem.W.Frag) : R2 := fun x y H Q => ∃ a b ns ms, x = .ref a ∧ y = .ref b ∧ SqT K H a (ns.map V.int) ∧ SqT K H b (ms.map V.int) ∧ Q (.bl (HT.lexLt ns ms)) H
def rCatT (K : PySem.W.Frag) : R2 := fun x y H Q => ∃ a b xs ys, x = .ref a ∧ y = .ref b ∧ SqT K H a xs ∧ SqT K H b ys ∧ xs ≠ [] ∧ xs.length + ys.length ≤ sizeLine ∧
  (ys = [] → Q (.ref a) H) ∧ (ys ≠ [] → ∀ p, H p = none → Q (.ref p) (upd H p (.tup (xs ++ ys))))
end
end L2
namespace L2
open PySem PySem.Spec PyProof.Rows
def ixN (n : Nat) (i : Int) : Option Nat := if 0 ≤ i then (if i < n then some i.toNat else none) else if -(n : Int) ≤ i then some (i + n).toNat else none
def atI {α : Type} (xs : List α) (i : Int) : Option α := (ixN xs.length i).bind fun j => xs[j]?
theorem ixN_seq {n : Nat} {i : Int} {j : Nat} (h : ixN n i = some j) : seqIndex? i n = some j ∧ j < n ∧ -(n : Int) ≤ i ∧ i < n := by
  unfold ixN at h
  by_cases h0 : 0 ≤ i
  · rw [if_pos h0] at h
    by_cases h1 : i < n
    · rw [if_pos h1] at h
      have e : i.toNat = j := Option.some.inj h
      exact ⟨by rw [seqIndex_of h0 h1, e], by omega, by omega, h1⟩
    · rw [if_neg h1] at h; cases h
  · rw [if_neg h0] at h
    by_cases h1 : -(n : Int) ≤ i
    · rw [if_pos h1] at h
      have e : (i + n).toNat = j := Option.some.inj h
      exact ⟨by rw [seqIndex_neg (by omega) h1, e], by omega, h1, by omega⟩
    · rw [if_neg h1] at h; cases h
theorem atI_get {α : Type} {xs : List α} {i : Int} {v : α} (h : atI xs i = some v) : ∃ j, seqIndex? i xs.length = some j ∧ xs[j]? = some v ∧ j < xs.length ∧ -(xs.length : Int) ≤ i ∧ i < xs.length := by
  unfold atI at h
  cases e : ixN xs.length i with
  | none => rw [e] at h; cases h
  | some j =>
    rw [e] at h
    obtain ⟨h1, h2, h3, h4⟩ := ixN_seq e
    exact ⟨j, h1, h, h2, h3, h4⟩
theorem atI_nat {α : Type} {xs : List α} {j : Nat} {v : α} (h : xs[j]? = some v) : atI xs (j : Int) = some v := by
  have hj : j < xs.length := (List.getElem?_eq_some_iff.mp h).1
  have e : ixN xs.length (j : Int) = some j := by
    unfold ixN
    rw [if_pos (by omega), if_pos (by omega)]; simp
  unfold atI; rw [e]; exact h
def PlainIx (b : Expr) : Prop := ∀ o i, subscripted b false o i = operate [o, i] (getItem o i)
def IxR (X : Cx) (r : R2) : Prop :=
  ∀ (value slice : Expr) (pins : List (Addr × Obj)) (s : Shared) (σ : St) (H : Hp) (x y : V) (v u : Value) (Q : VK), Inv X pins σ H s → RelV x v → RelV y u → r x y H Q →
    subscripted slice false v u = operate [v, u] (getItem v u) → wpAny (model X.prog X.w) X.A (subscriptTail value slice v u) (EP X pins σ Q) X.xe s
def MtR (X : Cx) (id : String) (r : V → List V → Hp → VK → Prop) : Prop :=
  ∀ (pins : List (Addr × Obj)) (s : Shared) (σ : St) (H : Hp) (x : V) (xs : List V) (v : Value) (us : List Value) (Q : VK), Inv X pins σ H s → RelV x v → Vals xs us → r x xs H Q →
    wpAny (model X.prog X.w) X.A (call (.builtin id) (v :: us)) (EP X pins σ Q) X.xe s
section
variable {X : Cx} {a b : Expr} {ta tb : TE} {pos : Pos}
theorem IxR.or {r r' : R2} (h : IxR X r) (h' : IxR X r') : IxR X (fun x y H Q => r x y H Q ∨ r' x y H Q) := by
  intro value slice pins s σ H x y v u Q I rx ry q hs
  rcases q with q | q
  · exact h value slice pins s σ H x y v u Q I rx ry q hs
  · exact h' value slice pins s σ H x y v u Q I rx ry q hs
theorem MtR.or {id : String} {r r' : V → List V → Hp → VK → Prop} (h : MtR X id r) (h' : MtR X id r') : MtR X id (fun x xs H Q => r x xs H Q ∨ r' x xs H Q) := by
  intro pins s σ H x xs v us Q I rx rs q
  rcases q with q | q
  · exact h pins s σ H x xs v us Q I rx rs q
  · exact h' pins s σ H x xs v us Q I rx rs q
theorem pe_ix {r : R2} (hr : IxR X r) (ha : PE X a ta) (hb : PE X b tb) (hs : PlainIx b) : PE X (.Subscript a b pos) (tOp r ta tb) := by
  intro pins s σ H Q I h
  exact Subscript_ (binT ha hb I h fun v u s2 x y H2 I2 rx ry q => hr a b pins s2 σ H2 x y v u Q I2 rx ry q (hs _ _))
def rIxL (K : PySem.W.Frag) : R2 := fun x y H Q => ∃ p xs i v, x = .ref p ∧ y = .int i ∧ SqL K H p xs ∧ atI xs i = some v ∧ Q v H
def rIxT (K : PySem.W.Frag) : R2 := fun x y H Q => ∃ p xs i v, x = .ref p ∧ y = .int i ∧ SqT K H p xs ∧ atI xs i = some v ∧ Q v H
def rIxS : R2 := fun x y H Q => ∃ z i c, x = .str z ∧ y = .int i ∧ z.length ≤ sizeLine ∧ atI z.cps.toList i = some c ∧ Q (.str ⟨#[c]⟩) H
theorem ix_list : IxR X (rIxL X.K) := by
  intro value slice pins s σ H x y v u Q I rx ry h hs
  obtain ⟨p, xs, i, z, rfl, rfl, hq, he, q⟩ := h
  cases rx
  obtain ⟨t, rfl⟩ := ry
  obtain ⟨its, r, pl, hz⟩ := I.list hq
  obtain ⟨j, h1, h2, h3, h4, h5⟩ := atI_get he
  obtain ⟨w, ew, rw'⟩ := r.get h2
  have hl := r.length
  have hn := line63
  have fin : EP X pins σ Q w s := ⟨z, H, I, rw', q⟩
  by_cases h0 : 0 ≤ i
  · have hj : i.toNat = j := by
      rw [seqIndex_of h0 h5] at h1
      exact Option.some.inj h1
    exact item_listR pl.isList h0 (by omega) (by rw [hj]; simpa using ew) fin hs
  · have hj : (i + (its.toArray.size : Int)).toNat = j := by
      rw [seqIndex_neg (by omega) h4] at h1
      rw [List.size_toArray, ← hl]
      exact Option.some.inj h1
    exact subscriptTail_builtinR (x := w) pl.isList.typeIs slot_list_getitem.lookup
      (wpAny_getItem_list_neg (Q := fun r s' => r = w ∧ EP X pins σ Q r s') pl.isList (by omega) (by rw [List.size_toArray] <;> omega) (by omega) (by rw [hj]; simpa using ew) ⟨rfl, fin⟩) hs
theorem ix_tup : IxR X (rIxT X.K) := by
  intro value slice pins s σ H x y v u Q I rx ry h hs
  obtain ⟨p, xs, i, z, rfl, rfl, hq, he, q⟩ := h
  cases rx
  obtain ⟨t, rfl⟩ := ry
  obtain ⟨its, r, pl, hz⟩ := I.tuple hq
  obtain ⟨j, h1, h2, h3, h4, h5⟩ := atI_get he
  obtain ⟨w, ew, rw'⟩ := r.get h2
  have hl := r.length
  have hn := line63
  have fin : EP X pins σ Q w s := ⟨z, H, I, rw', q⟩
  exact subscriptTail_builtinR (x := w) pl.typeIs slot_tuple_getitem.lookup
    (getItem_tuple (j := j) (Q := fun r s' => r = w ∧ EP X pins σ Q r s') pl (by omega) (by omega) (by rw [List.size_toArray, ← hl]; exact h1) (by simpa using ew) ⟨rfl, fin⟩) hs
def rIx (K : PySem.W.Frag) : R2 := fun x y H Q => rIxL K x y H Q ∨ rIxT K x y H Q ∨ rIxS x y H Q
theorem mapSeq_set (its : List Value) (n j : Nat) (u : Value) : Obj.mapSeq (·.setIfInBounds j u) { cls := .type "list", data := .seq its.toArray n } = { cls := .type "list", data := .seq (its.set j u).toArray n } := by
  simp [Obj.mapSeq]
theorem Inv.lst {pins : List (Addr × Obj)} {σ : St} {H : Hp} {s : Shared} {p : Addr} {xs : List V} (I : Inv X pins σ H s) (h : H p = some (.lst xs)) :
    ∃ (its : List Value) (n : Nat), Vals xs its ∧ s.heap.get? p = some { cls := .type "list", data := .seq its.toArray n } ∧ xs.length ≤ sizeLine := by
  obtain ⟨z, its, n, r, e⟩ := I.hok p _ h
  exact ⟨its, n, r, e, z⟩
theorem Inv.lstUpd {pins : List (Addr × Obj)} {σ : St} {H : Hp} {s : Shared} {p : Addr} {xs ys : List V} {its its' : List Value} {n n' : Nat} {f : Obj → Obj} (I : Inv X pins σ H s) (h : H p = some (.lst xs))
    (ho : s.heap.get? p = some { cls := .type "list", data := .seq its.toArray n }) (hf : f { cls := .type "list", data := .seq its.toArray n } = { cls := .type "list", data := .seq its'.toArray n' }) (r : Vals ys its') (hz : ys.length ≤ sizeLine) (t : Nat) :
    Inv X pins σ (upd H p (.lst ys)) { s with heap := s.heap.update p f, toks := t } := by
  have e : (s.heap.update p f).get? p = some { cls := .type "list", data := .seq its'.toArray n' } := by
    rw [Heap.get?_update_self f ho (by rw [hf] <;> rfl), hf]
  refine I.write (x := p) (e := p) (by rw [h]; trivial) (.inl rfl) (fun b u hb q => (Heap.get?_update_other _ _ (Ne.symm hb)).trans q) ⟨_, e⟩ ?_
  exact ⟨hz, its', n', r, e⟩
def rSetL : V → V → V → Hp → (Hp → Prop) → Prop := fun o i v H Q => ∃ p xs k j, o = .ref p ∧ i = .int k ∧ H p = some (.lst xs) ∧ ixN xs.length k = some j ∧ Q (upd H p (.lst (xs.set j v)))
theorem set_list : PSet X rSetL := by
  intro pins s σ H o i v ov iv u Q I ro ri rv h
  obtain ⟨p, xs, k, j, rfl, rfl, hp, hj, q⟩ := h
  cases ro
  obtain ⟨t, rfl⟩ := ri
  obtain ⟨its, n, r, ho, hz⟩ := I.lst hp
  obtain ⟨h1, h2, h3, h4⟩ := ixN_seq hj
  have hl := r.length
  have hn := line63
  have I' : Inv X pins σ (upd H p (.lst (xs.set j v))) { s with heap := s.heap.update p (Obj.mapSeq (·.setIfInBounds j u)) } :=
    I.lstUpd hp ho (mapSeq_set its n j u) (r.set rv j) (by rw [List.length_set]; exact hz) s.toks
  by_cases h0 : 0 ≤ k
  · have hk : k.toNat = j := by
      rw [seqIndex_of h0 h4] at h1
      exact Option.some.inj h1
    exact PySem.W.ki_setAt ho h0 (by omega) (by rw [List.size_toArray, ← hl]; exact h4) (by rw [hk]; exact ⟨_, I', q⟩)
  · have hk : (k + (its.toArray.size : Int)).toNat = j := by
      rw [seqIndex_neg (by omega) h3] at h1
      rw [List.size_toArray, ← hl]
      exact Option.some.inj h1
    exact PySem.W.ki_setBack ho (by omega) (by rw [List.size_toArray, ← hl]; exact h3) (by omega) (by rw [hk]; exact ⟨_, I', q⟩)
def rSlL (K : PySem.W.Frag) : V → Option Int → Option Int → Hp → VK → Prop := fun x lo hi H Q => ∃ a xs, x = .ref a ∧ SqL K H a xs ∧ ∀ p, H p = none → Q (.ref p) (upd H p (.lst (cutV xs lo hi)))
def flatV : V → Bool
  | .non => true
  | .bl _ => true
  | .int _ => true
  | .str _ => true
  | _ => false
def eqV : V → V → Bool
  | .non, .non => true
  | .bl a, .bl b => a == b
  | .bl a, .int b => (if a then 1 else 0) == b
  | .int a, .bl b => a == (if b then 1 else 0)
  | .int a, .int b => a == b
  | .str a, .str b => a == b
  | _, _ => false
theorem eqAt_V {A : Around} {s : Shared} {y x : V} {u v : Value} (ry : RelV y u) (rx : RelV x v) (fy : flatV y = true) (fx : flatV x = true) : SeqAt.EqAt A s u v (eqV y x) := by
  cases y with
  | non =>
    cases ry
    cases x with
    | non => cases rx; exact SeqAt.EqAt.same _
    | bl b => cases rx; exact SeqAt.EqAt.none_bool b
    | int b => obtain ⟨t, rfl⟩ := rx; exact SeqAt.EqAt.none_int b t
    | str b => obtain ⟨t, rfl⟩ := rx; exact SeqAt.EqAt.none_str b t
    | _ => exact absurd (show false = true from fx) Bool.false_ne_true
  | bl a =>
    cases ry
    cases x with
    | non => cases rx; exact SeqAt.EqAt.bool_none a
    | bl b => cases rx; exact SeqAt.EqAt.bool_bool a b
    | int b => obtain ⟨t, rfl⟩ := rx; exact SeqAt.EqAt.bool_int a b t
    | str b => obtain ⟨t, rfl⟩ := rx; exact SeqAt.EqAt.bool_str a b t
    | _ => exact absurd (show false = true from fx) Bool.false_ne_true
  | int a =>
    obtain ⟨t', rfl⟩ := ry
    cases x with
    | non => cases rx; exact SeqAt.EqAt.int_none a t'
    | bl b => cases rx; exact SeqAt.EqAt.int_bool a t' b
    | int b => obtain ⟨t, rfl⟩ := rx; exact SeqAt.EqAt.int_int a t' b t
    | str b => obtain ⟨t, rfl⟩ := rx; exact SeqAt.EqAt.int_str a t' b t
    | _ => exact absurd (show false = true from fx) Bool.false_ne_true
  | str a =>
    obtain ⟨t', rfl⟩ := ry
    cases x with
    | non => cases rx; exact SeqAt.EqAt.str_none a t'
    | bl b => cases rx; exact SeqAt.EqAt.str_bool a t' b
    | int b => obtain ⟨t, rfl⟩ := rx; exact SeqAt.EqAt.str_int a t' b t
    | str b => obtain ⟨t, rfl⟩ := rx; exact SeqAt.EqAt.str_str a t' b t
    | _ => exact absurd (show false = true from fx) Bool.false_ne_true
  | _ => exact absurd (show false = true from fy) Bool.false_ne_true
def eqU (x : V) (u : Value) : Bool := match u with
  | .none => eqV .non x
  | .bool b => eqV (.bl b) x
  | .int i _ => eqV (.int i) x
  | .str z _ => eqV (.str z) x
  | _ => false
theorem eqU_of {x y : V} {u : Value} (r : RelV y u) (f : flatV y = true) : eqU x u = eqV y x := by
  cases y with
  | non => cases r; rfl
  | bl b => cases r; rfl
  | int i => obtain ⟨t, rfl⟩ := r; rfl
  | str z => obtain ⟨t, rfl⟩ := r; rfl
  | _ => exact absurd (show false = true from f) Bool.false_ne_true
theorem any_eqU {x : V} : ∀ {xs : List V} {us : List Value}, Vals xs us → xs.all flatV = true → us.any (eqU x) = xs.any fun y => eqV y x
  | _, _, .nil, _ => rfl
  | y :: xs, u :: us, .cons r t, f => by
    rw [List.all_cons, Bool.and_eq_true] at f
    rw [List.any_cons, List.any_cons, eqU_of r f.1, any_eqU t f.2]
theorem mem_eqAt {A : Around} {s : Shared} {x : V} {v : Value} (rx : RelV x v) (fx : flatV x = true) : ∀ {xs : List V} {us : List Value}, Vals xs us → xs.all flatV = true → ∀ u ∈ us, SeqAt.EqAt A s u v (eqU x u)
  | _, _, .nil, _ => fun u hu => by cases hu
  | y :: xs, u :: us, .cons r t, f => fun u' hu => by
    rw [List.all_cons, Bool.and_eq_true] at f
    rcases List.mem_cons.mp hu with rfl | hu
    · rw [eqU_of r f.1]; exact eqAt_V r rx f.1 fx
    · exact mem_eqAt rx fx t f.2 u' hu
def inV (x : V) (xs : List V) : Bool := xs.any fun y => eqV y x
def rIn (K : PySem.W.Frag) (neg : Bool) : R2 := fun x y H Q => ∃ p xs, y = .ref p ∧ (SqL K H p xs ∨ SqT K H p xs) ∧ flatV x = true ∧ xs.all flatV = true ∧ Q (.bl (if neg then !inV x xs else inV x xs)) H
theorem op_notIn_seq : OpR X (compareOp .NotIn) (rIn X.K true) := by
  intro pins s σ H x y v u Q I rx ry h
  obtain ⟨p, xs, rfl, hq, fx, fs, q⟩ := h
  cases ry
  rcases hq with hq | hq
  · obtain ⟨its, r, pl, hz⟩ := I.list hq
    refine SeqAt.notIn_listAt (eqU x) pl.isList (fun w hw => mem_eqAt rx fx r fs w (by simpa using hw)) ⟨.bl _, H, I, rfl, ?_⟩
    rw [show its.toArray.any (eqU x) = its.any (eqU x) by simp, any_eqU r fs]
    exact q
  · obtain ⟨its, r, pl, hz⟩ := I.tuple hq
    refine SeqAt.notIn_tupleAt (eqU x) pl (fun w hw => mem_eqAt rx fx r fs w (by simpa using hw)) ⟨.bl _, H, I, rfl, ?_⟩
    rw [show its.toArray.any (eqU x) = its.any (eqU x) by simp, any_eqU r fs]
    exact q
theorem call_len_seq : CallR X (.builtin "len") (fun xs H Q => ∃ p ys, xs = [.ref p] ∧ (SqL X.K H p ys ∨ SqT X.K H p ys) ∧ Q (.int ys.length) H) := by
  intro pins s σ H xs us Q I r h
  obtain ⟨p, ys, rfl, hq, q⟩ := h
  obtain ⟨u, rfl, rx⟩ := vals1 r
  cases rx
  have hn := line63
  rcases hq with hq | hq
  · obtain ⟨its, r', pl, hz⟩ := I.list hq
    have hlen := r'.length
    exact Calls.call_len_list pl.isList (by simp only [List.size_toArray] <;> omega) ⟨.int ys.length, H, I.tok _, ⟨s.toks + 1, by rw [List.size_toArray, hlen]⟩, q⟩
  · obtain ⟨its, r', pl, hz⟩ := I.tuple hq
    have hlen := r'.length
    exact len_tuple pl (by simp only [List.size_toArray] <;> omega) ⟨.int ys.length, H, I.tok _, ⟨s.toks + 1, by rw [List.size_toArray, hlen]⟩, q⟩
theorem CallR.or {f : Value} {r r' : List V → Hp → VK → Prop} (h : CallR X f r) (h' : CallR X f r') : CallR X f (fun xs H Q => r xs H Q ∨ r' xs H Q) := by
  intro pins s σ H xs us Q I rs q
  rcases q with q | q
  · exact h pins s σ H xs us Q I rs q
  · exact h' pins s σ H xs us Q I rs q
def tyV (K : PySem.W.Frag) (T : String) (x : V) (H : Hp) : Prop := match x with
  | .str _ => T = "str"
  | .int _ => T = "int"
  | .ref p => (T = "list" ∧ ∃ xs, SqL K H p xs) ∨ (T = "tuple" ∧ ∃ o, K.lookup p = some o ∧ o.cls = .type "tuple" ∧ o.dict = none) ∨
      (T = "dict" ∧ ((∃ kvs, H p = some (.dK kvs)) ∨ ∃ kvs, H p = some (.dT kvs))) ∨ (T = "set" ∧ ∃ S n, H p = some (.set S n))
  | _ => False
theorem tyV_is {pins : List (Addr × Obj)} {σ : St} {H : Hp} {s : Shared} {T : String} {x : V} {v : Value} (I : Inv X pins σ H s) (r : RelV x v) (ty : tyV X.K T x H) :
    s.TypeIs v T ∧ ∀ a, v = .ref a → ∃ ob, s.heap.get? a = some ob ∧ ob.dict = none := by
  cases x with
  | str z =>
    obtain ⟨t, rfl⟩ := r
    cases (show T = "str" from ty)
    exact ⟨typeIs_str s z t, fun _ e => nomatch e⟩
  | int i =>
    obtain ⟨t, rfl⟩ := r
    cases (show T = "int" from ty)
    exact ⟨typeIs_int s i t, fun _ e => nomatch e⟩
  | ref p =>
    cases r
    rcases ty with ⟨rfl, xs, hq⟩ | ⟨rfl, o, hk, hc, hd⟩ | ⟨rfl, hk⟩ | ⟨rfl, S, n, hk⟩
    · obtain ⟨its, _, pl, _⟩ := I.list hq
      refine ⟨pl.isList.typeIs, fun a e => ?_⟩
      cases e
      obtain ⟨o, n, e, c, hd, _⟩ := pl
      exact ⟨o, e, hd⟩
    · refine ⟨⟨o, I.kIn p o hk, hc⟩, fun a e => ?_⟩
      cases e
      exact ⟨o, I.kIn _ o hk, hd⟩
    · have z : ∃ o, s.heap.get? p = some o ∧ o.ExactDict := by
        rcases hk with ⟨kvs, hk⟩ | ⟨kvs, hk⟩
        · obtain ⟨_, _, _, _, o, _, _, e, ex, _⟩ := I.hok p _ hk
          exact ⟨o, e, ex⟩
        · obtain ⟨_, _, _, _, o, _, _, e, ex, _⟩ := I.hok p _ hk
          exact ⟨o, e, ex⟩
      obtain ⟨o, e, ex⟩ := z
      refine ⟨⟨o, e, ex.1⟩, fun a e2 => ?_⟩
      cases e2
      exact ⟨o, e, ex.2.1⟩
    · obtain ⟨o, _, _, _, e, ex, _⟩ := I.hok p _ hk
      refine ⟨⟨o, e, ex.1⟩, fun a e2 => ?_⟩
      cases e2
      exact ⟨o, e, ex.2.1⟩
  | _ => exact False.elim ty
def tBM0 (K : PySem.W.Frag) (T : String) (r : V → List V → Hp → VK → Prop) (to : TE) : TE := fun σ H Q => to σ H fun x H1 => tyV K T x H1 ∧ r x [] H1 Q
def tBM (K : PySem.W.Frag) (T : String) (r : V → List V → Hp → VK → Prop) (to : TE) (t : TA) : TE := fun σ H Q => to σ H fun x H1 => tyV K T x H1 ∧ t σ H1 fun xs H2 => r x xs H2 Q
variable {o e : Expr} {es : List Expr} {to : TE} {t : TA} {name : Str} {apos cpos : Pos} {T id : String} {r : V → List V → Hp → VK → Prop}
theorem pe_bm (pa : PlainAttrs T) (slot : Slot T name id) (hty : typeOf (.builtin id) = pure (.type "method_descriptor")) (hm : MtR X id r) (ho : PE X o to) (ha : PA X (e :: es) t)
    (hbase : attributeBase o name X.env (eval o X.env) = eval o X.env := by rfl)
    (hfew : ((backTo cpos (starEach (e :: es) X.env)).all (fun x => !x.1) && (backToKw cpos (keywordEach [] X.env)).all (fun x => x.1.isSome)
      && decide ((e :: es).length + ([] : List Keyword).length + (if ([] : List Keyword).isEmpty then 0 else 1) < 30)) = true := by rfl)
    (hline : (apos.endLine == cpos.line) = true := by rfl) (hs : starEach (e :: es) X.env = (false, eval e X.env) :: starEach es X.env := by rfl) (hplain : (backTo cpos (starEach es X.env)).any (·.1) = false := by rfl) :
    PE X (.Call (.Attribute o name apos) (e :: es) [] cpos) (tBM X.K T r to t) := by
  intro pins s σ H Q I h
  refine wpAny_Call_method_late hbase hfew hline rfl (thn (ho pins s σ H _ I h) fun v s1 ⟨x, H1, I1, r1, ty, q1⟩ => ?_)
  obtain ⟨h1, h2⟩ := tyV_is I1 r1 ty
  refine ⟨T, id, pa, slot, hty, h1, h2, ?_⟩
  have hA := ha cpos pins s1 σ H1 _ I1 q1
  rw [hs] at hA ⊢
  refine Calls.callWith_builtin (by show (false || (backTo cpos (starEach es X.env)).any (·.1)) = false; rw [hplain] <;> rfl) (Calls.evalArgs_plain ?_)
  exact thn hA fun us s2 ⟨vs, H2, I2, r2, q2⟩ => hm pins s2 σ H2 x vs v us Q I2 r1 r2 q2
end
end L2
namespace L2
open PySem PySem.Spec PyProof.Rows
def MtM (X : Cx) (id : String) (r : V → List V → Hp → VK → Prop) : Prop :=
  ∀ (pins : List (Addr × Obj)) (s : Shared) (σ : St) (H : Hp) (x : V) (xs : List V) (v : Value) (us : List Value) (Q : VK), Inv X pins σ H s → RelV x v → Vals xs us → r x xs H Q →
    wpAny (model X.prog X.w) X.A (call (.builtin id) (v :: us)) (EP X pins σ Q) X.xe s
theorem Vals.one : ∀ {x : V} {us : List Value}, Vals [x] us → ∃ u, us = [u] ∧ RelV x u
  | _, _, .cons r .nil => ⟨_, rfl, r⟩
theorem Vals.two : ∀ {x y : V} {us : List Value}, Vals [x, y] us → ∃ u v, us = [u, v] ∧ RelV x u ∧ RelV y v
  | _, _, _, .cons r (.cons q .nil) => ⟨_, _, rfl, r, q⟩
theorem Vals.zero : ∀ {us : List Value}, Vals [] us → us = []
  | _, .nil => rfl
theorem Vals.dropLast {xs : List V} {us : List Value} (h : Vals xs us) : Vals xs.dropLast us.dropLast := by
  induction h with
  | nil => exact .nil
  | cons r t ih =>
    cases t with
    | nil => exact .nil
    | cons q t' => exact .cons r ih
theorem Vals.eraseIdx : ∀ {xs : List V} {us : List Value} (i : Nat), Vals xs us → Vals (xs.eraseIdx i) (us.eraseIdx i)
  | _, _, _, .nil => .nil
  | _, _, 0, .cons _ t => t
  | _, _, i + 1, .cons r t => .cons r (Vals.eraseIdx i t)
theorem Vals.reverse {xs : List V} {us : List Value} (h : Vals xs us) : Vals xs.reverse us.reverse := by
  induction h with
  | nil => exact .nil
  | cons r t ih => rw [List.reverse_cons, List.reverse_cons]; exact Vals.append ih (.cons r .nil)
theorem Vals.rep {xs : List V} {us : List Value} (h : Vals xs us) : ∀ k : Nat, Vals (List.replicate k xs).flatten (List.replicate k us).flatten
  | 0 => .nil
  | k + 1 => by
    rw [List.replicate_succ, List.replicate_succ, List.flatten_cons, List.flatten_cons]
    exact Vals.append h (Vals.rep h k)
theorem foldl_rep (its : List Value) : ∀ (k : Nat) (acc : List Value),
    List.foldl (fun x1 x2 => x1 ++ x2) acc.toArray (List.replicate k its.toArray) = (acc ++ (List.replicate k its).flatten).toArray
  | 0, acc => by simp
  | k + 1, acc => by
    have e : acc.toArray ++ its.toArray = (acc ++ its).toArray := by simp
    have e2 : (acc ++ its) ++ (List.replicate k its).flatten = acc ++ (List.replicate (k + 1) its).flatten := by
      rw [List.replicate_succ, List.flatten_cons, List.append_assoc]
    rw [← e2, ← foldl_rep its k (acc ++ its), ← e, List.replicate_succ, List.foldl_cons]
section
variable {X : Cx} {pins : List (Addr × Obj)} {σ : St} {H : Hp} {s : Shared} {l b : Addr} {xs ys zs : List V}
theorem Inv.lset {its its' : List Value} {n : Nat} {f : Array Value → Array Value} {t' : Nat} (I : Inv X pins σ H s) (hH : H l = some (.lst xs))
    (e : s.heap.get? l = some { cls := .type "list", data := .seq its.toArray n }) (hf : f its.toArray = its'.toArray) (hv : Vals ys its') (hz : ys.length ≤ sizeLine) :
    Inv X pins σ (upd H l (.lst ys)) { s with heap := s.heap.update l (Obj.mapSeq f), toks := t' } := by
  have q := PySem.IsL.update e f
  rw [hf] at q
  refine I.write (x := l) (e := l) (by rw [hH]; exact trivial) (.inl rfl) (fun b' u hb hu => (Heap.get?_update_other s.heap (Obj.mapSeq f) (Ne.symm hb)).trans hu) ⟨_, q⟩ ?_
  exact ⟨hz, its', _, hv, q⟩
theorem Inv.lnew {its : List Value} {t' : Nat} (I : Inv X pins σ H s) (hv : Vals ys its) (hz : ys.length ≤ sizeLine) :
    Inv X pins σ (upd H s.heap.objs.size (.lst ys)) { s with heap := s.heap.push { cls := .type "list", data := .seq its.toArray }, toks := t' } :=
  I.laid (fun _ _ q => Heap.get?_push_of_some _ q) (Nat.le_refl _) ⟨hz, its, 0, hv, Heap.get?_push_size _ rfl⟩
theorem Inv.fresh (I : Inv X pins σ H s) : H s.heap.objs.size = none := I.hok.fresh (Nat.le_refl _)
theorem Inv.lstM (I : Inv X pins σ H s) (hH : H l = some (.lst xs)) : xs.length ≤ sizeLine ∧ ∃ (its : List Value) (n : Nat), Vals xs its ∧ xs.length = its.length ∧ s.heap.get? l = some { cls := .type "list", data := .seq its.toArray n } := by
  obtain ⟨z, its, n, r, e⟩ := I.hok l _ hH
  exact ⟨z, its, n, r, r.length, e⟩
theorem notLongL {n : Nat} (h : n ≤ sizeLine) : Builtin.List.listTooLong n = false := by
  unfold Builtin.List.listTooLong
  exact decide_eq_false (by omega)
end
section
variable {X : Cx}
def rAppend : V → List V → Hp → VK → Prop := fun x vs H Q => ∃ l xs y, x = .ref l ∧ vs = [y] ∧ H l = some (.lst xs) ∧ xs.length < sizeLine ∧ Q .non (upd H l (.lst (xs ++ [y])))
theorem mt_append : MtM X "list.append" rAppend := by
  intro pins s σ H x vs v us Q I rx rv h
  obtain ⟨l, xs, y, rfl, rfl, hH, hz, q⟩ := h
  cases rx
  obtain ⟨u, rfl, ru⟩ := rv.one
  obtain ⟨z, its, n, r, hl, e⟩ := I.lstM hH
  refine call_meets F.slot_list_append ⟨_, e, rfl⟩ F.entry_list_append (F.args_list_append_2 _ _) (PySem.list_append l its.toArray n u (by rw [List.size_toArray]; omega)) ⟨e, ?_⟩
  refine ⟨.non, _, I.lset (its' := its ++ [u]) hH e (by simp) (r.append (.cons ru .nil)) ?_, rfl, q⟩
  rw [List.length_append, List.length_singleton]
  omega
def rExtend : V → List V → Hp → VK → Prop := fun x vs H Q => ∃ l b xs zs, x = .ref l ∧ vs = [.ref b] ∧ H l = some (.lst xs) ∧ H b = some (.lst zs) ∧ xs.length + zs.length ≤ sizeLine ∧ Q .non (upd H l (.lst (xs ++ zs)))
def rPop : V → List V → Hp → VK → Prop := fun x vs H Q => ∃ l xs y, x = .ref l ∧ vs = [] ∧ H l = some (.lst xs) ∧ xs[xs.length - 1]? = some y ∧ Q y (upd H l (.lst xs.dropLast))
def rPopAt : V → List V → Hp → VK → Prop := fun x vs H Q => ∃ l xs i k y, x = .ref l ∧ vs = [.int i] ∧ H l = some (.lst xs) ∧ -(2 ^ 63) ≤ i ∧ i < 2 ^ 63 ∧ seqIndex? i xs.length = some k ∧ xs[k]? = some y ∧ Q y (upd H l (.lst (xs.eraseIdx k)))
def rReverse : V → List V → Hp → VK → Prop := fun x vs H Q => ∃ l xs, x = .ref l ∧ vs = [] ∧ H l = some (.lst xs) ∧ Q .non (upd H l (.lst xs.reverse))
def rClear : V → List V → Hp → VK → Prop := fun x vs H Q => ∃ l xs, x = .ref l ∧ vs = [] ∧ H l = some (.lst xs) ∧ Q .non (upd H l (.lst []))
def rCat : R2 := fun x y H Q => ∃ l b xs zs, x = .ref l ∧ y = .ref b ∧ H l = some (.lst xs) ∧ H b = some (.lst zs) ∧ xs.length + zs.length ≤ sizeLine ∧ ∀ p, H p = none → Q (.ref p) (upd H p (.lst (xs ++ zs)))
def rRep : R2 := fun x y H Q => ∃ l k xs, x = .ref l ∧ y = .int k ∧ H l = some (.lst xs) ∧ -(2 ^ 63) ≤ k ∧ k < 2 ^ 63 ∧ xs.length * k.toNat ≤ sizeLine ∧
  ∀ p, H p = none → Q (.ref p) (upd H p (.lst (List.replicate k.toNat xs).flatten))
theorem len_rep {α : Type} (xs : List α) (k : Nat) : (List.replicate k xs).flatten.length = k * xs.length := by
  induction k with
  | zero => simp
  | succ k ih => rw [List.replicate_succ, List.flatten_cons, List.length_append, ih, Nat.succ_mul, Nat.add_comm]
theorem op_rep : OpR X (binaryOp .Mult) rRep := by
  intro pins s σ H x y v u Q I rx ry h
  obtain ⟨l, k, xs, rfl, rfl, hH, h1, h2, hz, q⟩ := h
  cases rx
  obtain ⟨t, rfl⟩ := ry
  obtain ⟨z, its, n, r, hl, e⟩ := I.lstM hH
  have hlen : its.toArray.size * k.toNat ≤ sizeLine := by rw [List.size_toArray, ← hl]; exact hz
  have hcap : ¬ its.toArray.size * k.toNat > (2 ^ 63 - 1) / 8 := by
    have : (sizeLine : Nat) ≤ (2 ^ 63 - 1) / 8 := by decide
    omega
  have hfit : ¬ (!Builtin.List.listFitsIndex k) = true := by
    rw [fitsIndex_both h1 h2]
    exact Bool.false_ne_true
  have hlong : ¬ Builtin.List.listTooLong (its.toArray.size * k.toNat) = true := by
    rw [notLongL hlen]
    exact Bool.false_ne_true
  have hnew : List.foldl (fun x1 x2 => x1 ++ x2) #[] (List.replicate (if its.toArray.isEmpty = true then 0 else k.toNat) its.toArray) = (List.replicate k.toNat its).flatten.toArray := by
    have f0 : ∀ m : Nat, List.foldl (fun x1 x2 => x1 ++ x2) #[] (List.replicate m its.toArray) = (List.replicate m its).flatten.toArray := fun m => by
      have := foldl_rep its m []
      rw [List.nil_append] at this
      exact this
    rw [f0]
    cases its with
    | nil => simp
    | cons a r' => rw [if_neg (by simp)]
  refine wpAny_binaryOp_repeat_ref (T := "list") (U := "int") (by decide) ⟨_, e, rfl⟩ (fun s' => typeIs_int s' k t) noFill_list_mul F.fills_int_mul F.slot_int_rmul repeat_list F.slot_int_index.lookup
    (call_meets F.slot_int_rmul (typeIs_int s k t) F.entry_int_rmul (F.args_int_rmul_2 _ _) (int___rmul___int_list k t l its.toArray n)
      ⟨e, rfl, ⟨_, e, rfl⟩, call_meets F.slot_list_mul ⟨_, e, rfl⟩ F.entry_list_mul (F.args_list_mul_2 _ _) (AutoListH.list___mul___list_int_3 l its.toArray n k t hfit hcap hlong) ⟨e, ?_⟩⟩)
  rw [hnew]
  exact ⟨.ref _, _, I.lnew (t' := s.toks) (r.rep k.toNat) (by rw [len_rep, Nat.mul_comm]; exact hz), rfl, q _ I.fresh⟩
end
section
variable {prog : Program} {w : World} {A : Around} {E : Value → Shared → Prop} {s : Shared}
set_option maxRecDepth 100000 in
end
section
variable {X : Cx}
end
end L2
namespace Att
open PySem PySem.W PySem.Calls PyProof.Rows
theorem ints_of_wellAll {P : Params} {h : Heap} : ∀ (ns : List Int) (vs : List Value), WellAll P h vs (ns.map WData.int) → IntsAre vs ns := by
  intro ns
  induction ns with
  | nil =>
    intro vs w
    rw [List.map_nil] at w
    cases w
    exact .nil
  | cons n ns ih =>
    intro vs w
    rw [List.map_cons] at w
    cases w with
    | cons a b =>
      cases a
      exact .cons _ _ (ih _ b)
theorem script_of {l : OpenLaw} {n : Nat} (hn : l.most = some n) {P : Params} {h : Heap} {args : List WData} {vals : List Value}
    (hpre : l.row.toRowW.claim.pre args = true) (hwl : WellAll P h vals args) :
    ∃ a vs ns, vals = [Value.ref a] ∧ args = [WData.list (ns.map WData.int)] ∧ h.get? a = some { cls := .type "list", data := .seq vs.toArray } ∧ IntsAre vs ns ∧ ns.length ≤ n := by
  have hsh : WShape.hasAll [] args [.list .int] = true := (pre_splitW hpre).1
  have hc : l.pre.holds [] { args := args } = true := (pre_splitW hpre).2
  obtain ⟨d, r, rfl, h1, h2⟩ := hasAllW_cons hsh
  obtain rfl := hasAllW_nil h2
  obtain ⟨xs, rfl, h3⟩ := hasW_list h1
  obtain ⟨ns, rfl⟩ := items_int h3
  have hlen : ns.length ≤ n := by
    unfold OpenLaw.pre at hc
    have h4 : (WTm.not (.lt (.lit (.int (n : Int))) (.len (.arg 0)))).holds [] { args := [.list (ns.map .int)] } = true := by
      have h4 := (holds_andW hc).1
      rw [hn] at h4
      exact h4
    have h5 := condW_of h4 (w_not (w_lt w_lit (w_len_list (w_arg rfl))))
    rw [List.length_map] at h5
    refine Nat.le_of_not_lt fun q => ?_
    have q' : (n : Int) < ((ns.length : Nat) : Int) := by omega
    first
      | (rw [decide_eq_true q'] at h5; exact absurd h5 (by decide))
      | (simp at h5; omega)
  cases hwl with
  | cons w1 w2 =>
    cases w2
    cases w1 with
    | list ho hall => exact ⟨_, _, ns, rfl, rfl, ho, ints_of_wellAll ns _ hall, hlen⟩
theorem post_true (l : OpenLaw) (args : List WData) : l.row.toRowW.claim.post args (.bool true) args = true :=
  postW_of (r := l.row.toRowW) (X := (true == true))
    (show WShape.has [] (.bool true) .bool = true by first | rfl | decide | simp [WShape.has, WShape.arms, WShape.armsAll])
    (show (WTm.eq .res (.lit (.bool true))).value [] { args := args, res := some (.bool true), after := args } = some (.bool (true == true)) from w_eq_bool (w_res rfl) w_lit) rfl
theorem attach_call {l : OpenLaw} {n : Nat} {q : Program} {loose : List Str} {XP : (Str → Option Value) → Heap → Prop} {YP : World → Heap → Prop} {d : DefRec}
    (hn : l.most = some n) (hdf : d.params.defaults = [])
    (call : ∀ (w : World) (s₀ s₁ : Shared) (mg mb : Str → Option Value) (fa : Addr) (o : Obj) (pm cd doc : Value) (a : Addr) (vs : List Value) (ns : List Int),
      Ground q loose [] XP w s₀ mg mb s₁.heap → YP w s₁.heap →
      s₁.heap.get? fa = some o → o.data = .func (docDef d.name d.params d.body d.scope pm cd doc) → s₁.heap.CodeRec cd d.name → mg d.name = some (.ref fa) →
      s₁.heap.get? a = some { cls := .type "list", data := .seq vs.toArray } → IntsAre vs ns → ns.length ≤ n → s₁.gens = #[] →
      codeAny (model l.prog w) callerA (.call (.ref fa) ⟨[.ref a], []⟩) (fun r s' => r = .ok (.ret (.bool true)) ∧ OldK s₁.heap s'.heap ∧ s'.os = s₁.os ∧ AllBare s'.gens) s₁) :
    WalkO q loose XP YP l.row.toRowW d [] (fun f vs => PySem.call f vs) := by
  intro w s₀ s₁ mg mb G Y fa o pm cd doc dV kV ho hd hcd hD hmg hg args vals as hpre hlay hrd hwl hlo
  obtain rfl : dV = .none := Dflts.none hD hdf
  obtain rfl : kV = .none := Dflts.noKw hD
  obtain ⟨a, vs, ns, rfl, rfl, hobj, hints, hlen⟩ := script_of hn hpre hwl
  refine enter_call (codeAny_mono (call w s₀ s₁ mg mb fa o pm cd doc a vs ns G Y ho (fd_plain hd) hcd hmg hobj hints hlen hg) fun r s' hq => ?_)
  obtain ⟨rfl, h2, h3, h4⟩ := hq
  exact ⟨.inl ⟨.bool true, .bool true, [], rfl, fun _ => rfl, .bool true, post_true l _, fun _ => ⟨List.Pairwise.nil, fun _ hm => (nomatch hm)⟩⟩, h2, h3, h4⟩
section
variable {prog : Program} {w : World} {A : Around} {E : Value → Shared → Prop} {s : Shared} {K : Frag}
def noObjs (h : Heap) : Heap := { h with objs := #[] }
def ledger (h : Heap) (L d : Addr) : List (Addr × Obj) := (List.range h.objs.size).filterMap fun a => if a = L ∨ a = d then none else (h.get? a).map fun o => (a, o)
end
end Att
namespace L2
open PySem PySem.Spec PyProof.Rows
theorem vals_ints : ∀ {vs : List Value} {ns : List Int}, IntsAre vs ns → Vals (ns.map V.int) vs
  | _, _, .nil => .nil
  | _, _, .cons n t h => .cons ⟨t, rfl⟩ (vals_ints h)
def Only (H : Hp) : Prop := ∀ b, H b = none ∨ ∃ o xs, H b = some (.frz o (.lst xs))
theorem law_call {P : Program} {w : World} {K : PySem.W.Frag} {mg mb : Str → Option Value} {CX : CXT} {k : Nat} {fa a : Addr} {fd : FuncData} {x : Str} {sp : Sp} {s₁ : Shared} {vs : List Value} {ns : List Int}
    (KX : K.In s₁.heap) (hns : s₁.heap.Ns mainGlobals mg) (hb : s₁.heap.Ns builtinsNs mb) (hbb : ∀ x : Str, x ≠ "__name__" → mb x = bootBuiltins x) (hlim : s₁.heap.NoLimit) (hg : s₁.gens = #[])
    (ha : s₁.heap.get? a = some { cls := .type "list", data := .seq vs.toArray }) (hi : IntsAre vs ns) (hl : ns.length ≤ sizeLine) (hr : Room k callerA)
    (F : ∀ base : Heap, K.In base → base.Ns mainGlobals mg → FnOk P w K mg base CX k fa fd [x] sp) (hbind : ∀ (s : Shared) (u : Value), BindsTo s fd ⟨[u], []⟩ [(x, u)])
    (hsp : ∀ H : Hp, Only H → SqL K H a (ns.map V.int) → sp [.ref a] H (fun v _ => v = .bl true) fun _ _ _ => False)
    (hCX : ∀ H e s', CX [] H s₁ (fun _ _ _ => False) e s' → False) :
    codeAny (model P w) callerA (.call (.ref fa) ⟨[.ref a], []⟩) (fun r s' => r = .ok (.ret (.bool true)) ∧ OldK s₁.heap s'.heap ∧ s'.os = s₁.os ∧ AllBare s'.gens) s₁ := by
  have rv := vals_ints hi
  have lenV := hi.length
  have core : ∀ H : Hp, Only H → SqL K H a (ns.map V.int) → HOk P w H s₁.heap → (∀ b, H b ≠ none → b = a) → (H a ≠ none → K.lookup a = none) →
      codeAny (model P w) callerA (.call (.ref fa) ⟨[.ref a], []⟩) (fun r s' => r = .ok (.ret (.bool true)) ∧ OldK s₁.heap s'.heap ∧ s'.os = s₁.os ∧ AllBare s'.gens) s₁ := by
    intro H hO hS hok hA hK
    have base_of : ∀ {b : Addr} {o : Obj}, s₁.heap.get? b = some o → H b = none → (hidT s₁.heap H).get? b = some o := fun e n => hidT_get e n
    have noA : ∀ {b : Addr} {o : Obj} {es : Array DictEntry} {ep : Nat}, s₁.heap.get? b = some o → o.data = .dict es ep → H b = none := fun {b o es ep} e d => by
      cases q : H b with
      | none => rfl
      | some u =>
        have e' : b = a := hA b (by rw [q]; simp)
        subst e'
        rw [ha] at e; cases e
        have d' : Data.seq vs.toArray _ = Data.dict es ep := d
        cases d'
    have nsK : ∀ {b : Addr} {m : Str → Option Value}, s₁.heap.Ns b m → (hidT s₁.heap H).Ns b m := fun {b m} ⟨o, es, ep, e, d, r⟩ => ⟨o, es, ep, base_of e (noA e d), d, r⟩
    have hKb : K.In (hidT s₁.heap H) := fun b o e => base_of (KX b o e) (by
      cases q : H b with
      | none => rfl
      | some u =>
        have e' : b = a := hA b (by rw [q]; simp)
        subst e'
        rw [hK (by rw [q]; simp)] at e; cases e)
    have hM : Mod K mg (hidT s₁.heap H) := ⟨hKb, nsK hns, ⟨mb, nsK hb, hbb⟩, let ⟨mc, h1, h2⟩ := hlim; ⟨mc, nsK h1, h2⟩⟩
    have e0 : Env0 P w K mg (hidT s₁.heap H) callerA [] s₁ H := ⟨rfl, hM, fun b o e => of_hidT e, Nat.le_of_eq (hidT_size _ _), trivial, fun b hb => absurd (show b ∈ ([] : List Addr) from hb) (by simp), hok, .of_eq hg⟩
    refine codeAny_mono ((F _ hKb (nsK hns)).run callerA [] s₁ H ⟨[.ref a], []⟩ [.ref a] [.ref a] _ _ hr e0 (hbind s₁ (.ref a)) (.cons rfl .nil) (hsp H hO hS)) fun r s' h => ?_
    cases r with
    | error e => exact (hCX H e s' h).elim
    | ok fl =>
      cases fl with
      | next => exact False.elim h
      | brk => exact False.elim h
      | cont => exact False.elim h
      | ret u =>
        obtain ⟨v, H', os, bare, un, hok', r', q⟩ := h
        have q' : v = .bl true := q
        subst q'
        obtain rfl : u = Value.bool true := r'
        refine ⟨rfl, OldK.of_keep fun b o e => ?_, os, bare⟩
        cases q : H b with
        | none => exact un.keep b o e q (by intro z; exact absurd (show b ∈ ([] : List Addr) from z) (by simp)) (by simp)
        | some u =>
          rcases hO b with z | ⟨ob, xs, z⟩
          · rw [q] at z; cases z
          · have z2 := un.frzs b ob _ z
            obtain ⟨e1, _⟩ := hok b _ z
            obtain ⟨e2, _⟩ := hok' b _ z2
            rw [e] at e1; cases e1
            exact e2
  cases hk : K.lookup a with
  | some o =>
    have e := KX a o hk
    rw [ha] at e
    cases e
    refine core (fun _ => none) (fun _ => .inl rfl) (.inr ⟨_, vs.toArray, _, hk, rfl, rfl, rfl, by rw [List.size_toArray, lenV]; exact hl, by simpa using rv⟩) (fun b u z => by have z' : (none : Option HO) = some u := z; cases z') (fun b z => absurd rfl z) fun z => absurd rfl z
  | none =>
    refine core (fun b => if b = a then some (.frz { cls := .type "list", data := .seq vs.toArray } (.lst (ns.map V.int))) else none) (fun b => ?_) (.inl (.inr ⟨{ cls := .type "list", data := .seq vs.toArray }, if_pos rfl⟩)) (fun b u z => ?_) (fun b z => ?_) fun _ => hk
    · by_cases hb : b = a
      · exact .inr ⟨_, _, if_pos hb⟩
      · exact .inl (if_neg hb)
    · by_cases hb : b = a
      · have z' := (if_pos hb).symm.trans z
        cases z'
        subst hb
        exact ⟨ha, by rw [List.length_map]; exact hl, vs, _, rv, ha⟩
      · have z' := (if_neg hb).symm.trans z
        cases z'
    · by_cases hb : b = a
      · exact hb
      · exact absurd (if_neg hb) z
end L2
namespace L2
open PySem PySem.Spec PyProof.Rows
abbrev KOf {K : PySem.W.Frag} {h : Heap} (_ : K.In h) : PySem.W.Frag := K
theorem walk_of {l : PySem.W.OpenLaw} {n k : Nat} {q : Program} {loose : List Str} {XP : (Str → Option Value) → Heap → Prop} {YP : World → Heap → Prop} {d : DefRec} {K : Params → PySem.W.Frag} {CX : World → CXT} {sp : World → Sp} {x : Str}
    (hn : l.most = some n) (hn2 : n ≤ sizeLine) (hdf : d.params.defaults = []) (hr : Room k callerA)
    (hY : ∀ (w : World) (h : Heap), YP w h → (K w.params).In h)
    (F : ∀ (w : World) (mg : Str → Option Value) (fa : Addr) (h : Heap), (K w.params).In h → h.Ns mainGlobals mg → mg d.name = some (.ref fa) →
      ∃ fd : FuncData, (∀ (s : Shared) (u : Value), BindsTo s fd ⟨[u], []⟩ [(x, u)]) ∧
        ∀ base : Heap, (K w.params).In base → base.Ns mainGlobals mg → FnOk l.prog w (K w.params) mg base (CX w) k fa fd [x] (sp w))
    (hsp : ∀ (w : World) (H : Hp) (a : Addr) (ns : List Int), ns.length ≤ n → Only H → SqL (K w.params) H a (ns.map V.int) → sp w [.ref a] H (fun v _ => v = .bl true) fun _ _ _ => False)
    (hCX : ∀ (w : World) (H : Hp) (s : Shared) (e : Value) (s' : Shared), CX w [] H s (fun _ _ _ => False) e s' → False) :
    PySem.W.WalkO q loose XP YP l.row.toRowW d [] (fun f vs => PySem.call f vs) := by
  refine Att.attach_call hn hdf fun w s₀ s₁ mg mb fa o pm cd doc a vs ns G Y ho hd hcd hmg hobj hints hlen hg => ?_
  have KX := hY w _ Y
  obtain ⟨fd, hb, hF⟩ := F w mg fa _ KX G.T.g hmg
  exact law_call KX G.T.g G.T.b G.T.builtins G.T.nolimit hg hobj hints (Nat.le_trans hlen hn2) hr hF hb (fun H hO hS => hsp w H a ns hlen hO hS) fun H e s' => hCX w H s₁ e s'
theorem walk_ofK {l : PySem.W.OpenLaw} {n k : Nat} {q : Program} {loose : List Str} {XP : (Str → Option Value) → Heap → Prop} {YP : World → Heap → Prop} {d : DefRec} {K : Params → PySem.W.Frag} {CX : CXT} {sp : PySem.W.Frag → Sp} {x : Str}
    (hn : l.most = some n) (hn2 : n ≤ sizeLine) (hdf : d.params.defaults = []) (hr : Room k callerA)
    (hY : ∀ (w : World) (h : Heap), YP w h → (K w.params).In h)
    (F : ∀ (w : World) (mg : Str → Option Value) (fa : Addr) (h : Heap), (K w.params).In h → h.Ns mainGlobals mg → mg d.name = some (.ref fa) →
      ∃ fd : FuncData, (∀ (s : Shared) (u : Value), BindsTo s fd ⟨[u], []⟩ [(x, u)]) ∧
        ∀ base : Heap, (K w.params).In base → base.Ns mainGlobals mg → FnOk l.prog w (K w.params) mg base CX k fa fd [x] (sp (K w.params)))
    (hsp : ∀ (K : PySem.W.Frag) (H : Hp) (a : Addr) (ns : List Int), ns.length ≤ n → Only H → SqL K H a (ns.map V.int) → sp K [.ref a] H (fun v _ => v = .bl true) fun _ _ _ => False)
    (hCX : ∀ (H : Hp) (s : Shared) (e : Value) (s' : Shared), CX [] H s (fun _ _ _ => False) e s' → False) :
    PySem.W.WalkO q loose XP YP l.row.toRowW d [] (fun f vs => PySem.call f vs) :=
  walk_of (K := K) (CX := fun _ => CX) (sp := fun w => sp (K w.params)) hn hn2 hdf hr hY F (fun w H a ns h1 h2 h3 => hsp (K w.params) H a ns h1 h2 h3) fun _ H s e s' => hCX H s e s'
end L2
namespace L2
open PySem PySem.Spec PyProof.Rows
def inClass (s : Stmt) (j : Nat) : Stmt := match s with
  | .ClassDef _ _ _ body _ _ _ _ _ _ _ => body.getD j (.Pass ⟨0, 0, 0, 0⟩)
  | _ => .Pass ⟨0, 0, 0, 0⟩
def defArgs (s : Stmt) : Arguments := match s with
  | .FunctionDef _ a _ _ _ _ _ _ _ _ => a
  | _ => { posonlyargs := [], args := [], vararg := none, kwonlyargs := [], kw_defaults := [], kwarg := none, defaults := [] }
def defBody (s : Stmt) : List Stmt := match s with
  | .FunctionDef _ _ b _ _ _ _ _ _ _ => b
  | _ => []
def defScope (s : Stmt) : Scope := match s with
  | .FunctionDef _ _ _ _ _ _ sc _ _ _ => sc
  | _ => { kind := .function, names := [], isGenerator := false, isCoroutine := false }
abbrev CX0 : CXT := fun _ _ _ _ _ _ => False
abbrev E0 : XK := fun _ _ _ => False
theorem pass0 {X : Cx} : Passes CX0 X E0 := fun _ _ _ _ _ _ _ h => h.elim
structure Fun (K : PySem.W.Frag) (x qual : Str) (st : Stmt) (f : Addr) (fd : FuncData) : Prop where
  ex : ∃ (oc : Value) (od : Option Addr) (kV doc pm : Value) (an : Option Addr) (cdv ct : Value) (osl : Array (Option Value)),
    fd = PySem.W.fnOf x qual (defArgs st) (defBody st) (defScope st) .none kV doc pm an cdv ct ∧ K.lookup f = some ⟨oc, od, .func fd, osl⟩ ∧ PySem.W.codeIn K cdv qual = true
  kp : PySem.W.keepIn K (.ref f) = true
section
variable {P : Program} {w : World} {K : PySem.W.Frag} {mg : Str → Option Value} {base : Heap}
theorem Fun.ok {x qual : Str} {st : Stmt} {f : Addr} {fd : FuncData} {N ps : List Str} {k : Nat} {sp : Sp} (F : Fun K x qual st f fd) (S : FnScope N ps (defScope st)) (len : ∀ vs H Q E, sp vs H Q E → vs.length = ps.length)
    (hbody : ∀ (cdv : Value) (A : Around) (outer : List Env) (s : Shared) (H : Hp) (vs : List V) (Q : VK) (E : XK), Room k (A.deeper (envOfC qual (defScope st) s.heap.objs.size f cdv)) → sp vs H Q E →
      ∃ t, PSs (cxOf CX0 P w K mg base N qual (defScope st) f cdv A outer s H E).nox (defBody st) t ∧ t { nx := fun _ H' => Q .non H', rt := Q } (start N vs) H) : FnOk P w K mg base CX0 (k + 1) f fd ps sp := by
  obtain ⟨oc, od, kV, doc, pm, an, cdv, ct, osl, rfl, lk, hcd⟩ := F.ex
  refine fn_of lk hcd S len fun A outer s H vs Q E hr hsp => ?_
  obtain ⟨t, h, q⟩ := hbody cdv A outer s H vs Q E hr hsp
  exact ⟨t, h.nox, q⟩
theorem Fun.binds {x qual : Str} {st : Stmt} {f : Addr} {fd : FuncData} {ps : List Str} (F : Fun K x qual st f fd)
    (h : ∀ (kV doc pm : Value) (an : Option Addr) (cdv ct : Value) (us : List Value), us.length = ps.length → bindArgs (PySem.W.fnOf x qual (defArgs st) (defBody st) (defScope st) .none kV doc pm an cdv ct) ⟨us, []⟩ = pure (ps.zip us)) : Binds K fd ps [] := by
  obtain ⟨oc, od, kV, doc, pm, an, cdv, ct, osl, rfl, lk, hcd⟩ := F.ex
  exact .all (h kV doc pm an cdv ct)
theorem fun_mk {x qual : Str} {st : Stmt} {f : Addr} {oc : Value} {od an : Option Addr} {osl : Array (Option Value)} {kV doc pm cdv ct : Value} (l : K.lookup f = some ⟨oc, od, .func (PySem.W.fnOf x qual (defArgs st) (defBody st) (defScope st) .none kV doc pm an cdv ct), osl⟩)
    (c : PySem.W.codeIn K cdv qual = true) (k : PySem.W.keepIn K (.ref f) = true) : Fun K x qual st f (PySem.W.fnOf x qual (defArgs st) (defBody st) (defScope st) .none kV doc pm an cdv ct) := ⟨⟨oc, od, kV, doc, pm, an, cdv, ct, osl, rfl, l, c⟩, k⟩
end
theorem small1000 {n : Nat} (h : n ≤ 1000) : n < sizeLine := Nat.lt_of_le_of_lt h (by decide)
section
variable {X : Cx}
theorem pv (i : Nat) {x : Str} {pos : Pos} (hN : X.N[i]? = some x := by rfl) (hv : Vis X.env.scope x := by first | exact Or.inl rfl | exact Or.inr (Or.inl rfl) | exact Or.inr (Or.inr rfl)) (hd : (x == ("__debug__" : Str)) = false := by decide)
    (hcd : (x == ("__classdict__" : Str)) = false := by decide) : PE X (.Name x pos) (tVar i) := pe_var hN hv hd hcd
end
theorem iteF {A B : Prop} (h : B) : if false = true then A else B := by
  rw [if_neg Bool.false_ne_true]
  exact h
theorem iteT {A B : Prop} (h : A) : if true = true then A else B := by
  rw [if_pos rfl]
  exact h
theorem ite2 {c A B : Prop} [Decidable c] (h1 : c → A) (h2 : ¬ c → B) : if c then A else B := by
  by_cases h : c
  · rw [if_pos h]
    exact h1 h
  · rw [if_neg h]
    exact h2 h
def Same (H H' : Hp) : Prop := ∀ b o, H b = some o → H' b = some o
theorem Same.refl (H : Hp) : Same H H := fun _ _ h => h
theorem Same.trans {H H1 H2 : Hp} (a : Same H H1) (b : Same H1 H2) : Same H H2 := fun c o h => b c o (a c o h)
theorem Same.free {H H' : Hp} (e : Same H H') {l : Addr} (h : H' l = Option.none) : H l = Option.none := by
  cases q : H l with
  | none => rfl
  | some o =>
    rw [e l o q] at h
    cases h
theorem Same.seq {K : PySem.W.Frag} {H H' : Hp} {a : Addr} {xs : List V} (e : Same H H') (h : SqL K H a xs) : SqL K H' a xs := by
  rcases h with (h | ⟨o, h⟩) | h
  · exact .inl (.inl (e _ _ h))
  · exact .inl (.inr ⟨o, e _ _ h⟩)
  · exact .inr h
end L2
set_option Elab.async false
set_option linter.all false
set_option maxRecDepth 100000
set_option maxHeartbeats 4000000
namespace L2
open PySem PySem.Spec PyProof.Rows
theorem scal_ii (i j : Int) : scal (.int i) (.int j) = true := rfl
theorem scal_bb (i j : Bool) : scal (.bl i) (.bl j) = true := rfl
theorem scal_ss (i j : Str) : scal (.str i) (.str j) = true := rfl
theorem scal_ni (i : Int) : scal .non (.int i) = true := rfl
theorem scal_in (i : Int) : scal (.int i) .non = true := rfl
theorem log2_small {i : Int} (h : i.natAbs < 10 ^ 100) : i.natAbs.log2 < 400 := by
  by_cases h0 : i.natAbs = 0
  · rw [h0]; decide
  · exact (Nat.log2_lt h0).mpr (Nat.lt_of_lt_of_le h (by decide +kernel))
theorem bits_small {i : Int} (h : i.natAbs < 10 ^ 100) : Builtin.Int.intBits i ≤ 2 ^ 20 := by
  unfold Builtin.Int.intBits
  split
  · exact Nat.zero_le _
  · have := log2_small h
    have e : (2 : Nat) ^ 20 = 1048576 := by decide
    omega
def CMulB (i j : Int) : Prop := CMul i j ∨ (i.natAbs < 10 ^ 100 ∧ j.natAbs < 10 ^ 100)
theorem CMulB.ok {i j : Int} (h : CMulB i j) : IntMulOk i j := by
  rcases h with h | h
  · exact h.ok
  · exact .of_bits (bits_small h.1) (bits_small h.2)
def CDivB (i j : Int) : Prop := 0 < j ∧ j.natAbs < 10 ^ 100
section
variable {X : Cx}
theorem op_mulB : OpR X (binaryOp .Mult) (rI CMulB fun i j => .int (i * j)) := opI fun _ _ _ _ _ _ _ hc q => mul_int q hc.ok
theorem op_fdivB : OpR X (binaryOp .FloorDiv) (rI CDivB fun i j => .int (i / j)) := opI fun i j _ _ _ _ _ hc q => by
  have e : i.fdiv j = i / j := Int.fdiv_eq_ediv_of_nonneg i (Int.le_of_lt hc.1)
  refine floordiv_int (by have := hc.1; omega) ?_ (.inl (PyProof.noPylong_of_log2 (Nat.lt_trans (log2_small hc.2) (by decide))))
  rw [e]
  exact q
def KitV (X : Cx) (pins : List (Addr × Obj)) (σ : St) (H : Hp) (s : Shared) (u t : Value) : Prop := ∃ Hh : Heap → Prop, PySem.W.KitX X.K u t Hh ∧ Hh s.heap ∧ u ≠ .builtin "__main__.__loader__#opaque"
theorem TyOf.kit {pins : List (Addr × Obj)} {σ : St} {H : Hp} {s : Shared} {x : V} {u t : Value} (ty : TyOf X.K H x t) (I : Inv X pins σ H s) (rx : RelV x u) : KitV X pins σ H s u t := by
  cases ty with
  | non => cases (show u = Value.none from rx); exact ⟨_, PySem.W.kitx_none, True.intro, fun z => nomatch z⟩
  | bl y => cases (show u = Value.bool y from rx); exact ⟨_, PySem.W.kitx_bool, True.intro, fun z => nomatch z⟩
  | int i => obtain ⟨t, q⟩ := (show ∃ t, u = Value.int i t from rx); cases q; exact ⟨_, PySem.W.kitx_int, True.intro, fun z => nomatch z⟩
  | str y => obtain ⟨t, q⟩ := (show ∃ t, u = Value.str y t from rx); cases q; exact ⟨_, PySem.W.kitx_str, True.intro, fun z => nomatch z⟩
  | flt y => obtain ⟨t, q⟩ := (show ∃ t, u = Value.float y t from rx); cases q; exact ⟨_, PySem.W.kitx_float, True.intro, fun z => nomatch z⟩
  | @lst a xs ea =>
    cases (show u = Value.ref a from rx)
    obtain ⟨_, _, n, _, h1⟩ := (show ObjOk X.prog X.w H s.heap a (.lst xs) from I.hok a _ ea)
    exact ⟨_, PySem.W.kitx_list, ⟨_, h1, rfl⟩, fun z => nomatch z⟩
  | @frz a ob xs ea =>
    cases (show u = Value.ref a from rx)
    obtain ⟨_, _, _, n, _, h1⟩ := (show ObjOk X.prog X.w H s.heap a (.frz ob (.lst xs)) from I.hok a _ ea)
    exact ⟨_, PySem.W.kitx_list, ⟨_, h1, rfl⟩, fun z => nomatch z⟩
  | @tup a xs ea =>
    cases (show u = Value.ref a from rx)
    obtain ⟨_, _, _, p⟩ := (show ObjOk X.prog X.w H s.heap a (.tup xs) from I.hok a _ ea)
    obtain ⟨o, h1, h2, _⟩ := p
    exact ⟨_, PySem.W.kitx_tuple, ⟨o, h1, h2⟩, fun z => nomatch z⟩
  | @dK a kvs ea =>
    cases (show u = Value.ref a from rx)
    obtain ⟨_, _, vs, _, p⟩ := (show ObjOk X.prog X.w H s.heap a (.dK kvs) from I.hok a _ ea)
    obtain ⟨o, es, ep, h1, h2, _⟩ := p
    exact ⟨_, PySem.W.kitx_dict, ⟨o, h1, h2.1⟩, fun z => nomatch z⟩
  | @dT a kvs ea =>
    cases (show u = Value.ref a from rx)
    obtain ⟨_, _, xs, _, o, es, ep, h1, h2, _⟩ := (show ObjOk X.prog X.w H s.heap a (.dT kvs) from I.hok a _ ea)
    exact ⟨_, PySem.W.kitx_dict, ⟨o, h1, h2.1⟩, fun z => nomatch z⟩
  | @ins a C dx fs ea cl ha hn htk hm =>
    cases (show u = Value.ref a from rx)
    obtain ⟨mA, O, _⟩ := ins_get I.hok ea
    obtain ⟨od, J, _⟩ := O.look
    exact ⟨_, PySem.W.kitx_own (cl.get _) cl.hd ha hn htk hm, J, fun z => nomatch z⟩
def clsV : V → Option Value
  | .ty n => some (.type n)
  | .ref a => some (.ref a)
  | _ => none
theorem clsV_rel {c : V} {u u' : Value} (h : clsV c = some u) (r : RelV c u') : u' = u := by
  cases c with
  | ty n => cases h; exact r
  | ref a => cases h; exact r
  | _ => cases h
def rIsi (K : PySem.W.Frag) : List V → Hp → VK → Prop := fun xs H Q => ∃ x t c u b, xs = [x, c] ∧ TyOf K H x t ∧ clsV c = some u ∧ PySem.W.kitOne K t u = some b ∧ Q (.bl b) H
theorem call_isinst : CallR X (.builtin "isinstance") (rIsi X.K) := by
  intro pins s σ H xs us Q I r h
  obtain ⟨x, t, c, u', b, rfl, ty, ec, e, q⟩ := h
  obtain ⟨u, w', rfl, rx, rc⟩ := vals2 r
  obtain rfl := clsV_rel ec rc
  obtain ⟨Hh, Z, p, hx⟩ := ty.kit I rx
  exact PySem.W.kia_one Z I.kIn p e hx fun tk => ⟨.bl b, H, I.tok tk, rfl, q⟩
def rIsi2 (K : PySem.W.Frag) : List V → Hp → VK → Prop := fun xs H Q => ∃ x t p c1 c2 u1 u2 b, xs = [x, .ref p] ∧ H p = some (.tup [c1, c2]) ∧ TyOf K H x t ∧ clsV c1 = some u1 ∧ clsV c2 = some u2 ∧ PySem.W.kitAny K t [u1, u2] = some b ∧ Q (.bl b) H
theorem kit_NoneType_int (K : PySem.W.Frag) : PySem.W.kitOne K (.type "NoneType") (.type "int") = some false := by kernel_rfl
theorem kit_NoneType_bool (K : PySem.W.Frag) : PySem.W.kitOne K (.type "NoneType") (.type "bool") = some false := by kernel_rfl
theorem kit_NoneType_tuple (K : PySem.W.Frag) : PySem.W.kitOne K (.type "NoneType") (.type "tuple") = some false := by kernel_rfl
theorem kit_NoneType_list (K : PySem.W.Frag) : PySem.W.kitOne K (.type "NoneType") (.type "list") = some false := by kernel_rfl
theorem kit_NoneType_str (K : PySem.W.Frag) : PySem.W.kitOne K (.type "NoneType") (.type "str") = some false := by kernel_rfl
theorem kit_NoneType_dict (K : PySem.W.Frag) : PySem.W.kitOne K (.type "NoneType") (.type "dict") = some false := by kernel_rfl
theorem kit_bool_int (K : PySem.W.Frag) : PySem.W.kitOne K (.type "bool") (.type "int") = some true := by kernel_rfl
theorem kit_bool_bool (K : PySem.W.Frag) : PySem.W.kitOne K (.type "bool") (.type "bool") = some true := by kernel_rfl
theorem kit_bool_tuple (K : PySem.W.Frag) : PySem.W.kitOne K (.type "bool") (.type "tuple") = some false := by kernel_rfl
theorem kit_bool_list (K : PySem.W.Frag) : PySem.W.kitOne K (.type "bool") (.type "list") = some false := by kernel_rfl
theorem kit_bool_str (K : PySem.W.Frag) : PySem.W.kitOne K (.type "bool") (.type "str") = some false := by kernel_rfl
theorem kit_bool_dict (K : PySem.W.Frag) : PySem.W.kitOne K (.type "bool") (.type "dict") = some false := by kernel_rfl
theorem kit_int_int (K : PySem.W.Frag) : PySem.W.kitOne K (.type "int") (.type "int") = some true := by kernel_rfl
theorem kit_int_bool (K : PySem.W.Frag) : PySem.W.kitOne K (.type "int") (.type "bool") = some false := by kernel_rfl
theorem kit_int_tuple (K : PySem.W.Frag) : PySem.W.kitOne K (.type "int") (.type "tuple") = some false := by kernel_rfl
theorem kit_int_list (K : PySem.W.Frag) : PySem.W.kitOne K (.type "int") (.type "list") = some false := by kernel_rfl
theorem kit_int_str (K : PySem.W.Frag) : PySem.W.kitOne K (.type "int") (.type "str") = some false := by kernel_rfl
theorem kit_int_dict (K : PySem.W.Frag) : PySem.W.kitOne K (.type "int") (.type "dict") = some false := by kernel_rfl
theorem kit_str_int (K : PySem.W.Frag) : PySem.W.kitOne K (.type "str") (.type "int") = some false := by kernel_rfl
theorem kit_str_bool (K : PySem.W.Frag) : PySem.W.kitOne K (.type "str") (.type "bool") = some false := by kernel_rfl
theorem kit_str_tuple (K : PySem.W.Frag) : PySem.W.kitOne K (.type "str") (.type "tuple") = some false := by kernel_rfl
theorem kit_str_list (K : PySem.W.Frag) : PySem.W.kitOne K (.type "str") (.type "list") = some false := by kernel_rfl
theorem kit_str_str (K : PySem.W.Frag) : PySem.W.kitOne K (.type "str") (.type "str") = some true := by kernel_rfl
theorem kit_str_dict (K : PySem.W.Frag) : PySem.W.kitOne K (.type "str") (.type "dict") = some false := by kernel_rfl
theorem kit_float_int (K : PySem.W.Frag) : PySem.W.kitOne K (.type "float") (.type "int") = some false := by kernel_rfl
theorem kit_float_bool (K : PySem.W.Frag) : PySem.W.kitOne K (.type "float") (.type "bool") = some false := by kernel_rfl
theorem kit_float_tuple (K : PySem.W.Frag) : PySem.W.kitOne K (.type "float") (.type "tuple") = some false := by kernel_rfl
theorem kit_float_list (K : PySem.W.Frag) : PySem.W.kitOne K (.type "float") (.type "list") = some false := by kernel_rfl
theorem kit_float_str (K : PySem.W.Frag) : PySem.W.kitOne K (.type "float") (.type "str") = some false := by kernel_rfl
theorem kit_float_dict (K : PySem.W.Frag) : PySem.W.kitOne K (.type "float") (.type "dict") = some false := by kernel_rfl
theorem kit_list_int (K : PySem.W.Frag) : PySem.W.kitOne K (.type "list") (.type "int") = some false := by kernel_rfl
theorem kit_list_bool (K : PySem.W.Frag) : PySem.W.kitOne K (.type "list") (.type "bool") = some false := by kernel_rfl
theorem kit_list_tuple (K : PySem.W.Frag) : PySem.W.kitOne K (.type "list") (.type "tuple") = some false := by kernel_rfl
theorem kit_list_list (K : PySem.W.Frag) : PySem.W.kitOne K (.type "list") (.type "list") = some true := by kernel_rfl
theorem kit_list_str (K : PySem.W.Frag) : PySem.W.kitOne K (.type "list") (.type "str") = some false := by kernel_rfl
theorem kit_list_dict (K : PySem.W.Frag) : PySem.W.kitOne K (.type "list") (.type "dict") = some false := by kernel_rfl
theorem kit_tuple_int (K : PySem.W.Frag) : PySem.W.kitOne K (.type "tuple") (.type "int") = some false := by kernel_rfl
theorem kit_tuple_bool (K : PySem.W.Frag) : PySem.W.kitOne K (.type "tuple") (.type "bool") = some false := by kernel_rfl
theorem kit_tuple_tuple (K : PySem.W.Frag) : PySem.W.kitOne K (.type "tuple") (.type "tuple") = some true := by kernel_rfl
theorem kit_tuple_list (K : PySem.W.Frag) : PySem.W.kitOne K (.type "tuple") (.type "list") = some false := by kernel_rfl
theorem kit_tuple_str (K : PySem.W.Frag) : PySem.W.kitOne K (.type "tuple") (.type "str") = some false := by kernel_rfl
theorem kit_tuple_dict (K : PySem.W.Frag) : PySem.W.kitOne K (.type "tuple") (.type "dict") = some false := by kernel_rfl
theorem kit_dict_int (K : PySem.W.Frag) : PySem.W.kitOne K (.type "dict") (.type "int") = some false := by kernel_rfl
theorem kit_dict_bool (K : PySem.W.Frag) : PySem.W.kitOne K (.type "dict") (.type "bool") = some false := by kernel_rfl
theorem kit_dict_tuple (K : PySem.W.Frag) : PySem.W.kitOne K (.type "dict") (.type "tuple") = some false := by kernel_rfl
theorem kit_dict_list (K : PySem.W.Frag) : PySem.W.kitOne K (.type "dict") (.type "list") = some false := by kernel_rfl
theorem kit_dict_str (K : PySem.W.Frag) : PySem.W.kitOne K (.type "dict") (.type "str") = some false := by kernel_rfl
theorem kit_dict_dict (K : PySem.W.Frag) : PySem.W.kitOne K (.type "dict") (.type "dict") = some true := by kernel_rfl
def isaB (n c : String) : Bool := n == c || (n == "bool" && c == "int")
theorem TyOf.name {K : PySem.W.Frag} {H : Hp} {x : V} {n : String} (ty : TyOf K H x (.type n)) : n = "NoneType" ∨ n = "bool" ∨ n = "int" ∨ n = "str" ∨ n = "float" ∨ n = "list" ∨ n = "tuple" ∨ n = "dict" := by
  cases ty <;> simp
theorem kit_ty {K : PySem.W.Frag} {n c : String} (hn : n = "NoneType" ∨ n = "bool" ∨ n = "int" ∨ n = "str" ∨ n = "float" ∨ n = "list" ∨ n = "tuple" ∨ n = "dict") (hc : c = "int" ∨ c = "bool" ∨ c = "tuple" ∨ c = "list" ∨ c = "str" ∨ c = "dict") :
    PySem.W.kitOne K (.type n) (.type c) = some (isaB n c) := by
  rcases hn with rfl | rfl | rfl | rfl | rfl | rfl | rfl | rfl <;> rcases hc with rfl | rfl | rfl | rfl | rfl | rfl
  · exact kit_NoneType_int K
  · exact kit_NoneType_bool K
  · exact kit_NoneType_tuple K
  · exact kit_NoneType_list K
  · exact kit_NoneType_str K
  · exact kit_NoneType_dict K
  · exact kit_bool_int K
  · exact kit_bool_bool K
  · exact kit_bool_tuple K
  · exact kit_bool_list K
  · exact kit_bool_str K
  · exact kit_bool_dict K
  · exact kit_int_int K
  · exact kit_int_bool K
  · exact kit_int_tuple K
  · exact kit_int_list K
  · exact kit_int_str K
  · exact kit_int_dict K
  · exact kit_str_int K
  · exact kit_str_bool K
  · exact kit_str_tuple K
  · exact kit_str_list K
  · exact kit_str_str K
  · exact kit_str_dict K
  · exact kit_float_int K
  · exact kit_float_bool K
  · exact kit_float_tuple K
  · exact kit_float_list K
  · exact kit_float_str K
  · exact kit_float_dict K
  · exact kit_list_int K
  · exact kit_list_bool K
  · exact kit_list_tuple K
  · exact kit_list_list K
  · exact kit_list_str K
  · exact kit_list_dict K
  · exact kit_tuple_int K
  · exact kit_tuple_bool K
  · exact kit_tuple_tuple K
  · exact kit_tuple_list K
  · exact kit_tuple_str K
  · exact kit_tuple_dict K
  · exact kit_dict_int K
  · exact kit_dict_bool K
  · exact kit_dict_tuple K
  · exact kit_dict_list K
  · exact kit_dict_str K
  · exact kit_dict_dict K
theorem isi {K : PySem.W.Frag} {H : Hp} {x : V} {n c : String} {Q : VK} (ty : TyOf K H x (.type n)) (q : Q (.bl (isaB n c)) H) (hc : c = "int" ∨ c = "bool" ∨ c = "tuple" ∨ c = "list" ∨ c = "str" ∨ c = "dict" := by decide) : rIsi K [x, .ty c] H Q :=
  ⟨x, _, _, _, _, rfl, ty, rfl, kit_ty ty.name hc, q⟩
end
def tPar3 (i j l : Nat) (ta : TA) : TS := fun D σ H => ta σ H fun vs H1 => ∃ v w u, vs = [v, w, u] ∧ D.nx (((σ.set i (some v)).set j (some w)).set l (some u)) H1
theorem vals3 {x y z : V} {us : List Value} (r : Vals [x, y, z] us) : ∃ u v w, us = [u, v, w] ∧ RelV x u ∧ RelV y v ∧ RelV z w := by
  cases r with
  | cons p q =>
    cases q with
    | cons p' q' =>
      cases q' with
      | cons p2 q2 =>
        cases q2
        exact ⟨_, _, _, rfl, p, p', p2⟩
section
variable {X : Cx} {pos : Pos}
theorem ps_par3 {i j l : Nat} {x y z : Str} {a b c : Expr} {ta : TA} {px py pz pt : Pos} {kt k2 pt2} (hc : X.calm = true) (hN : X.N.Nodup) (hi : X.N[i]? = some x) (hj : X.N[j]? = some y) (hl : X.N[l]? = some z) (hij : i ≠ j) (hil : i ≠ l) (hjl : j ≠ l)
    (hx : X.env.scope.names.lookup x = some .local) (hy : X.env.scope.names.lookup y = some .local) (hz : X.env.scope.names.lookup z = some .local) (ha : PA X [a, b, c] ta)
    (hw : swappedStores [.Tuple [.Name x px, .Name y py, .Name z pz] kt pt] (.Tuple [a, b, c] k2 pt2) X.env = pure (some [x, y, z]))
    (hs : swapsWithSole [.Tuple [.Name x px, .Name y py, .Name z pz] kt pt] (.Tuple [a, b, c] k2 pt2) pos.line X.env = pure false := by rfl) :
    PS X (.Assign [.Tuple [.Name x px, .Name y py, .Name z pz] kt pt] (.Tuple [a, b, c] k2 pt2) pos) (tPar3 i j l ta) := by
  intro pins s σ H D I h
  rw [exec_Assign_arm]
  refine wpAny_bind (wpAny_standAt ?_)
  rw [hs]
  refine wpAny_bind (wpAny_pure ?_)
  rw [if_neg (by decide)]
  refine wpAny_bind (Tuple_ (thn (ha _ pins s σ H _ I h) fun us s1 ⟨vs, H1, I1, r1, q1⟩ => ?_))
  obtain ⟨v, w, m, e1, q1⟩ := q1
  subst e1
  obtain ⟨u1, u2, u3, rfl, rv, rw', rm⟩ := vals3 r1
  refine wpAny_newObj_type ?_ (by show 3 ≤ sizeLine; decide)
  have I2 : Inv X pins σ H1 { s1 with heap := s1.heap.push { cls := .type "tuple", data := .seq [u1, u2, u3].toArray } } := I1.kept (t' := s1.toks) fun b o e => Heap.get?_push_of_some _ e
  rw [hw]
  refine wpAny_bind (wpAny_pure ?_)
  show wpAny (model X.prog X.w) X.A (do rule "assign.swapped-stores"; let items ← unpackItems (.ref s1.heap.objs.size) 3 none; assignInOrder [fun v => bindName X.env z v, fun v => bindName X.env y v, fun v => bindName X.env x v] items.reverse; pure Flow.next) _ _ _
  refine wpAny_bind (wpAny_rule (wpAny_bind (unpackItems_tuple (items := #[u1, u2, u3]) (I.ok.hd hc) (IsTup.new s1.heap _) fun h' hx' => ?_)))
  have I3 := I2.kept (h' := h') (t' := s1.toks) fun b o e => hx' b o (Nat.ne_of_lt (Heap.lt_size e)) e
  show wpAny _ _ (assignInOrder [fun v => bindName X.env z v, fun v => bindName X.env y v, fun v => bindName X.env x v] [u3, u2, u1] >>= fun _ => pure Flow.next) _ _ _
  refine wpAny_bind (assignInOrder_cons (wpAny_bindName (store_ok I3 hN hl (.inl hz) rm (fun s2 I4 => ?_) (.inr hz))))
  refine assignInOrder_cons (wpAny_bindName (store_ok I4 hN hj (.inl hy) rw' (fun s2 I4 => ?_) (.inr hy)))
  refine assignInOrder_cons (wpAny_bindName (store_ok I4 hN hi (.inl hx) rv (fun s3 I5 => assignInOrder_nil (wpAny_pure ?_)) (.inr hx)))
  rw [List.set_comm _ _ hjl.symm, List.set_comm _ _ hil.symm, List.set_comm _ _ hij.symm] at I5
  exact ⟨_, H1, I5, q1⟩
end
section
variable {X : Cx}
end
structure Def (K : PySem.W.Frag) (mg : Str → Option Value) (x : Str) (st : Stmt) (ps : List Str) (f : Addr) (fd : FuncData) : Prop where
  fn : Fun K x x st f fd
  bd : Binds K fd ps []
  mgx : mg x = some (.ref f)
end L2
set_option Elab.async false
set_option linter.all false
set_option maxRecDepth 100000
set_option maxHeartbeats 4000000
namespace L2
open PySem PySem.Spec PyProof.Rows
inductive Dt where
  | non | bl (b : Bool) | int (i : Int) | str (x : Str) | tup (ds : List Dt) | lst (ds : List Dt)
mutual
def Rep (K : PySem.W.Frag) (H : Hp) : Dt → V → Prop
  | .non, v => v = .non
  | .bl b, v => v = .bl b
  | .int i, v => v = .int i
  | .str x, v => v = .str x
  | .tup ds, v => ∃ a xs, v = .ref a ∧ SqT K H a xs ∧ RepL K H ds xs
  | .lst ds, v => ∃ a xs, v = .ref a ∧ SqL K H a xs ∧ RepL K H ds xs
def RepL (K : PySem.W.Frag) (H : Hp) : List Dt → List V → Prop
  | [], xs => xs = []
  | d :: ds, xs => ∃ x r, xs = x :: r ∧ Rep K H d x ∧ RepL K H ds r
end
mutual
def eqD : Dt → Dt → Bool
  | .non, .non => true
  | .bl a, .bl b => a == b
  | .bl a, .int b => (if a then 1 else 0) == b
  | .int a, .bl b => a == (if b then 1 else 0)
  | .int a, .int b => a == b
  | .str a, .str b => a == b
  | .tup ds, .tup es => eqDL ds es
  | .lst ds, .lst es => eqDL ds es
  | _, _ => false
def eqDL : List Dt → List Dt → Bool
  | [], [] => true
  | d :: ds, e :: es => eqD d e && eqDL ds es
  | _, _ => false
end
mutual
def dep : Dt → Nat
  | .tup ds => depL ds + 1
  | .lst ds => depL ds + 1
  | _ => 0
def depL : List Dt → Nat
  | [] => 0
  | d :: ds => max (dep d) (depL ds)
end
theorem RepL.length {K : PySem.W.Frag} {H : Hp} : ∀ {ds : List Dt} {xs : List V}, RepL K H ds xs → ds.length = xs.length
  | [], xs, h => by cases (show xs = [] from h); rfl
  | d :: ds, xs, h => by
    obtain ⟨x, r, rfl, _, h2⟩ := (show ∃ x r, xs = x :: r ∧ Rep K H d x ∧ RepL K H ds r from h)
    rw [List.length_cons, List.length_cons, h2.length]
mutual
theorem eqD_self : ∀ d : Dt, eqD d d = true
  | .non => rfl
  | .bl a => by show (a == a) = true; simp
  | .int a => by show (a == a) = true; simp
  | .str a => by show (a == a) = true; simp
  | .tup ds => eqDL_self ds
  | .lst ds => eqDL_self ds
theorem eqDL_self : ∀ ds : List Dt, eqDL ds ds = true
  | [] => rfl
  | d :: ds => by show (eqD d d && eqDL ds ds) = true; rw [eqD_self d, eqDL_self ds]; rfl
end
theorem eqDL_range : ∀ ds es : List Dt, eqDL ds es = ((List.range (min ds.length es.length)).all (fun j => eqD (ds.getD j .non) (es.getD j .non)) && ds.length == es.length)
  | [], [] => rfl
  | [], e :: es => rfl
  | d :: ds, [] => rfl
  | d :: ds, e :: es => by
    show (eqD d e && eqDL ds es) = _
    rw [eqDL_range ds es, List.length_cons, List.length_cons, Nat.succ_min_succ, List.range_succ_eq_map, List.all_cons, List.all_map, Bool.and_assoc]
    congr 1
    congr 1
    by_cases h : ds.length = es.length
    · simp [h]
    · simp [h]
section
variable {X : Cx} {pins : List (Addr × Obj)} {σ : St} {H : Hp} {s : Shared}
mutual
theorem Rep.inj (I : Inv X pins σ H s) : ∀ (d e : Dt) {v : V}, Rep X.K H d v → Rep X.K H e v → d = e
  | .non, e, v, h, g => by
    cases (show v = .non from h)
    cases e with
    | non => rfl
    | tup ds => obtain ⟨_, _, z, _⟩ := (show ∃ a xs, V.non = .ref a ∧ _ from g); cases z
    | lst ds => obtain ⟨_, _, z, _⟩ := (show ∃ a xs, V.non = .ref a ∧ _ from g); cases z
    | _ => cases g
  | .bl b, e, v, h, g => by
    cases (show v = .bl b from h)
    cases e with
    | bl c => cases g; rfl
    | tup ds => obtain ⟨_, _, z, _⟩ := (show ∃ a xs, V.bl b = .ref a ∧ _ from g); cases z
    | lst ds => obtain ⟨_, _, z, _⟩ := (show ∃ a xs, V.bl b = .ref a ∧ _ from g); cases z
    | _ => cases g
  | .int b, e, v, h, g => by
    cases (show v = .int b from h)
    cases e with
    | int c => cases g; rfl
    | tup ds => obtain ⟨_, _, z, _⟩ := (show ∃ a xs, V.int b = .ref a ∧ _ from g); cases z
    | lst ds => obtain ⟨_, _, z, _⟩ := (show ∃ a xs, V.int b = .ref a ∧ _ from g); cases z
    | _ => cases g
  | .str b, e, v, h, g => by
    cases (show v = .str b from h)
    cases e with
    | str c => cases g; rfl
    | tup ds => obtain ⟨_, _, z, _⟩ := (show ∃ a xs, V.str b = .ref a ∧ _ from g); cases z
    | lst ds => obtain ⟨_, _, z, _⟩ := (show ∃ a xs, V.str b = .ref a ∧ _ from g); cases z
    | _ => cases g
  | .tup ds, e, v, h, g => by
    obtain ⟨a, xs, rfl, h1, h2⟩ := (show ∃ a xs, v = .ref a ∧ SqT X.K H a xs ∧ RepL X.K H ds xs from h)
    cases e with
    | tup es =>
      obtain ⟨a', ys, z, g1, g2⟩ := (show ∃ a' xs, V.ref a = .ref a' ∧ SqT X.K H a' xs ∧ RepL X.K H es xs from g)
      cases z
      cases I.tuple_inj h1 g1
      rw [RepL.inj I ds es h2 g2]
    | lst es =>
      obtain ⟨a', ys, z, g1, g2⟩ := (show ∃ a' xs, V.ref a = .ref a' ∧ SqL X.K H a' xs ∧ RepL X.K H es xs from g)
      cases z
      obtain ⟨_, _, p1, _⟩ := I.tuple h1
      obtain ⟨_, _, p2, _⟩ := I.list g1
      exact absurd rfl (SeqAt.ne_of_list_tuple p2.isList p1)
    | _ => cases g
  | .lst ds, e, v, h, g => by
    obtain ⟨a, xs, rfl, h1, h2⟩ := (show ∃ a xs, v = .ref a ∧ SqL X.K H a xs ∧ RepL X.K H ds xs from h)
    cases e with
    | lst es =>
      obtain ⟨a', ys, z, g1, g2⟩ := (show ∃ a' xs, V.ref a = .ref a' ∧ SqL X.K H a' xs ∧ RepL X.K H es xs from g)
      cases z
      cases I.list_inj h1 g1
      rw [RepL.inj I ds es h2 g2]
    | tup es =>
      obtain ⟨a', ys, z, g1, g2⟩ := (show ∃ a' xs, V.ref a = .ref a' ∧ SqT X.K H a' xs ∧ RepL X.K H es xs from g)
      cases z
      obtain ⟨_, _, p1, _⟩ := I.tuple g1
      obtain ⟨_, _, p2, _⟩ := I.list h1
      exact absurd rfl (SeqAt.ne_of_list_tuple p2.isList p1)
    | _ => cases g
theorem RepL.inj (I : Inv X pins σ H s) : ∀ (ds es : List Dt) {xs : List V}, RepL X.K H ds xs → RepL X.K H es xs → ds = es
  | [], es, xs, h, g => by
    cases (show xs = [] from h)
    cases es with
    | nil => rfl
    | cons e es => obtain ⟨_, _, z, _⟩ := (show ∃ x r, [] = x :: r ∧ _ from g); cases z
  | d :: ds, es, xs, h, g => by
    obtain ⟨x, r, rfl, h1, h2⟩ := (show ∃ x r, xs = x :: r ∧ Rep X.K H d x ∧ RepL X.K H ds r from h)
    cases es with
    | nil => cases (show x :: r = [] from g)
    | cons e es =>
      obtain ⟨_, _, z, g1, g2⟩ := (show ∃ y q, x :: r = y :: q ∧ Rep X.K H e y ∧ RepL X.K H es q from g)
      cases z
      rw [Rep.inj I d e h1 g1, RepL.inj I ds es h2 g2]
end
theorem in1_units (A : Around) : A.in1.units = A.units + 1 := rfl
mutual
theorem eqAt_D (I : Inv X pins σ H s) : ∀ (d e : Dt) {v u : V} {vv uu : Value} {A : Around}, Rep X.K H d v → Rep X.K H e u → RelV v vv → RelV u uu → A.units + dep d < cLine → SeqAt.EqAt A s vv uu (eqD d e)
  | .tup ds, e, v, u, vv, uu, A, h, g, rv, ru, hu => by
    obtain ⟨a, xs, rfl, h1, h2⟩ := (show ∃ a xs, v = .ref a ∧ SqT X.K H a xs ∧ RepL X.K H ds xs from h)
    cases rv
    have hu0 : A.units < cLine := Nat.lt_of_le_of_lt (Nat.le_add_right _ _) hu
    obtain ⟨j1, _, p0, _⟩ := I.tuple h1
    cases e with
    | non => cases (show u = .non from g); cases ru; exact .tuple_none p0 hu0
    | bl b => cases (show u = .bl b from g); cases ru; exact .tuple_bool _ p0 hu0
    | int b => cases (show u = .int b from g); obtain ⟨t, rfl⟩ := ru; exact .tuple_int _ _ p0 hu0
    | str b => cases (show u = .str b from g); obtain ⟨t, rfl⟩ := ru; exact .tuple_str _ _ p0 hu0
    | tup es =>
        obtain ⟨b, ys, rfl, g1, g2⟩ := (show ∃ a xs, u = .ref a ∧ SqT X.K H a xs ∧ RepL X.K H es xs from g)
        cases ru
        by_cases e : a = b
        · subst e
          cases I.tuple_inj h1 g1
          rw [RepL.inj I ds es h2 g2, show eqD (.tup es) (.tup es) = true from eqD_self _]
          exact .same _
        · obtain ⟨i1, r1, p1, _⟩ := I.tuple h1
          obtain ⟨i2, r2, p2, _⟩ := I.tuple g1
          have hu' : A.units + (depL ds + 1) < cLine := hu
          have l1 := h2.length.trans r1.length
          have l2 := g2.length.trans r2.length
          refine .of_refs e ?_
          rw [show eqD (.tup ds) (.tup es) = eqDL ds es from rfl, eqDL_range]
          have := SeqAt.RcAt.tuples (A := A) p1 p2 (by omega) (e := fun j => eqD (ds.getD j .non) (es.getD j .non)) fun j a1 a2 => by
            have a1' : j < i1.length := by simpa using a1
            have a2' : j < i2.length := by simpa using a2
            have := eqAt_DL I ds es h2 g2 r1 r2 (A := A.in1) (by rw [in1_units]; omega) j a1' a2'
            simpa using this
          rw [List.size_toArray, List.size_toArray, ← l1, ← l2] at this
          exact this
    | lst es =>
        obtain ⟨b, ys, rfl, g1, g2⟩ := (show ∃ a xs, u = .ref a ∧ SqL X.K H a xs ∧ RepL X.K H es xs from g)
        cases ru
        obtain ⟨i2, r2, p2, _⟩ := I.list g1
        exact .tuple_list p0 p2.isList hu0
  | .lst ds, e, v, u, vv, uu, A, h, g, rv, ru, hu => by
    obtain ⟨a, xs, rfl, h1, h2⟩ := (show ∃ a xs, v = .ref a ∧ SqL X.K H a xs ∧ RepL X.K H ds xs from h)
    cases rv
    have hu0 : A.units < cLine := Nat.lt_of_le_of_lt (Nat.le_add_right _ _) hu
    obtain ⟨j1, _, p0, _⟩ := I.list h1
    cases e with
    | non => cases (show u = .non from g); cases ru; exact .list_none p0.isList hu0
    | bl b => cases (show u = .bl b from g); cases ru; exact .list_bool _ p0.isList hu0
    | int b => cases (show u = .int b from g); obtain ⟨t, rfl⟩ := ru; exact .list_int _ _ p0.isList hu0
    | str b => cases (show u = .str b from g); obtain ⟨t, rfl⟩ := ru; exact .list_str _ _ p0.isList hu0
    | lst es =>
        obtain ⟨b, ys, rfl, g1, g2⟩ := (show ∃ a xs, u = .ref a ∧ SqL X.K H a xs ∧ RepL X.K H es xs from g)
        cases ru
        by_cases e : a = b
        · subst e
          cases I.list_inj h1 g1
          rw [RepL.inj I ds es h2 g2, show eqD (.lst es) (.lst es) = true from eqD_self _]
          exact .same _
        · obtain ⟨i1, r1, p1, _⟩ := I.list h1
          obtain ⟨i2, r2, p2, _⟩ := I.list g1
          have hu' : A.units + (depL ds + 1) < cLine := hu
          have l1 := h2.length.trans r1.length
          have l2 := g2.length.trans r2.length
          refine .of_refs e ?_
          rw [show eqD (.lst ds) (.lst es) = eqDL ds es from rfl, eqDL_range]
          by_cases hz : ds.length = es.length
          · have := SeqAt.RcAt.lists (A := A) p1.isList p2.isList (by simp only [List.size_toArray]; omega) (by omega) (e := fun j => eqD (ds.getD j .non) (es.getD j .non)) fun j a1 a2 => by
              have a1' : j < i1.length := by simpa using a1
              have a2' : j < i2.length := by simpa using a2
              have := eqAt_DL I ds es h2 g2 r1 r2 (A := A.in1) (by rw [in1_units]; omega) j a1' a2'
              simpa using this
            rw [List.size_toArray, ← l1] at this
            rw [← hz, Nat.min_self, beq_self_eq_true, Bool.and_true]
            exact this
          · have := SeqAt.RcAt.lists_lengths (A := A) p1.isList p2.isList (by simp only [List.size_toArray, bne_iff_ne]; omega) (by omega)
            rw [show (ds.length == es.length) = false by simpa using hz, Bool.and_false]
            exact this
    | tup es =>
        obtain ⟨b, ys, rfl, g1, g2⟩ := (show ∃ a xs, u = .ref a ∧ SqT X.K H a xs ∧ RepL X.K H es xs from g)
        cases ru
        obtain ⟨i2, r2, p2, _⟩ := I.tuple g1
        exact .list_tuple p0.isList p2 hu0
  | .non, e, v, u, vv, uu, A, h, g, rv, ru, hu => by
    cases (show v = .non from h); cases rv
    have hu0 : A.units < cLine := Nat.lt_of_le_of_lt (Nat.le_add_right _ _) hu
    cases e with
    | non => cases (show u = .non from g); cases ru; exact .same _
    | bl b => cases (show u = .bl b from g); cases ru; exact .none_bool _
    | int b => cases (show u = .int b from g); obtain ⟨t, rfl⟩ := ru; exact .none_int _ _
    | str b => cases (show u = .str b from g); obtain ⟨t, rfl⟩ := ru; exact .none_str _ _
    | tup es =>
        obtain ⟨b, ys, rfl, g1, g2⟩ := (show ∃ a xs, u = .ref a ∧ SqT X.K H a xs ∧ RepL X.K H es xs from g)
        cases ru
        obtain ⟨i2, r2, p2, _⟩ := I.tuple g1
        exact .none_tuple p2 hu0
    | lst es =>
        obtain ⟨b, ys, rfl, g1, g2⟩ := (show ∃ a xs, u = .ref a ∧ SqL X.K H a xs ∧ RepL X.K H es xs from g)
        cases ru
        obtain ⟨i2, r2, p2, _⟩ := I.list g1
        exact .none_list p2.isList hu0
  | .bl a, e, v, u, vv, uu, A, h, g, rv, ru, hu => by
    cases (show v = .bl a from h); cases rv
    have hu0 : A.units < cLine := Nat.lt_of_le_of_lt (Nat.le_add_right _ _) hu
    cases e with
    | non => cases (show u = .non from g); cases ru; exact .bool_none _
    | bl b => cases (show u = .bl b from g); cases ru; exact .bool_bool _ _
    | int b => cases (show u = .int b from g); obtain ⟨t, rfl⟩ := ru; exact .bool_int _ _ _
    | str b => cases (show u = .str b from g); obtain ⟨t, rfl⟩ := ru; exact .bool_str _ _ _
    | tup es =>
        obtain ⟨b, ys, rfl, g1, g2⟩ := (show ∃ a xs, u = .ref a ∧ SqT X.K H a xs ∧ RepL X.K H es xs from g)
        cases ru
        obtain ⟨i2, r2, p2, _⟩ := I.tuple g1
        exact .bool_tuple _ p2 hu0
    | lst es =>
        obtain ⟨b, ys, rfl, g1, g2⟩ := (show ∃ a xs, u = .ref a ∧ SqL X.K H a xs ∧ RepL X.K H es xs from g)
        cases ru
        obtain ⟨i2, r2, p2, _⟩ := I.list g1
        exact .bool_list _ p2.isList hu0
  | .int a, e, v, u, vv, uu, A, h, g, rv, ru, hu => by
    cases (show v = .int a from h); obtain ⟨t', rfl⟩ := rv
    have hu0 : A.units < cLine := Nat.lt_of_le_of_lt (Nat.le_add_right _ _) hu
    cases e with
    | non => cases (show u = .non from g); cases ru; exact .int_none _ _
    | bl b => cases (show u = .bl b from g); cases ru; exact .int_bool _ _ _
    | int b => cases (show u = .int b from g); obtain ⟨t, rfl⟩ := ru; exact .int_int _ _ _ _
    | str b => cases (show u = .str b from g); obtain ⟨t, rfl⟩ := ru; exact .int_str _ _ _ _
    | tup es =>
        obtain ⟨b, ys, rfl, g1, g2⟩ := (show ∃ a xs, u = .ref a ∧ SqT X.K H a xs ∧ RepL X.K H es xs from g)
        cases ru
        obtain ⟨i2, r2, p2, _⟩ := I.tuple g1
        exact .int_tuple _ _ p2 hu0
    | lst es =>
        obtain ⟨b, ys, rfl, g1, g2⟩ := (show ∃ a xs, u = .ref a ∧ SqL X.K H a xs ∧ RepL X.K H es xs from g)
        cases ru
        obtain ⟨i2, r2, p2, _⟩ := I.list g1
        exact .int_list _ _ p2.isList hu0
  | .str a, e, v, u, vv, uu, A, h, g, rv, ru, hu => by
    cases (show v = .str a from h); obtain ⟨t', rfl⟩ := rv
    have hu0 : A.units < cLine := Nat.lt_of_le_of_lt (Nat.le_add_right _ _) hu
    cases e with
    | non => cases (show u = .non from g); cases ru; exact .str_none _ _
    | bl b => cases (show u = .bl b from g); cases ru; exact .str_bool _ _ _
    | int b => cases (show u = .int b from g); obtain ⟨t, rfl⟩ := ru; exact .str_int _ _ _ _
    | str b => cases (show u = .str b from g); obtain ⟨t, rfl⟩ := ru; exact .str_str _ _ _ _
    | tup es =>
        obtain ⟨b, ys, rfl, g1, g2⟩ := (show ∃ a xs, u = .ref a ∧ SqT X.K H a xs ∧ RepL X.K H es xs from g)
        cases ru
        obtain ⟨i2, r2, p2, _⟩ := I.tuple g1
        exact .str_tuple _ _ p2 hu0
    | lst es =>
        obtain ⟨b, ys, rfl, g1, g2⟩ := (show ∃ a xs, u = .ref a ∧ SqL X.K H a xs ∧ RepL X.K H es xs from g)
        cases ru
        obtain ⟨i2, r2, p2, _⟩ := I.list g1
        exact .str_list _ _ p2.isList hu0
theorem eqAt_DL (I : Inv X pins σ H s) : ∀ (ds es : List Dt) {xs ys : List V} {us ws : List Value} {A : Around}, RepL X.K H ds xs → RepL X.K H es ys → Vals xs us → Vals ys ws → A.units + depL ds < cLine →
    ∀ (j : Nat) (h1 : j < us.length) (h2 : j < ws.length), SeqAt.EqAt A s us[j] ws[j] (eqD (ds.getD j .non) (es.getD j .non))
  | [], es, xs, ys, us, ws, A, h, g, rv, ru, hu => fun j h1 h2 => by
    cases (show xs = [] from h)
    cases rv
    exact absurd h1 (Nat.not_lt_zero _)
  | d :: ds, es, xs, ys, us, ws, A, h, g, rv, ru, hu => fun j h1 h2 => by
    obtain ⟨x, r, rfl, hd, hr⟩ := (show ∃ x r, xs = x :: r ∧ Rep X.K H d x ∧ RepL X.K H ds r from h)
    cases es with
    | nil =>
      cases (show ys = [] from g)
      cases ru
      exact absurd h2 (Nat.not_lt_zero _)
    | cons e es =>
      obtain ⟨y, q, rfl, gd, gr⟩ := (show ∃ x r, ys = x :: r ∧ Rep X.K H e x ∧ RepL X.K H es r from g)
      cases rv with
      | cons rv1 rv2 =>
        cases ru with
        | cons ru1 ru2 =>
          have hu' : A.units + max (dep d) (depL ds) < cLine := hu
          cases j with
          | zero => exact eqAt_D I d e hd gd rv1 ru1 (by omega)
          | succ j => exact eqAt_DL I ds es hr gr rv2 ru2 (by omega) j (by simpa using h1) (by simpa using h2)
end
def rEqS (K : PySem.W.Frag) : R2 := fun x y H Q => ∃ ds es, ((Rep K H (.tup ds) x ∧ Rep K H (.tup es) y) ∨ (Rep K H (.lst ds) x ∧ Rep K H (.lst es) y)) ∧ depL ds ≤ 100 ∧ Q (.bl (eqDL ds es)) H
def rNeS (K : PySem.W.Frag) : R2 := fun x y H Q => ∃ ds es, ((Rep K H (.tup ds) x ∧ Rep K H (.tup es) y) ∨ (Rep K H (.lst ds) x ∧ Rep K H (.lst es) y)) ∧ depL ds ≤ 100 ∧ Q (.bl (!eqDL ds es)) H
theorem op_eqS (hu : X.A.units + 150 < cLine) : OpR X (compareOp .Eq) (rEqS X.K) := by
  intro pins s σ H x y v u Q I rv ru h
  obtain ⟨ds, es, h, hd, q⟩ := h
  rcases h with ⟨h, g⟩ | ⟨h, g⟩
  · obtain ⟨a, xs, rfl, h1, h2⟩ := (show ∃ a xs, x = .ref a ∧ SqT X.K H a xs ∧ RepL X.K H ds xs from h)
    obtain ⟨b, ys, rfl, g1, g2⟩ := (show ∃ a xs, y = .ref a ∧ SqT X.K H a xs ∧ RepL X.K H es xs from g)
    cases rv; cases ru
    obtain ⟨i1, r1, p1, _⟩ := I.tuple h1
    obtain ⟨i2, r2, p2, _⟩ := I.tuple g1
    have l1 := h2.length.trans r1.length
    have l2 := g2.length.trans r2.length
    refine SeqAt.eq_tupleAt p1 p2 (by omega) (e := fun j => eqD (ds.getD j .non) (es.getD j .non)) (fun j a1 a2 => ?_) ⟨.bl _, H, I, rfl, ?_⟩
    · have a1' : j < i1.length := by simpa using a1
      have a2' : j < i2.length := by simpa using a2
      have := eqAt_DL I ds es h2 g2 r1 r2 (A := X.A.in1) (by rw [in1_units]; omega) j a1' a2'
      simpa using this
    · rw [List.size_toArray, List.size_toArray, ← l1, ← l2, ← eqDL_range]
      exact q
  · obtain ⟨a, xs, rfl, h1, h2⟩ := (show ∃ a xs, x = .ref a ∧ SqL X.K H a xs ∧ RepL X.K H ds xs from h)
    obtain ⟨b, ys, rfl, g1, g2⟩ := (show ∃ a xs, y = .ref a ∧ SqL X.K H a xs ∧ RepL X.K H es xs from g)
    cases rv; cases ru
    obtain ⟨i1, r1, p1, _⟩ := I.list h1
    obtain ⟨i2, r2, p2, _⟩ := I.list g1
    have l1 := h2.length.trans r1.length
    have l2 := g2.length.trans r2.length
    rw [eqDL_range] at q
    by_cases hz : ds.length = es.length
    · refine SeqAt.eq_listAt p1.isList p2.isList (by simp only [List.size_toArray]; omega) (by omega) (e := fun j => eqD (ds.getD j .non) (es.getD j .non)) (fun j a1 a2 => ?_) ⟨.bl _, H, I, rfl, ?_⟩
      · have a1' : j < i1.length := by simpa using a1
        have a2' : j < i2.length := by simpa using a2
        have := eqAt_DL I ds es h2 g2 r1 r2 (A := X.A.in1) (by rw [in1_units]; omega) j a1' a2'
        simpa using this
      · rw [← hz, Nat.min_self, beq_self_eq_true, Bool.and_true] at q
        rw [List.size_toArray, ← l1]
        exact q
    · refine SeqAt.eq_list_lengthsAt p1.isList p2.isList (by simp only [List.size_toArray, bne_iff_ne]; omega) (by omega) ⟨.bl _, H, I, rfl, ?_⟩
      rw [show (ds.length == es.length) = false by simpa using hz, Bool.and_false] at q
      exact q
theorem hu150 {A : Around} {k : Nat} (hr : Room k A) : A.units + 150 < cLine := by have := hr.un; omega
end
mutual
def noL : Dt → Bool
  | .tup ds => noLL ds
  | .lst _ => false
  | _ => true
def noLL : List Dt → Bool
  | [] => true
  | d :: ds => noL d && noLL ds
end
def TK (H H' : Hp) : Prop := ∀ a xs, Rd H a (.tup xs) → Rd H' a (.tup xs)
theorem TK.sq {K : PySem.W.Frag} {H H' : Hp} (t : TK H H') {a : Addr} {xs : List V} (h : SqT K H a xs) : SqT K H' a xs := by
  rcases h with h | h
  · exact .inl (t a xs h)
  · exact .inr h
theorem TK.refl (H : Hp) : TK H H := fun _ _ h => h
theorem TK.trans {H H1 H2 : Hp} (a : TK H H1) (b : TK H1 H2) : TK H H2 := fun x xs h => b x xs (a x xs h)
theorem Same.tk {H H' : Hp} (s : Same H H') : TK H H' := fun a xs h => by
  rcases h with h | ⟨o, h⟩
  · exact .inl (s a _ h)
  · exact .inr ⟨o, s a _ h⟩
theorem TK.new {H : Hp} {p : Addr} {o : HO} (hp : H p = none) : TK H (upd H p o) := fun a xs h => by
  rcases h with h | ⟨u, h⟩
  · exact .inl (by rw [upd_ne (ne_of_none h hp)]; exact h)
  · exact .inr ⟨u, by rw [upd_ne (ne_of_none h hp)]; exact h⟩
theorem TK.lst {H : Hp} {p : Addr} {xs : List V} {o : HO} (hp : H p = some (.lst xs)) : TK H (upd H p o) := fun a ys h => by
  have ne : ∀ u, H a = some u → u ≠ .lst xs → a ≠ p := fun u e n z => by rw [z, hp] at e; cases e; exact n rfl
  rcases h with h | ⟨u, h⟩
  · exact .inl (by rw [upd_ne (ne _ h (by intro z; cases z))]; exact h)
  · exact .inr ⟨u, by rw [upd_ne (ne _ h (by intro z; cases z))]; exact h⟩
mutual
theorem Rep.mono {K : PySem.W.Frag} {H H' : Hp} (t : TK H H') : ∀ (d : Dt) {v : V}, noL d = true → Rep K H d v → Rep K H' d v
  | .non, v, _, h => h
  | .bl b, v, _, h => h
  | .int i, v, _, h => h
  | .str x, v, _, h => h
  | .lst ds, v, n, h => by cases n
  | .tup ds, v, n, h => by
    obtain ⟨a, xs, e, h1, h2⟩ := (show ∃ a xs, v = .ref a ∧ SqT K H a xs ∧ RepL K H ds xs from h)
    exact ⟨a, xs, e, t.sq h1, RepL.mono t ds n h2⟩
theorem RepL.mono {K : PySem.W.Frag} {H H' : Hp} (t : TK H H') : ∀ (ds : List Dt) {xs : List V}, noLL ds = true → RepL K H ds xs → RepL K H' ds xs
  | [], xs, _, h => h
  | d :: ds, xs, n, h => by
    obtain ⟨x, r, e, h1, h2⟩ := (show ∃ x r, xs = x :: r ∧ Rep K H d x ∧ RepL K H ds r from h)
    have n' : (noL d && noLL ds) = true := n
    rw [Bool.and_eq_true] at n'
    exact ⟨x, r, e, Rep.mono t d n'.1 h1, RepL.mono t ds n'.2 h2⟩
end
theorem RepL.append {K : PySem.W.Frag} {H : Hp} : ∀ {ds es : List Dt} {xs ys : List V}, RepL K H ds xs → RepL K H es ys → RepL K H (ds ++ es) (xs ++ ys)
  | [], es, xs, ys, h, g => by cases (show xs = [] from h); exact g
  | d :: ds, es, xs, ys, h, g => by
    obtain ⟨x, r, rfl, h1, h2⟩ := (show ∃ x r, xs = x :: r ∧ Rep K H d x ∧ RepL K H ds r from h)
    exact ⟨x, r ++ ys, rfl, h1, h2.append g⟩
def pD (q : Int × Int) : Dt := .tup [.int q.1, .int q.2]
theorem noLL_pD : ∀ l : List (Int × Int), noLL (l.map pD) = true
  | [] => rfl
  | q :: l => by show (noL (pD q) && noLL (l.map pD)) = true; rw [noLL_pD l]; rfl
theorem depL_pD : ∀ l : List (Int × Int), depL (l.map pD) ≤ 1
  | [] => Nat.zero_le _
  | q :: l => by
    show max (dep (pD q)) (depL (l.map pD)) ≤ 1
    have := depL_pD l
    have e : dep (pD q) = 1 := rfl
    omega
theorem rep_pair {K : PySem.W.Frag} {H : Hp} {a : Addr} {x y : Int} (h : H a = some (.tup [.int x, .int y])) : Rep K H (pD (x, y)) (.ref a) := ⟨a, _, rfl, SqT.of h, _, _, rfl, rfl, _, _, rfl, rfl, rfl⟩
theorem eqDL_pD : ∀ l m : List (Int × Int), eqDL (l.map pD) (m.map pD) = decide (l = m)
  | [], [] => by simp [eqDL]
  | [], q :: m => by simp [eqDL]
  | q :: l, [] => by simp [eqDL]
  | q :: l, r :: m => by
    show (eqD (pD q) (pD r) && eqDL (l.map pD) (m.map pD)) = _
    rw [eqDL_pD l m]
    show ((q.1 == r.1 && (q.2 == r.2 && true)) && decide (l = m)) = _
    obtain ⟨a, b⟩ := q
    obtain ⟨c, d⟩ := r
    by_cases h1 : a = c <;> by_cases h2 : b = d <;> by_cases h3 : l = m <;> simp [h1, h2, h3]
end L2
set_option Elab.async false
set_option linter.all false
set_option maxRecDepth 100000
set_option maxHeartbeats 4000000
namespace L2
open PySem PySem.Spec PyProof.Rows
def EO (C : Value) (vs : Array Value) (sl : Array (Option Value)) : Obj := { cls := C, dict := none, data := .fields vs, slots := sl }
structure Flying (h : Heap) (e T : Addr) (C fl : Value) : Prop where
  ex : ∃ vs sl, h.get? e = some (EO C vs sl) ∧ vs[1]? = some (.ref T)
  tr : ∃ oT ts, h.get? T = some oT ∧ oT.data = .fields ts ∧ ts[3]? = some fl
  ne : T ≠ e
section
variable {M : Model} {A : Around} {E : Value → Shared → Prop} {s : Shared} {base : Heap} {env : Env} {outer : List Env} {L e : Addr} {C : Value} {vs : Array Value} {sl : Array (Option Value)} {Q : Unit → Shared → Prop}
structure Noted (fs : List Addr) (h h' : Heap) (e : Addr) (T0 : Option Addr) : Prop where
  keep : ∀ b o, b ∉ fs → b ≠ e → some b ≠ T0 → h.get? b = some o → h'.get? b = some o
  slot : ∀ b o, b ∈ fs → h.get? b = some o → ∃ sl, h'.get? b = some { o with slots := sl }
end
def Fly (g : Heap) (H : Hp) (a : Addr) (C : Value) (h : Heap) : Prop := ∃ T, Flying h a T C .none ∧ g.get? a = none ∧ g.get? T = none ∧ H a = none ∧ H T = none
theorem HOk.there {P : Program} {w : World} {H : Hp} {h : Heap} (x : HOk P w H h) {e : Addr} {u : HO} (q : H e = some u) : ∃ o, h.get? e = some o := by
  have ok := x e u q
  cases u with
  | lst xs => obtain ⟨_, _, _, _, z⟩ := ok; exact ⟨_, z⟩
  | tup xs => obtain ⟨_, _, _, o, z, _⟩ := ok; exact ⟨_, z⟩
  | dK kvs => obtain ⟨_, _, _, _, o, _, _, z, _⟩ := ok; exact ⟨_, z⟩
  | dT kvs => obtain ⟨_, _, _, _, o, _, _, z, _⟩ := ok; exact ⟨_, z⟩
  | set S n => obtain ⟨o, _, _, _, z, _⟩ := ok; exact ⟨_, z⟩
  | ins C dx fs => obtain ⟨_, _, _, z, _⟩ := ok; exact ⟨_, z⟩
  | own x => exact ok
  | xd fs => obtain ⟨_, ⟨o, _, _, z, _⟩, _⟩ := ok; exact ⟨_, z⟩
  | rng lo hi => obtain ⟨_, _, _, z⟩ := ok; exact ⟨_, z⟩
  | frz o u => exact ⟨_, ok.1⟩
  | tbl ps => exact ⟨_, ok⟩
  | met f x => exact ⟨_, ok⟩
  | ext φ => exact ok.2.1
def CXE (P : Program) (w : World) : CXT := fun outer H s E e s' => ∃ a C H', e = .ref a ∧ Fly s.heap H' a C s'.heap ∧ s'.os = s.os ∧ AllBare s'.gens ∧ Un (frs outer) [] H H' s.heap s'.heap ∧ HOk P w H' s'.heap ∧ E C none H'
section
variable {X : Cx} {pins : List (Addr × Obj)} {σ : St} {H : Hp} {s : Shared}
end
section
variable {P : Program} {w : World} {K : PySem.W.Frag} {mg : Str → Option Value} {base : Heap} {N : List Str} {qual : Str} {scope : Scope} {f : Addr} {cd : Value} {A : Around} {outer : List Env} {s₀ : Shared} {H₀ : Hp} {E : XK}
def Raises (X : Cx) (E : XK) : Prop := ∀ (pins : List (Addr × Obj)) (σ : St) (H : Hp) (s : Shared) (C e : Addr) (vs : List Value) (h' : Heap), Inv X pins σ H s → Heap.MadeExcOf s.heap h' e (.ref C) vs → E (.ref C) none H → X.xe (.ref e) { s with heap := h' }
end
end L2
set_option Elab.async false
set_option linter.all false
set_option maxRecDepth 100000
set_option maxHeartbeats 4000000
namespace L2
open PySem PySem.Spec PyProof.Rows
section
variable {P : Program} {w : World} {K : PySem.W.Frag} {mg : Str → Option Value} {base : Heap}
end
section
variable {X : Cx} {st : Stmt} {t : TS}
theorem PS.nox (h : PS X.nox st t) : PS X st t := fun pins s σ H D I hw =>
  wpAny_mono (h pins s σ H D (I.wish _) hw) (fun _ _ q => SP.unwish q) fun _ _ q => q.elim
end
section
variable {X : Cx} {e : Expr} {es : List Expr} {te : TE} {pos : Pos}
def tFmt (te : TE) : TE := fun σ H Q => te σ H fun x H1 => (∃ y, x = .str y ∧ y.length ≤ sizeLine ∧ Q (.str y) H1) ∨ (∃ i : Int, x = .int i ∧ i.natAbs < 10 ^ 100 ∧ Q (.str (toString i)) H1)
def PJ (X : Cx) (es : List Expr) (t : Str → TE) : Prop :=
  ∀ (acc : Str) (pins : List (Addr × Obj)) (s : Shared) (σ : St) (H : Hp) (Q : VK), Inv X pins σ H s → t acc σ H Q → wpAny (model X.prog X.w) X.A (joinParts acc (evalEach es X.env)) (EP X pins σ Q) X.xe s
def jNil : Str → TE := fun acc _ H Q => acc.length ≤ sizeLine ∧ Q (.str acc) H
def jCons (te : TE) (t : Str → TE) : Str → TE := fun acc σ H Q => te σ H fun x H1 => ∃ y, x = .str y ∧ (acc ++ y).length ≤ sizeLine ∧ t (acc ++ y) σ H1 Q
end
abbrev veMro : List Value := [.type "ValueError", .type "Exception", .type "BaseException", .type "object"]
abbrev ExcC (K : PySem.W.Frag) (C : Addr) : Prop := PySem.W.excIn K C veMro "ValueError.__new__" = true
section
variable {X : Cx} {x : Str} {C : Addr} {e : Expr} {te : TE} {np cpos pos : Pos} {E : XK}
def tRaise (C : Addr) (E : XK) (te : TE) : TS := fun _ σ H => te σ H fun _ H1 => E (.ref C) none H1
end
end L2
set_option Elab.async false
set_option linter.all false
set_option maxRecDepth 100000
set_option maxHeartbeats 4000000
namespace L2
open PySem PySem.Spec PyProof.Rows
section
variable {X : Cx} {pos : Pos}
def rNeL (K : PySem.W.Frag) : R2 := fun x y H Q => ∃ ds es, Rep K H (.lst ds) x ∧ Rep K H (.lst es) y ∧ depL ds ≤ 100 ∧ Q (.bl (!eqDL ds es)) H
theorem op_neS (hu : X.A.units + 150 < cLine) : OpR X (compareOp .NotEq) (rNeL X.K) := by
  intro pins s σ H x y v u Q I rv ru h
  obtain ⟨ds, es, h, g, hd, q⟩ := h
  obtain ⟨a, xs, rfl, h1, h2⟩ := (show ∃ a xs, x = .ref a ∧ SqL X.K H a xs ∧ RepL X.K H ds xs from h)
  obtain ⟨b, ys, rfl, g1, g2⟩ := (show ∃ a xs, y = .ref a ∧ SqL X.K H a xs ∧ RepL X.K H es xs from g)
  cases rv; cases ru
  obtain ⟨i1, r1, p1, _⟩ := I.list h1
  obtain ⟨i2, r2, p2, _⟩ := I.list g1
  have l1 := h2.length.trans r1.length
  have l2 := g2.length.trans r2.length
  rw [eqDL_range] at q
  show wpAny (model X.prog X.w) X.A (richCompare .NotEq (.ref a) (.ref b)) _ _ _
  by_cases hz : ds.length = es.length
  · refine SeqAt.RcNeAt.lists p1.isList p2.isList (by simp only [List.size_toArray]; omega) (by omega) (e := fun j => eqD (ds.getD j .non) (es.getD j .non)) (fun j a1 a2 => ?_) _ _ _ _ ⟨.bl _, H, I, rfl, ?_⟩
    · have a1' : j < i1.length := by simpa using a1
      have a2' : j < i2.length := by simpa using a2
      have := eqAt_DL I ds es h2 g2 r1 r2 (A := X.A.in1) (by rw [in1_units]; omega) j a1' a2'
      simpa using this
    · rw [← hz, Nat.min_self, beq_self_eq_true, Bool.and_true] at q
      rw [List.size_toArray, ← l1]
      exact q
  · refine SeqAt.RcNeAt.lists_lengths p1.isList p2.isList (by simp only [List.size_toArray, bne_iff_ne]; omega) (by omega) _ _ _ _ ⟨.bl _, H, I, rfl, ?_⟩
    rw [show (ds.length == es.length) = false by simpa using hz, Bool.and_false] at q
    exact q
def tDNew : TE := fun _ H Q => ∀ p, H p = none → Q (.ref p) (upd H p (.dK []))
def boolOf : Value → Bool
  | .bool b => b
  | _ => false
def rCount : V → List V → Hp → VK → Prop := fun x vs H Q => ∃ (l : Addr) (bs : List Bool), x = .ref l ∧ vs = [.bl true] ∧ H l = some (.lst (bs.map V.bl)) ∧ Q (.int (bs.countP id : Nat)) H
def rIndex : V → List V → Hp → VK → Prop := fun x vs H Q => ∃ (l : Addr) (bs : List Bool) (j : Nat), x = .ref l ∧ vs = [.bl true] ∧ H l = some (.lst (bs.map V.bl)) ∧ bs[j]? = some true ∧ (∀ m, m < j → bs[m]? = some false) ∧ j < 1000 ∧ Q (.int (j : Nat)) H
end
end L2
set_option Elab.async false
set_option linter.all false
set_option maxRecDepth 100000
set_option maxHeartbeats 4000000
namespace L2
open PySem PySem.Spec PyProof.Rows
section
variable {X : Cx} {pins : List (Addr × Obj)} {σ σ' : St} {H : Hp} {s : Shared}
theorem Inv.frame {h' : Heap} {m' : Str → Option Value} {t : Nat} (I : Inv X pins σ H s) (sb : ∀ b, b ≠ X.env.locals → h'.get? b = s.heap.get? b) (hn : h'.Ns X.env.locals m')
    (hl : ∀ (i : Nat) (x : Str) (v : V), X.N[i]? = some x → σ'[i]? = some (some v) → Vis X.env.scope x → ∃ u, RelV v u ∧ Look X.env h' m' x u) (len : σ'.length = σ.length) : Inv X pins σ' H { s with heap := h', toks := t } := by
  have neL : ∀ b o, X.s₀.heap.get? b = some o → b ≠ X.env.locals := fun b o e => Nat.ne_of_lt (Nat.lt_of_lt_of_le (Heap.lt_size e) I.ok.above)
  refine ⟨I.ok, I.os, I.bare, ⟨fun b o e n hb hx => ?_, fun b o e n hb hx => ?_, I.base.free, fun b o e hx => ?_, I.base.tups, I.base.frzs, I.base.tbls⟩, ⟨m', hn, hl⟩, fun x c e => ?_, I.free, I.freeC, fun p hp => ?_, fun a o e => ?_, len.trans I.len⟩
  · exact (sb b (neL b o e)).trans (I.base.keep b o e n hb hx)
  · obtain ⟨sl, q⟩ := I.base.slot b o e n hb hx
    exact ⟨sl, (sb b (neL b o e)).trans q⟩
  · obtain ⟨o', q⟩ := I.base.there b o e hx
    exact ⟨o', (sb b (neL b o e)).trans q⟩
  · obtain ⟨v, o, ho, hd⟩ := I.cell x c e
    exact ⟨v, o, (sb c (I.cne x c e)).trans ho, hd⟩
  · obtain ⟨e, n, ne, r⟩ := I.pin p hp
    exact ⟨(sb p.1 ne).trans e, n, ne, r⟩
  · have ne : ∀ b u, H b = some u → b ≠ X.env.locals := fun b u q z => by rw [z, I.free] at q; cases q
    refine (I.hok a o e).stay (fun b u hb q => ?_) (fun _ z => z) fun _ _ z => z
    rcases hb with z | z
    · exact (sb b (ne b o (z ▸ e))).trans q
    · exact (sb b (ne b _ z)).trans q
abbrev Cx.marked (X : Cx) (v : Option Value) : Cx := { X with A := X.A.mark v, calm := false, xe := fun _ _ => False }
theorem Inv.mark (I : Inv X pins σ H s) (v : Option Value) : Inv (X.marked v) pins σ H s :=
  ⟨⟨I.ok.mod, I.ok.kind, I.ok.glob, I.ok.blt, I.ok.above, I.ok.inj, I.ok.has, I.ok.cab, (fun z => nomatch z), I.ok.frames, I.ok.stk, I.ok.exf, I.ok.bs, I.ok.bsz, I.ok.noex, I.ok.exfs, I.ok.funs, I.ok.frf⟩, I.os, I.bare, I.base, I.loc, I.cell, I.free, I.freeC, I.pin, I.hok, I.len⟩
def excH (a : Addr) (C : Value) : HO := .ext fun h => ∃ vs sl, h.get? a = some (EO C vs sl)
end
section
variable {X : Cx}
abbrev TX := St → Hp → (Value → Hp → Prop) → Prop
def PX (X : Cx) (body : List Stmt) (tb : TX) : Prop := ∀ (pins : List (Addr × Obj)) (s : Shared) (σ : St) (H : Hp) (R : Value → Hp → Prop), Inv X pins σ H s → tb σ H R →
  wpAny (model X.prog X.w) X.A (execs body X.env) (fun _ _ => False) (fun e s' => ∃ a C H', e = .ref a ∧ Inv X pins σ H' s' ∧ Fly s.heap H' a C s'.heap ∧ R C H') s
def tTryX (K : PySem.W.Frag) (CP : Addr) (ie : Nat) (tb : TX) (ts : TS) : TS := fun D σ H => tb σ H fun C H' => PySem.W.exmOne K C (.ref CP) = some true ∧
  ∀ a, H' a = none → ts { nx := fun σ2 H2 => D.nx (σ2.set ie none) H2, rt := fun _ _ => False } (σ.set ie (some (.ref a))) (upd H' a (excH a C))
end
end L2
set_option Elab.async false
set_option linter.all false
set_option maxRecDepth 100000
set_option maxHeartbeats 4000000
namespace L2
open PySem PySem.Spec PyProof.Rows
def hidS (h : Heap) (H : Hp) (fs : List Addr) : Heap := PySem.W.hideAll h (trk h H ++ fs)
theorem Mod.keeps {K : PySem.W.Frag} {mg : Str → Option Value} {b b' : Heap} (m : Mod K mg b) (k : ∀ a o, b.get? a = some o → b'.get? a = some o) : Mod K mg b' :=
  ⟨m.kin.keeps k, m.glob.keeps k, let ⟨mb, h1, h2⟩ := m.blt; ⟨mb, h1.keeps k, h2⟩, m.nolimit.keeps k⟩
def CellsIn (X : Cx) (σ : St) (b : Heap) : Prop := ∀ (i : Nat) (x : Str) (v : V) (c : Addr), X.N[i]? = some x → σ[i]? = some (some v) → X.env.scope.names.lookup x = some .cell → X.env.cells.lookup x = some c → ∃ u, RelV v u ∧ b.IsCell c (some u)
section
variable {X : Cx} {pins : List (Addr × Obj)} {σ : St} {H : Hp} {s : Shared}
end
section
variable {X : Cx} {CX : CXT} {k : Nat} {f C : Addr} {fd : FuncData} {ps : List Str} {dvs : List V} {ds : List Value} {E : XK} {x m : Str} {p pos apos : Pos} {e o : Expr} {es : List Expr} {ta : TE} {t : TA}
def tCallW (X : Cx) (sp : Heap → Sp) (dvs : List V) (E : XK) (t : TA) : TE := fun σ H Q => t σ H fun vs H1 => ∀ b, CellsIn X σ b → sp b (vs ++ dvs) H1 Q E
end
def LamO (a : Addr) (fd : FuncData) : HO := .ext fun h => h.get? a = some { cls := .type "function", data := .func fd }
def CodO (c : Addr) (qual : Str) : HO := .ext fun h => h.CodeRec (.ref c) qual
def cxLam (P : Program) (w : World) (K : PySem.W.Frag) (mg : Str → Option Value) (base : Heap) (N : List Str) (qual : Str) (scope : Scope) (f : Addr) (cd : Value) (cl : List (Str × Addr)) (A : Around) (outer : List Env) (s : Shared) (H : Hp) (E : XK) : Cx where
  prog := P
  w := w
  K := K
  mg := mg
  base := base
  A := A.deeper (PySem.W.envX qual scope s.heap.objs.size f cd cl)
  N := N
  s₀ := s
  H₀ := H
  env := PySem.W.envX qual scope s.heap.objs.size f cd cl
  outer := outer
  stack := PySem.W.envX qual scope s.heap.objs.size f cd cl :: outer
  ex := []
  calm := true
  fn := fun _ => false
  pn := []
  xe := fun e s' => wpAny (model P w) (A.deeper (PySem.W.envX qual scope s.heap.objs.size f cd cl)) (leaving (PySem.W.envX qual scope s.heap.objs.size f cd cl) e) (fun _ s'' => CXE P w outer H s E e s'') (fun e' s'' => CXE P w outer H s E e' s'') s'
structure LamScope (N : List Str) (sc : Scope) (cl : List (Str × Addr)) : Prop where
  kind : sc.kind = .function
  co : sc.isCoroutine = false
  gen : sc.isGenerator = false
  nocell : ∀ y ∈ sc.names, y.2 ≠ .cell
  nm : ∀ x ∈ N, sc.names.lookup x = some .free
  has : ∀ x, sc.names.lookup x = some .free → ∃ c, cl.lookup x = some c
  inj : ∀ x y c, cl.lookup x = some c → cl.lookup y = some c → x = y
section
variable {P : Program} {w : World} {K : PySem.W.Frag} {mg : Str → Option Value} {base : Heap} {N : List Str} {name qual : Str} {params : Arguments} {body : Expr} {scope : Scope} {f c' : Addr} {pm ctv : Value} {cl : List (Str × Addr)} {k : Nat}
end
end L2
set_option Elab.async false
set_option linter.all false
set_option maxRecDepth 100000
set_option maxHeartbeats 4000000
namespace L2
open PySem PySem.Spec PyProof.Rows
section
variable {prog : Program} {w : World} {A : Around} {s : Shared}
def ifsT (prog : Program) (w : World) (A : Around) (env : Env) : List Expr → Shared → (Bool → Shared → Prop) → Prop
  | [], s, Q => Q true s
  | [c], s, Q => wpAny (model prog w) A (PySem.isTrue c env (eval c env)) Q (fun _ _ => False) s
  | _, _, _ => False
end
def cxCompC (X : Cx) (b : Heap) (N : List Str) (scope : Scope) (cl : List (Str × Addr)) (C : Addr) (fp : List Addr) (s : Shared) (H : Hp) : Cx where
  prog := X.prog
  w := X.w
  K := X.K
  mg := X.mg
  base := b
  A := X.A
  N := N
  s₀ := s
  H₀ := H
  env := compEnvC scope cl C X.env
  outer := X.stack
  stack := X.stack
  ex := fp
  calm := true
  fn := fun _ => false
  pn := []
  xe := fun _ _ => False
def outOf (σ : St) (js : List (Option Nat)) : St := js.map fun o => match o with | none => none | some j => (σ[j]?).getD none
structure CompScopeC (X : Cx) (sc : Scope) (N : List Str) (cl : List (Str × Addr)) (js : List (Option Nat)) : Prop where
  kind : sc.kind = .function
  nocell : ∀ y ∈ sc.names, y.2 ≠ .cell
  nm : ∀ y ∈ sc.names, y.2 = .local → sc.names.lookup y.1 = some .local
  has : ∀ y ∈ sc.names, y.2 = .free → ∃ c, cl.lookup y.1 = some c
  sub : ∀ y ∈ cl, X.env.cells.lookup y.1 = some y.2
  len : js.length = N.length
  js : ∀ p ∈ N.zip js, ∀ j, p.2 = some j → X.N[j]? = some p.1 ∧ X.env.scope.names.lookup p.1 = some .cell ∧ ((relabel sc X.env).names.lookup p.1 = some .cell ∨ (relabel sc X.env).names.lookup p.1 = some .free) ∧ ∃ c, cl.lookup p.1 = some c
section
variable {X : Cx} {pins : List (Addr × Obj)} {σ : St} {H : Hp} {s : Shared}
end
section
variable {X : Cx} {tg iter elt : Expr} {ifs : List Expr} {scope : Scope} {pos : Pos} {wi : TI} {N : List Str} {cl : List (Str × Addr)} {js : List (Option Nat)} {g : TG} {tt : Heap → TT} {te : Heap → TE}
def PIfs (X : Cx) : List Expr → TT → Prop
  | [], t => ∀ σ H Q, t σ H Q → Q true H
  | [c], t => PT X c t
  | _, _ => False
def tYes : TT := fun _ H Q => Q true H
def tCompC (X : Cx) (js : List (Option Nat)) (wi : TI) (g : TG) (tt : Heap → TT) (te : Heap → TE) : TE := fun σ H Q => wi σ H fun J H1 => ∀ b D, CellsIn X σ b → H1 D = none → ∃ W : Nat → Nat → St → Hp → Prop, (∃ m, W 0 m (outOf σ js) (upd H1 D (.lst []))) ∧
  ∀ i m σ' H', W i m σ' H' → (J.stop i H' ∧ Q (.ref D) H') ∨ (J.go i H' ∧ ∃ Nx : St → Hp → Prop, (∀ σ'' H'', Nx σ'' H'' → ∃ m', m' < m ∧ W (i + 1) m' σ'' H'') ∧ ∀ x H2, J.yld i H' x H2 → g x σ' H2 fun σ3 H3 => tt b σ3 H3 fun ok H3' => if ok = true then te b σ3 H3' fun y H4 => ∃ ys, H4 D = some (.lst ys) ∧ ys.length < sizeLine ∧ Nx σ3 (upd H4 D (.lst (ys ++ [y]))) else Nx σ3 H3')
end
section
variable {K : PySem.W.Frag} {a : Addr} {xs : List V} {g : TG} {tt : TT} {te : TE} {Q : VK} {D : Addr} {σ : St} {H : Hp} {J : It}
abbrev CT (g : TG) (tt : TT) (te : TE) (D : Addr) (Nx : St → Hp → Prop) (x : V) (σ : St) (H : Hp) : Prop :=
  g x σ H fun σ3 H3 => tt σ3 H3 fun ok H3' => if ok = true then te σ3 H3' fun y H4 => ∃ ys, H4 D = some (.lst ys) ∧ ys.length < sizeLine ∧ Nx σ3 (upd H4 D (.lst (ys ++ [y]))) else Nx σ3 H3'
abbrev CW (J : It) (g : TG) (tt : TT) (te : TE) (D : Addr) (Q : VK) (σ : St) (H : Hp) : Prop := ∃ W : Nat → Nat → St → Hp → Prop, (∃ m, W 0 m σ H) ∧
  ∀ i m σ' H', W i m σ' H' → (J.stop i H' ∧ Q (.ref D) H') ∨ (J.go i H' ∧ ∃ Nx : St → Hp → Prop, (∀ σ'' H'', Nx σ'' H'' → ∃ m', m' < m ∧ W (i + 1) m' σ'' H'') ∧ ∀ x H2, J.yld i H' x H2 → CT g tt te D Nx x σ' H2)
end
end L2
set_option Elab.async false
set_option linter.all false
set_option maxRecDepth 100000
set_option maxHeartbeats 4000000
namespace L2
open PySem PySem.Spec PyProof.Rows
def clOf (sc : Scope) (env : Env) : List (Str × Addr) := (sc.names.filter (·.2 == .free)).reverse.map fun y => (y.1, (env.cells.lookup y.1).getD 0)
def compOk (sc out : Scope) (N NX : List Str) (js : List (Option Nat)) : Bool :=
  (sc.kind == .function) && (sc.names.all fun y => y.2 != .cell) && (sc.names.all fun y => y.2 != .local || sc.names.lookup y.1 == some .local) && (sc.names.all fun y => y.2 != .free || out.names.lookup y.1 == some .cell) && (js.length == N.length) &&
  ((N.zip js).all fun p => match p.2 with | none => true | some j => (NX[j]? == some p.1) && (out.names.lookup p.1 == some .cell) && (sc.names.lookup p.1 == some .free))
section
variable {X : Cx} {tg iter elt : Expr} {ifs : List Expr} {scope : Scope} {pos : Pos} {wi : TI} {N : List Str} {js : List (Option Nat)} {g : TG} {tt : Heap → TT} {te : Heap → TE}
end
section
variable {X : Cx}
def reprV : V → Option Str
  | .int i => some (toString i)
  | .non => some "None"
  | _ => none
end
section
variable {X : Cx} {K : PySem.W.Frag} {pos : Pos}
end
section
variable {X : Cx} {pos : Pos}
end
end L2
set_option Elab.async false
set_option linter.all false
set_option maxRecDepth 100000
set_option maxHeartbeats 4000000
namespace L2
open PySem PySem.Spec PyProof.Rows
def FL (K : PySem.W.Frag) (a : Addr) (g : TG) (tb : TS) (D : Ends) (σ : St) (H : Hp) : Prop := ∃ W : Nat → Nat → St → Hp → Prop, (∃ m, W 0 m σ H) ∧ ∀ i m σ H, W i m σ H →
  ((Itl K a).stop i H ∧ D.nx σ H) ∨ ((Itl K a).go i H ∧ ∃ N : St → Hp → Prop, (∀ σ' H', N σ' H' → ∃ m', m' < m ∧ W (i + 1) m' σ' H') ∧ ∀ x H', (Itl K a).yld i H x H' → g x σ H' fun σ2 H2 => tb { D with nx := N, ct := N, bk := D.nx } σ2 H2)
theorem tFor_list {K : PySem.W.Frag} {tl : TE} {g : TG} {tb : TS} {D : Ends} {σ : St} {H : Hp} (h : tl σ H fun x H1 => ∃ a, x = .ref a ∧ (∃ xs, SqL K H1 a xs) ∧ FL K a g tb D σ H1) : tFor (iList K tl) g tb D σ H := h
theorem fl_of {K : PySem.W.Frag} {a : Addr} {xs : List V} {g : TG} {tb : TS} {D : Ends} {σ : St} {H : Hp} (Pv : Nat → St → Hp → Prop) (h0 : Pv 0 σ H) (hl : ∀ i σ H, i ≤ xs.length → Pv i σ H → SqL K H a xs)
    (hs : ∀ i x σ H, xs[i]? = some x → Pv i σ H → g x σ H fun σ2 H2 => tb { D with nx := Pv (i + 1), ct := Pv (i + 1), bk := D.nx } σ2 H2) (hd : ∀ σ H, Pv xs.length σ H → D.nx σ H) : FL K a g tb D σ H := for_list Pv h0 hl hs hd
end L2
set_option Elab.async false
set_option linter.all false
set_option maxRecDepth 100000
set_option maxHeartbeats 4000000
namespace L2
open PySem PySem.Spec PyProof.Rows
section
variable {X : Cx}
def rIntB : List V → Hp → VK → Prop := fun xs H Q => ∃ b : Bool, xs = [.bl b] ∧ Q (.int (if b then 1 else 0)) H
theorem call_int_bl : CallR X (.type "int") rIntB := by
  intro pins s σ H xs us Q I r h
  obtain ⟨b, rfl, q⟩ := h
  obtain ⟨u, rfl, rx⟩ := vals1 r
  cases (show u = Value.bool b from rx)
  exact PySem.call_int_bool ⟨.int _, H, I.tok _, ⟨_, rfl⟩, q⟩
theorem pe_imp {e : Expr} {t t' : TE} (h : PE X e t) (i : ∀ σ H Q, t' σ H Q → t σ H Q) : PE X e t' := fun pins s σ H Q I q => h pins s σ H Q I (i σ H Q q)
end
end L2
set_option Elab.async false
set_option linter.all false
set_option maxRecDepth 100000
set_option maxHeartbeats 4000000
namespace L2
open PySem PySem.Spec PyProof.Rows
@[reducible] def boolKind : KeyKind where
  α := Bool
  blt a b := !a && b
  irrefl a := by cases a <;> rfl
  trans a b c h1 h2 := by cases a <;> cases b <;> cases c <;> simp_all
  negTrans a b c h := by cases a <;> cases b <;> cases c <;> simp_all
  total a b h1 h2 := by cases a <;> cases b <;> simp_all
  keyOf v := match v with | .bool x => some x | _ => none
  dflt := false
section
variable {prog : Program} {w : World} {A : Around} {E : Value → Shared → Prop} {s : Shared}
theorem oneLt_bool {a b : Bool} {Q : Bool → Shared → Prop} (h : Q (!a && b) s) : wpAny (model prog w) A (oneLt' true (.bool a) (.bool b)) Q E s := by
  rw [oneLt'_eq]
  simp only [if_true]
  refine wpAny_bind (wpAny_cRoomFor_byValue rfl ?_)
  refine wpAny_bind (wpAny_callSpecialIfBound?_slot (typeIs_bool' s a) F.slot_bool_lt (call_gives F.slot_bool_lt (typeIs_bool' s a) F.entry_int_lt (F.args_int_lt_2 _ _) (gives_int_lt_bools a b) ?_))
  show wpAny _ _ (truthy (.bool _)) _ _ _
  refine wpAny_truthy_bool ?_
  have e : decide ((if a = true then (1 : Int) else 0) < (if b = true then (1 : Int) else 0)) = (!a && b) := by cases a <;> cases b <;> rfl
  show Q (decide ((if a = true then (1 : Int) else 0) < (if b = true then (1 : Int) else 0))) s
  rw [e]
  exact h
end
theorem boolKind_oneLt : boolKind.OneLt := by
  intro prog w A E s x y a b Q ha hb h
  cases x <;> simp only [boolKind, reduceCtorEq, Option.some.injEq] at ha
  cases y <;> simp only [boolKind, reduceCtorEq, Option.some.injEq] at hb
  cases ha; cases hb
  exact oneLt_bool h
theorem keyKind_bools : ∀ (bs : List Bool) (v₁ v₂ : Value) (rest : List Value), bs.map Value.bool = v₁ :: v₂ :: rest → keyKind' (v₁ :: v₂ :: rest).toArray = pure oneType' := by
  intro bs v₁ v₂ rest e
  rw [← e]
  have m1 : ∀ bs : List Bool, (bs.map Value.bool).mapM firstOfTuple' = pure ((bs.map Value.bool).map fun _ => none) := fun bs => by
    induction bs with
    | nil => simp
    | cons b bs ih =>
      rw [List.map_cons, List.mapM_cons, show firstOfTuple' (.bool b) = pure none from rfl, ih]; simp
  have m2 : ∀ bs : List Bool, (bs.map Value.bool).mapM typeOf = pure ((bs.map Value.bool).map fun _ => Value.type "bool") := fun bs => by
    induction bs with
    | nil => simp
    | cons b bs ih =>
      rw [List.map_cons, List.mapM_cons, ih]
      show (pure (Value.type "bool") >>= fun b => pure _ >>= fun bs => pure (b :: bs)) = _
      simp
  rw [keyKind'_eq, List.mapM_toArray, m1]
  simp only [map_pure, pure_bind]
  have ne : bs ≠ [] := fun z => by rw [z] at e; cases e
  obtain ⟨b0, br, rfl⟩ : ∃ b0 br, bs = b0 :: br := by cases bs with | nil => exact absurd rfl ne | cons b r => exact ⟨b, r, rfl⟩
  rw [if_neg (by simp), if_neg (by simp)]
  rw [oneTypeOnly'_eq, List.mapM_toArray, m2]
  simp only [map_pure, pure_bind]
  have hall : ((List.map (fun _ => Value.type "bool") ((b0 :: br).map Value.bool)).toArray.all fun x => x == Value.type "bool") = true := by
    simp only [List.all_toArray, List.all_map, List.all_eq_true]
    intro _ _
    rfl
  have h0 : (List.map (fun _ => Value.type "bool") ((b0 :: br).map Value.bool)).toArray[0]? = some (Value.type "bool") := by simp
  rw [h0]
  simp only [hall, if_true, pure_bind, Option.isSome_some]
section
variable {X : Cx}
def rSortedB : List V → Hp → VK → Prop := fun xs H Q => ∃ (l : Addr) (bs : List Bool), xs = [.ref l] ∧ H l = some (.lst (bs.map V.bl)) ∧ bs.length < 64 ∧ ∀ (p : Addr) (bs' : List Bool), H p = none → bs'.Perm bs → bs'.Pairwise (fun a b => (!b && a) = false) → Q (.ref p) (upd H p (.lst (bs'.map V.bl)))
theorem valsB : ∀ {bs : List Bool} {us : List Value}, Vals (bs.map V.bl) us → us = bs.map Value.bool
  | [], _, r => by cases r; rfl
  | b :: bs, _, r => by
    cases r with
    | cons p q => rw [valsB q]; cases p; rfl
theorem valsB_of : ∀ bs : List Bool, Vals (bs.map V.bl) (bs.map Value.bool)
  | [] => .nil
  | b :: bs => .cons rfl (valsB_of bs)
theorem call_sortedB : CallR X (.builtin "sorted") rSortedB := by
  intro pins s σ H xs us Q I r h
  obtain ⟨l, bs, rfl, hl, h64, q⟩ := h
  obtain ⟨u, rfl, rx⟩ := vals1 r
  cases rx
  obtain ⟨its, rv, p, hz⟩ := I.list (SqL.of hl : SqL X.K H l (bs.map V.bl))
  have ei := valsB rv
  subst ei
  have mem : ∀ {p : Value × Value}, p ∈ (pairsOf (bs.map Value.bool)).toList → ∃ b, p.1 = .bool b ∧ p.1 = p.2 ∧ b ∈ bs := fun {p} hp => by
    rw [pairsOf_toList] at hp
    obtain ⟨e1, e2⟩ := mem_zip_self hp
    obtain ⟨b, hb, e⟩ := List.mem_map.mp e2
    exact ⟨b, e.symm, e1, hb⟩
  refine sortedK boolKind_oneLt p.isList (fun p hp => ?_) (keyKind_bools bs) (by rw [List.length_map]; exact h64) fun st' hp hs => ?_
  · obtain ⟨b, e, _⟩ := mem hp
    exact ⟨b, by rw [e]⟩
  · have hl' : (arrOf st').toList.Perm (pairsOf (bs.map Value.bool)).toList := Array.perm_iff_toList_perm.mp hp
    let kb : Value → Bool := fun v => match v with | .bool x => x | _ => false
    let bs' := (arrOf st').toList.map fun p => kb p.1
    have e1 : ((arrOf st').map (·.2)).toList = bs'.map Value.bool := by
      rw [Array.toList_map, List.map_map]
      refine List.map_congr_left fun p hp' => ?_
      obtain ⟨b, e, e2, _⟩ := mem (hl'.mem_iff.mp hp')
      show p.2 = Value.bool (kb p.1)
      rw [← e2, e]
    have perm : bs'.Perm bs := by
      have h1 := hl'.map fun p => kb p.1
      rw [pairsOf_toList] at h1
      have e2 : ((bs.map Value.bool).zip (bs.map Value.bool)).map (fun p => kb p.1) = bs := by
        have : ((bs.map Value.bool).zip (bs.map Value.bool)).map (fun p => kb p.1) = (((bs.map Value.bool).zip (bs.map Value.bool)).map Prod.fst).map kb := by rw [List.map_map]; rfl
        rw [this, List.map_fst_zip (Nat.le_refl _), List.map_map]
        exact List.map_id' bs
      rwa [e2] at h1
    have pw : bs'.Pairwise (fun a b => (!b && a) = false) := by
      rw [List.pairwise_iff_getElem]
      intro i j hi hj hij
      have hi' : i < (arrOf st').size := by simpa [bs'] using hi
      have hj' : j < (arrOf st').size := by simpa [bs'] using hj
      have h1 := hs i j (Nat.le_of_lt hij) (by rw [← hp.size_eq]; exact hj')
      obtain ⟨x, ex, _⟩ := mem (p := (arrOf st')[i]) (hl'.mem_iff.mp (by simp))
      obtain ⟨y, ey, _⟩ := mem (p := (arrOf st')[j]) (hl'.mem_iff.mp (by simp))
      have kx : KK boolKind (arrOf st') i = x := by unfold KK; rw [getElem?_pos _ i hi']; show ((boolKind.keyOf (arrOf st')[i].1).getD _) = x; rw [ex]; rfl
      have ky : KK boolKind (arrOf st') j = y := by unfold KK; rw [getElem?_pos _ j hj']; show ((boolKind.keyOf (arrOf st')[j].1).getD _) = y; rw [ey]; rfl
      rw [kx, ky] at h1
      have gi : bs'[i] = x := by simp only [bs', List.getElem_map, Array.getElem_toList]; rw [ex]
      have gj : bs'[j] = y := by simp only [bs', List.getElem_map, Array.getElem_toList]; rw [ey]
      rw [gi, gj]
      exact h1
    obtain ⟨e, he⟩ := sortedAll_at s.heap (bs.map Value.bool) ((arrOf st').map (·.2))
    have hlen : bs'.length ≤ sizeLine := by rw [perm.length_eq]; exact Nat.le_of_lt (small1000 (by omega))
    have J := I.laid (a := s.heap.objs.size + 1) (o := .lst (bs'.map V.bl)) (t' := s.toks) (h' := sortedAll s.heap (bs.map Value.bool) ((arrOf st').map (·.2))) (fun _ _ q => sortedAll_old q) (Nat.le_succ _) ⟨by rw [List.length_map]; exact hlen, bs'.map Value.bool, e, valsB_of _, by rw [he]; show some _ = some _; congr 2; rw [← e1]⟩
    exact ⟨.ref _, _, J, rfl, q _ bs' (I.hok.fresh (Nat.le_succ _)) perm pw⟩
end
end L2
set_option linter.all false
set_option maxHeartbeats 4000000
namespace MM
def Cg (n a b : Int) : Prop := n ∣ a - b
theorem Cg.refl (n a : Int) : Cg n a a := ⟨0, by omega⟩
theorem Cg.symm {n a b : Int} (h : Cg n a b) : Cg n b a := by
  obtain ⟨k, h⟩ := h; exact ⟨-k, by grind⟩
theorem Cg.trans {n a b c : Int} (h : Cg n a b) (g : Cg n b c) : Cg n a c := by
  obtain ⟨k, h⟩ := h; obtain ⟨l, g⟩ := g; exact ⟨k + l, by grind⟩
theorem Cg.mul {n a b c d : Int} (h : Cg n a b) (g : Cg n c d) : Cg n (a * c) (b * d) := by
  obtain ⟨k, h⟩ := h; obtain ⟨l, g⟩ := g; exact ⟨a * l + d * k, by grind⟩
theorem Cg.add {n a b c d : Int} (h : Cg n a b) (g : Cg n c d) : Cg n (a + c) (b + d) := by
  obtain ⟨k, h⟩ := h; obtain ⟨l, g⟩ := g; exact ⟨k + l, by grind⟩
theorem Cg.sub {n a b c d : Int} (h : Cg n a b) (g : Cg n c d) : Cg n (a - c) (b - d) := by
  obtain ⟨k, h⟩ := h; obtain ⟨l, g⟩ := g; exact ⟨k - l, by grind⟩
theorem Cg.pow {n a b : Int} (h : Cg n a b) (k : Nat) : Cg n (a ^ k) (b ^ k) := by
  induction k with
  | zero => rw [Int.pow_zero, Int.pow_zero]; exact Cg.refl _ _
  | succ k ih => rw [Int.pow_succ, Int.pow_succ]; exact ih.mul h
theorem cg_mod (n a : Int) : Cg n (a % n) a := ⟨-(a / n), by have := Int.emod_add_mul_ediv a n; grind⟩
theorem cg_eq {n a b : Int} (h : Cg n a b) : a % n = b % n := Int.emod_eq_emod_iff_emod_sub_eq_zero.mpr (Int.emod_eq_zero_of_dvd h)
theorem cg_of {n a b : Int} (h : a % n = b % n) : Cg n a b := Int.dvd_of_emod_eq_zero (Int.emod_eq_emod_iff_emod_sub_eq_zero.mp h)
theorem cg_self {n a b : Int} (h : Cg n a b) (h0 : 0 ≤ a) (h1 : a < n) : a = b % n := by
  have := cg_eq h; rw [Int.emod_eq_of_lt h0 h1] at this; exact this
structure PowInv (base often n done square left : Int) : Prop where
  d0 : 0 ≤ done
  d1 : done < n
  s0 : 0 ≤ square
  s1 : square < n
  l0 : 0 ≤ left
  cg : Cg n (done * square ^ left.toNat) (base ^ often.toNat)
theorem pow_start {base often n : Int} (hn : 0 < n) (ho : 0 ≤ often) : PowInv base often n (1 % n) (base % n) often :=
  ⟨Int.emod_nonneg _ (by omega), Int.emod_lt_of_pos _ hn, Int.emod_nonneg _ (by omega), Int.emod_lt_of_pos _ hn, ho, by
    have := (cg_mod n 1).mul ((cg_mod n base).pow often.toNat)
    rwa [Int.one_mul] at this⟩
theorem sq_pow (a : Int) (k : Nat) : (a * a) ^ k = a ^ (2 * k) := by
  induction k with
  | zero => simp
  | succ k ih => rw [Int.pow_succ, ih, show 2 * (k + 1) = 2 * k + 1 + 1 by omega, Int.pow_succ, Int.pow_succ, Int.mul_assoc]
theorem pow_even {base often n done square left : Int} (hn : 0 < n) (h : PowInv base often n done square left) (hl : left % 2 ≠ 1) : PowInv base often n done (square * square % n) (left / 2) := by
  refine ⟨h.d0, h.d1, Int.emod_nonneg _ (by omega), Int.emod_lt_of_pos _ hn, by have := h.l0; omega, ?_⟩
  have e : left.toNat = 2 * (left / 2).toNat := by have := h.l0; omega
  have := (Cg.refl n done).mul ((cg_mod n (square * square)).pow (left / 2).toNat)
  refine this.trans ?_
  rw [sq_pow, ← e]; exact h.cg
theorem pow_odd {base often n done square left : Int} (hn : 0 < n) (h : PowInv base often n done square left) (hl : left % 2 = 1) : PowInv base often n (done * square % n) (square * square % n) (left / 2) := by
  refine ⟨Int.emod_nonneg _ (by omega), Int.emod_lt_of_pos _ hn, Int.emod_nonneg _ (by omega), Int.emod_lt_of_pos _ hn, by have := h.l0; omega, ?_⟩
  have e : left.toNat = 2 * (left / 2).toNat + 1 := by have := h.l0; omega
  have := (cg_mod n (done * square)).mul ((cg_mod n (square * square)).pow (left / 2).toNat)
  refine this.trans ?_
  have e2 : done * square * (square * square) ^ (left / 2).toNat = done * square ^ left.toNat := by
    rw [e, sq_pow, Int.pow_succ]; grind
  rw [e2]; exact h.cg
theorem pow_end {base often n done square left : Int} (h : PowInv base often n done square left) (hl : ¬ 0 < left) : done = base ^ often.toNat % n := by
  have e : left.toNat = 0 := by omega
  have c := h.cg
  rw [e, Int.pow_zero, Int.mul_one] at c
  exact cg_self c h.d0 h.d1
structure GcdInv (a b great small : Int) : Prop where
  g0 : 0 ≤ great
  s0 : 0 ≤ small
  gb : great ≤ a.natAbs ∨ great ≤ b.natAbs
  sb : small ≤ b.natAbs
  gc : Nat.gcd great.toNat small.toNat = Int.gcd a b
theorem gcd_start (a b : Int) : GcdInv a b (if a < 0 then -a else a) (if b < 0 then -b else b) := by
  have e1 : (if a < 0 then -a else a) = (a.natAbs : Int) := by split <;> omega
  have e2 : (if b < 0 then -b else b) = (b.natAbs : Int) := by split <;> omega
  rw [e1, e2]
  exact ⟨by omega, by omega, .inl (Int.le_refl _), Int.le_refl _, by simp [Int.gcd]⟩
theorem gcd_turn {a b great small : Int} (h : GcdInv a b great small) (hs : 0 < small) : GcdInv a b small (great % small) := by
  have h0 := h.g0
  have l1 := Int.emod_lt_of_pos great hs
  have l2 := Int.emod_nonneg great (show small ≠ 0 by omega)
  have sb := h.sb
  refine ⟨h.s0, l2, .inr h.sb, by omega, ?_⟩
  have e : (great % small).toNat = great.toNat % small.toNat := Int.toNat_emod h.g0 h.s0
  rw [e, ← h.gc, Nat.gcd_comm small.toNat, ← Nat.gcd_rec, Nat.gcd_comm]
theorem gcd_end {a b great small : Int} (h : GcdInv a b great small) (hs : ¬ 0 < small) : great = Int.gcd a b := by
  have s0 := h.s0
  have g0 := h.g0
  have e : small.toNat = 0 := by omega
  have c := h.gc
  rw [e, Nat.gcd_zero_right] at c
  omega
structure UndInv (a n great gt small st : Int) : Prop where
  g0 : 0 < great
  g1 : great ≤ n
  s0 : 0 ≤ small
  s1 : small ≤ n
  cg : Cg n great (gt * a)
  cs : Cg n small (st * a)
  gc : Nat.gcd great.toNat small.toNat = Int.gcd a n
  bd : great * st.natAbs + small * gt.natAbs ≤ n
def Undo (a n v : Int) : Prop := 0 ≤ v ∧ v < n ∧ Cg n (v * a) 1
def IsPr (n : Int) : Prop := 2 ≤ n ∧ ∀ d, 2 ≤ d → d * d ≤ n → n % d ≠ 0
noncomputable def isPrB (n : Int) : Bool := @decide (IsPr n) (Classical.propDecidable _)
theorem isPrB_iff {n : Int} : isPrB n = true ↔ IsPr n := by unfold isPrB; exact @decide_eq_true_iff _ (Classical.propDecidable _)
theorem isPrB_of {n : Int} (h : IsPr n) : isPrB n = true := isPrB_iff.mpr h
theorem isPrB_not {n : Int} (h : ¬ IsPr n) : isPrB n = false := by
  cases e : isPrB n with
  | false => rfl
  | true => exact absurd (isPrB_iff.mp e) h
theorem sq_mono {a b : Int} (h0 : 0 ≤ a) (h : a ≤ b) : a * a ≤ b * b := Int.mul_le_mul h h h0 (by omega)
theorem pr_all {n : Int} (h : IsPr n) {d : Int} (h2 : 2 ≤ d) (hd : d < n) : n % d ≠ 0 := by
  intro e
  by_cases hs : d * d ≤ n
  · exact h.2 d h2 hs e
  · obtain ⟨k, hk⟩ := Int.dvd_of_emod_eq_zero e
    have n2 := h.1
    have k1 : 0 < k := by
      by_cases hk0 : 0 < k
      · exact hk0
      · have : d * k ≤ 0 := Int.mul_nonpos_of_nonneg_of_nonpos (by omega) (by omega)
        omega
    have k2 : 2 ≤ k := by
      by_cases k2 : 2 ≤ k
      · exact k2
      · have : k = 1 := by omega
        subst this
        omega
    have kd : k < d := by
      by_cases kd : k < d
      · exact kd
      · have := Int.mul_le_mul_of_nonneg_left (show d ≤ k by omega) (show 0 ≤ d by omega)
        omega
    refine h.2 k k2 ?_ ?_
    · have := Int.mul_le_mul_of_nonneg_right (show k ≤ d by omega) (show 0 ≤ k by omega)
      omega
    · rw [hk, Int.mul_emod_left]
theorem pr_dvd {n : Int} (h : IsPr n) {d : Int} (h2 : 2 ≤ d) (hd : d ∣ n) : d = n := by
  have n2 := h.1
  have hle : d ≤ n := Int.le_of_dvd (by omega) hd
  by_cases e : d = n
  · exact e
  · exact absurd (Int.emod_eq_zero_of_dvd hd) (pr_all h h2 (by omega))
theorem pr_coprime {p : Nat} (h : IsPr p) {k : Nat} (hk : ¬ p ∣ k) : Nat.Coprime p k := by
  have hg : Nat.gcd p k = 1 := by
    have hd := Nat.gcd_dvd_left p k
    have p2 := h.1
    by_cases g2 : 2 ≤ Nat.gcd p k
    · have : ((Nat.gcd p k : Nat) : Int) = p := pr_dvd h (by omega) (Int.natCast_dvd_natCast.mpr hd)
      have e : Nat.gcd p k = p := by omega
      exact absurd (e ▸ Nat.gcd_dvd_right p k) hk
    · have : 0 < Nat.gcd p k := Nat.gcd_pos_of_pos_left _ (by omega)
      omega
  exact hg
theorem pr_euclid {p : Nat} (h : IsPr p) {a b : Nat} (hd : p ∣ a * b) (ha : ¬ p ∣ a) : p ∣ b := (pr_coprime h ha).dvd_of_dvd_mul_left hd
def ch : Nat → Nat → Nat
  | _, 0 => 1
  | 0, _ + 1 => 0
  | n + 1, k + 1 => ch n k + ch n (k + 1)
theorem ch_zero (n : Nat) : ch n 0 = 1 := by cases n <;> rfl
theorem ch_succ (n k : Nat) : ch (n + 1) (k + 1) = ch n k + ch n (k + 1) := rfl
theorem ch_above : ∀ (n k : Nat), n < k → ch n k = 0
  | 0, k + 1, _ => rfl
  | n + 1, k + 1, h => by rw [ch_succ, ch_above n k (by omega), ch_above n (k + 1) (by omega)]
theorem ch_self : ∀ n, ch n n = 1
  | 0 => rfl
  | n + 1 => by rw [ch_succ, ch_self n, ch_above n (n + 1) (by omega)]
theorem ch_mul (n : Nat) : ∀ k, (k + 1) * ch (n + 1) (k + 1) = (n + 1) * ch n k := by
  induction n with
  | zero =>
    intro k
    cases k with
    | zero => rfl
    | succ k => rw [ch_above 1 (k + 2) (by omega), ch_above 0 (k + 1) (by omega)]; omega
  | succ n ih =>
    intro k
    rw [ch_succ (n + 1) k, Nat.mul_add, ih k]
    cases k with
    | zero => rw [ch_zero, ch_zero]; omega
    | succ j =>
      have := ih j
      have e := ch_succ n j
      rw [e] at this ⊢
      grind
def bi (a : Int) (n : Nat) : Nat → Int
  | 0 => 0
  | m + 1 => bi a n m + (ch n m : Int) * a ^ m
theorem bi_step (a : Int) (n : Nat) : ∀ m, bi a (n + 1) (m + 1) = bi a n (m + 1) + a * bi a n m
  | 0 => by simp [bi, ch_zero]
  | m + 1 => by
    rw [show bi a (n + 1) (m + 1 + 1) = bi a (n + 1) (m + 1) + (ch (n + 1) (m + 1) : Int) * a ^ (m + 1) from rfl, bi_step a n m, ch_succ,
      show bi a n (m + 1 + 1) = bi a n (m + 1) + (ch n (m + 1) : Int) * a ^ (m + 1) from rfl, show bi a n (m + 1) = bi a n m + (ch n m : Int) * a ^ m from rfl, Int.pow_succ, Int.natCast_add]
    grind
theorem bi_all (a : Int) : ∀ n : Nat, (a + 1) ^ n = bi a n (n + 1)
  | 0 => by simp [bi, ch_zero]
  | n + 1 => by
    rw [bi_step, show bi a n (n + 1 + 1) = bi a n (n + 1) + (ch n (n + 1) : Int) * a ^ (n + 1) from rfl, ch_above n (n + 1) (by omega), Int.pow_succ, bi_all a n]
    grind
theorem pr_ch {p : Nat} (h : IsPr p) {k : Nat} (h0 : 0 < k) (hk : k < p) : p ∣ ch p k := by
  obtain ⟨n, rfl⟩ : ∃ n, p = n + 1 := ⟨p - 1, by omega⟩
  obtain ⟨j, rfl⟩ : ∃ j, k = j + 1 := ⟨k - 1, by omega⟩
  refine pr_euclid h (a := j + 1) ⟨ch n j, ch_mul n j⟩ fun hd => ?_
  have := Nat.le_of_dvd (by omega) hd
  omega
theorem bi_pr {p : Nat} (h : IsPr p) (a : Int) : ∀ m, m < p → Cg p (bi a p (m + 1)) 1
  | 0, _ => by
    have : bi a p 1 = 1 := by simp [bi, ch_zero]
    rw [this]; exact Cg.refl _ _
  | m + 1, hm => by
    have h1 := bi_pr h a m (by omega)
    obtain ⟨c, hc⟩ := pr_ch h (k := m + 1) (by omega) hm
    have h2 : Cg p ((ch p (m + 1) : Int) * a ^ (m + 1)) 0 := ⟨c * a ^ (m + 1), by rw [hc, Int.natCast_mul]; grind⟩
    have := h1.add h2
    rwa [Int.add_zero] at this
theorem fermat_nat {p : Nat} (h : IsPr p) : ∀ a : Nat, Cg p ((a : Int) ^ p) a
  | 0 => by
    have p2 := h.1
    have : ((0 : Nat) : Int) ^ p = 0 := Int.zero_pow (by omega)
    rw [this]; exact Cg.refl _ _
  | a + 1 => by
    have ih := fermat_nat h a
    have p2 := h.1
    obtain ⟨n, hn⟩ : ∃ n, p = n + 1 := ⟨p - 1, by omega⟩
    have e : ((a + 1 : Nat) : Int) ^ p = bi a p p + (a : Int) ^ p := by
      rw [Int.natCast_add, show ((1 : Nat) : Int) = 1 from rfl, bi_all, show bi (a : Int) p (p + 1) = bi a p p + (ch p p : Int) * (a : Int) ^ p from rfl, ch_self]
      grind
    have e2 := bi_pr h a n (by omega)
    rw [← hn] at e2
    rw [e]
    have := e2.add ih
    rwa [Int.add_comm 1] at this
theorem fermat {p : Int} (h : IsPr p) (a : Int) : Cg p (a ^ p.toNat) a := by
  have p2 := h.1
  obtain ⟨q, rfl⟩ := Int.eq_ofNat_of_zero_le (show 0 ≤ p by omega)
  have h1 := fermat_nat h (a % q).toNat
  have e : (((a % (q : Int)).toNat : Nat) : Int) = a % q := Int.toNat_of_nonneg (Int.emod_nonneg _ (by omega))
  rw [e] at h1
  rw [Int.toNat_natCast]
  exact ((cg_mod (q : Int) a).symm.pow q).trans (h1.trans (cg_mod _ a))
end MM
set_option linter.all false
set_option maxHeartbeats 4000000
namespace MM
def prod : List (Int × Int) → Int
  | [] => 1
  | q :: r => q.1 ^ q.2.toNat * prod r
theorem prod_append (l r : List (Int × Int)) : prod (l ++ r) = prod l * prod r := by
  induction l with
  | nil => simp [prod]
  | cons q l ih => rw [List.cons_append, prod, prod, ih, Int.mul_assoc]
structure PartsOk (l : List (Int × Int)) : Prop where
  pr : ∀ q ∈ l, IsPr q.1 ∧ 1 ≤ q.2
  up : l.Pairwise fun a b => a.1 < b.1
def Parts (n : Int) (l : List (Int × Int)) : Prop := PartsOk l ∧ prod l = n
theorem pow_pos' {p : Int} (h : 1 ≤ p) (k : Nat) : 1 ≤ p ^ k := by
  induction k with
  | zero => simp
  | succ k ih =>
    rw [Int.pow_succ]
    have := Int.mul_le_mul_of_nonneg_right ih (show 0 ≤ p by omega)
    omega
theorem two_le_pow {p : Int} (h : 2 ≤ p) {k : Nat} (hk : 1 ≤ k) : 2 ≤ p ^ k := by
  obtain ⟨j, rfl⟩ : ∃ j, k = j + 1 := ⟨k - 1, by omega⟩
  rw [Int.pow_succ]
  have h1 := pow_pos' (show 1 ≤ p by omega) j
  have := Int.mul_le_mul_of_nonneg_right h1 (show 0 ≤ p by omega)
  omega
theorem prod_ge {l : List (Int × Int)} (h : ∀ q ∈ l, IsPr q.1 ∧ 1 ≤ q.2) : (2 : Int) ^ l.length ≤ prod l := by
  induction l with
  | nil => simp [prod]
  | cons q l ih =>
    have h1 := ih fun x hx => h x (List.mem_cons_of_mem _ hx)
    have h2 := h q List.mem_cons_self
    have h3 : 2 ≤ q.1 ^ q.2.toNat := two_le_pow h2.1.1 (by omega)
    rw [List.length_cons, Int.pow_succ, prod, Int.mul_comm]
    exact Int.mul_le_mul h3 h1 (Int.pow_nonneg (by decide)) (by omega)
theorem parts_len {l : List (Int × Int)} (h : ∀ q ∈ l, IsPr q.1 ∧ 1 ≤ q.2) (hn : prod l ≤ 10 ^ 9) : l.length < 30 := by
  refine Classical.byContradiction fun hc => ?_
  have h1 := prod_ge h
  have h2 : (2 : Int) ^ 30 ≤ 2 ^ l.length := by
    obtain ⟨k, hk⟩ : ∃ k, l.length = 30 + k := ⟨l.length - 30, by omega⟩
    rw [hk, Int.pow_add]
    have := pow_pos' (show (1 : Int) ≤ 2 by decide) k
    have := Int.mul_le_mul_of_nonneg_left this (show (0 : Int) ≤ 2 ^ 30 by decide)
    omega
  have h3 : (2 : Int) ^ 30 = 1073741824 := by decide
  omega
theorem prod_pos {l : List (Int × Int)} (h : ∀ q ∈ l, IsPr q.1 ∧ 1 ≤ q.2) : 1 ≤ prod l := by
  have := prod_ge h
  have := pow_pos' (show (1 : Int) ≤ 2 by decide) l.length
  omega
structure DivInv (l0 t left o : Int) : Prop where
  l1 : 1 ≤ left
  o0 : 0 ≤ o
  eq : l0 = left * t ^ o.toNat
theorem div_start {l0 t : Int} (h : 1 ≤ l0) : DivInv l0 t l0 0 := ⟨h, Int.le_refl _, by simp⟩
theorem div_turn {l0 t left o : Int} (ht : 2 ≤ t) (h : DivInv l0 t left o) (hd : left % t = 0) : DivInv l0 t (left / t) (o + 1) ∧ left / t < left := by
  have l1 := h.l1
  obtain ⟨k, hk⟩ := Int.dvd_of_emod_eq_zero hd
  have e : left / t = k := by rw [hk, Int.mul_ediv_cancel_left _ (by omega)]
  have k1 : 1 ≤ k := by
    refine Classical.byContradiction fun hc => ?_
    have : t * k ≤ 0 := Int.mul_nonpos_of_nonneg_of_nonpos (by omega) (by omega)
    omega
  rw [e]
  have o0 := h.o0
  refine ⟨⟨k1, by omega, ?_⟩, ?_⟩
  · have e2 : (o + 1).toNat = o.toNat + 1 := by omega
    rw [h.eq, e2, Int.pow_succ, hk]
    grind
  · have := Int.mul_le_mul_of_nonneg_right ht (show 0 ≤ k by omega)
    omega
theorem div_le {l0 t left o : Int} (ht : 2 ≤ t) (h : DivInv l0 t left o) : left ≤ l0 := by
  have := pow_pos' (show 1 ≤ t by omega) o.toNat
  have l1 := h.l1
  have := Int.mul_le_mul_of_nonneg_left this (show 0 ≤ left by omega)
  have e := h.eq
  omega
theorem div_dvd {l0 t left o : Int} (h : DivInv l0 t left o) : left ∣ l0 := ⟨t ^ o.toNat, h.eq⟩
theorem not_dvd_of {a b d : Int} (h : a ∣ b) (hb : b % d ≠ 0) : a % d ≠ 0 := fun e => hb (Int.emod_eq_zero_of_dvd (Int.dvd_trans (Int.dvd_of_emod_eq_zero e) h))
def LpEnd (n s r : Int) : Prop := (r = n ∧ ∀ d, s ≤ d → d * d ≤ n → n % d ≠ 0) ∨ (s ≤ r ∧ r * r ≤ n ∧ n % r = 0 ∧ ∀ d, s ≤ d → d < r → n % d ≠ 0)
structure PtInv (n : Int) (l : List (Int × Int)) (left t : Int) : Prop where
  l1 : 1 ≤ left
  t2 : 2 ≤ t
  eq : n = prod l * left
  lo : ∀ d, 2 ≤ d → d < t → left % d ≠ 0
  ok : PartsOk l
  le : ∀ q ∈ l, q.1 ≤ t ∧ left % q.1 ≠ 0
theorem pt_start {n : Int} (h : 1 ≤ n) : PtInv n [] n 2 := ⟨h, by omega, by simp [prod], fun d a b => by omega, ⟨fun _ h => (by cases h), List.Pairwise.nil⟩, fun _ h => (by cases h)⟩
theorem pt_turn {n : Int} {l : List (Int × Int)} {left t r left' o : Int} (h : PtInv n l left t) (pr : IsPr r) (tr : t ≤ r) (rd : left % r = 0) (ra : ∀ d, 2 ≤ d → d < r → left % d ≠ 0) (D : DivInv left r left' o) (hd : left' % r ≠ 0) : PtInv n (l ++ [(r, o)]) left' r ∧ 1 ≤ o ∧ left' < left := by
  have o1 : 1 ≤ o := by
    refine Classical.byContradiction fun hc => ?_
    have o0 := D.o0
    have : o = 0 := by omega
    subst this
    have e := D.eq
    simp at e
    rw [← e] at hd
    exact hd rd
  have lt : left' < left := by
    have h2 := two_le_pow pr.1 (show 1 ≤ o.toNat by omega)
    have l1 := D.l1
    have := Int.mul_le_mul_of_nonneg_left h2 (show 0 ≤ left' by omega)
    have e := D.eq
    omega
  refine ⟨⟨D.l1, pr.1, ?_, fun d a b => not_dvd_of (div_dvd D) (ra d a b), ⟨?_, ?_⟩, ?_⟩, o1, lt⟩
  · rw [prod_append, h.eq, D.eq]; simp only [prod]; grind
  · intro q hq
    rcases List.mem_append.mp hq with hq | hq
    · exact h.ok.pr q hq
    · rw [List.mem_singleton.mp hq]; exact ⟨pr, o1⟩
  · rw [List.pairwise_append]
    refine ⟨h.ok.up, List.pairwise_singleton .., fun a ha b hb => ?_⟩
    rw [List.mem_singleton.mp hb]
    have ⟨a1, a2⟩ := h.le a ha
    refine Classical.byContradiction fun hc => ?_
    have : a.1 = r := by
      show a.1 = r
      have : ¬ a.1 < r := hc
      omega
    rw [this] at a2
    exact a2 rd
  · intro q hq
    rcases List.mem_append.mp hq with hq | hq
    · have ⟨a1, a2⟩ := h.le q hq
      exact ⟨by omega, not_dvd_of (div_dvd D) a2⟩
    · rw [List.mem_singleton.mp hq]; exact ⟨Int.le_refl _, hd⟩
theorem pt_end {n : Int} {l : List (Int × Int)} {left t : Int} (h : PtInv n l left t) (he : ¬ 1 < left) : Parts n l := by
  have l1 := h.l1
  have : left = 1 := by omega
  refine ⟨h.ok, ?_⟩
  rw [h.eq, this, Int.mul_one]
theorem parts_prime {n : Int} {l : List (Int × Int)} (h : Parts n l) : l = [(n, 1)] ↔ IsPr n := by
  constructor
  · intro e
    have := h.1.pr (n, 1) (by rw [e]; simp)
    exact this.1
  · intro hp
    obtain ⟨ok, e⟩ := h
    have n2 := hp.1
    cases l with
    | nil => simp [prod] at e; omega
    | cons q r =>
      have h1 := ok.pr q List.mem_cons_self
      have q2 := h1.1.1
      have hr := prod_pos (l := r) fun x hx => ok.pr x (List.mem_cons_of_mem _ hx)
      have hdv : q.1 ∣ n := by
        obtain ⟨j, hj⟩ : ∃ j, q.2.toNat = j + 1 := ⟨q.2.toNat - 1, by omega⟩
        refine ⟨q.1 ^ j * prod r, ?_⟩
        rw [← e, prod, hj, Int.pow_succ]; grind
      have qn := pr_dvd hp q2 hdv
      obtain ⟨j, hj⟩ : ∃ j, q.2.toNat = j + 1 := ⟨q.2.toNat - 1, by omega⟩
      have e2 : n * (n ^ j * prod r) = n * 1 := by
        rw [Int.mul_one]
        conv => rhs; rw [← e]
        rw [prod, hj, qn, Int.pow_succ]; grind
      have e3 : n ^ j * prod r = 1 := Int.eq_of_mul_eq_mul_left (by omega) e2
      have p1 := pow_pos' (show 1 ≤ n by omega) j
      have hpr : prod r = 1 := by
        have := Int.mul_le_mul_of_nonneg_right p1 (show 0 ≤ prod r by omega)
        omega
      have j0 : j = 0 := by
        refine Classical.byContradiction fun hc => ?_
        have := two_le_pow hp.1 (show 1 ≤ j by omega)
        rw [hpr] at e3
        omega
      have r0 : r = [] := by
        have g := prod_ge (l := r) fun x hx => ok.pr x (List.mem_cons_of_mem _ hx)
        rw [hpr] at g
        cases r with
        | nil => rfl
        | cons y z =>
          rw [List.length_cons, Int.pow_succ] at g
          have := pow_pos' (show (1 : Int) ≤ 2 by decide) z.length
          omega
      have q1 : q.2 = 1 := by omega
      rw [r0]
      obtain ⟨a, b⟩ := q
      simp only at qn q1
      rw [qn, q1]
structure LtInv (n : Int) (l : List (Int × Int)) (left t : Int) : Prop where
  l1 : 1 ≤ left
  t2 : 2 ≤ t
  eq : n = prod l * left
  lo : ∀ d, 2 ≤ d → d < t → left % d ≠ 0
  ok : PartsOk l
  le : ∀ q ∈ l, q.1 < t
  tb : 1 < left → t ≤ left
theorem lt_start {n : Int} (h : 1 ≤ n) : LtInv n [] n 2 := ⟨h, by omega, by simp [prod], fun d a b => by omega, ⟨fun _ h => (by cases h), List.Pairwise.nil⟩, fun _ h => (by cases h), fun h => by omega⟩
theorem lt_le {n : Int} {l : List (Int × Int)} {left t : Int} (h : LtInv n l left t) : left ≤ n := by
  have p := prod_pos h.ok.pr
  have l1 := h.l1
  have := Int.mul_le_mul_of_nonneg_right p (show 0 ≤ left by omega)
  have e := h.eq
  omega
theorem tb_of {left t : Int} (h : ∀ d, 2 ≤ d → d < t → left % d ≠ 0) (h1 : 1 < left) : t ≤ left := by
  refine Classical.byContradiction fun hc => h left (by omega) (by omega) (Int.emod_self ..)
theorem lt_jump {n : Int} {l : List (Int × Int)} {left t : Int} (h : LtInv n l left t) (h1 : 1 < left) (hs : t * t > left) : LtInv n l left left ∧ IsPr left := by
  have p : IsPr left := ⟨by omega, fun d d2 dd => h.lo d d2 (by
    refine Classical.byContradiction fun hc => ?_
    have := sq_mono (show 0 ≤ t by have := h.t2; omega) (show t ≤ d by omega)
    omega)⟩
  have := h.tb h1
  exact ⟨⟨h.l1, by omega, h.eq, fun d a b => pr_all p a b, h.ok, fun q hq => by have := h.le q hq; omega, fun _ => Int.le_refl _⟩, p⟩
theorem lt_turn {n : Int} {l : List (Int × Int)} {left t left' o : Int} (h : LtInv n l left t) (D : DivInv left t left' o) (hd : left' % t ≠ 0) : LtInv n (if 0 < o then l ++ [(t, o)] else l) left' (t + 1) ∧ left' ≤ left := by
  have hle := div_le h.t2 D
  have lo' : ∀ d, 2 ≤ d → d < t + 1 → left' % d ≠ 0 := fun d a b => by
    by_cases e : d = t
    · rw [e]; exact hd
    · exact not_dvd_of (div_dvd D) (h.lo d a (by omega))
  by_cases o0 : 0 < o
  · rw [if_pos o0]
    have td : left % t = 0 := by
      have e := D.eq
      obtain ⟨j, hj⟩ : ∃ j, o.toNat = j + 1 := ⟨o.toNat - 1, by omega⟩
      refine Int.emod_eq_zero_of_dvd ⟨left' * t ^ j, ?_⟩
      rw [e, hj, Int.pow_succ]; grind
    have pr : IsPr t := ⟨h.t2, fun d d2 dd e => by
      have t2 := h.t2
      have dr : d < t := by
        have := Int.mul_le_mul_of_nonneg_right d2 (show 0 ≤ d by omega)
        omega
      exact h.lo d d2 dr (Int.emod_eq_zero_of_dvd (Int.dvd_trans (Int.dvd_of_emod_eq_zero e) (Int.dvd_of_emod_eq_zero td)))⟩
    refine ⟨⟨D.l1, by have := h.t2; omega, ?_, lo', ⟨?_, ?_⟩, ?_, tb_of lo'⟩, hle⟩
    · rw [prod_append, h.eq, D.eq]; simp only [prod]; grind
    · intro q hq
      rcases List.mem_append.mp hq with hq | hq
      · exact h.ok.pr q hq
      · rw [List.mem_singleton.mp hq]; exact ⟨pr, by show 1 ≤ o; omega⟩
    · rw [List.pairwise_append]
      refine ⟨h.ok.up, List.pairwise_singleton .., fun a ha b hb => ?_⟩
      rw [List.mem_singleton.mp hb]
      exact h.le a ha
    · intro q hq
      rcases List.mem_append.mp hq with hq | hq
      · have := h.le q hq; omega
      · rw [List.mem_singleton.mp hq]; show t < t + 1; omega
  · rw [if_neg o0]
    have : o = 0 := by have := D.o0; omega
    subst this
    have e := D.eq
    simp at e
    subst e
    exact ⟨⟨D.l1, by have := h.t2; omega, h.eq, lo', h.ok, fun q hq => by have := h.le q hq; omega, tb_of lo'⟩, hle⟩
theorem lt_end {n : Int} {l : List (Int × Int)} {left t : Int} (h : LtInv n l left t) (he : ¬ 1 < left) : Parts n l := by
  have l1 := h.l1
  have : left = 1 := by omega
  refine ⟨h.ok, ?_⟩
  rw [h.eq, this, Int.mul_one]
def tryB (n : Nat) : Nat → Nat → Bool
  | 0, _ => true
  | k + 1, d => decide (n % d ≠ 0) && tryB n k (d + 1)
theorem tryB_ok {n : Nat} : ∀ (k d : Nat), tryB n k d = true → ∀ e, d ≤ e → e < d + k → n % e ≠ 0
  | 0, d, _, e, h1, h2 => by omega
  | k + 1, d, h, e, h1, h2 => by
    simp only [tryB, Bool.and_eq_true, decide_eq_true_eq] at h
    by_cases q : e = d
    · rw [q]; exact h.1
    · exact tryB_ok k (d + 1) h.2 e (by omega) (by omega)
theorem pr_try {n k : Nat} (h2 : 2 ≤ n) (hk : n < (k + 2) * (k + 2)) (h : tryB n k 2 = true) : IsPr n := by
  refine ⟨by omega, fun d d2 dd => ?_⟩
  obtain ⟨e, rfl⟩ := Int.eq_ofNat_of_zero_le (show 0 ≤ d by omega)
  have he : e < 2 + k := by
    refine Classical.byContradiction fun hc => ?_
    have : (k + 2) * (k + 2) ≤ e * e := Nat.mul_le_mul (by omega) (by omega)
    have : e * e ≤ n := by exact_mod_cast dd
    omega
  have := tryB_ok k 2 h e (by omega) he
  intro z
  apply this
  have z' : ((n % e : Nat) : Int) = 0 := by rw [Int.natCast_emod]; exact z
  omega
theorem pr_1000003 : IsPr 1000003 := pr_try (n := 1000003) (k := 999) (by decide) (by decide) (by decide +kernel)
end MM
set_option linter.all false
set_option maxHeartbeats 4000000
namespace MM
theorem mul_pow' (a b : Int) (k : Nat) : (a * b) ^ k = a ^ k * b ^ k := by
  induction k with
  | zero => simp
  | succ k ih => rw [Int.pow_succ, Int.pow_succ, Int.pow_succ, ih]; grind
theorem pow_pow' (a : Int) (x y : Nat) : (a ^ x) ^ y = (a ^ y) ^ x := by
  rw [← Int.pow_mul, ← Int.pow_mul, Nat.mul_comm]
theorem m1 {a x y n : Int} (hx : 0 ≤ x) (hy : 0 ≤ y) : a ^ x.toNat % n * (a ^ y.toNat % n) % n = a ^ (x + y).toNat % n := by
  have e : (x + y).toNat = x.toNat + y.toNat := by omega
  rw [e, Int.pow_add]
  exact cg_eq ((cg_mod n _).mul (cg_mod n _))
theorem m2 (a b : Int) (x : Nat) (n : Int) : (a * b) ^ x % n = a ^ x % n * (b ^ x % n) % n := by
  rw [mul_pow']
  exact cg_eq ((cg_mod n _).mul (cg_mod n _)).symm
theorem m3 (a : Int) (x y : Nat) (n : Int) : (a ^ x % n) ^ y % n = (a ^ y % n) ^ x % n := by
  have h1 := (cg_mod n (a ^ x)).pow y
  have h2 := (cg_mod n (a ^ y)).pow x
  rw [pow_pow'] at h1
  exact cg_eq (h1.trans h2.symm)
end MM
set_option linter.all false
set_option maxHeartbeats 4000000
namespace MM
theorem pr_int_euclid {p a b : Int} (h : IsPr p) (hd : p ∣ a * b) : p ∣ a ∨ p ∣ b := by
  have p2 := h.1
  obtain ⟨q, rfl⟩ := Int.eq_ofNat_of_zero_le (show 0 ≤ p by omega)
  have hd' : q ∣ a.natAbs * b.natAbs := by
    have := Int.natAbs_dvd_natAbs.mpr hd
    rwa [Int.natAbs_mul] at this
  by_cases ha : q ∣ a.natAbs
  · left; exact Int.natAbs_dvd_natAbs.mp ha
  · right; exact Int.natAbs_dvd_natAbs.mp (pr_euclid h hd' ha)
theorem pr_dvd_pow {p a : Int} (h : IsPr p) {k : Nat} (hd : p ∣ a ^ k) : p ∣ a := by
  induction k with
  | zero =>
    have := Int.le_of_dvd (by decide) (by simpa using hd : p ∣ 1)
    have := h.1
    omega
  | succ k ih =>
    rw [Int.pow_succ] at hd
    rcases pr_int_euclid h hd with z | z
    · exact ih z
    · exact z
theorem pr_dvd_pr {p q : Int} (hp : IsPr p) (hq : IsPr q) (hd : p ∣ q) : p = q := pr_dvd hq hp.1 hd
theorem pr_dvd_prod {p : Int} (h : IsPr p) : ∀ {l : List (Int × Int)}, (∀ q ∈ l, IsPr q.1 ∧ 1 ≤ q.2) → p ∣ prod l → ∃ q ∈ l, q.1 = p
  | [], _, hd => by
    have := Int.le_of_dvd (by decide) (by simpa [prod] using hd : p ∣ 1)
    have := h.1
    omega
  | q :: r, hl, hd => by
    rw [prod] at hd
    rcases pr_int_euclid h hd with z | z
    · exact ⟨q, List.mem_cons_self, (pr_dvd_pr h (hl q List.mem_cons_self).1 (pr_dvd_pow h z)).symm⟩
    · obtain ⟨x, hx, e⟩ := pr_dvd_prod h (fun x hx => hl x (List.mem_cons_of_mem _ hx)) z
      exact ⟨x, List.mem_cons_of_mem _ hx, e⟩
theorem PartsOk.tail {q : Int × Int} {r : List (Int × Int)} (h : PartsOk (q :: r)) : PartsOk r := ⟨fun x hx => h.pr x (List.mem_cons_of_mem _ hx), (List.pairwise_cons.mp h.up).2⟩
theorem PartsOk.head_not {q : Int × Int} {r : List (Int × Int)} (h : PartsOk (q :: r)) : ¬ q.1 ∣ prod r := fun hd => by
  obtain ⟨x, hx, e⟩ := pr_dvd_prod (h.pr q List.mem_cons_self).1 h.tail.pr hd
  have := (List.pairwise_cons.mp h.up).1 x hx
  omega
def tot : List (Int × Int) → Int
  | [] => 1
  | q :: r => (q.1 - 1) * tot r
def red : List (Int × Int) → Int
  | [] => 1
  | q :: r => q.1 ^ (q.2.toNat - 1) * red r
def phi (l : List (Int × Int)) : Int := tot l * red l
def geo (x : Int) : Nat → Int
  | 0 => 0
  | n + 1 => geo x n + x ^ n
theorem fermat1 {p a : Int} (h : IsPr p) (ha : ¬ p ∣ a) : Cg p (a ^ (p - 1).toNat) 1 := by
  have f := fermat h a
  have p2 := h.1
  obtain ⟨j, hj⟩ : ∃ j, p.toNat = j + 1 := ⟨p.toNat - 1, by omega⟩
  have e : (p - 1).toNat = j := by omega
  rw [hj, Int.pow_succ] at f
  rw [e]
  have f' : p ∣ a * (a ^ j - 1) := by
    have e2 : a * (a ^ j - 1) = a ^ j * a - a := by grind
    rw [e2]; exact f
  rcases pr_int_euclid h f' with z | z
  · exact absurd z ha
  · exact z
theorem cg_pow_dvd {n a : Int} {e f : Nat} (h : Cg n (a ^ e) 1) (hd : e ∣ f) : Cg n (a ^ f) 1 := by
  obtain ⟨c, rfl⟩ := hd
  rw [Int.pow_mul]
  have := h.pow c
  rwa [Int.one_pow] at this
theorem toNat_pow {p : Int} (h : 0 ≤ p) (k : Nat) : (p ^ k).toNat = p.toNat ^ k := by
  obtain ⟨q, rfl⟩ := Int.eq_ofNat_of_zero_le h
  rw [← Int.natCast_pow]
  rfl
structure Ord (a n o : Int) : Prop where
  pos : 1 ≤ o
  cg : Cg n (a ^ o.toNat) 1
  least : ∀ e, 1 ≤ e → e < o → ¬ Cg n (a ^ e.toNat) 1
theorem has_least {Pr : Nat → Prop} : ∀ n, Pr n → ∃ d, Pr d ∧ d ≤ n ∧ ∀ e, e < d → ¬ Pr e := by
  intro n
  induction n using Nat.strongRecOn with
  | _ n ih =>
    intro h
    by_cases q : ∃ m, m < n ∧ Pr m
    · obtain ⟨m, hm, pm⟩ := q
      obtain ⟨d, h1, h2, h3⟩ := ih m hm pm
      exact ⟨d, h1, by omega, h3⟩
    · exact ⟨n, h, Nat.le_refl _, fun e he z => q ⟨e, he, z⟩⟩
theorem has_prime {m : Int} (hm : 2 ≤ m) : ∃ p, IsPr p ∧ p ∣ m := by
  obtain ⟨d, ⟨d2, dd⟩, _, dl⟩ := has_least (Pr := fun d => 2 ≤ d ∧ (d : Int) ∣ m) m.toNat ⟨by omega, by rw [show ((m.toNat : Nat) : Int) = m by omega]; exact Int.dvd_refl _⟩
  refine ⟨d, ⟨by omega, fun e e2 ee z => ?_⟩, dd⟩
  obtain ⟨f, rfl⟩ := Int.eq_ofNat_of_zero_le (show 0 ≤ e by omega)
  have lt : f < d := by
    have : f * f ≤ d := by exact_mod_cast ee
    have : 2 * f ≤ f * f := Nat.mul_le_mul_right f (by omega)
    omega
  exact dl f lt ⟨by omega, Int.dvd_trans (Int.dvd_of_emod_eq_zero z) dd⟩
theorem ord_of {a n o : Int} (ho : 1 ≤ o) (hc : Cg n (a ^ o.toNat) 1) (hq : ∀ q, IsPr q → q ∣ o → ¬ Cg n (a ^ (o / q).toNat) 1) : Ord a n o := by
  refine ⟨ho, hc, ?_⟩
  obtain ⟨d, ⟨d1, dc⟩, dle, dl⟩ := has_least (Pr := fun d => 1 ≤ d ∧ Cg n (a ^ d) 1) o.toNat ⟨by omega, hc⟩
  have dd : d ∣ o.toNat := by
    by_cases z : o.toNat % d = 0
    · exact Nat.dvd_of_mod_eq_zero z
    · exfalso
      have lt : o.toNat % d < d := Nat.mod_lt _ (by omega)
      refine dl _ lt ⟨by omega, ?_⟩
      have e : o.toNat = d * (o.toNat / d) + o.toNat % d := (Nat.div_add_mod _ _).symm
      rw [e, Int.pow_add, Int.pow_mul] at hc
      have h1 := dc.pow (o.toNat / d)
      rw [Int.one_pow] at h1
      have h2 := h1.mul (Cg.refl n (a ^ (o.toNat % d)))
      rw [Int.one_mul] at h2
      exact h2.symm.trans hc
  obtain ⟨m, hm⟩ := dd
  have m1 : 1 ≤ m := by
    cases m with
    | zero => simp at hm; omega
    | succ m => omega
  by_cases m2 : m = 1
  · intro e e1 e2
    refine fun z => dl e.toNat ?_ ⟨by omega, z⟩
    rw [m2] at hm
    omega
  · exfalso
    obtain ⟨p, hp, hpm⟩ := has_prime (show (2 : Int) ≤ (m : Nat) by omega)
    have p2 := hp.1
    obtain ⟨c, hc'⟩ := hpm
    have eo : o = p * (d * c) := by
      have : (o : Int) = ((d * m : Nat) : Int) := by omega
      rw [this, Int.natCast_mul, hc']; grind
    refine hq p hp ⟨d * c, eo⟩ ?_
    rw [eo, Int.mul_ediv_cancel_left _ (by omega)]
    have c0 : 0 ≤ c := by
      refine Classical.byContradiction fun z => ?_
      have := Int.mul_le_mul_of_nonneg_left (show c ≤ -1 by omega) (show 0 ≤ p by omega)
      omega
    refine cg_pow_dvd dc ?_
    obtain ⟨c', rfl⟩ := Int.eq_ofNat_of_zero_le c0
    rw [← Int.natCast_mul]
    exact ⟨c', rfl⟩
structure OrdInv (a n F o : Int) (done : List (Int × Int)) : Prop where
  pos : 1 ≤ o
  dvd : o ∣ F
  cg : Cg n (a ^ o.toNat) 1
  no : ∀ q ∈ done, q.1 ∣ o → ¬ Cg n (a ^ (o / q.1).toNat) 1
end MM
set_option linter.all false
set_option maxHeartbeats 4000000
namespace MM
def valL : List Int → Int
  | [] => 0
  | b :: r => b + 2 * valL r
structure BitInv (o l : Int) (bs : List Int) : Prop where
  l0 : 0 ≤ l
  eq : o = valL bs + 2 ^ bs.length * l
  bit : ∀ b ∈ bs, b = 0 ∨ b = 1
end MM
set_option linter.all false
set_option maxHeartbeats 4000000
namespace MM
abbrev PZ := Int × Int
def pm (d : Int) (P Q : PZ) : PZ := (P.1 * Q.1 + d * P.2 * Q.2, P.1 * Q.2 + P.2 * Q.1)
def pw (d : Int) (P : PZ) : Nat → PZ
  | 0 => (1, 0)
  | k + 1 => pm d (pw d P k) P
theorem pm_comm (d : Int) (P Q : PZ) : pm d P Q = pm d Q P := by
  unfold pm; refine Prod.ext ?_ ?_ <;> simp only <;> grind
theorem pm_assoc (d : Int) (P Q R : PZ) : pm d (pm d P Q) R = pm d P (pm d Q R) := by
  unfold pm; refine Prod.ext ?_ ?_ <;> simp only <;> grind
theorem pm_one (d : Int) (P : PZ) : pm d P (1, 0) = P := by
  unfold pm; refine Prod.ext ?_ ?_ <;> simp
theorem one_pm (d : Int) (P : PZ) : pm d (1, 0) P = P := by rw [pm_comm, pm_one]
theorem pw_add (d : Int) (P : PZ) (a : Nat) : ∀ b, pw d P (a + b) = pm d (pw d P a) (pw d P b)
  | 0 => by rw [Nat.add_zero, pw, pm_one]
  | b + 1 => by rw [← Nat.add_assoc, pw, pw_add d P a b, pw, pm_assoc]
theorem pw_sq (d : Int) (P : PZ) : ∀ k, pw d (pm d P P) k = pw d P (2 * k)
  | 0 => rfl
  | k + 1 => by
    rw [pw, pw_sq d P k, show 2 * (k + 1) = 2 * k + 1 + 1 by omega, pw, pw, pm_assoc]
def CP (n : Int) (P Q : PZ) : Prop := Cg n P.1 Q.1 ∧ Cg n P.2 Q.2
theorem CP.refl (n : Int) (P : PZ) : CP n P P := ⟨Cg.refl _ _, Cg.refl _ _⟩
theorem CP.symm {n : Int} {P Q : PZ} (h : CP n P Q) : CP n Q P := ⟨h.1.symm, h.2.symm⟩
theorem CP.trans {n : Int} {P Q R : PZ} (h : CP n P Q) (g : CP n Q R) : CP n P R := ⟨h.1.trans g.1, h.2.trans g.2⟩
theorem CP.mul {n d : Int} {P P' Q Q' : PZ} (h : CP n P P') (g : CP n Q Q') : CP n (pm d P Q) (pm d P' Q') :=
  ⟨(h.1.mul g.1).add (((Cg.refl n d).mul h.2).mul g.2), (h.1.mul g.2).add (h.2.mul g.1)⟩
theorem CP.pw {n d : Int} {P P' : PZ} (h : CP n P P') : ∀ k, CP n (pw d P k) (pw d P' k)
  | 0 => CP.refl _ _
  | k + 1 => (CP.pw h k).mul h
def rp (n : Int) (P : PZ) : PZ := (P.1 % n, P.2 % n)
theorem cp_rp (n : Int) (P : PZ) : CP n (rp n P) P := ⟨cg_mod n _, cg_mod n _⟩
theorem cp_eq {n : Int} {P Q : PZ} (h : CP n P Q) : rp n P = rp n Q := Prod.ext (cg_eq h.1) (cg_eq h.2)
structure Rst (n : Int) (P : PZ) : Prop where
  a0 : 0 ≤ P.1
  a1 : P.1 < n
  b0 : 0 ≤ P.2
  b1 : P.2 < n
theorem Rst.of {n : Int} (hn : 0 < n) (P : PZ) : Rst n (rp n P) := ⟨Int.emod_nonneg _ (by omega), Int.emod_lt_of_pos _ hn, Int.emod_nonneg _ (by omega), Int.emod_lt_of_pos _ hn⟩
theorem Rst.rp {n : Int} {P : PZ} (h : Rst n P) : rp n P = P := Prod.ext (Int.emod_eq_of_lt h.a0 h.a1) (Int.emod_eq_of_lt h.b0 h.b1)
structure PPInv (d n : Int) (P : PZ) (often : Int) (done square : PZ) (left : Int) : Prop where
  rd : Rst n done
  rs : Rst n square
  l0 : 0 ≤ left
  cg : CP n (pm d done (pw d square left.toNat)) (pw d P often.toNat)
theorem one_rp {n : Int} (hn : 0 < n) : ((1 % n, 0) : PZ) = rp n (1, 0) := by
  unfold rp; refine Prod.ext rfl ?_; simp
theorem pp_start {d n : Int} {P : PZ} {often : Int} (hn : 0 < n) (ho : 0 ≤ often) : PPInv d n P often (1 % n, 0) (rp n P) often := by
  rw [one_rp hn]
  refine ⟨.of hn _, .of hn _, ho, ?_⟩
  have h := (cp_rp n (1, 0)).mul (d := d) ((cp_rp n P).pw (d := d) often.toNat)
  rwa [one_pm] at h
theorem pp_even {d n : Int} {P done square : PZ} {often left : Int} (hn : 0 < n) (I : PPInv d n P often done square left) (h : left % 2 ≠ 1) : PPInv d n P often done (rp n (pm d square square)) (left / 2) := by
  have l0 := I.l0
  refine ⟨I.rd, .of hn _, by omega, ?_⟩
  have e : left.toNat = 2 * (left / 2).toNat := by omega
  have c := I.cg
  rw [e, ← pw_sq] at c
  exact ((CP.refl n done).mul ((cp_rp n _).pw _)).trans c
theorem pp_odd {d n : Int} {P done square : PZ} {often left : Int} (hn : 0 < n) (I : PPInv d n P often done square left) (h : left % 2 = 1) : PPInv d n P often (rp n (pm d done square)) (rp n (pm d square square)) (left / 2) := by
  have l0 := I.l0
  refine ⟨.of hn _, .of hn _, by omega, ?_⟩
  have e : left.toNat = 2 * (left / 2).toNat + 1 := by omega
  have c := I.cg
  rw [e, pw, ← pw_sq, pm_comm d (pw _ _ _) square, ← pm_assoc] at c
  exact ((cp_rp n _).mul ((cp_rp n _).pw _)).trans c
theorem pp_end {d n : Int} {P done square : PZ} {often left : Int} (I : PPInv d n P often done square left) (h : ¬ 0 < left) : done = rp n (pw d P often.toNat) := by
  have l0 := I.l0
  have e : left.toNat = 0 := by omega
  have c := I.cg
  rw [e, pw, pm_one] at c
  rw [← cp_eq c, I.rd.rp]
theorem nb_mul {a b : Int} {x y z : Nat} (ha : a.natAbs < x) (hb : b.natAbs < y) (h : x * y ≤ z) : (a * b).natAbs < z := by
  rw [Int.natAbs_mul]
  have := Nat.mul_lt_mul'' ha hb
  omega
end MM
set_option linter.all false
namespace MM
def sg2 (n : Int) : Int := if n % 8 = 3 ∨ n % 8 = 5 then -1 else 1
def sgT (a n : Int) : Int := if a % 4 = 3 ∧ n % 4 = 3 then -1 else 1
def J (a n : Int) : Int := if a ≤ 0 then (if n = 1 then 1 else 0) else if a % 2 = 0 then sg2 n * J (a / 2) n else if a = 1 then 1 else sgT a n * J (n % a) a
termination_by a.toNat
decreasing_by
  · omega
  · rename_i h _ _
    have := Int.emod_lt_of_pos n (show 0 < a by omega)
    have := Int.emod_nonneg n (show a ≠ 0 by omega)
    omega
theorem J_zero {n : Int} : J 0 n = if n = 1 then 1 else 0 := by rw [J]; rfl
theorem J_even {a n : Int} (h : 0 < a) (e : a % 2 = 0) : J a n = sg2 n * J (a / 2) n := by
  rw [J, if_neg (by omega), if_pos e]
theorem J_one {n : Int} : J 1 n = 1 := by rw [J]; rfl
theorem J_turn {a n : Int} (h : 1 < a) (e : a % 2 ≠ 0) : J a n = sgT a n * J (n % a) a := by
  rw [J, if_neg (by omega), if_neg e, if_neg (by omega)]
theorem sg2_abs (n : Int) : sg2 n = 1 ∨ sg2 n = -1 := by unfold sg2; split <;> simp
theorem sgT_abs (a n : Int) : sgT a n = 1 ∨ sgT a n = -1 := by unfold sgT; split <;> simp
theorem J_abs : ∀ (k : Nat) (a n : Int), a.toNat ≤ k → -1 ≤ J a n ∧ J a n ≤ 1
  | k, a, n, h => by
    by_cases h0 : a ≤ 0
    · rw [J, if_pos h0]; split <;> omega
    · match k, h with
      | 0, h => omega
      | k + 1, h =>
        by_cases h1 : a % 2 = 0
        · rw [J_even (by omega) h1]
          have := J_abs k (a / 2) n (by omega)
          rcases sg2_abs n with e | e <;> rw [e] <;> omega
        · by_cases h2 : a = 1
          · rw [h2, J_one]; omega
          · rw [J_turn (by omega) h1]
            have l := Int.emod_lt_of_pos n (show 0 < a by omega)
            have l2 := Int.emod_nonneg n (show a ≠ 0 by omega)
            have := J_abs k (n % a) a (by omega)
            rcases sgT_abs a n with e | e <;> rw [e] <;> omega
theorem J_b (a n : Int) : -1 ≤ J a n ∧ J a n ≤ 1 := J_abs _ a n (Nat.le_refl _)
structure SgInv (s t b f : Int) : Prop where
  t0 : 0 ≤ t
  tb : t < b
  od : b % 2 = 1
  f1 : f = 1 ∨ f = -1
  eq : f * J t b = s
theorem sg_start {a n : Int} (hn : 0 < n) (ho : n % 2 = 1) : SgInv (J (a % n) n) (a % n) n 1 :=
  ⟨Int.emod_nonneg _ (by omega), Int.emod_lt_of_pos _ hn, ho, .inl rfl, by rw [Int.one_mul]⟩
theorem sg_half {s t b f : Int} (I : SgInv s t b f) (h0 : 0 < t) (h : t % 2 = 0) : SgInv s (t / 2) b (if b % 8 = 3 ∨ b % 8 = 5 then -f else f) := by
  have e := I.eq
  rw [J_even h0 h] at e
  unfold sg2 at e
  refine ⟨by omega, by have := I.tb; omega, I.od, ?_, ?_⟩
  · split
    · rcases I.f1 with h | h <;> omega
    · exact I.f1
  · split
    · rename_i hc
      rw [if_pos hc] at e
      rw [← e, ← Int.mul_assoc]
      congr 1
      omega
    · rename_i hc
      rw [if_neg hc] at e
      rw [← e, Int.one_mul]
theorem sg_turn {s t b f : Int} (I : SgInv s t b f) (h0 : 0 < t) (h : ¬ t % 2 = 0) : SgInv s (b % t) t (if t % 4 = 3 ∧ b % 4 = 3 then -f else f) := by
  have e := I.eq
  refine ⟨Int.emod_nonneg _ (by omega), Int.emod_lt_of_pos _ h0, by omega, ?_, ?_⟩
  · split
    · rcases I.f1 with h | h <;> omega
    · exact I.f1
  · by_cases h1 : t = 1
    · subst h1
      rw [if_neg (by omega), show b % 1 = 0 by omega, J_zero, if_pos rfl]
      rw [J_one] at e
      exact e
    · rw [J_turn (by omega) h] at e
      unfold sgT at e
      split
      · rename_i hc
        rw [if_pos hc] at e
        rw [← e, ← Int.mul_assoc]
        congr 1
        omega
      · rename_i hc
        rw [if_neg hc] at e
        rw [← e, Int.one_mul]
theorem sg_end {s t b f : Int} (I : SgInv s t b f) (h : ¬ 0 < t) : (if b = 1 then f else 0) = s := by
  have e := I.eq
  have t0 := I.t0
  have : t = 0 := by omega
  subst this
  rw [J_zero] at e
  split
  · rename_i hb; rw [if_pos hb, Int.mul_one] at e; exact e
  · rename_i hb; rw [if_neg hb, Int.mul_zero] at e; exact e
end MM
set_option linter.all false
namespace MM
def fd {α : Type} (op : α → α → α) (e : α) (f : Nat → α) : List Nat → α
  | [] => e
  | x :: l => op (f x) (fd op e f l)
section
variable {α : Type} {op : α → α → α} {e : α} {f : Nat → α}
theorem fd_mid (hc : ∀ x y, op x y = op y x) (ha : ∀ x y z, op (op x y) z = op x (op y z)) (x : Nat) (m2 : List Nat) : ∀ m1 : List Nat, fd op e f (m1 ++ x :: m2) = op (f x) (fd op e f (m1 ++ m2))
  | [] => rfl
  | y :: m1 => by
    show op (f y) (fd op e f (m1 ++ x :: m2)) = op (f x) (op (f y) (fd op e f (m1 ++ m2)))
    rw [fd_mid hc ha x m2 m1, ← ha, hc (f y), ha]
theorem fd_perm (hc : ∀ x y, op x y = op y x) (ha : ∀ x y z, op (op x y) z = op x (op y z)) : ∀ (l m : List Nat), l.Nodup → (∀ x ∈ l, x ∈ m) → m.length = l.length → fd op e f m = fd op e f l
  | [], m, _, _, hl => by
    cases m with
    | nil => rfl
    | cons a m => simp at hl
  | x :: l, m, hn, hs, hl => by
    obtain ⟨m1, m2, rfl⟩ := List.append_of_mem (hs x List.mem_cons_self)
    rw [List.nodup_cons] at hn
    rw [fd_mid hc ha, fd_perm hc ha l (m1 ++ m2) hn.2 (fun y hy => ?_) (by simp at hl ⊢; omega)]
    · rfl
    · have := hs y (List.mem_cons_of_mem _ hy)
      rcases List.mem_append.mp this with h | h
      · exact List.mem_append_left _ h
      · rcases List.mem_cons.mp h with h | h
        · subst h; exact absurd hy hn.1
        · exact List.mem_append_right _ h
theorem fd_map (σ : Nat → Nat) : ∀ l : List Nat, fd op e (fun k => f (σ k)) l = fd op e f (l.map σ)
  | [] => rfl
  | x :: l => by
    show op _ _ = op _ _
    rw [fd_map σ l]
theorem fd_snoc (hc : ∀ x y, op x y = op y x) (ha : ∀ x y z, op (op x y) z = op x (op y z)) (l : List Nat) (x : Nat) : fd op e f (l ++ [x]) = op (fd op e f l) (f x) := by
  rw [fd_mid hc ha, List.append_nil, hc]
theorem nodup_map {σ : Nat → Nat} : ∀ {l : List Nat}, l.Nodup → (∀ x ∈ l, ∀ y ∈ l, σ x = σ y → x = y) → (l.map σ).Nodup
  | [], _, _ => List.nodup_nil
  | x :: l, hn, hi => by
    rw [List.nodup_cons] at hn
    rw [List.map_cons, List.nodup_cons]
    refine ⟨fun hm => ?_, nodup_map hn.2 fun y hy z hz => hi y (List.mem_cons_of_mem _ hy) z (List.mem_cons_of_mem _ hz)⟩
    obtain ⟨y, hy, e⟩ := List.mem_map.mp hm
    have := hi y (List.mem_cons_of_mem _ hy) x List.mem_cons_self e
    subst this
    exact hn.1 hy
theorem fd_range (hc : ∀ x y, op x y = op y x) (ha : ∀ x y z, op (op x y) z = op x (op y z)) {h : Nat} {σ : Nat → Nat} (hlt : ∀ k, k < h → σ k < h) (hinj : ∀ i j, i < h → j < h → σ i = σ j → i = j) :
    fd op e (fun k => f (σ k)) (List.range h) = fd op e f (List.range h) := by
  rw [fd_map]
  refine (fd_perm hc ha ((List.range h).map σ) (List.range h) (nodup_map List.nodup_range fun x hx y hy e => hinj x y (List.mem_range.mp hx) (List.mem_range.mp hy) e) (fun x hx => ?_) (by simp)).symm
  obtain ⟨k, hk, rfl⟩ := List.mem_map.mp hx
  exact List.mem_range.mpr (hlt k (List.mem_range.mp hk))
end
def sm (f : Nat → Nat) (h : Nat) : Nat := fd (· + ·) 0 f (List.range h)
def pd (f : Nat → Int) (h : Nat) : Int := fd (· * ·) 1 f (List.range h)
theorem sm_zero (f : Nat → Nat) : sm f 0 = 0 := rfl
theorem sm_succ (f : Nat → Nat) (h : Nat) : sm f (h + 1) = sm f h + f h := by
  unfold sm; rw [List.range_succ, fd_snoc Nat.add_comm Nat.add_assoc]
theorem pd_zero (f : Nat → Int) : pd f 0 = 1 := rfl
theorem pd_succ (f : Nat → Int) (h : Nat) : pd f (h + 1) = pd f h * f h := by
  unfold pd; rw [List.range_succ, fd_snoc Int.mul_comm Int.mul_assoc]
theorem sm_perm {h : Nat} {σ : Nat → Nat} (hlt : ∀ k, k < h → σ k < h) (hinj : ∀ i j, i < h → j < h → σ i = σ j → i = j) (f : Nat → Nat) : sm (fun k => f (σ k)) h = sm f h := fd_range Nat.add_comm Nat.add_assoc hlt hinj
theorem pd_perm {h : Nat} {σ : Nat → Nat} (hlt : ∀ k, k < h → σ k < h) (hinj : ∀ i j, i < h → j < h → σ i = σ j → i = j) (f : Nat → Int) : pd (fun k => f (σ k)) h = pd f h := fd_range Int.mul_comm Int.mul_assoc hlt hinj
theorem sm_congr {f g : Nat → Nat} : ∀ {h : Nat}, (∀ k, k < h → f k = g k) → sm f h = sm g h
  | 0, _ => rfl
  | h + 1, e => by rw [sm_succ, sm_succ, sm_congr fun k hk => e k (by omega), e h (by omega)]
theorem sm_mod {f g : Nat → Nat} : ∀ {h : Nat}, (∀ k, k < h → f k % 2 = g k % 2) → sm f h % 2 = sm g h % 2
  | 0, _ => rfl
  | h + 1, e => by
    have := sm_mod (f := f) (g := g) (h := h) fun k hk => e k (by omega)
    have := e h (by omega)
    rw [sm_succ, sm_succ]; omega
theorem sm_add (f g : Nat → Nat) : ∀ h : Nat, sm (fun k => f k + g k) h = sm f h + sm g h
  | 0 => rfl
  | h + 1 => by rw [sm_succ, sm_succ, sm_succ, sm_add f g h]; omega
theorem sm_const (c : Nat) : ∀ h : Nat, sm (fun _ => c) h = h * c
  | 0 => by simp [sm_zero]
  | h + 1 => by rw [sm_succ, sm_const c h, Nat.succ_mul]
theorem sm_swap (f : Nat → Nat → Nat) : ∀ a b : Nat, sm (fun i => sm (fun j => f i j) b) a = sm (fun j => sm (fun i => f i j) a) b
  | 0, b => by
    rw [sm_zero]
    have : (fun j => sm (fun i => f i j) 0) = fun _ => 0 := rfl
    rw [this, sm_const]; omega
  | a + 1, b => by
    rw [sm_succ, sm_swap f a b, ← sm_add]
    exact sm_congr fun k _ => by rw [sm_succ]
def rr (a n k : Nat) : Nat := a * (k + 1) % n
def fl (a n k : Nat) : Bool := decide (n / 2 < rr a n k)
def ab (a n k : Nat) : Nat := if fl a n k then n - rr a n k else rr a n k
def bt (b : Bool) : Nat := if b then 1 else 0
def G (a n : Nat) : Nat := sm (fun k => bt (fl a n k)) (n / 2)
theorem rr_pos {a n k : Nat} (hg : Nat.Coprime a n) (hn : n % 2 = 1) (hk : k < n / 2) : 0 < rr a n k := by
  unfold rr
  refine Nat.pos_of_ne_zero fun z => ?_
  have hd : n ∣ a * (k + 1) := Nat.dvd_of_mod_eq_zero z
  have := (Nat.Coprime.symm hg).dvd_of_dvd_mul_left hd
  have := Nat.le_of_dvd (by omega) this
  omega
theorem rr_lt {a n k : Nat} (hn : n % 2 = 1) : rr a n k < n := Nat.mod_lt _ (by omega)
theorem ab_bound {a n k : Nat} (hg : Nat.Coprime a n) (hn : n % 2 = 1) (hk : k < n / 2) : 1 ≤ ab a n k ∧ ab a n k ≤ n / 2 := by
  have h1 := rr_pos hg hn hk
  have h2 := rr_lt (a := a) (k := k) hn
  unfold ab fl
  split <;> rename_i h <;> simp at h <;> omega
theorem mul_inj_mod {a n x y : Nat} (hg : Nat.Coprime a n) (hx : x < n) (hy : y < n) (e : a * x % n = a * y % n) : x = y := by
  have key : ∀ x y : Nat, x ≤ y → y < n → a * x % n = a * y % n → x = y := fun x y hle hy e => by
    have hd : n ∣ a * (y - x) := by
      rw [Nat.mul_sub]
      exact Nat.dvd_of_mod_eq_zero (Nat.sub_mod_eq_zero_of_mod_eq e.symm)
    have := (Nat.Coprime.symm hg).dvd_of_dvd_mul_left hd
    by_cases z : y - x = 0
    · omega
    · have := Nat.le_of_dvd (by omega) this
      omega
  rcases Nat.le_total x y with h | h
  · exact key x y h hy e
  · exact (key y x h hx e.symm).symm
end MM
set_option linter.all false
namespace MM
theorem neg_mod {x n : Nat} (hx : 0 < x) (hn : x < n) (a : Nat) (hR : 0 < a * x % n) : a * (n - x) % n = n - a * x % n := by
  have e : a * (n - x) + a * x = a * n := by rw [← Nat.mul_add, Nat.sub_add_cancel (by omega)]
  have h1 : (a * (n - x) % n + a * x % n) % n = 0 := by
    rw [← Nat.add_mod, e, Nat.mul_mod_left]
  have l1 : a * (n - x) % n < n := Nat.mod_lt _ (by omega)
  have l2 : a * x % n < n := Nat.mod_lt _ (by omega)
  by_cases z : a * (n - x) % n + a * x % n < n
  · rw [Nat.mod_eq_of_lt z] at h1
    omega
  · rw [Nat.mod_eq_sub_mod (by omega), Nat.mod_eq_of_lt (by omega)] at h1
    omega
theorem ab_inj {a n i j : Nat} (hg : Nat.Coprime a n) (hn : n % 2 = 1) (hi : i < n / 2) (hj : j < n / 2) (e : ab a n i = ab a n j) : i = j := by
  have ri := rr_pos hg hn hi
  have rj := rr_pos hg hn hj
  have li := rr_lt (a := a) (k := i) hn
  have lj := rr_lt (a := a) (k := j) hn
  have same : ∀ {i j : Nat}, i < n / 2 → j < n / 2 → rr a n i = rr a n j → i = j := fun {i j} hi hj e => by
    have := mul_inj_mod hg (x := i + 1) (y := j + 1) (by omega) (by omega) e
    omega
  have opp : ∀ {i j : Nat}, i < n / 2 → j < n / 2 → 0 < rr a n j → rr a n i = n - rr a n j → False := fun {i j} hi hj hp e => by
    have hR : 0 < a * (j + 1) % n := hp
    have e2 := neg_mod (x := j + 1) (n := n) (by omega) (by omega) a hR
    have := mul_inj_mod hg (x := i + 1) (y := n - (j + 1)) (by omega) (by omega) (by rw [e2]; exact e)
    omega
  unfold ab at e
  split at e <;> split at e
  · exact same hi hj (by omega)
  · exact (opp (i := j) (j := i) hj hi ri (by omega)).elim
  · exact (opp hi hj rj (by omega)).elim
  · exact same hi hj e
def sgi (a n k : Nat) : Nat := ab a n k - 1
theorem sgi_lt {a n : Nat} (hg : Nat.Coprime a n) (hn : n % 2 = 1) : ∀ k, k < n / 2 → sgi a n k < n / 2 := fun k hk => by
  have := ab_bound hg hn hk
  unfold sgi; omega
theorem sgi_inj {a n : Nat} (hg : Nat.Coprime a n) (hn : n % 2 = 1) : ∀ i j, i < n / 2 → j < n / 2 → sgi a n i = sgi a n j → i = j := fun i j hi hj e => by
  have h1 := ab_bound hg hn hi
  have h2 := ab_bound hg hn hj
  unfold sgi at e
  exact ab_inj hg hn hi hj (by omega)
theorem G_mul {a b n : Nat} (ha : Nat.Coprime a n) (hb : Nat.Coprime b n) (hn : n % 2 = 1) : G (a * b) n % 2 = (G a n + G b n) % 2 := by
  have e1 : G a n = sm (fun k => bt (fl a n (sgi b n k))) (n / 2) := (sm_perm (sgi_lt hb hn) (sgi_inj hb hn) fun k => bt (fl a n k)).symm
  rw [e1]
  unfold G
  rw [← sm_add]
  refine sm_mod fun k hk => ?_
  have rb := rr_pos hb hn hk
  have lb := rr_lt (a := b) (k := k) hn
  have bb := ab_bound hb hn hk
  have hs : sgi b n k + 1 = ab b n k := by unfold sgi; omega
  have R : a * b * (k + 1) % n = a * rr b n k % n := by
    unfold rr
    rw [Nat.mul_assoc, Nat.mul_mod a (b * (k + 1)) n, Nat.mul_mod a (b * (k + 1) % n) n, Nat.mod_mod]
  have eF : fl (a * b) n k = decide (n / 2 < a * rr b n k % n) := by unfold fl; rw [show rr (a * b) n k = a * b * (k + 1) % n from rfl, R]
  have eS : fl a n (sgi b n k) = decide (n / 2 < a * ab b n k % n) := by unfold fl; rw [show rr a n (sgi b n k) = a * (sgi b n k + 1) % n from rfl, hs]
  have pos : 0 < a * rr b n k % n := by
    refine Nat.pos_of_ne_zero fun z => ?_
    have hd : n ∣ a * rr b n k := Nat.dvd_of_mod_eq_zero z
    have := Nat.le_of_dvd rb ((Nat.Coprime.symm ha).dvd_of_dvd_mul_left hd)
    omega
  have lR : a * rr b n k % n < n := Nat.mod_lt _ (by omega)
  rw [eF, eS]
  by_cases hf : fl b n k = true
  · have e : ab b n k = n - rr b n k := by unfold ab; rw [if_pos hf]
    rw [e, neg_mod rb lb a pos, hf]
    by_cases z : n / 2 < a * rr b n k % n
    · rw [decide_eq_true z, decide_eq_false (show ¬ n / 2 < n - a * rr b n k % n by omega)]; rfl
    · rw [decide_eq_false z, decide_eq_true (show n / 2 < n - a * rr b n k % n by omega)]; rfl
  · have e : ab b n k = rr b n k := by unfold ab; rw [if_neg hf]
    have hf' : fl b n k = false := by simpa using hf
    rw [e, hf']; rfl
theorem G_mod (a n : Nat) : G (a % n) n = G a n := by
  unfold G
  refine sm_congr fun k _ => ?_
  have : rr (a % n) n k = rr a n k := by
    unfold rr
    rw [Nat.mul_mod (a % n), Nat.mod_mod, ← Nat.mul_mod]
  unfold fl
  rw [this]
theorem G_one {n : Nat} (hn : n % 2 = 1) : G 1 n = 0 := by
  unfold G
  have : sm (fun k => bt (fl 1 n k)) (n / 2) = sm (fun _ => 0) (n / 2) := sm_congr fun k hk => by
    have e : rr 1 n k = k + 1 := by unfold rr; rw [Nat.one_mul]; exact Nat.mod_eq_of_lt (by omega)
    unfold fl
    rw [e, decide_eq_false (by omega)]; rfl
  rw [this, sm_const]; rfl
theorem sm_above (c : Nat) : ∀ h : Nat, sm (fun k => bt (decide (c < k + 1))) h = h - c
  | 0 => by rw [sm_zero]; omega
  | h + 1 => by
    rw [sm_succ, sm_above c h]
    by_cases z : c < h + 1
    · rw [decide_eq_true z]; show h - c + 1 = _; omega
    · rw [decide_eq_false z]; show h - c + 0 = _; omega
theorem G_two {n : Nat} (hn : n % 2 = 1) : G 2 n = n / 2 - n / 2 / 2 := by
  unfold G
  rw [← sm_above (n / 2 / 2) (n / 2)]
  refine sm_congr fun k hk => ?_
  have e : rr 2 n k = 2 * (k + 1) := by unfold rr; exact Nat.mod_eq_of_lt (by omega)
  unfold fl
  rw [e]
  congr 1
  by_cases z : n / 2 < 2 * (k + 1)
  · rw [decide_eq_true z, decide_eq_true (show n / 2 / 2 < k + 1 by omega)]
  · rw [decide_eq_false z, decide_eq_false (show ¬ n / 2 / 2 < k + 1 by omega)]
theorem G_two_mod {n : Nat} (hn : n % 2 = 1) : G 2 n % 2 = if n % 8 = 3 ∨ n % 8 = 5 then 1 else 0 := by
  rw [G_two hn]
  split <;> omega
theorem sm_steps {n : Nat} (hn : 0 < n) (x : Nat) : ∀ H : Nat, sm (fun j => bt (decide (n * (j + 1) ≤ x))) H = min H (x / n)
  | 0 => by rw [sm_zero, Nat.zero_min]
  | H + 1 => by
    rw [sm_succ, sm_steps hn x H]
    have h : n * (H + 1) ≤ x ↔ H + 1 ≤ x / n := by rw [Nat.le_div_iff_mul_le hn, Nat.mul_comm]
    by_cases z : n * (H + 1) ≤ x
    · rw [decide_eq_true z]
      have := h.mp z
      show min H (x / n) + 1 = _
      omega
    · rw [decide_eq_false z]
      have : ¬ H + 1 ≤ x / n := fun w => z (h.mpr w)
      show min H (x / n) + 0 = _
      omega
theorem G_floor {m n : Nat} (hg : Nat.Coprime m n) (hn : n % 2 = 1) (hm : m % 2 = 1) : G m n % 2 = sm (fun k => m * (k + 1) / n) (n / 2) % 2 := by
  have e1 : sm (fun k => k + 1) (n / 2) = sm (fun k => sgi m n k + 1) (n / 2) := (sm_perm (sgi_lt hg hn) (sgi_inj hg hn) fun k => k + 1).symm
  have e2 : sm (fun k => k + 1) (n / 2) % 2 = sm (fun k => m * (k + 1) / n + (bt (fl m n k) + (sgi m n k + 1))) (n / 2) % 2 := sm_mod fun k hk => by
    have hb := ab_bound hg hn hk
    have hl := rr_lt (a := m) (k := k) hn
    have hp := rr_pos hg hn hk
    have hs : sgi m n k + 1 = ab m n k := by unfold sgi; omega
    have d := Nat.div_add_mod (m * (k + 1)) n
    have d2 : n * (m * (k + 1) / n) % 2 = m * (k + 1) / n % 2 := by rw [Nat.mul_mod, hn, Nat.one_mul, Nat.mod_mod]
    have d3 : m * (k + 1) % 2 = (k + 1) % 2 := by rw [Nat.mul_mod, hm, Nat.one_mul, Nat.mod_mod]
    have d4 : m * (k + 1) % n = rr m n k := rfl
    rw [hs]
    unfold ab
    by_cases z : fl m n k = true
    · rw [if_pos z, z]
      show _ = (_ + (1 + _)) % 2
      omega
    · have z' : fl m n k = false := by simpa using z
      rw [if_neg z, z']
      show _ = (_ + (0 + _)) % 2
      omega
  have e3 : sm (fun k => m * (k + 1) / n + (bt (fl m n k) + (sgi m n k + 1))) (n / 2) = sm (fun k => m * (k + 1) / n) (n / 2) + (G m n + sm (fun k => sgi m n k + 1) (n / 2)) := by
    rw [sm_add, sm_add]; rfl
  rw [e3, ← e1] at e2
  omega
theorem lattice {m n : Nat} (hg : Nat.Coprime m n) (hn : n % 2 = 1) (hm : m % 2 = 1) : sm (fun k => m * (k + 1) / n) (n / 2) + sm (fun j => n * (j + 1) / m) (m / 2) = (n / 2) * (m / 2) := by
  have half : ∀ {m n k : Nat}, n % 2 = 1 → m % 2 = 1 → k < n / 2 → m * (k + 1) / n ≤ m / 2 := fun {m n k} hn hm hk => by
    have h1 : 2 * (m * (k + 1)) ≤ m * (n - 1) := by
      rw [← Nat.mul_assoc, Nat.mul_comm 2 m, Nat.mul_assoc]
      exact Nat.mul_le_mul_left m (by omega)
    have h2 : m * (n - 1) ≤ m * n := Nat.mul_le_mul_left m (by omega)
    refine Nat.le_of_lt_succ ((Nat.div_lt_iff_lt_mul (by omega)).mpr ?_)
    have h3 : 2 * ((m / 2).succ * n) = (m + 1) * n := by
      rw [← Nat.mul_assoc]
      congr 1
      omega
    have h4 : (m + 1) * n = m * n + n := by rw [Nat.add_mul, Nat.one_mul]
    omega
  have e1 : sm (fun k => m * (k + 1) / n) (n / 2) = sm (fun k => sm (fun j => bt (decide (n * (j + 1) ≤ m * (k + 1)))) (m / 2)) (n / 2) := sm_congr fun k hk => by
    rw [sm_steps (by omega)]
    have := half hn hm hk
    omega
  have e2 : sm (fun j => n * (j + 1) / m) (m / 2) = sm (fun j => sm (fun k => bt (decide (m * (k + 1) ≤ n * (j + 1)))) (n / 2)) (m / 2) := sm_congr fun j hj => by
    rw [sm_steps (by omega)]
    have := half (m := n) (n := m) hm hn hj
    omega
  rw [e1, e2, sm_swap (fun j k => bt (decide (m * (k + 1) ≤ n * (j + 1)))), ← sm_add]
  have e3 : sm (fun k => sm (fun j => bt (decide (n * (j + 1) ≤ m * (k + 1)))) (m / 2) + sm (fun j => bt (decide (m * (k + 1) ≤ n * (j + 1)))) (m / 2)) (n / 2) = sm (fun _ => m / 2) (n / 2) := sm_congr fun k hk => by
    rw [← sm_add]
    have e4 : sm (fun j => bt (decide (n * (j + 1) ≤ m * (k + 1))) + bt (decide (m * (k + 1) ≤ n * (j + 1)))) (m / 2) = sm (fun _ => 1) (m / 2) := sm_congr fun j hj => by
      have ne : n * (j + 1) ≠ m * (k + 1) := fun e => by
        have hd : n ∣ m * (k + 1) := ⟨j + 1, e.symm⟩
        have := Nat.le_of_dvd (by omega) ((Nat.Coprime.symm hg).dvd_of_dvd_mul_left hd)
        omega
      by_cases z : n * (j + 1) ≤ m * (k + 1)
      · rw [decide_eq_true z, decide_eq_false (show ¬ m * (k + 1) ≤ n * (j + 1) by omega)]; rfl
      · rw [decide_eq_false z, decide_eq_true (show m * (k + 1) ≤ n * (j + 1) by omega)]; rfl
    rw [e4, sm_const, Nat.mul_one]
  rw [e3, sm_const]
theorem G_turn {m n : Nat} (hg : Nat.Coprime m n) (hn : n % 2 = 1) (hm : m % 2 = 1) : (G m n + G n m) % 2 = (n / 2) * (m / 2) % 2 := by
  have h1 := G_floor hg hn hm
  have h2 := G_floor hg.symm hm hn
  have h3 := lattice hg hn hm
  omega
end MM
set_option linter.all false
namespace MM
def mo (k : Nat) : Int := if k % 2 = 0 then 1 else -1
theorem mo_add (j k : Nat) : mo (j + k) = mo j * mo k := by
  unfold mo
  have hj : j % 2 = 0 ∨ j % 2 = 1 := by omega
  have hk : k % 2 = 0 ∨ k % 2 = 1 := by omega
  rcases hj with hj | hj <;> rcases hk with hk | hk <;> simp [hj, hk, Nat.add_mod]
theorem mo_mod {j k : Nat} (h : j % 2 = k % 2) : mo j = mo k := by unfold mo; rw [h]
theorem mo_sq (k : Nat) : mo k * mo k = 1 := by unfold mo; split <;> rfl
theorem mo_pm (k : Nat) : mo k = 1 ∨ mo k = -1 := by unfold mo; split <;> simp
def SS (a n : Nat) : Int := mo (G a n)
theorem SS_mul {a b n : Nat} (ha : Nat.Coprime a n) (hb : Nat.Coprime b n) (hn : n % 2 = 1) : SS (a * b) n = SS a n * SS b n := by
  unfold SS; rw [← mo_add]; exact mo_mod (G_mul ha hb hn)
theorem SS_mod (a n : Nat) : SS (a % n) n = SS a n := by unfold SS; rw [G_mod]
theorem SS_two {n : Nat} (hn : n % 2 = 1) : SS 2 n = sg2 n := by
  unfold SS sg2
  rw [mo_mod (k := if n % 8 = 3 ∨ n % 8 = 5 then 1 else 0) (by rw [G_two_mod hn]; split <;> rfl)]
  have e : ((n : Int) % 8 = 3 ∨ (n : Int) % 8 = 5) ↔ (n % 8 = 3 ∨ n % 8 = 5) := by omega
  by_cases z : n % 8 = 3 ∨ n % 8 = 5
  · rw [if_pos z, if_pos (e.mpr z)]; rfl
  · rw [if_neg z, if_neg (fun w => z (e.mp w))]; rfl
theorem sgT_mo {m n : Nat} (hm : m % 2 = 1) (hn : n % 2 = 1) : sgT m n = mo ((n / 2) * (m / 2)) := by
  unfold sgT mo
  rw [Nat.mul_mod]
  have h1 : m % 4 = 1 ∨ m % 4 = 3 := by omega
  have h2 : n % 4 = 1 ∨ n % 4 = 3 := by omega
  have e : ((m : Int) % 4 = 3 ∧ (n : Int) % 4 = 3) ↔ (m % 4 = 3 ∧ n % 4 = 3) := by omega
  rcases h1 with h1 | h1 <;> rcases h2 with h2 | h2
  · rw [if_neg (fun w => by have := (e.mp w).1; omega), show n / 2 % 2 = 0 by omega, Nat.zero_mul]; rfl
  · rw [if_neg (fun w => by have := (e.mp w).1; omega), show m / 2 % 2 = 0 by omega]; rfl
  · rw [if_neg (fun w => by have := (e.mp w).2; omega), show n / 2 % 2 = 0 by omega, Nat.zero_mul]; rfl
  · rw [if_pos (e.mpr ⟨h1, h2⟩), show n / 2 % 2 = 1 by omega, show m / 2 % 2 = 1 by omega]; rfl
theorem SS_turn {m n : Nat} (hg : Nat.Coprime m n) (hn : n % 2 = 1) (hm : m % 2 = 1) : SS m n = sgT m n * SS n m := by
  rw [sgT_mo hm hn]
  have h := G_turn hg hn hm
  have e : mo (n / 2 * (m / 2)) = mo (G m n + G n m) := mo_mod h.symm
  rw [e, mo_add]
  unfold SS
  rw [Int.mul_assoc, mo_sq, Int.mul_one]
theorem J_SS : ∀ (a n : Nat), n % 2 = 1 → (Nat.Coprime a n → J a n = SS a n) ∧ (¬ Nat.Coprime a n → J a n = 0) := by
  intro a
  induction a using Nat.strongRecOn with
  | ind a ih =>
    intro n hn
    by_cases h0 : a = 0
    · subst h0
      have e : J ((0 : Nat) : Int) n = if (n : Int) = 1 then 1 else 0 := J_zero
      by_cases h1 : n = 1
      · subst h1
        refine ⟨fun _ => ?_, fun h => absurd (by decide) h⟩
        rw [e]; rfl
      · refine ⟨fun h => absurd (by simpa [Nat.Coprime] using h) h1, fun _ => ?_⟩
        rw [e, if_neg (by omega)]
    · by_cases h2 : a % 2 = 0
      · have e := J_even (a := (a : Int)) (n := n) (by omega) (by omega)
        rw [show (a : Int) / 2 = ((a / 2 : Nat) : Int) by omega] at e
        have ha : a = 2 * (a / 2) := by omega
        have c2 : Nat.Coprime 2 n := by
          unfold Nat.Coprime
          rw [Nat.gcd_rec, hn]
          rfl
        have hc : Nat.Coprime a n ↔ Nat.Coprime (a / 2) n := by
          constructor
          · intro h; rw [ha] at h; exact Nat.Coprime.coprime_mul_left h
          · intro h; rw [ha]; exact Nat.Coprime.mul_left c2 h
        obtain ⟨i1, i2⟩ := ih (a / 2) (by omega) n hn
        refine ⟨fun h => ?_, fun h => ?_⟩
        · rw [e, i1 (hc.mp h), ← SS_two hn, ← SS_mul c2 (hc.mp h) hn, ← ha]
        · rw [e, i2 (fun w => h (hc.mpr w)), Int.mul_zero]
      · by_cases h3 : a = 1
        · subst h3
          refine ⟨fun _ => ?_, fun h => absurd (Nat.coprime_one_left n) h⟩
          show J 1 n = _
          rw [J_one]
          unfold SS
          rw [G_one hn]; rfl
        · have e := J_turn (a := (a : Int)) (n := n) (by omega) (by omega)
          rw [show (n : Int) % a = ((n % a : Nat) : Int) from (Int.natCast_emod n a).symm] at e
          have ho : a % 2 = 1 := by omega
          obtain ⟨i1, i2⟩ := ih (n % a) (Nat.mod_lt _ (by omega)) a ho
          have hc : Nat.Coprime a n ↔ Nat.Coprime (n % a) a := by unfold Nat.Coprime; rw [Nat.gcd_rec a n]
          refine ⟨fun h => ?_, fun h => ?_⟩
          · rw [e, i1 (hc.mp h), SS_mod, ← SS_turn h hn ho]
          · rw [e, i2 (fun w => h (hc.mpr w)), Int.mul_zero]
theorem SS_bot {a m n : Nat} (hm : m % 2 = 1) (hn : n % 2 = 1) (hc : Nat.Coprime a (m * n)) : SS a (m * n) = SS a m * SS a n := by
  have odd : ∀ b : Nat, b % 2 = 1 → Nat.Coprime b (m * n) → SS b (m * n) = SS b m * SS b n := fun b hb hc => by
    have c1 : Nat.Coprime b m := Nat.Coprime.coprime_mul_right_right hc
    have c2 : Nat.Coprime b n := Nat.Coprime.coprime_mul_left_right hc
    have hmn : m * n % 2 = 1 := by rw [Nat.mul_mod, hm, hn]
    rw [SS_turn hc hmn hb, SS_turn c1 hm hb, SS_turn c2 hn hb, SS_mul c1.symm c2.symm hb, sgT_mo hb hmn, sgT_mo hb hm, sgT_mo hb hn]
    have e : mo (m * n / 2 * (b / 2)) = mo (m / 2 * (b / 2) + n / 2 * (b / 2)) := by
      refine mo_mod ?_
      rw [← Nat.add_mul, Nat.mul_mod, Nat.mul_mod (m / 2 + n / 2)]
      congr 2
      have h1 : m = 2 * (m / 2) + 1 := by omega
      have h2 : n = 2 * (n / 2) + 1 := by omega
      have h3 : m * n = 4 * (m / 2 * (n / 2)) + 2 * (m / 2) + 2 * (n / 2) + 1 := by
        have : (2 * (m / 2) + 1) * (2 * (n / 2) + 1) = 4 * (m / 2 * (n / 2)) + 2 * (m / 2) + 2 * (n / 2) + 1 := by
          generalize m / 2 = x
          generalize n / 2 = y
          grind
        rw [← this, ← h1, ← h2]
      omega
    rw [e, mo_add]
    generalize mo (m / 2 * (b / 2)) = x
    generalize mo (n / 2 * (b / 2)) = y
    grind
  by_cases hb : a % 2 = 1
  · exact odd a hb hc
  · have hmn : m * n % 2 = 1 := by rw [Nat.mul_mod, hm, hn]
    have c : Nat.Coprime (a + m * n) (m * n) := by
      unfold Nat.Coprime
      rw [Nat.gcd_comm, Nat.gcd_rec, Nat.add_mod_right, ← Nat.gcd_rec, Nat.gcd_comm]
      exact hc
    have h := odd (a + m * n) (by omega) c
    rw [← SS_mod (a + m * n) (m * n), ← SS_mod (a + m * n) m, ← SS_mod (a + m * n) n, Nat.add_mod_right, Nat.add_mul_mod_self_left, Nat.add_mul_mod_self_right, SS_mod, SS_mod, SS_mod] at h
    exact h
theorem J_nat_mod {a n : Nat} (hn : n % 2 = 1) : (Nat.Coprime a n → J ((a % n : Nat) : Int) n = SS a n) ∧ (¬ Nat.Coprime a n → J ((a % n : Nat) : Int) n = 0) := by
  obtain ⟨h1, h2⟩ := J_SS (a % n) n hn
  have hc : Nat.Coprime (a % n) n ↔ Nat.Coprime a n := by
    unfold Nat.Coprime
    rw [Nat.gcd_comm a n, Nat.gcd_rec n a]
  exact ⟨fun h => by rw [h1 (hc.mpr h), SS_mod], fun h => h2 (fun w => h (hc.mp w))⟩
theorem J_bot_nat {a m n : Nat} (hm : m % 2 = 1) (hn : n % 2 = 1) : J ((a % (m * n) : Nat) : Int) ((m * n : Nat) : Int) = J ((a % m : Nat) : Int) m * J ((a % n : Nat) : Int) n := by
  have hmn : m * n % 2 = 1 := by rw [Nat.mul_mod, hm, hn]
  by_cases hc : Nat.Coprime a (m * n)
  · rw [(J_nat_mod hmn).1 hc, (J_nat_mod hm).1 (Nat.Coprime.coprime_mul_right_right hc), (J_nat_mod hn).1 (Nat.Coprime.coprime_mul_left_right hc), SS_bot hm hn hc]
  · rw [(J_nat_mod hmn).2 hc]
    by_cases c1 : Nat.Coprime a m
    · rw [(J_nat_mod hn).2 fun c2 => hc (Nat.Coprime.mul_right c1 c2), Int.mul_zero]
    · rw [(J_nat_mod hm).2 c1, Int.zero_mul]
theorem J_bot {a m n : Int} (hm : 0 < m) (hn : 0 < n) (om : m % 2 = 1) (on : n % 2 = 1) : J (a % (m * n)) (m * n) = J (a % m) m * J (a % n) n := by
  obtain ⟨m, rfl⟩ := Int.eq_ofNat_of_zero_le (show 0 ≤ m by omega)
  obtain ⟨n, rfl⟩ := Int.eq_ofNat_of_zero_le (show 0 ≤ n by omega)
  have hmn : (0 : Int) < (m : Int) * n := Int.mul_pos hm hn
  obtain ⟨b, hb⟩ := Int.eq_ofNat_of_zero_le (Int.emod_nonneg a (show (m : Int) * n ≠ 0 by omega))
  have e1 : a % (m : Int) = ((b % m : Nat) : Int) := by rw [Int.natCast_emod, ← hb, Int.emod_emod_of_dvd _ ⟨n, rfl⟩]
  have e2 : a % (n : Int) = ((b % n : Nat) : Int) := by rw [Int.natCast_emod, ← hb, Int.emod_emod_of_dvd _ ⟨m, Int.mul_comm _ _⟩]
  have lt := Int.emod_lt_of_pos a hmn
  have e3 : b % (m * n) = b := Nat.mod_eq_of_lt (by rw [hb] at lt; exact_mod_cast lt)
  have h := J_bot_nat (a := b) (m := m) (n := n) (by omega) (by omega)
  rw [e3] at h
  rw [e1, e2, hb, ← h]
  rfl
end MM
set_option linter.all false
set_option maxHeartbeats 4000000
namespace MM
theorem div_all {r : Int} (hr : 2 ≤ r) : ∀ (m : Nat) (l0 left o : Int), left.toNat = m → DivInv l0 r left o → ∃ left' o', DivInv l0 r left' o' ∧ left' % r ≠ 0 := by
  intro m
  induction m using Nat.strongRecOn with
  | _ m ih =>
    intro l0 left o e h
    by_cases hd : left % r = 0
    · obtain ⟨h2, lt⟩ := div_turn hr h hd
      have := h2.l1
      exact ih _ (by omega) l0 _ _ rfl h2
    · exact ⟨left, o, h, hd⟩
theorem least_div {n : Int} (hn : 2 ≤ n) : ∃ p, IsPr p ∧ n % p = 0 ∧ ∀ d, 2 ≤ d → d < p → n % d ≠ 0 := by
  obtain ⟨d, ⟨d2, dd⟩, _, dl⟩ := has_least (Pr := fun d => 2 ≤ d ∧ (d : Int) ∣ n) n.toNat ⟨by omega, by rw [show ((n.toNat : Nat) : Int) = n by omega]; exact Int.dvd_refl _⟩
  have lo : ∀ e : Int, 2 ≤ e → e < d → n % e ≠ 0 := fun e e2 ed z => by
    obtain ⟨f, rfl⟩ := Int.eq_ofNat_of_zero_le (show 0 ≤ e by omega)
    exact dl f (by omega) ⟨by omega, Int.dvd_of_emod_eq_zero z⟩
  refine ⟨d, ⟨by omega, fun e e2 ee z => ?_⟩, Int.emod_eq_zero_of_dvd dd, lo⟩
  have lt : e < d := by
    have := Int.mul_le_mul_of_nonneg_right e2 (show 0 ≤ e by omega)
    omega
  exact lo e e2 lt (Int.emod_eq_zero_of_dvd (Int.dvd_trans (Int.dvd_of_emod_eq_zero z) dd))
theorem parts_go {n : Int} : ∀ (m : Nat) (l : List (Int × Int)) (left t : Int), left.toNat = m → PtInv n l left t → ∃ l', Parts n l' := by
  intro m
  induction m using Nat.strongRecOn with
  | _ m ih =>
    intro l left t e h
    by_cases h1 : 1 < left
    · obtain ⟨p, hp, pd, pl⟩ := least_div (show 2 ≤ left by omega)
      obtain ⟨left', o, D, hd⟩ := div_all hp.1 _ left left 0 rfl (div_start (by omega))
      have tp : t ≤ p := Classical.byContradiction fun z => h.lo p hp.1 (by omega) pd
      obtain ⟨I2, o1, lt⟩ := pt_turn h hp tp pd pl D hd
      have := I2.l1
      exact ih _ (by omega) _ _ _ rfl I2
    · exact ⟨l, pt_end h h1⟩
theorem parts_exist {n : Int} (h : 1 ≤ n) : ∃ l, Parts n l := parts_go _ [] n 2 rfl (pt_start h)
structure StepInv (a n o d pw : Int) : Prop where
  d1 : 1 ≤ d
  d2 : d ≤ o
  eq : pw = a ^ d.toNat % n
  no : ∀ e, 1 ≤ e → e < d → ¬ Cg n (a ^ e.toNat) 1
end MM
set_option linter.all false
set_option maxHeartbeats 4000000
namespace MM
def mev : List Int → Int → Int
  | [], _ => 1
  | c :: t, x => c + x * mev t x
theorem mev_add (r : Int) : ∀ (t q : List Int), q.length < t.length → ∃ s : List Int, s.length = t.length ∧ ∀ x, mev s x = mev t x + r * mev q x
  | [], q, h => by simp at h
  | a :: t, [], _ => ⟨(a + r) :: t, rfl, fun x => by simp only [mev]; grind⟩
  | a :: t, b :: q, h => by
    obtain ⟨s, e, hs⟩ := mev_add r t q (by simpa using h)
    exact ⟨(a + r * b) :: s, by simp [e], fun x => by simp only [mev]; rw [hs]; grind⟩
theorem mev_div (r : Int) : ∀ (t : List Int) (c : Int), ∃ q : List Int, q.length = t.length ∧ ∀ x, mev (c :: t) x - mev (c :: t) r = (x - r) * mev q x
  | [], c => ⟨[], rfl, fun x => by simp only [mev]; grind⟩
  | b :: t, c => by
    obtain ⟨q, e, hq⟩ := mev_div r t b
    obtain ⟨s, e2, hs⟩ := mev_add r (b :: t) q (by rw [e]; simp)
    refine ⟨s, e2, fun x => ?_⟩
    rw [hs]
    have h1 := hq x
    have e3 : mev (c :: b :: t) x - mev (c :: b :: t) r = (x - r) * mev (b :: t) x + r * (mev (b :: t) x - mev (b :: t) r) := by
      rw [show mev (c :: b :: t) x = c + x * mev (b :: t) x from rfl, show mev (c :: b :: t) r = c + r * mev (b :: t) r from rfl]; grind
    rw [e3, h1]; grind
theorem roots_few {p : Int} (hp : IsPr p) : ∀ (n : Nat) (t : List Int), t.length = n → ∀ xs : List Int, (xs.Pairwise fun a b => ¬ Cg p a b) → (∀ x ∈ xs, Cg p (mev t x) 0) → xs.length ≤ n := by
  intro n
  induction n with
  | zero =>
    intro t ht xs _ h0
    cases t with
    | cons _ _ => simp at ht
    | nil =>
      cases xs with
      | nil => exact Nat.le_refl _
      | cons x xs =>
        have := h0 x List.mem_cons_self
        have : p ∣ 1 := by simpa [mev, Cg] using this
        have := Int.le_of_dvd (by decide) this
        have := hp.1
        omega
  | succ n ih =>
    intro t ht xs hd h0
    cases t with
    | nil => simp at ht
    | cons c t =>
      cases xs with
      | nil => exact Nat.zero_le _
      | cons r xs =>
        obtain ⟨q, e, hq⟩ := mev_div r t c
        have ht' : t.length = n := by simpa using ht
        rw [List.pairwise_cons] at hd
        have := ih q (by rw [e, ht']) xs hd.2 fun s hs => by
          have h1 := (h0 s (List.mem_cons_of_mem _ hs)).sub (h0 r List.mem_cons_self)
          rw [hq s] at h1
          have h2 : p ∣ (s - r) * mev q s := by simpa [Cg] using h1
          rcases pr_int_euclid hp h2 with z | z
          · exact absurd (Cg.symm z) (hd.1 s hs)
          · show p ∣ _; simpa using z
        simp only [List.length_cons]
        omega
theorem mev_rep (x : Int) : ∀ k : Nat, mev (List.replicate k 0) x = x ^ k
  | 0 => by simp [mev]
  | k + 1 => by rw [List.replicate_succ, mev, mev_rep x k, Int.pow_succ]; grind
theorem up_nodup {p : Int} : ∀ (m : Nat) (lo : Int), 0 ≤ lo → lo + m ≤ p → ((List.range m).map fun (i : Nat) => lo + (i : Int)).Pairwise fun a b => ¬ Cg p a b := by
  intro m lo h0 h1
  rw [List.pairwise_map]
  refine List.Pairwise.imp_of_mem (R := fun a b => a < b) ?_ List.pairwise_lt_range
  intro a b ha hb hab hc
  have hb' := List.mem_range.mp hb
  have : p ∣ (lo + (b : Int)) - (lo + a) := hc.symm
  have := Int.le_of_dvd (by omega) this
  omega
theorem not_all {p : Int} (hp : IsPr p) {d : Nat} (h1 : 1 ≤ d) (hd : (d : Int) < p - 1) : ∃ x, 1 ≤ x ∧ x < p ∧ ¬ Cg p (x ^ d) 1 := by
  refine Classical.byContradiction fun hc => ?_
  have all : ∀ x, 1 ≤ x → x < p → Cg p (x ^ d) 1 := fun x a b => Classical.byContradiction fun z => hc ⟨x, a, b, z⟩
  have p2 := hp.1
  obtain ⟨k, rfl⟩ : ∃ k, d = k + 1 := ⟨d - 1, by omega⟩
  have := roots_few hp (k + 1) ((-1) :: List.replicate k 0) (by simp) ((List.range (p - 1).toNat).map fun (i : Nat) => 1 + (i : Int)) (up_nodup _ _ (by decide) (by omega)) fun x hx => by
    obtain ⟨i, hi, rfl⟩ := List.mem_map.mp hx
    have hi := List.mem_range.mp hi
    have h := all (1 + (i : Int)) (by omega) (by omega)
    rw [mev, mev_rep]
    have := h.sub (Cg.refl p 1)
    rw [show (1 : Int) - 1 = 0 by decide] at this
    rw [Int.pow_succ] at this
    rwa [show -1 + (1 + (i : Int)) * (1 + (i : Int)) ^ k = (1 + (i : Int)) ^ k * (1 + (i : Int)) - 1 by grind]
  rw [List.length_map, List.length_range] at this
  omega
theorem Ord.dvd {a n o : Int} (h : Ord a n o) {e : Nat} (hc : Cg n (a ^ e) 1) : o.toNat ∣ e := by
  have op := h.pos
  by_cases z : e % o.toNat = 0
  · exact Nat.dvd_of_mod_eq_zero z
  · exfalso
    have lt : e % o.toNat < o.toNat := Nat.mod_lt _ (by omega)
    refine h.least (e % o.toNat : Nat) (by omega) (by omega) ?_
    rw [Int.toNat_natCast]
    have ee : e = o.toNat * (e / o.toNat) + e % o.toNat := (Nat.div_add_mod _ _).symm
    rw [ee, Int.pow_add, Int.pow_mul] at hc
    have h1 := h.cg.pow (e / o.toNat)
    rw [Int.one_pow] at h1
    have h2 := h1.mul (Cg.refl n (a ^ (e % o.toNat)))
    rw [Int.one_mul] at h2
    exact h2.symm.trans hc
theorem ord_mul {a b n : Int} {x y : Nat} (ha : Ord a n x) (hb : Ord b n y) (hg : Nat.Coprime x y) : Ord (a * b) n ((x * y : Nat) : Int) := by
  have x1 := ha.pos
  have y1 := hb.pos
  have ca := ha.cg
  have cb := hb.cg
  rw [Int.toNat_natCast] at ca cb
  have xy : 1 ≤ x * y := Nat.mul_pos (by omega) (by omega)
  have key : ∀ {a b : Int} {x y : Nat}, Ord a n x → Ord b n y → Nat.Coprime x y → ∀ q : Nat, 2 ≤ q → q ∣ x → ¬ Cg n ((a * b) ^ (x * y / q)) 1 := by
    intro a b x y ha hb hg q q2 qx z
    obtain ⟨c, rfl⟩ := qx
    have cb := hb.cg
    rw [Int.toNat_natCast] at cb
    have c1 : 1 ≤ c := by
      have := ha.pos
      cases c with
      | zero => simp at this
      | succ c => omega
    have e : q * c * y / q = c * y := by rw [Nat.mul_assoc, Nat.mul_div_cancel_left _ (by omega)]
    rw [e, mul_pow'] at z
    have h1 : Cg n (b ^ (c * y)) 1 := cg_pow_dvd cb ⟨c, Nat.mul_comm _ _⟩
    have h2 := (Cg.refl n (a ^ (c * y))).mul h1
    rw [Int.mul_one] at h2
    have h3 := h2.symm.trans z
    have d := ha.dvd h3
    rw [Int.toNat_natCast] at d
    have d2 : q * c ∣ c := hg.dvd_of_dvd_mul_right d
    have := Nat.le_of_dvd (by omega) d2
    have := Nat.mul_le_mul_right c q2
    omega
  refine ord_of (by omega) ?_ fun q hq qd => ?_
  · rw [Int.toNat_natCast, mul_pow']
    have h1 : Cg n (a ^ (x * y)) 1 := cg_pow_dvd ca ⟨y, rfl⟩
    have h2 : Cg n (b ^ (x * y)) 1 := cg_pow_dvd cb ⟨x, Nat.mul_comm _ _⟩
    have := h1.mul h2
    rwa [Int.one_mul] at this
  · have q2 := hq.1
    obtain ⟨r, rfl⟩ := Int.eq_ofNat_of_zero_le (show 0 ≤ q by omega)
    have qd' : r ∣ x * y := Int.natCast_dvd_natCast.mp qd
    rw [show ((x * y : Nat) : Int) / (r : Int) = ((x * y / r : Nat) : Int) from (Int.natCast_ediv _ _).symm, Int.toNat_natCast]
    by_cases hx : r ∣ x
    · exact key ha hb hg r (by omega) hx
    · have hy := pr_euclid hq qd' hx
      have := key hb ha hg.symm r (by omega) hy
      rwa [Int.mul_comm a b, Nat.mul_comm x y]
theorem ord_part {p : Int} (hp : IsPr p) {q : Int} {k : Nat} (hq : IsPr q) (hk : 1 ≤ k) (hd : q ^ k ∣ p - 1) : ∃ y, Ord y p (q ^ k) := by
  have p2 := hp.1
  have q2 := hq.1
  obtain ⟨m, hm⟩ := hd
  obtain ⟨j, rfl⟩ : ∃ j, k = j + 1 := ⟨k - 1, by omega⟩
  have m1 : 1 ≤ m := by
    refine Classical.byContradiction fun z => ?_
    have := pow_pos' (show 1 ≤ q by omega) (j + 1)
    have := Int.mul_le_mul_of_nonneg_left (show m ≤ 0 by omega) (show 0 ≤ q ^ (j + 1) by omega)
    omega
  have qj := pow_pos' (show 1 ≤ q by omega) j
  have em : q ^ (j + 1) * m = q * (q ^ j * m) := by rw [Int.pow_succ]; grind
  have d1 : 1 ≤ q ^ j * m := by
    have := Int.mul_le_mul qj m1 (by decide) (by omega)
    omega
  have d2 : q ^ j * m < p - 1 := by
    have := Int.mul_le_mul_of_nonneg_right q2 (show 0 ≤ q ^ j * m by omega)
    omega
  obtain ⟨x, x1, x2, hx⟩ := not_all hp (d := (q ^ j * m).toNat) (by omega) (by omega)
  have nx : ¬ p ∣ x := fun z => by have := Int.le_of_dvd (by omega) z; omega
  have f := fermat1 hp nx
  have qn : (q ^ (j + 1)).toNat = q.toNat ^ (j + 1) := toNat_pow (by omega) _
  have qn' : (q ^ j).toNat = q.toNat ^ j := toNat_pow (by omega) _
  refine ⟨x ^ m.toNat, ord_of (by have := pow_pos' (show 1 ≤ q by omega) (j + 1); omega) ?_ fun r hr rd => ?_⟩
  · rw [← Int.pow_mul]
    have e : m.toNat * (q ^ (j + 1)).toNat = (p - 1).toNat := by
      have := pow_pos' (show 1 ≤ q by omega) (j + 1)
      rw [hm, Int.toNat_mul (by omega) (by omega), Nat.mul_comm]
    rw [e]; exact f
  · have rq : r = q := pr_dvd_pr hr hq (pr_dvd_pow hr rd)
    subst rq
    rw [← Int.pow_mul]
    have e1 : r ^ (j + 1) / r = r ^ j := by rw [Int.pow_succ, Int.mul_ediv_cancel _ (by omega)]
    rw [e1]
    have e : m.toNat * (r ^ j).toNat = (r ^ j * m).toNat := by rw [Int.toNat_mul (by omega) (by omega), Nat.mul_comm]
    rw [e]; exact hx
theorem ord_parts {p : Int} (hp : IsPr p) : ∀ (l : List (Int × Int)), PartsOk l → prod l ∣ p - 1 → ∃ g, Ord g p (prod l)
  | [], _, _ => ⟨1, by decide, by rw [Int.one_pow]; exact Cg.refl _ _, fun e a b => by simp only [prod] at b; omega⟩
  | q :: l, h, hd => by
    have hq := h.pr q List.mem_cons_self
    have q2 := hq.1.1
    have d1 : q.1 ^ q.2.toNat ∣ p - 1 := Int.dvd_trans ⟨prod l, rfl⟩ hd
    have d2 : prod l ∣ p - 1 := Int.dvd_trans ⟨q.1 ^ q.2.toNat, by rw [prod, Int.mul_comm]⟩ hd
    obtain ⟨y, hy⟩ := ord_part hp hq.1 (by have := hq.2; omega) d1
    obtain ⟨g, hg⟩ := ord_parts hp l h.tail d2
    have e1 := pow_pos' (show 1 ≤ q.1 by omega) q.2.toNat
    have e2 := prod_pos h.tail.pr
    have nd := h.head_not
    obtain ⟨a, ha⟩ := Int.eq_ofNat_of_zero_le (show 0 ≤ q.1 ^ q.2.toNat by omega)
    obtain ⟨b, hb⟩ := Int.eq_ofNat_of_zero_le (show 0 ≤ prod l by omega)
    rw [ha] at hy
    rw [hb] at hg
    have cop : Nat.Coprime a b := by
      have e3 : a = q.1.natAbs ^ q.2.toNat := by rw [← Int.natAbs_pow, ha]; rfl
      have e4 : b = (prod l).natAbs := by rw [hb]; rfl
      rw [e3, e4]
      refine Nat.Coprime.pow_left _ ?_
      obtain ⟨m, hm⟩ := Int.eq_ofNat_of_zero_le (show 0 ≤ q.1 by omega)
      have hp' := hq.1
      rw [hm] at hp' nd ⊢
      exact pr_coprime hp' fun z => nd (Int.natAbs_dvd_natAbs.mp z)
    refine ⟨y * g, ?_⟩
    rw [prod, ha, hb, ← Int.natCast_mul]
    exact ord_mul hy hg cop
theorem Ord.rest {a n o : Int} (h : Ord a n o) : Ord (a % n) n o :=
  ⟨h.pos, ((cg_mod n a).pow _).trans h.cg, fun e e1 e2 z => h.least e e1 e2 (((cg_mod n a).pow _).symm.trans z)⟩
theorem prim_root {p : Int} (hp : IsPr p) : ∃ g, 1 ≤ g ∧ g < p ∧ Ord g p (p - 1) := by
  have p2 := hp.1
  obtain ⟨l, hl⟩ := parts_exist (show 1 ≤ p - 1 by omega)
  obtain ⟨g, hg⟩ := ord_parts hp l hl.1 (by rw [hl.2]; exact Int.dvd_refl _)
  rw [hl.2] at hg
  have hr := hg.rest
  refine ⟨g % p, ?_, Int.emod_lt_of_pos _ (by omega), hr⟩
  have h0 := Int.emod_nonneg g (show p ≠ 0 by omega)
  refine Classical.byContradiction fun z => ?_
  have e : g % p = 0 := by omega
  have c := hr.cg
  rw [e, Int.zero_pow (by omega)] at c
  have : p ∣ 1 := by
    have := Cg.symm c
    simpa [Cg] using this
  have := Int.le_of_dvd (by decide) this
  omega
end MM
set_option linter.all false
set_option maxHeartbeats 4000000
namespace MM
theorem sub_len {α : Type} [DecidableEq α] : ∀ {l m : List α}, l.Nodup → (∀ x ∈ l, x ∈ m) → l.length ≤ m.length
  | [], m, _, _ => Nat.zero_le _
  | a :: l, m, hn, hs => by
    rw [List.nodup_cons] at hn
    have ha := hs a List.mem_cons_self
    have := sub_len (m := m.erase a) hn.2 fun x hx => (List.mem_erase_of_ne (fun (z : x = a) => hn.1 (by rw [← z]; exact hx))).mpr (hs x (List.mem_cons_of_mem _ hx))
    rw [List.length_erase_of_mem ha] at this
    have : 0 < m.length := List.length_pos_of_mem ha
    simp only [List.length_cons]
    omega
theorem sub_all {α : Type} [DecidableEq α] {l m : List α} (hl : l.Nodup) (h1 : ∀ x ∈ l, x ∈ m) (hlen : m.length ≤ l.length) : ∀ x ∈ m, x ∈ l := fun x hx => Classical.byContradiction fun hn => by
  have := sub_len (l := x :: l) (m := m) (List.nodup_cons.mpr ⟨hn, hl⟩) fun y hy => by
    rcases List.mem_cons.mp hy with rfl | hy
    · exact hx
    · exact h1 y hy
  simp only [List.length_cons] at this
  omega
def bases (p : Int) : List Int := (List.range (p - 1).toNat).map fun (i : Nat) => 1 + (i : Int)
def powersOf (g p : Int) : List Int := (List.range (p - 1).toNat).map fun (i : Nat) => g ^ (i + 1) % p
theorem cg_cancel {p g : Int} (hp : IsPr p) (hg : ¬ p ∣ g) {i j : Nat} (hij : i ≤ j) (h : Cg p (g ^ i) (g ^ j)) : Cg p (g ^ (j - i)) 1 := by
  obtain ⟨k, rfl⟩ : ∃ k, j = i + k := ⟨j - i, by omega⟩
  rw [Nat.add_sub_cancel_left]
  have h2 : p ∣ g ^ i * (g ^ k - 1) := by
    have := h.symm
    rw [Int.pow_add] at this
    have e : g ^ i * (g ^ k - 1) = g ^ i * g ^ k - g ^ i := by grind
    rw [e]; exact this
  rcases pr_int_euclid hp h2 with z | z
  · exact absurd (pr_dvd_pow hp z) hg
  · exact z
theorem ord_not_dvd {p g o : Int} (hp : IsPr p) (h : Ord g p o) : ¬ p ∣ g := fun z => by
  have o1 := h.pos
  have c := h.cg
  obtain ⟨k, hk⟩ : ∃ k, o.toNat = k + 1 := ⟨o.toNat - 1, by omega⟩
  rw [hk, Int.pow_succ] at c
  have d : p ∣ g ^ k * g := Int.dvd_trans z (Int.dvd_mul_left ..)
  have c' : p ∣ g ^ k * g - 1 := c
  have : p ∣ 1 := by
    have := Int.dvd_sub d c'
    rwa [show g ^ k * g - (g ^ k * g - 1) = 1 by omega] at this
  have := Int.le_of_dvd (by decide) this
  have := hp.1
  omega
theorem powers_nodup {p g : Int} (hp : IsPr p) (h : Ord g p (p - 1)) : (powersOf g p).Nodup := by
  have p2 := hp.1
  have nd := ord_not_dvd hp h
  unfold powersOf
  rw [List.Nodup, List.pairwise_map]
  refine List.Pairwise.imp_of_mem (R := fun a b => a < b) ?_ List.pairwise_lt_range
  intro a b ha hb hab he
  have hb' := List.mem_range.mp hb
  have c := cg_cancel hp nd (show a + 1 ≤ b + 1 by omega) (cg_of he)
  refine h.least ((b + 1 - (a + 1) : Nat) : Int) (by omega) (by omega) ?_
  rw [Int.toNat_natCast]
  exact c
theorem mem_bases {p x : Int} : x ∈ bases p ↔ 1 ≤ x ∧ x < p := by
  unfold bases
  rw [List.mem_map]
  constructor
  · rintro ⟨i, hi, rfl⟩
    have := List.mem_range.mp hi
    omega
  · rintro ⟨h1, h2⟩
    exact ⟨(x - 1).toNat, List.mem_range.mpr (by omega), by omega⟩
end MM
set_option linter.all false
namespace MM
theorem pd_cg {p : Int} {f g : Nat → Int} : ∀ {h : Nat}, (∀ k, k < h → Cg p (f k) (g k)) → Cg p (pd f h) (pd g h)
  | 0, _ => Cg.refl _ _
  | h + 1, e => by rw [pd_succ, pd_succ]; exact (pd_cg fun k hk => e k (by omega)).mul (e h (by omega))
theorem pd_mul (f g : Nat → Int) : ∀ h : Nat, pd (fun k => f k * g k) h = pd f h * pd g h
  | 0 => rfl
  | h + 1 => by rw [pd_succ, pd_succ, pd_succ, pd_mul f g h]; grind
theorem pd_const (c : Int) : ∀ h : Nat, pd (fun _ => c) h = c ^ h
  | 0 => by rw [pd_zero, Int.pow_zero]
  | h + 1 => by rw [pd_succ, pd_const c h, Int.pow_succ]
theorem pd_mo (f : Nat → Nat) : ∀ h : Nat, pd (fun k => mo (f k)) h = mo (sm f h)
  | 0 => rfl
  | h + 1 => by rw [pd_succ, sm_succ, pd_mo f h, mo_add]
theorem pd_not {p : Int} (hp : IsPr p) {f : Nat → Int} : ∀ {h : Nat}, (∀ k, k < h → ¬ p ∣ f k) → ¬ p ∣ pd f h
  | 0, _ => fun z => by
    rw [pd_zero] at z
    have := Int.le_of_dvd (by decide) z
    have := hp.1
    omega
  | h + 1, e => fun z => by
    rw [pd_succ] at z
    rcases pr_int_euclid hp z with z | z
    · exact pd_not hp (fun k hk => e k (by omega)) z
    · exact e h (by omega) z
theorem pr_odd_nat {p : Nat} (hp : IsPr p) (h3 : 3 ≤ p) : p % 2 = 1 := by
  by_cases h4 : p = 3
  · omega
  · have := hp.2 2 (by decide) (by omega)
    omega
theorem pr_cop {p a : Nat} (hp : IsPr p) (ha : ¬ p ∣ a) : Nat.Coprime a p := (pr_coprime hp ha).symm
theorem gauss {p a : Nat} (hp : IsPr p) (h3 : 3 ≤ p) (ha : ¬ p ∣ a) : Cg p ((a : Int) ^ (p / 2)) (SS a p) := by
  have ho := pr_odd_nat hp h3
  have hc := pr_cop hp ha
  have e1 : pd (fun k => ((k + 1 : Nat) : Int)) (p / 2) = pd (fun k => ((sgi a p k + 1 : Nat) : Int)) (p / 2) := (pd_perm (sgi_lt hc ho) (sgi_inj hc ho) fun k => ((k + 1 : Nat) : Int)).symm
  have e2 : Cg p (pd (fun k => (a : Int) * ((k + 1 : Nat) : Int)) (p / 2)) (pd (fun k => mo (bt (fl a p k)) * ((sgi a p k + 1 : Nat) : Int)) (p / 2)) := pd_cg fun k hk => by
    have hb := ab_bound hc ho hk
    have hl := rr_lt (a := a) (k := k) ho
    have hs : sgi a p k + 1 = ab a p k := by unfold sgi; omega
    have d : Cg p ((a : Int) * ((k + 1 : Nat) : Int)) ((rr a p k : Nat) : Int) := by
      have : ((rr a p k : Nat) : Int) = ((a : Int) * ((k + 1 : Nat) : Int)) % p := by
        unfold rr
        rw [Int.natCast_emod, Int.natCast_mul]
      rw [this]
      exact (cg_mod _ _).symm
    refine d.trans ?_
    rw [hs]
    unfold ab
    by_cases z : fl a p k = true
    · rw [if_pos z, z]
      show Cg p _ (-1 * _)
      refine ⟨1, ?_⟩
      rw [Int.natCast_sub (by omega)]
      omega
    · have z' : fl a p k = false := by simpa using z
      rw [if_neg z, z']
      show Cg p _ (1 * _)
      rw [Int.one_mul]
      exact Cg.refl _ _
  rw [pd_mul, pd_mul, pd_const, pd_mo, ← e1] at e2
  have hP : ¬ (p : Int) ∣ pd (fun k => ((k + 1 : Nat) : Int)) (p / 2) := pd_not hp fun k hk z => by
    have := Int.le_of_dvd (by omega) z
    omega
  have e3 : (p : Int) ∣ ((a : Int) ^ (p / 2) - mo (sm (fun k => bt (fl a p k)) (p / 2))) * pd (fun k => ((k + 1 : Nat) : Int)) (p / 2) := by
    have : ((a : Int) ^ (p / 2) - mo (sm (fun k => bt (fl a p k)) (p / 2))) * pd (fun k => ((k + 1 : Nat) : Int)) (p / 2) = (a : Int) ^ (p / 2) * pd (fun k => ((k + 1 : Nat) : Int)) (p / 2) - mo (sm (fun k => bt (fl a p k)) (p / 2)) * pd (fun k => ((k + 1 : Nat) : Int)) (p / 2) := by rw [Int.sub_mul]
    rw [this]
    exact e2
  rcases pr_int_euclid hp e3 with z | z
  · exact z
  · exact absurd z hP
def EE (a p : Int) : Int := if (a % p) ^ ((p - 1) / 2).toNat % p < 2 then (a % p) ^ ((p - 1) / 2).toNat % p else -1
theorem EE_J {a p : Int} (hp : IsPr p) (h3 : 3 ≤ p) : EE a p = J (a % p) p := by
  obtain ⟨p, rfl⟩ := Int.eq_ofNat_of_zero_le (show 0 ≤ p by omega)
  obtain ⟨b, hb⟩ := Int.eq_ofNat_of_zero_le (Int.emod_nonneg a (show (p : Int) ≠ 0 by omega))
  have ho := pr_odd_nat hp (by omega)
  have hl := Int.emod_lt_of_pos a (show (0 : Int) < p by omega)
  unfold EE
  rw [hb] at hl ⊢
  have eh : (((p : Int) - 1) / 2).toNat = p / 2 := by omega
  rw [eh]
  have bm : b % p = b := Nat.mod_eq_of_lt (by omega)
  by_cases hd : p ∣ b
  · have b0 : b = 0 := by
      by_cases z : b = 0
      · exact z
      · have := Nat.le_of_dvd (by omega) hd; omega
    subst b0
    have hz : ((0 : Nat) : Int) ^ (p / 2) % p = 0 := by
      have : p / 2 = (p / 2 - 1) + 1 := by omega
      rw [this, Int.pow_succ]
      simp
    rw [hz, if_pos (by decide)]
    show _ = J 0 p
    rw [J_zero, if_neg (by omega)]
  · have hg := gauss hp (by omega) hd
    have hJ := (J_SS b p ho).1 (pr_cop hp hd)
    rw [hJ]
    have e := cg_eq hg
    show (if (b : Int) ^ (p / 2) % p < 2 then (b : Int) ^ (p / 2) % p else -1) = _
    rw [e]
    rcases mo_pm (G b p) with h | h
    · rw [show SS b p = 1 from h, Int.emod_eq_of_lt (by decide) (by omega), if_pos (by decide)]
    · rw [show SS b p = -1 from h]
      have : (-1 : Int) % p = p - 1 := by
        rw [show (-1 : Int) = (p - 1) + (-1) * p by omega, Int.add_mul_emod_self_right, Int.emod_eq_of_lt (by omega) (by omega)]
      rw [this, if_neg (by omega)]
def prodI : List Int → Int
  | [] => 1
  | p :: l => p * prodI l
def EEs (a : Int) : List Int → Int
  | [] => 1
  | p :: l => EE a p * EEs a l
theorem prodI_odd : ∀ {l : List Int}, (∀ p ∈ l, IsPr p ∧ 3 ≤ p) → 0 < prodI l ∧ prodI l % 2 = 1
  | [], _ => ⟨by decide, by decide⟩
  | p :: l, h => by
    obtain ⟨h1, h2⟩ := prodI_odd fun q hq => h q (List.mem_cons_of_mem _ hq)
    obtain ⟨hp, h3⟩ := h p List.mem_cons_self
    have ho : p % 2 = 1 := by
      obtain ⟨q, rfl⟩ := Int.eq_ofNat_of_zero_le (show 0 ≤ p by omega)
      have := pr_odd_nat (p := q) hp (by omega)
      omega
    refine ⟨Int.mul_pos (by omega) h1, ?_⟩
    show p * prodI l % 2 = 1
    rw [Int.mul_emod, ho, h2]; rfl
theorem J_EEs (a : Int) : ∀ {l : List Int}, (∀ p ∈ l, IsPr p ∧ 3 ≤ p) → J (a % prodI l) (prodI l) = EEs a l
  | [], _ => by
    show J (a % 1) 1 = 1
    rw [show a % 1 = 0 by omega, J_zero, if_pos rfl]
  | p :: l, h => by
    obtain ⟨hp, h3⟩ := h p List.mem_cons_self
    have hl : ∀ q ∈ l, IsPr q ∧ 3 ≤ q := fun q hq => h q (List.mem_cons_of_mem _ hq)
    obtain ⟨h1, h2⟩ := prodI_odd hl
    have ho : p % 2 = 1 := by
      obtain ⟨q, rfl⟩ := Int.eq_ofNat_of_zero_le (show 0 ≤ p by omega)
      have := pr_odd_nat (p := q) hp (by omega)
      omega
    show J (a % (p * prodI l)) (p * prodI l) = EE a p * EEs a l
    rw [J_bot (by omega) h1 ho h2, EE_J hp h3, J_EEs a hl]
theorem root_all {p g : Int} (hp : IsPr p) (h : Ord g p (p - 1)) {a : Int} (a1 : 1 ≤ a) (a2 : a < p) : ∃ i : Nat, g ^ (i + 1) % p = a := by
  have hs : ∀ x ∈ powersOf g p, x ∈ bases p := by
    intro x hx
    obtain ⟨i, _, rfl⟩ := List.mem_map.mp hx
    rw [mem_bases]
    have p2 := hp.1
    have n0 := Int.emod_nonneg (g ^ (i + 1)) (show p ≠ 0 by omega)
    refine ⟨?_, Int.emod_lt_of_pos _ (by omega)⟩
    have : g ^ (i + 1) % p ≠ 0 := fun z => ord_not_dvd hp h (pr_dvd_pow hp (Int.dvd_of_emod_eq_zero z))
    omega
  have hm := sub_all (powers_nodup hp h) hs (by unfold bases powersOf; rw [List.length_map, List.length_map]; exact Nat.le_refl _) a (mem_bases.mpr ⟨a1, a2⟩)
  obtain ⟨i, _, e⟩ := List.mem_map.mp hm
  exact ⟨i, e⟩
theorem EE_one {a p : Int} (hp : IsPr p) (h3 : 3 ≤ p) (a1 : 1 ≤ a) (a2 : a < p) : EE a p = 1 ↔ ∃ x, 1 ≤ x ∧ x < p ∧ x * x % p = a := by
  have am : a % p = a := Int.emod_eq_of_lt (by omega) a2
  have ho : p % 2 = 1 := by
    obtain ⟨q, rfl⟩ := Int.eq_ofNat_of_zero_le (show 0 ≤ p by omega)
    have := pr_odd_nat (p := q) hp (by omega)
    omega
  have one : (1 : Int) % p = 1 := Int.emod_eq_of_lt (by omega) (by omega)
  have hE : EE a p = 1 ↔ Cg p (a ^ ((p - 1) / 2).toNat) 1 := by
    unfold EE
    rw [am]
    have n0 := Int.emod_nonneg (a ^ ((p - 1) / 2).toNat) (show p ≠ 0 by omega)
    constructor
    · intro h
      refine cg_of ?_
      rw [one]
      split at h
      · exact h
      · omega
    · intro h
      rw [cg_eq h, one, if_pos (by decide)]
  rw [hE]
  constructor
  · intro hc
    obtain ⟨g, g1, g2, hg⟩ := prim_root hp
    obtain ⟨i, hi⟩ := root_all hp hg a1 a2
    have c1 : Cg p (g ^ (i + 1)) a := by rw [← hi]; exact (cg_mod p _).symm
    have c2 : Cg p (g ^ ((i + 1) * ((p - 1) / 2).toNat)) 1 := by
      rw [Int.pow_mul]
      exact (c1.pow _).trans hc
    have hd := hg.dvd c2
    have e1 : (p - 1).toNat = 2 * ((p - 1) / 2).toNat := by omega
    rw [e1] at hd
    have h2 : 2 ∣ i + 1 := Nat.dvd_of_mul_dvd_mul_right (by omega) hd
    obtain ⟨j, hj⟩ := h2
    have nd : ¬ p ∣ g := ord_not_dvd hp hg
    have x0 := Int.emod_nonneg (g ^ j) (show p ≠ 0 by omega)
    have x1 : g ^ j % p ≠ 0 := fun z => nd (pr_dvd_pow hp (Int.dvd_of_emod_eq_zero z))
    refine ⟨g ^ j % p, by omega, Int.emod_lt_of_pos _ (by omega), ?_⟩
    have c3 : Cg p (g ^ j % p * (g ^ j % p)) (g ^ (i + 1)) := by
      rw [hj, Nat.mul_comm, Int.pow_mul, show (g ^ j) ^ 2 = g ^ j * g ^ j by rw [Int.pow_succ, Int.pow_succ, Int.pow_zero, Int.one_mul]]
      exact (cg_mod p _).mul (cg_mod p _)
    rw [cg_eq c3, hi]
  · rintro ⟨x, x1, x2, e⟩
    have nx : ¬ p ∣ x := fun z => by
      have := Int.le_of_dvd (by omega) z
      omega
    have c1 : Cg p a (x * x) := by rw [← e]; exact cg_mod p _
    have c2 := c1.pow ((p - 1) / 2).toNat
    rw [sq_pow, show 2 * ((p - 1) / 2).toNat = (p - 1).toNat by omega] at c2
    exact c2.trans (fermat1 hp nx)
theorem EE_pm {a p : Int} (hp : IsPr p) (h3 : 3 ≤ p) (h : a % p ≠ 0) : EE a p = 1 ∨ EE a p = -1 := by
  rw [EE_J hp h3]
  obtain ⟨p, rfl⟩ := Int.eq_ofNat_of_zero_le (show 0 ≤ p by omega)
  obtain ⟨b, hb⟩ := Int.eq_ofNat_of_zero_le (Int.emod_nonneg a (show (p : Int) ≠ 0 by omega))
  have ho := pr_odd_nat hp (by omega)
  have hl := Int.emod_lt_of_pos a (show (0 : Int) < p by omega)
  rw [hb] at hl h ⊢
  have hd : ¬ p ∣ b := fun z => by
    have hb0 : b ≠ 0 := fun w => h (by rw [w]; rfl)
    have := Nat.le_of_dvd (by omega) z
    omega
  rw [(J_SS b p ho).1 (pr_cop hp hd)]
  exact mo_pm _
theorem EE_mod (a p : Int) : EE (a % p) p = EE a p := by unfold EE; rw [Int.emod_emod_of_dvd _ (Int.dvd_refl p)]
end MM
set_option linter.all false
namespace MM
def tw (m : Int) : Nat := if m ≤ 0 then 0 else if m % 2 = 0 then tw (m / 2) + 1 else 0
termination_by m.toNat
decreasing_by omega
def op (m : Int) : Int := if m ≤ 0 then m else if m % 2 = 0 then op (m / 2) else m
termination_by m.toNat
decreasing_by omega
theorem tw_even {m : Int} (h : 0 < m) (e : m % 2 = 0) : tw m = tw (m / 2) + 1 := by rw [tw, if_neg (by omega), if_pos e]
theorem tw_odd {m : Int} (e : ¬ m % 2 = 0) : tw m = 0 := by
  rw [tw]; split
  · rfl
  · rfl
theorem op_even {m : Int} (h : 0 < m) (e : m % 2 = 0) : op m = op (m / 2) := by rw [op, if_neg (by omega), if_pos e]
theorem op_odd {m : Int} (e : ¬ m % 2 = 0) : op m = m := by
  rw [op]; split
  · rfl
  · rfl
theorem tw_le : ∀ (k : Nat) {m : Int}, m < 2 ^ k → tw m ≤ k
  | 0, m, h => by
    rw [tw, if_pos (by have e : (2 : Int) ^ 0 = 1 := rfl
                       omega)]
    exact Nat.le_refl _
  | k + 1, m, h => by
    by_cases h0 : m ≤ 0
    · rw [tw, if_pos h0]; omega
    · by_cases e : m % 2 = 0
      · rw [tw_even (by omega) e]
        have h4 : (2 : Int) ^ (k + 1) = 2 * 2 ^ k := by rw [Int.pow_succ]; omega
        have := tw_le k (m := m / 2) (by omega)
        omega
      · rw [tw_odd e]; omega
structure HvInv (m o : Int) (s : Int) : Prop where
  o0 : 0 < o
  ol : o ≤ m
  s0 : 0 ≤ s
  oe : op o = op m
  se : (tw o : Int) + s = tw m
theorem hv_start {m : Int} (h : 0 < m) : HvInv m m 0 := ⟨h, Int.le_refl _, Int.le_refl _, rfl, by omega⟩
theorem hv_turn {m o s : Int} (I : HvInv m o s) (e : o % 2 = 0) : HvInv m (o / 2) (s + 1) := by
  have o0 := I.o0
  have se := I.se
  have oe := I.oe
  have ol := I.ol
  have s0 := I.s0
  rw [tw_even o0 e] at se
  rw [op_even o0 e] at oe
  exact ⟨by omega, by omega, by omega, oe, by omega⟩
theorem hv_end {m o s : Int} (I : HvInv m o s) (e : ¬ o % 2 = 0) : o = op m ∧ s = tw m := by
  have se := I.se
  have oe := I.oe
  rw [tw_odd e] at se
  rw [op_odd e] at oe
  exact ⟨oe, by omega⟩
theorem op_pos {m : Int} (h : 0 < m) : ∀ (k : Nat), m.toNat ≤ k → 0 < op m ∧ op m ≤ m := by
  intro k
  induction k generalizing m with
  | zero => intro hk; omega
  | succ k ih =>
    intro hk
    by_cases e : m % 2 = 0
    · rw [op_even h e]
      have := ih (m := m / 2) (by omega) (by omega)
      omega
    · rw [op_odd e]; omega
def hvs (n : Int) : Nat → Int → Bool
  | 0, _ => false
  | s + 1, p => decide (p = n - 1) || hvs n s (p * p % n)
def halvB (n b : Int) : Bool := decide (b ^ (op (n - 1)).toNat % n = 1) || hvs n (tw (n - 1)) (b ^ (op (n - 1)).toNat % n)
end MM
set_option linter.all false
namespace MM
theorem nat_rep {a n : Int} (hn : 0 < n) : ∃ b m : Nat, n = m ∧ a % n = b ∧ b < m := by
  obtain ⟨m, rfl⟩ := Int.eq_ofNat_of_zero_le (show 0 ≤ n by omega)
  obtain ⟨b, hb⟩ := Int.eq_ofNat_of_zero_le (Int.emod_nonneg a (show (m : Int) ≠ 0 by omega))
  have := Int.emod_lt_of_pos a hn
  exact ⟨b, m, rfl, hb, by rw [hb] at this; exact_mod_cast this⟩
theorem J_top {a b n : Int} (hn : 0 < n) (ho : n % 2 = 1) : J (a * b % n) n = J (a % n) n * J (b % n) n := by
  obtain ⟨x, m, rfl, hx, lx⟩ := nat_rep (a := a) hn
  obtain ⟨y, m', e, hy, ly⟩ := nat_rep (a := b) hn
  have e : m = m' := by exact_mod_cast e
  subst e
  have om : m % 2 = 1 := by omega
  have exy : a * b % (m : Int) = ((x * y % m : Nat) : Int) := by
    rw [Int.natCast_emod, Int.natCast_mul, ← hx, ← hy, ← Int.mul_emod]
  rw [exy, hx, hy]
  have A := J_SS x m om
  have B := J_SS y m om
  have C := J_nat_mod (a := x * y) om
  by_cases cx : Nat.Coprime x m
  · by_cases cy : Nat.Coprime y m
    · rw [C.1 (Nat.Coprime.mul_left cx cy), A.1 cx, B.1 cy, SS_mul cx cy om]
    · rw [C.2 (fun z => cy (Nat.Coprime.coprime_mul_left z)), B.2 cy, Int.mul_zero]
  · rw [C.2 (fun z => cx (Nat.Coprime.coprime_mul_right z)), A.2 cx, Int.zero_mul]
theorem J_cop {a n : Int} (hn : 0 < n) (ho : n % 2 = 1) : (Int.gcd a n = 1 → J (a % n) n = 1 ∨ J (a % n) n = -1) ∧ (Int.gcd a n ≠ 1 → J (a % n) n = 0) := by
  obtain ⟨x, m, rfl, hx, lx⟩ := nat_rep (a := a) hn
  have om : m % 2 = 1 := by omega
  have A := J_SS x m om
  have hg : Int.gcd a m = Nat.gcd x m := by
    have : Int.gcd a m = Int.gcd (a % m) m := by
      rw [Int.gcd_comm a, Int.gcd_comm (a % m)]
      conv => lhs; rw [← Int.emod_add_mul_ediv a m]
      rw [Int.gcd_add_mul_left_right]
    rw [this, hx]
    rfl
  rw [hx, hg]
  refine ⟨fun h => ?_, fun h => A.2 h⟩
  rw [A.1 h]
  exact mo_pm _
theorem J_sq {a n : Int} (hn : 0 < n) (ho : n % 2 = 1) : J (a * a % n) n = if Int.gcd a n = 1 then 1 else 0 := by
  rw [J_top hn ho]
  have h := J_cop (a := a) hn ho
  by_cases z : Int.gcd a n = 1
  · rw [if_pos z]
    rcases h.1 z with w | w <;> rw [w] <;> rfl
  · rw [if_neg z, h.2 z]; rfl
theorem J_rec {m n : Int} (hm : 0 < m) (hn : 0 < n) (om : m % 2 = 1) (on : n % 2 = 1) : J (n % m) m = sgT n m * J (m % n) n := by
  obtain ⟨m, rfl⟩ := Int.eq_ofNat_of_zero_le (show 0 ≤ m by omega)
  obtain ⟨n, rfl⟩ := Int.eq_ofNat_of_zero_le (show 0 ≤ n by omega)
  rw [← Int.natCast_emod, ← Int.natCast_emod]
  have om' : m % 2 = 1 := by omega
  have on' : n % 2 = 1 := by omega
  have A := J_nat_mod (a := n) om'
  have B := J_nat_mod (a := m) on'
  by_cases c : Nat.Coprime n m
  · rw [A.1 c, B.1 c.symm, SS_turn c om' on']
  · rw [A.2 c, B.2 (fun z => c z.symm), Int.mul_zero]
theorem J_one_mod {n : Int} (hn : 0 < n) : J (1 % n) n = 1 := by
  by_cases h : n = 1
  · subst h; show J 0 1 = 1; rw [J_zero]; rfl
  · rw [Int.emod_eq_of_lt (by decide) (by omega), J_one]
theorem J_pow {a n : Int} (hn : 0 < n) (ho : n % 2 = 1) : ∀ k : Nat, J (a ^ k % n) n = J (a % n) n ^ k
  | 0 => by rw [Int.pow_zero, Int.pow_zero, J_one_mod hn]
  | k + 1 => by rw [Int.pow_succ, Int.pow_succ, J_top hn ho, J_pow hn ho k]
theorem odd_pow {e : Int} (he : e = 1 ∨ e = -1) {k : Nat} (hk : k % 2 = 1) : e ^ k = e := by
  rcases he with rfl | rfl
  · rw [Int.one_pow]
  · rw [show k = 2 * (k / 2) + 1 by omega, Int.pow_succ, Int.pow_mul]
    show (1 : Int) ^ (k / 2) * -1 = -1
    rw [Int.one_pow]; rfl
theorem neg_pow (k : Nat) : (-1 : Int) ^ k = mo k := by
  induction k with
  | zero => rfl
  | succ k ih => rw [Int.pow_succ, ih, mo_add]; rfl
theorem op_tw : ∀ (k : Nat) {m : Int}, m.toNat ≤ k → 0 < m → m = op m * 2 ^ tw m ∧ op m % 2 = 1
  | 0, m, h, h0 => by omega
  | k + 1, m, h, h0 => by
    by_cases e : m % 2 = 0
    · obtain ⟨h1, h2⟩ := op_tw k (m := m / 2) (by omega) (by omega)
      rw [op_even h0 e, tw_even h0 e]
      refine ⟨?_, h2⟩
      rw [Int.pow_succ, ← Int.mul_assoc, ← h1]
      omega
    · rw [op_odd e, tw_odd e]
      refine ⟨by omega, by omega⟩
theorem hvs_ex {n : Int} : ∀ (s : Nat) (x : Int), hvs n s x = true → ∃ r, r < s ∧ Cg n (x ^ 2 ^ r) (-1)
  | 0, x, h => by cases h
  | s + 1, x, h => by
    have h : (decide (x = n - 1) || hvs n s (x * x % n)) = true := h
    rw [Bool.or_eq_true] at h
    rcases h with h | h
    · have h : x = n - 1 := by simpa using h
      refine ⟨0, by omega, ?_⟩
      rw [h]
      refine ⟨1, ?_⟩
      show (n - 1) ^ 1 - -1 = n * 1
      rw [Int.pow_succ, Int.pow_zero]
      omega
    · obtain ⟨r, hr, c⟩ := hvs_ex s _ h
      refine ⟨r + 1, by omega, ?_⟩
      have c2 : Cg n ((x * x % n) ^ 2 ^ r) ((x * x) ^ 2 ^ r) := (cg_mod n _).pow _
      rw [sq_pow] at c2
      rw [show 2 ^ (r + 1) = 2 * 2 ^ r by rw [Nat.pow_succ]; omega]
      exact c2.symm.trans c
theorem primes_of_odd : ∀ (k : Nat) {n : Int}, n.toNat ≤ k → 0 < n → n % 2 = 1 → ∃ ps : List Int, (∀ p ∈ ps, IsPr p ∧ 3 ≤ p) ∧ prodI ps = n
  | 0, n, h, h0, _ => by omega
  | k + 1, n, h, h0, ho => by
    by_cases h1 : n = 1
    · exact ⟨[], fun _ h => (by cases h), h1.symm⟩
    · obtain ⟨p, hp, hd⟩ := has_prime (m := n) (by omega)
      obtain ⟨q, hq⟩ := hd
      have p2 := hp.1
      have q0 : 0 < q := by
        refine Classical.byContradiction fun z => ?_
        have := Int.mul_le_mul_of_nonneg_left (show q ≤ 0 by omega) (show 0 ≤ p by omega)
        omega
      have p3 : 3 ≤ p := by
        refine Classical.byContradiction fun z => ?_
        have : p = 2 := by omega
        rw [this] at hq
        omega
      have oq : q % 2 = 1 := by
        have : p * q % 2 = 1 := by rw [← hq]; exact ho
        rw [Int.mul_emod] at this
        have h1 : q % 2 = 0 ∨ q % 2 = 1 := by omega
        rcases h1 with h1 | h1
        · rw [h1, Int.mul_zero] at this; cases this
        · exact h1
      have lt : q < n := by
        have := Int.mul_le_mul_of_nonneg_right p3 (show 0 ≤ q by omega)
        omega
      obtain ⟨ps, h1, h2⟩ := primes_of_odd k (n := q) (by omega) q0 oq
      refine ⟨p :: ps, fun x hx => ?_, by show p * prodI ps = n; rw [h2, hq]⟩
      rcases List.mem_cons.mp hx with rfl | hx
      · exact ⟨hp, p3⟩
      · exact h1 x hx
theorem cg_dvd {m n a b : Int} (h : Cg n a b) (hd : m ∣ n) : Cg m a b := Int.dvd_trans hd h
theorem EE_cg {b p : Int} (hp : IsPr p) (h3 : 3 ≤ p) (hb : ¬ p ∣ b) : Cg p (b ^ ((p - 1) / 2).toNat) (EE b p) ∧ (EE b p = 1 ∨ EE b p = -1) := by
  have hz : b % p ≠ 0 := fun z => hb (Int.dvd_of_emod_eq_zero z)
  have pm := EE_pm hp h3 hz
  refine ⟨?_, pm⟩
  have hm : Cg p (b ^ ((p - 1) / 2).toNat) ((b % p) ^ ((p - 1) / 2).toNat) := (cg_mod p b).symm.pow _
  refine hm.trans ?_
  obtain ⟨x, m, rfl, hx, lx⟩ := nat_rep (a := b) (n := p) (by omega)
  have nd : ¬ m ∣ x := fun z => hz (by rw [hx]; obtain ⟨c, hc⟩ := z; by_cases w : x = 0
                                       · rw [w]; rfl
                                       · have := Nat.le_of_dvd (by omega) ⟨c, hc⟩; omega)
  have g := gauss hp (by omega) nd
  rw [EE_J hp h3, hx]
  have ho := pr_odd_nat hp (by omega)
  rw [(J_SS x m ho).1 (pr_cop hp nd), show (((m : Int) - 1) / 2).toNat = m / 2 by omega]
  exact g
theorem pm_eq {p e f : Int} (h3 : 3 ≤ p) (he : e = 1 ∨ e = -1) (hf : f = 1 ∨ f = -1) (h : Cg p e f) : e = f := by
  rcases he with rfl | rfl <;> rcases hf with rfl | rfl
  · rfl
  · have := Int.le_of_dvd (by decide) h; omega
  · obtain ⟨c, hc⟩ := h
    have : p ∣ 2 := ⟨-c, by rw [Int.mul_neg]; omega⟩
    have := Int.le_of_dvd (by decide) this
    omega
  · rfl
theorem halv_pr {p b : Int} {o r : Nat} (hp : IsPr p) (h3 : 3 ≤ p) (ho : o % 2 = 1) (hc : Cg p (b ^ (o * 2 ^ r)) (-1)) : ∃ k : Nat, p = 1 + 2 ^ (r + 1) * (k : Int) ∧ EE b p = mo k := by
  have n1 : ¬ Cg p (-1) 1 := fun z => by
    have := pm_eq h3 (.inr rfl) (.inl rfl) z
    cases this
  have hb : ¬ p ∣ b := fun z => by
    have h1 : p ∣ b ^ (o * 2 ^ r) := by
      have : o * 2 ^ r = (o * 2 ^ r - 1) + 1 := by
        have := Nat.mul_pos (show 0 < o by omega) (Nat.two_pow_pos r)
        omega
      rw [this, Int.pow_succ]
      exact Int.dvd_trans z (Int.dvd_mul_left _ _)
    have h2 : p ∣ (-1 : Int) := by
      have := Int.dvd_sub h1 hc
      rwa [Int.sub_sub_self] at this
    have h3' : p ∣ 1 := by
      obtain ⟨c, hc⟩ := h2
      exact ⟨-c, by rw [Int.mul_neg]; omega⟩
    have := Int.le_of_dvd (by decide) h3'
    omega
  have c1 : Cg p ((b ^ o) ^ 2 ^ r) (-1) := by rw [← Int.pow_mul]; exact hc
  have c2 : Cg p ((b ^ o) ^ 2 ^ (r + 1)) 1 := by
    rw [Nat.pow_succ, Int.pow_mul]
    exact (c1.pow 2).trans (Cg.refl _ _)
  have hO : Ord (b ^ o) p ((2 ^ (r + 1) : Nat) : Int) := by
    refine ord_of (by have := Nat.two_pow_pos (r + 1); omega) (by rw [Int.toNat_natCast]; exact c2) fun q hq hd => ?_
    have q2 : q = 2 := by
      have hd' : q ∣ (2 : Int) ^ (r + 1) := by rw [Int.natCast_pow] at hd; exact hd
      exact pr_dvd_pr hq (by exact ⟨by decide, fun d h1 h2 => by
        have := sq_mono (show (0 : Int) ≤ 2 by decide) h1
        omega⟩) (pr_dvd_pow hq hd')
    rw [q2]
    have : (((2 ^ (r + 1) : Nat) : Int) / 2).toNat = 2 ^ r := by rw [Nat.pow_succ]; omega
    rw [this]
    exact fun z => n1 (c1.symm.trans z)
  have f1 : Cg p ((b ^ o) ^ (p - 1).toNat) 1 := fermat1 hp (fun z => hb (pr_dvd_pow hp z))
  have hd := hO.dvd f1
  rw [Int.toNat_natCast] at hd
  obtain ⟨k, hk⟩ := hd
  have hpk : p = 1 + 2 ^ (r + 1) * (k : Int) := by
    have : ((p - 1).toNat : Int) = ((2 ^ (r + 1) * k : Nat) : Int) := by rw [hk]
    rw [Int.natCast_mul, Int.natCast_pow] at this
    have e : ((2 : Nat) : Int) = 2 := rfl
    rw [e] at this
    omega
  refine ⟨k, hpk, ?_⟩
  obtain ⟨ec, epm⟩ := EE_cg hp h3 hb
  have hh : ((p - 1) / 2).toNat = 2 ^ r * k := by
    have h1 : (p - 1).toNat = 2 * (2 ^ r * k) := by rw [hk, Nat.pow_succ]; grind
    omega
  rw [hh] at ec
  have c3 : Cg p (b ^ (2 ^ r * k * o)) (EE b p ^ o) := by rw [Int.pow_mul]; exact ec.pow o
  rw [odd_pow epm ho] at c3
  have c4 : Cg p (b ^ (2 ^ r * k * o)) ((-1) ^ k) := by
    rw [show 2 ^ r * k * o = o * 2 ^ r * k by grind, Int.pow_mul]
    exact hc.pow k
  rw [neg_pow] at c4
  exact pm_eq h3 epm (mo_pm k) (c3.symm.trans c4)
theorem halv_all {b : Int} {o r : Nat} (ho : o % 2 = 1) : ∀ (ps : List Int), (∀ p ∈ ps, IsPr p ∧ 3 ≤ p) → (∀ p ∈ ps, Cg p (b ^ (o * 2 ^ r)) (-1)) → ∃ M : Nat, prodI ps = 1 + 2 ^ (r + 1) * (M : Int) ∧ EEs b ps = mo M
  | [], _, _ => ⟨0, by show (1 : Int) = _; omega, rfl⟩
  | p :: ps, h1, h2 => by
    obtain ⟨M, hM, eM⟩ := halv_all ho ps (fun q hq => h1 q (List.mem_cons_of_mem _ hq)) (fun q hq => h2 q (List.mem_cons_of_mem _ hq))
    obtain ⟨hp, h3⟩ := h1 p List.mem_cons_self
    obtain ⟨k, hk, ek⟩ := halv_pr hp h3 ho (h2 p List.mem_cons_self)
    refine ⟨k + M + 2 ^ (r + 1) * (k * M), ?_, ?_⟩
    · show p * prodI ps = _
      rw [hM, hk]
      have e : (((k + M + 2 ^ (r + 1) * (k * M) : Nat)) : Int) = k + M + 2 ^ (r + 1) * ((k : Int) * M) := by
        rw [Int.natCast_add, Int.natCast_add, Int.natCast_mul, Int.natCast_mul, Int.natCast_pow]; rfl
      rw [e]
      generalize (2 : Int) ^ (r + 1) = t
      grind
    · show EE b p * EEs b ps = _
      rw [ek, eM, ← mo_add]
      refine mo_mod ?_
      have : 2 ^ (r + 1) * (k * M) % 2 = 0 := by rw [Nat.pow_succ, Nat.mul_comm _ 2, Nat.mul_assoc]; exact Nat.mul_mod_right ..
      omega
def powL (n b : Int) : Bool := decide (b ^ (n - 1).toNat % n = 1)
def sgnL (n b : Int) : Bool := !(decide (J (b % n) n = 0)) && decide (b ^ ((n - 1) / 2).toNat % n = J (b % n) n % n)
theorem one_mod {n : Int} (h : 3 ≤ n) : (1 : Int) % n = 1 := Int.emod_eq_of_lt (by omega) (by omega)
theorem sgn_of {n b : Int} (h3 : 3 ≤ n) (hJ : J (b % n) n = 1 ∨ J (b % n) n = -1) (hc : Cg n (b ^ ((n - 1) / 2).toNat) (J (b % n) n)) : sgnL n b = true := by
  unfold sgnL
  rw [decide_eq_true (cg_eq hc), decide_eq_false (by rcases hJ with h | h <;> rw [h] <;> decide)]; rfl
theorem sgn_pow {n b : Int} (h3 : 3 ≤ n) (ho : n % 2 = 1) (h : sgnL n b = true) : powL n b = true := by
  unfold sgnL at h
  rw [Bool.and_eq_true, Bool.not_eq_true', decide_eq_false_iff_not, decide_eq_true_eq] at h
  have c := (cg_of h.2).pow 2
  have hb := J_b (b % n) n
  have e : J (b % n) n ^ 2 = 1 := by
    have : J (b % n) n = 1 ∨ J (b % n) n = -1 := by have := h.1; omega
    rcases this with w | w <;> rw [w] <;> rfl
  rw [e, ← Int.pow_mul, show ((n - 1) / 2).toNat * 2 = (n - 1).toNat by omega] at c
  unfold powL
  exact decide_eq_true (by rw [cg_eq c, one_mod h3])
theorem halv_sgn {n b : Int} (h3 : 3 ≤ n) (ho : n % 2 = 1) (h : halvB n b = true) : sgnL n b = true := by
  obtain ⟨hm, oo⟩ := op_tw _ (Nat.le_refl _) (show 0 < n - 1 by omega)
  have op0 := (op_pos (m := n - 1) (by omega) _ (Nat.le_refl _)).1
  obtain ⟨o, hO⟩ := Int.eq_ofNat_of_zero_le (show 0 ≤ op (n - 1) by omega)
  unfold halvB at h
  rw [hO] at h hm oo op0
  have hm : n - 1 = (o : Int) * 2 ^ tw (n - 1) := hm
  have oo' : o % 2 = 1 := by have : (o : Int) % 2 = 1 := oo; omega
  have h : (decide (b ^ o % n = 1) || hvs n (tw (n - 1)) (b ^ o % n)) = true := h
  generalize tw (n - 1) = s at hm h
  have s1 : 1 ≤ s := by
    cases s with
    | zero => rw [Int.pow_zero, Int.mul_one] at hm; omega
    | succ s => omega
  obtain ⟨t, rfl⟩ : ∃ t, s = t + 1 := ⟨s - 1, by omega⟩
  have hh : ((n - 1) / 2).toNat = o * 2 ^ t := by
    rw [Int.pow_succ, ← Int.mul_assoc] at hm
    have e : (n - 1) / 2 = ((o * 2 ^ t : Nat) : Int) := by
      rw [Int.natCast_mul, Int.natCast_pow]
      have : (((2 : Nat) : Int) ^ t) = 2 ^ t := rfl
      rw [this]
      omega
    rw [e, Int.toNat_natCast]
  rw [Bool.or_eq_true] at h
  rcases h with h | h
  · have c : Cg n (b ^ o) 1 := cg_of (by rw [one_mod h3]; simpa using h)
    have e := J_pow (a := b) (n := n) (by omega) ho o
    rw [cg_eq c, J_one_mod (by omega)] at e
    have jb := J_b (b % n) n
    have jo : J (b % n) n = 1 := by
      have z : J (b % n) n ≠ 0 := fun w => by
        rw [w, show o = (o - 1) + 1 by omega, Int.pow_succ, Int.mul_zero] at e
        cases e
      have hpm : J (b % n) n = 1 ∨ J (b % n) n = -1 := by omega
      rw [odd_pow hpm oo'] at e
      exact e.symm
    refine sgn_of h3 (.inl jo) ?_
    rw [jo, hh, Int.pow_mul]
    have := c.pow (2 ^ t)
    rwa [Int.one_pow] at this
  · obtain ⟨r, hr, c⟩ := hvs_ex _ _ h
    have c1 : Cg n (b ^ (o * 2 ^ r)) (-1) := by
      rw [Int.pow_mul]
      exact ((cg_mod n _).symm.pow _).trans c
    obtain ⟨ps, hps, hprod⟩ := primes_of_odd _ (Nat.le_refl _) (show 0 < n by omega) ho
    have dv : ∀ {l : List Int} {p : Int}, p ∈ l → p ∣ prodI l := by
      intro l
      induction l with
      | nil => intro p h; cases h
      | cons q l ih =>
        intro p h
        rcases List.mem_cons.mp h with rfl | h
        · exact Int.dvd_mul_right ..
        · exact Int.dvd_trans (ih h) (Int.dvd_mul_left ..)
    obtain ⟨M, hM, eM⟩ := halv_all (b := b) (r := r) oo' ps hps (fun p hp => cg_dvd c1 (hprod ▸ dv hp))
    have jE := J_EEs b hps
    rw [hprod] at hM jE
    rw [eM] at jE
    obtain ⟨u, hu⟩ : ∃ u, t = r + u := ⟨t - r, by omega⟩
    subst hu
    have hMu : M = o * 2 ^ u := by
      have e1 : (2 : Int) ^ (r + 1) * M = 2 ^ (r + 1) * ((o * 2 ^ u : Nat) : Int) := by
        rw [Int.natCast_mul, Int.natCast_pow]
        have : (((2 : Nat) : Int) ^ u) = 2 ^ u := rfl
        rw [this]
        have : (2 : Int) ^ (r + u + 1) = 2 ^ (r + 1) * 2 ^ u := by rw [← Int.pow_add]; congr 1; omega
        rw [this] at hm
        have e2 : (2 : Int) ^ (r + 1) * M = n - 1 := by omega
        rw [e2, hm]
        generalize (2 : Int) ^ (r + 1) = x
        generalize (2 : Int) ^ u = y
        grind
      have p0 : (2 : Int) ^ (r + 1) ≠ 0 := by
        have := Int.pow_pos (n := 2) (m := r + 1) (by decide)
        omega
      exact_mod_cast Int.eq_of_mul_eq_mul_left p0 e1
    have hJ : J (b % n) n = mo (2 ^ u) := by
      rw [jE]
      refine mo_mod ?_
      rw [hMu, Nat.mul_mod, oo', Nat.one_mul, Nat.mod_mod]
    refine sgn_of h3 (by rw [hJ]; exact mo_pm _) ?_
    rw [hJ, hh, ← neg_pow, show o * 2 ^ (r + u) = o * 2 ^ r * 2 ^ u by rw [Nat.pow_add, Nat.mul_assoc], Int.pow_mul]
    exact c1.pow _
theorem hvs_pr {p : Int} (hp : IsPr p) (h3 : 3 ≤ p) : ∀ (s : Nat) (x : Int), 0 ≤ x → x < p → Cg p (x ^ 2 ^ s) 1 → x = 1 ∨ hvs p s x = true
  | 0, x, x0, x1, h => by
    left
    have := cg_eq h
    rw [Nat.pow_zero, Int.pow_succ, Int.pow_zero, Int.one_mul, one_mod h3, Int.emod_eq_of_lt x0 x1] at this
    exact this
  | s + 1, x, x0, x1, h => by
    have y0 := Int.emod_nonneg (x * x) (show p ≠ 0 by omega)
    have y1 := Int.emod_lt_of_pos (x * x) (show 0 < p by omega)
    have c : Cg p ((x * x % p) ^ 2 ^ s) 1 := by
      refine ((cg_mod p _).pow _).trans ?_
      rw [sq_pow, show 2 * 2 ^ s = 2 ^ (s + 1) by rw [Nat.pow_succ]; omega]
      exact h
    show _ ∨ (decide (x = p - 1) || hvs p s (x * x % p)) = true
    rcases hvs_pr hp h3 s _ y0 y1 c with e | e
    · have hd : p ∣ (x - 1) * (x + 1) := by
        have : Cg p (x * x) 1 := cg_of (by rw [e, one_mod h3])
        obtain ⟨z, hz⟩ := this
        exact ⟨z, by rw [← hz]; grind⟩
      rcases pr_int_euclid hp hd with w | w
      · left
        by_cases z : x = 0
        · subst z
          obtain ⟨v, hv⟩ := w
          have : p ∣ 1 := ⟨-v, by rw [Int.mul_neg]; omega⟩
          have := Int.le_of_dvd (by decide) this
          omega
        · by_cases z1 : x = 1
          · exact z1
          · have := Int.le_of_dvd (by omega) w
            omega
      · right
        have := Int.le_of_dvd (by omega) w
        rw [decide_eq_true (show x = p - 1 by omega)]; rfl
    · right; rw [e, Bool.or_true]
theorem pr_looks {p b : Int} (hp : IsPr p) (h3 : 3 ≤ p) (b1 : 1 ≤ b) (b2 : b < p) : halvB p b = true ∧ sgnL p b = true ∧ powL p b = true := by
  have ho : p % 2 = 1 := by
    obtain ⟨q, rfl⟩ := Int.eq_ofNat_of_zero_le (show 0 ≤ p by omega)
    have := pr_odd_nat (p := q) hp (by omega)
    omega
  have hb : ¬ p ∣ b := fun z => by have := Int.le_of_dvd (by omega) z; omega
  have h1 : halvB p b = true := by
    obtain ⟨hm, _⟩ := op_tw _ (Nat.le_refl _) (show 0 < p - 1 by omega)
    have op0 := (op_pos (m := p - 1) (by omega) _ (Nat.le_refl _)).1
    have c : Cg p ((b ^ (op (p - 1)).toNat % p) ^ 2 ^ tw (p - 1)) 1 := by
      refine ((cg_mod p _).pow _).trans ?_
      rw [← Int.pow_mul]
      have e : (op (p - 1)).toNat * 2 ^ tw (p - 1) = (p - 1).toNat := by
        have : (((op (p - 1)).toNat * 2 ^ tw (p - 1) : Nat) : Int) = p - 1 := by
          rw [Int.natCast_mul, Int.natCast_pow, Int.toNat_of_nonneg (by omega)]
          exact hm.symm
        omega
      rw [e]
      exact fermat1 hp hb
    unfold halvB
    rcases hvs_pr hp h3 _ _ (Int.emod_nonneg _ (by omega)) (Int.emod_lt_of_pos _ (by omega)) c with w | w
    · rw [decide_eq_true w]; rfl
    · rw [w, Bool.or_true]
  have h2 := halv_sgn h3 ho h1
  exact ⟨h1, h2, sgn_pow h3 ho h2⟩
end MM
set_option linter.all false
set_option maxHeartbeats 4000000
namespace MM
def pa (A B : PZ) : PZ := (A.1 + B.1, A.2 + B.2)
def ps (c : Int) (A : PZ) : PZ := (c * A.1, c * A.2)
def bip (d : Int) (A : PZ) (n : Nat) : Nat → PZ
  | 0 => (0, 0)
  | m + 1 => pa (bip d A n m) (ps (ch n m) (pw d A m))
theorem pz_ext {A B : PZ} (h1 : A.1 = B.1) (h2 : A.2 = B.2) : A = B := Prod.ext h1 h2
theorem bip_step (d : Int) (A : PZ) (n : Nat) : ∀ m, bip d A (n + 1) (m + 1) = pa (bip d A n (m + 1)) (pm d (bip d A n m) A)
  | 0 => by
    refine pz_ext ?_ ?_ <;> simp [bip, pa, ps, pm, pw, ch_zero]
  | m + 1 => by
    rw [show bip d A (n + 1) (m + 1 + 1) = pa (bip d A (n + 1) (m + 1)) (ps (ch (n + 1) (m + 1)) (pw d A (m + 1))) from rfl, bip_step d A n m, ch_succ,
      show bip d A n (m + 1 + 1) = pa (bip d A n (m + 1)) (ps (ch n (m + 1)) (pw d A (m + 1))) from rfl, show bip d A n (m + 1) = pa (bip d A n m) (ps (ch n m) (pw d A m)) from rfl, show pw d A (m + 1) = pm d (pw d A m) A from rfl, Int.natCast_add]
    generalize bip d A n m = X
    generalize pw d A m = Y
    obtain ⟨x1, x2⟩ := X
    obtain ⟨y1, y2⟩ := Y
    obtain ⟨a1, a2⟩ := A
    generalize (ch n m : Int) = u
    generalize (ch n (m + 1) : Int) = v
    refine pz_ext ?_ ?_ <;> simp only [pa, ps, pm] <;> grind
theorem bip_all (d : Int) (A : PZ) : ∀ n : Nat, pw d (pa A (1, 0)) n = bip d A n (n + 1)
  | 0 => by refine pz_ext ?_ ?_ <;> simp [bip, pa, ps, pw, ch_zero]
  | n + 1 => by
    rw [bip_step, show bip d A n (n + 1 + 1) = pa (bip d A n (n + 1)) (ps (ch n (n + 1)) (pw d A (n + 1))) from rfl, ch_above n (n + 1) (by omega), show pw d (pa A (1, 0)) (n + 1) = pm d (pw d (pa A (1, 0)) n) (pa A (1, 0)) from rfl, bip_all d A n]
    generalize bip d A n (n + 1) = X
    generalize pw d A (n + 1) = Y
    obtain ⟨x1, x2⟩ := X
    obtain ⟨y1, y2⟩ := Y
    obtain ⟨a1, a2⟩ := A
    refine pz_ext ?_ ?_ <;> simp only [pa, ps, pm] <;> grind
theorem bip_pr {p : Nat} (h : IsPr p) (d : Int) (A : PZ) : ∀ m, m < p → CP p (bip d A p (m + 1)) (1, 0)
  | 0, _ => by
    have : bip d A p 1 = (1, 0) := by refine pz_ext ?_ ?_ <;> simp [bip, pa, ps, pw, ch_zero]
    rw [this]; exact CP.refl _ _
  | m + 1, hm => by
    have h1 := bip_pr h d A m (by omega)
    obtain ⟨c, hc⟩ := pr_ch h (k := m + 1) (by omega) hm
    have z : ∀ x : Int, Cg p ((ch p (m + 1) : Int) * x) 0 := fun x => ⟨c * x, by rw [hc, Int.natCast_mul]; grind⟩
    constructor
    · have := h1.1.add (z (pw d A (m + 1)).1)
      rwa [Int.add_zero] at this
    · have := h1.2.add (z (pw d A (m + 1)).2)
      rwa [Int.add_zero] at this
theorem frob {p : Nat} (h : IsPr p) (d : Int) (A : PZ) : CP p (pw d (pa A (1, 0)) p) (pa (pw d A p) (1, 0)) := by
  have p2 := h.1
  obtain ⟨n, hn⟩ : ∃ n, p = n + 1 := ⟨p - 1, by omega⟩
  have e2 := bip_pr h d A n (by omega)
  rw [← hn] at e2
  rw [bip_all, show bip d A p (p + 1) = pa (bip d A p p) (ps (ch p p) (pw d A p)) from rfl, ch_self]
  have e : pa (bip d A p p) (ps ((1 : Nat) : Int) (pw d A p)) = pa (pw d A p) (bip d A p p) := by
    refine pz_ext ?_ ?_ <;> simp [pa, ps] <;> omega
  rw [e]
  exact ⟨(Cg.refl _ _).add e2.1, (Cg.refl _ _).add e2.2⟩
theorem pw_root (d : Int) : ∀ k : Nat, pw d (0, 1) (2 * k + 1) = (0, d ^ k)
  | 0 => by refine pz_ext ?_ ?_ <;> simp [pw, pm]
  | k + 1 => by
    rw [show 2 * (k + 1) + 1 = 2 * k + 1 + 1 + 1 by omega, pw, pw, pw_root d k, Int.pow_succ]
    refine pz_ext ?_ ?_ <;> simp [pm] <;> grind
theorem pw_frob {p : Nat} (h : IsPr p) (h3 : 3 ≤ p) {d : Int} (hd : Cg p (d ^ (p / 2)) (-1)) : ∀ f : Nat, CP p (pw d ((f : Int), 1) p) ((f : Int), -1)
  | 0 => by
    have ho := pr_odd_nat h h3
    have e : pw d (((0 : Nat) : Int), 1) p = (0, d ^ (p / 2)) := by
      have := pw_root d (p / 2)
      rwa [show 2 * (p / 2) + 1 = p by omega] at this
    rw [e]
    exact ⟨Cg.refl _ _, hd⟩
  | f + 1 => by
    have ih := pw_frob h h3 hd f
    have e : (((f + 1 : Nat) : Int), (1 : Int)) = pa ((f : Int), 1) (1, 0) := by refine pz_ext ?_ ?_ <;> simp [pa]
    rw [e]
    refine (frob h d _).trans ?_
    constructor
    · have := ih.1.add (Cg.refl (p : Int) 1)
      rw [Int.natCast_add]; exact this
    · exact ih.2.add (Cg.refl (p : Int) 0)
theorem unsq_ex {p : Int} (hp : IsPr p) (h3 : 3 ≤ p) : ∃ z, 1 ≤ z ∧ z < p ∧ J (z % p) p = -1 := by
  obtain ⟨g, g1, g2, hg⟩ := prim_root hp
  refine ⟨g, g1, g2, ?_⟩
  have hb : ¬ p ∣ g := fun z => by have := Int.le_of_dvd (by omega) z; omega
  obtain ⟨c, pm⟩ := EE_cg hp h3 hb
  rw [← EE_J hp h3]
  rcases pm with e | e
  · rw [e] at c
    have ho : p % 2 = 1 := by
      obtain ⟨q, rfl⟩ := Int.eq_ofNat_of_zero_le (show 0 ≤ p by omega)
      have := pr_odd_nat (p := q) hp (by omega)
      omega
    have := hg.dvd c
    have := Nat.le_of_dvd (by omega) this
    omega
  · exact e
theorem sq_of_J {p a : Int} (hp : IsPr p) (h3 : 3 ≤ p) (h : J (a % p) p ≠ -1) : ∃ x, Cg p (x * x) a := by
  by_cases hz : a % p = 0
  · exact ⟨0, cg_of (by rw [Int.mul_zero, hz, Int.zero_emod])⟩
  · have n0 := Int.emod_nonneg a (show p ≠ 0 by omega)
    have n1 := Int.emod_lt_of_pos a (show 0 < p by omega)
    rcases EE_pm hp h3 hz with e | e
    · have := (EE_one (a := a % p) hp h3 (by omega) n1).mp (by rw [EE_mod]; exact e)
      obtain ⟨x, _, _, hx⟩ := this
      exact ⟨x, cg_of hx⟩
    · rw [EE_J hp h3] at e; exact absurd e h
theorem J_of_sq {p x a : Int} (hp : IsPr p) (h3 : 3 ≤ p) (h : Cg p (x * x) a) : J (a % p) p ≠ -1 := by
  have ho : p % 2 = 1 := by
    obtain ⟨q, rfl⟩ := Int.eq_ofNat_of_zero_le (show 0 ≤ p by omega)
    have := pr_odd_nat (p := q) hp (by omega)
    omega
  rw [← cg_eq h, J_sq (by omega) ho]
  split <;> decide
theorem J_cong {p a b : Int} (h : Cg p a b) : J (a % p) p = J (b % p) p := by rw [cg_eq h]
theorem step_ex {p a : Int} (hp : IsPr p) (h3 : 3 ≤ p) (ha : ¬ p ∣ a) : ∃ f : Nat, (f : Int) < p ∧ J (((f : Int) * f - a) % p) p = -1 := by
  refine Classical.byContradiction fun hn => ?_
  have all : ∀ f : Nat, (f : Int) < p → J (((f : Int) * f - a) % p) p ≠ -1 := fun f hf z => hn ⟨f, hf, z⟩
  have key : ∀ k : Nat, ∃ g : Int, Cg p (g * g) (-((k : Int) * a)) := by
    intro k
    induction k with
    | zero => exact ⟨0, by rw [show -(((0 : Nat) : Int) * a) = 0 by rw [show ((0 : Nat) : Int) = 0 from rfl, Int.zero_mul]; rfl]; exact Cg.refl _ _⟩
    | succ k ih =>
      obtain ⟨g, hg⟩ := ih
      obtain ⟨f, hf⟩ := Int.eq_ofNat_of_zero_le (Int.emod_nonneg g (show p ≠ 0 by omega))
      have fl : (f : Int) < p := by
        have := Int.emod_lt_of_pos g (show 0 < p by omega)
        rw [hf] at this; exact this
      have cf : Cg p (f : Int) g := by
        have : ((f : Nat) : Int) = g % p := hf.symm
        rw [this]; exact cg_mod p g
      obtain ⟨x, hx⟩ := sq_of_J hp h3 (all f fl)
      refine ⟨x, hx.trans ?_⟩
      have c1 : Cg p ((f : Int) * f) (-((k : Int) * a)) := (cf.mul cf).trans hg
      have := c1.sub (Cg.refl p a)
      have e : -((k : Int) * a) - a = -(((k + 1 : Nat) : Int) * a) := by rw [Int.natCast_add]; grind
      rwa [e] at this
  obtain ⟨z, z1, z2, hz⟩ := unsq_ex hp h3
  have pos : 0 ≤ (-(z * a ^ (p - 2).toNat)) % p := Int.emod_nonneg _ (by omega)
  obtain ⟨k, hk⟩ := Int.eq_ofNat_of_zero_le pos
  have ck : Cg p (k : Int) (-(z * a ^ (p - 2).toNat)) := by
    have : ((k : Nat) : Int) = (-(z * a ^ (p - 2).toNat)) % p := hk.symm
    rw [this]; exact cg_mod p _
  obtain ⟨g, hg⟩ := key k
  have c2 : Cg p (-((k : Int) * a)) z := by
    have h1 : Cg p ((k : Int) * a) (-(z * a ^ (p - 2).toNat) * a) := ck.mul (Cg.refl p a)
    have h2 : -(z * a ^ (p - 2).toNat) * a = -(z * a ^ (p - 1).toNat) := by
      rw [show (p - 1).toNat = (p - 2).toNat + 1 by omega, Int.pow_succ]; grind
    rw [h2] at h1
    have h3' : Cg p (z * a ^ (p - 1).toNat) (z * 1) := (Cg.refl p z).mul (fermat1 hp ha)
    rw [Int.mul_one] at h3'
    have h4 := (Cg.refl p 0).sub h1
    have h5 := (Cg.refl p 0).sub ((Cg.refl p 0).sub h3')
    have e1 : (0 : Int) - (k : Int) * a = -((k : Int) * a) := by omega
    have e2 : (0 : Int) - -(z * a ^ (p - 1).toNat) = 0 - (0 - z * a ^ (p - 1).toNat) := by omega
    have e3 : (0 : Int) - (0 - z) = z := by omega
    rw [e1, e2] at h4
    rw [e3] at h5
    exact h4.trans h5
  exact J_of_sq hp h3 (hg.trans c2) hz
theorem cipolla {p a : Int} {f : Nat} (hp : IsPr p) (h3 : 3 ≤ p) (ha : J (a % p) p = 1) (hf : J (((f : Int) * f - a) % p) p = -1) : Cg p ((pw ((f : Int) * f - a) ((f : Int), 1) ((p + 1) / 2).toNat).1 * (pw ((f : Int) * f - a) ((f : Int), 1) ((p + 1) / 2).toNat).1) a := by
  obtain ⟨p, rfl⟩ := Int.eq_ofNat_of_zero_le (show 0 ≤ p by omega)
  have ho := pr_odd_nat hp (by omega)
  generalize hd : (f : Int) * f - a = d at hf ⊢
  have nd : ¬ (p : Int) ∣ d := fun z => by
    rw [Int.emod_eq_zero_of_dvd z, J_zero, if_neg (by omega)] at hf
    cases hf
  obtain ⟨ec, _⟩ := EE_cg hp h3 nd
  rw [EE_J hp h3, hf, show (((p : Int) - 1) / 2).toNat = p / 2 by omega] at ec
  have F := pw_frob hp (by omega) ec f
  have e1 : ((((p : Nat) : Int) + 1) / 2).toNat = (p + 1) / 2 := by omega
  rw [show (((p : Int)) + 1) / 2 = ((((p : Nat) : Int) + 1) / 2) from rfl, e1]
  have e2 : pw d ((f : Int), 1) (p + 1) = pm d (pw d ((f : Int), 1) ((p + 1) / 2)) (pw d ((f : Int), 1) ((p + 1) / 2)) := by
    rw [← pw_add]; congr 1; omega
  have c1 : CP p (pw d ((f : Int), 1) (p + 1)) (a, 0) := by
    have := F.mul (d := d) (CP.refl (p : Int) ((f : Int), 1))
    have e : pm d ((f : Int), -1) ((f : Int), 1) = (a, 0) := by
      refine pz_ext ?_ ?_ <;> simp only [pm] <;> omega
    rw [e] at this
    exact this
  rw [e2] at c1
  generalize pw d ((f : Int), 1) ((p + 1) / 2) = W at c1 ⊢
  obtain ⟨r, s⟩ := W
  have k1 : Cg p (r * r + d * s * s) a := c1.1
  have k2 : (p : Int) ∣ r * s + s * r - 0 := c1.2
  have k3 : (p : Int) ∣ 2 * (r * s) := by
    have : r * s + s * r - 0 = 2 * (r * s) := by grind
    rwa [this] at k2
  have n2 : ¬ (p : Int) ∣ 2 := fun z => by have := Int.le_of_dvd (by decide) z; omega
  rcases pr_int_euclid hp k3 with z | z
  · exact absurd z n2
  · rcases pr_int_euclid hp z with w | w
    · exfalso
      have c2 : Cg p (d * s * s) a := by
        have : Cg p (r * r) 0 := ⟨r * (w.choose), by
          have := w.choose_spec
          rw [Int.sub_zero]
          conv => lhs; rw [this]
          grind⟩
        have h := k1.sub this
        rw [Int.sub_zero] at h
        have e : r * r + d * s * s - r * r = d * s * s := by omega
        exact (by rw [e] at h; exact h)
      have hj := J_cong c2
      rw [Int.mul_assoc, J_top (by omega) (by omega), hf, J_sq (by omega) (by omega), ha] at hj
      split at hj <;> cases hj
    · have c3 : Cg p (d * s * s) 0 := ⟨d * s * w.choose, by
        have := w.choose_spec
        rw [Int.sub_zero]
        conv => lhs; rw [this]
        grind⟩
      have h := k1.sub c3
      rw [Int.sub_zero] at h
      have e : r * r + d * s * s - d * s * s = r * r := by omega
      rw [e] at h
      exact h
end MM
set_option Elab.async false
set_option linter.all false
set_option maxRecDepth 100000
set_option maxHeartbeats 4000000
namespace PP
open PySem L2 MM
def top (i : Nat) : Stmt := PySem.Challenge.pw_primepapers_k63_whole_signs.main.body.getD i (.Pass ⟨0, 0, 0, 0⟩)
structure Txt (K : PySem.W.Frag) (mg : Str → Option Value) (t1 t2 t3 : Tok) : Prop where
  mg_MOST : mg "MOST" = some (.int 1000000000000000000000000000000 t1)
  mg_MOST_TRIED : mg "MOST_TRIED" = some (.int 1000000000 t2)
  mg_MOST_ROOTED : mg "MOST_ROOTED" = some (.int 1000000 t3)
  no_len : mg "len" = none
  no_isinstance : mg "isinstance" = none
  no_int : mg "int" = none
  no_bool : mg "bool" = none
  no_range : mg "range" = none
  no_abs : mg "abs" = none
  no_max : mg "max" = none
  no_min : mg "min" = none
  no_sorted : mg "sorted" = none
section
variable {P : Program} {w : World} {K : PySem.W.Frag} {mg : Str → Option Value} {base : Heap} {t1 t2 t3 : Tok} {f : Addr} {fd : FuncData}
abbrev s_is_whole : Stmt := top 7
theorem sc_is_whole : FnScope ["thing"] ["thing"] (defScope s_is_whole) := ⟨rfl, rfl, rfl, by decide +kernel, rfl, by decide +kernel, by decide +kernel⟩
abbrev Df_is_whole (K : PySem.W.Frag) (mg : Str → Option Value) (f : Addr) (fd : FuncData) : Prop := Def K mg "is_whole" s_is_whole ["thing"] f fd
def isWh : V → Bool
  | .int _ => true
  | _ => false
def spWhole (K : PySem.W.Frag) : Sp := fun vs H Q _ => ∃ x n, vs = [x] ∧ TyOf K H x (.type n) ∧ Q (.bl (isWh x)) H
theorem ok_is_whole (D : Df_is_whole K mg f fd) (T : Txt K mg t1 t2 t3) : FnOk P w K mg base CX0 1 f fd ["thing"] (spWhole K) := by
  refine D.fn.ok sc_is_whole (fun vs H Q E h => ?_) (fun cdv A outer s H vs Q E hr h => ?_)
  · obtain ⟨x, n, rfl, _⟩ := h
    rfl
  · obtain ⟨x, n, rfl, ty, k⟩ := h
    refine ⟨_, (pss_one (ps_ret (pe_and (pe_callB call_isinst (by rfl) T.no_isinstance PyProof.Rows.boot_isinstance (pa_cons (pv 0) (pa_cons (pe_bltn (v := .ty "int") rfl T.no_int PyProof.Rows.boot_int rfl) pa_nil))) (pe_one (pe_not (pe_callB call_isinst (by rfl) T.no_isinstance PyProof.Rows.boot_isinstance (pa_cons (pv 0) (pa_cons (pe_bltn (v := .ty "bool") rfl T.no_bool PyProof.Rows.boot_bool rfl) pa_nil)))))))), ?_⟩
    have e0 : L2.start ["thing"] [x] = [some x] := rfl
    rw [e0]
    simp only [tSeq, tIfS, tTest, tRet, tRetN, tNext, tDrop, tAsg, tPar, tPar3, tAug, tVar, tC, tOp, tUn, rI, rI0, rU, tB, tAnd, tOr, tNot, tAndV, tOrV, tNotV, tIf, gName, gNil, gCons, gTup, gSub, tCB, tCons, tNil, tCall, tChain, ipI, tIsN, tNotN, tBM, tyV, tTup, tLst, rAppend, rCat, scal_ii, scal_bb, scal_ss, scal_ni, scal_in, rEq, rNe, List.getElem?_cons_zero, List.getElem?_cons_succ, List.set_cons_zero, List.set_cons_succ, eq_self, and_assoc, Option.some.injEq, V.int.injEq, V.bl.injEq, V.ref.injEq, V.str.injEq, List.cons.injEq, exists_eq_left', exists_eq_left, exists_and_left, List.nil_append, List.cons_append, List.append_nil, true_and, and_true, decide_eq_true_eq, Bool.not_eq_true', decide_eq_false_iff_not, if_true, if_false, Bool.not_true, Bool.not_false, Bool.false_eq_true, reduceCtorEq, decide_true, decide_false, ite_true, ite_false, rSetL, rIxL, tRaise, jCons, jNil, tFmt, tDNew, rCount, rIndex, Int.reduceToNat, Int.reducePow]
    refine isi ty ⟨_, rfl, ?_⟩
    have ty' := ty
    cases ty' <;> first | exact iteF k | (refine iteT ?_; refine isi (by assumption) ⟨_, rfl, ?_⟩; exact k)
abbrev s_is_between : Stmt := top 8
theorem sc_is_between : FnScope ["thing", "least", "most"] ["thing", "least", "most"] (defScope s_is_between) := ⟨rfl, rfl, rfl, by decide +kernel, rfl, by decide +kernel, by decide +kernel⟩
abbrev Df_is_between (K : PySem.W.Frag) (mg : Str → Option Value) (f : Addr) (fd : FuncData) : Prop := Def K mg "is_between" s_is_between ["thing", "least", "most"] f fd
def isBet : V → Int → Int → Bool
  | .int i, lo, hi => decide (lo ≤ i) && decide (i ≤ hi)
  | _, _, _ => false
def spBetween (K : PySem.W.Frag) : Sp := fun vs H Q _ => ∃ x n lo hi, vs = [x, .int lo, .int hi] ∧ TyOf K H x (.type n) ∧ Q (.bl (isBet x lo hi)) H
theorem ok_is_between (D : Df_is_between K mg f fd) (T : Txt K mg t1 t2 t3) {f1 fd1} (D_is_whole : Df_is_whole K mg f1 fd1) : FnOk P w K mg base CX0 2 f fd ["thing", "least", "most"] (spBetween K) := by
  have G_is_whole : FnOk P w K mg base CX0 1 _ _ _ _ := ok_is_whole D_is_whole T
  refine D.fn.ok sc_is_between (fun vs H Q E h => ?_) (fun cdv A outer s H vs Q E hr h => ?_)
  · obtain ⟨x, n, lo, hi, rfl, _⟩ := h
    rfl
  · obtain ⟨x, n, lo, hi, rfl, ty, k⟩ := h
    refine ⟨_, (pss_one (ps_ret (pe_and (pe_call (G_is_whole.mono (by decide)) hr rfl D_is_whole.mgx D_is_whole.fn.kp D_is_whole.bd .nil pass0 (pa_cons (pv 0) pa_nil)) (pe_one (pe_chain op_le op_le (pv 1) (pv 0) (pv 2)))))), ?_⟩
    have e0 : L2.start ["thing", "least", "most"] [x, .int lo, .int hi] = [some (x), some (.int lo), some (.int hi)] := rfl
    rw [e0]; clear e0
    simp only [tSeq, tIfS, tTest, tRet, tRetN, tNext, tDrop, tAsg, tPar, tPar3, tAug, tVar, tC, tOp, tUn, rI, rI0, rU, tB, tAnd, tOr, tNot, tAndV, tOrV, tNotV, tIf, gName, gNil, gCons, gTup, gSub, tCB, tCons, tNil, tCall, tChain, ipI, tIsN, tNotN, tBM, tyV, tTup, tLst, rAppend, rCat, scal_ii, scal_bb, scal_ss, scal_ni, scal_in, rEq, rNe, List.getElem?_cons_zero, List.getElem?_cons_succ, List.set_cons_zero, List.set_cons_succ, eq_self, and_assoc, Option.some.injEq, V.int.injEq, V.bl.injEq, V.ref.injEq, V.str.injEq, List.cons.injEq, exists_eq_left', exists_eq_left, exists_and_left, List.nil_append, List.cons_append, List.append_nil, true_and, and_true, decide_eq_true_eq, Bool.not_eq_true', decide_eq_false_iff_not, if_true, if_false, Bool.not_true, Bool.not_false, Bool.false_eq_true, reduceCtorEq, decide_true, decide_false, ite_true, ite_false, rSetL, rIxL, tRaise, jCons, jNil, tFmt, tDNew, rCount, rIndex, Int.reduceToNat, Int.reducePow]
    refine ⟨x, n, rfl, ty, _, rfl, ?_⟩
    cases x
    case int i =>
      refine iteT ⟨_, rfl, ?_⟩
      by_cases hl : lo ≤ i
      · rw [if_pos (by simpa using hl)]
        have e : isBet (.int i) lo hi = decide (i ≤ hi) := by simp [isBet, hl]
        rw [e] at k
        simp only [tSeq, tIfS, tTest, tRet, tRetN, tNext, tDrop, tAsg, tPar, tPar3, tAug, tVar, tC, tOp, tUn, rI, rI0, rU, tB, tAnd, tOr, tNot, tAndV, tOrV, tNotV, tIf, gName, gNil, gCons, gTup, gSub, tCB, tCons, tNil, tCall, tChain, ipI, tIsN, tNotN, tBM, tyV, tTup, tLst, rAppend, rCat, scal_ii, scal_bb, scal_ss, scal_ni, scal_in, rEq, rNe, List.getElem?_cons_zero, List.getElem?_cons_succ, List.set_cons_zero, List.set_cons_succ, eq_self, and_assoc, Option.some.injEq, V.int.injEq, V.bl.injEq, V.ref.injEq, V.str.injEq, List.cons.injEq, exists_eq_left', exists_eq_left, exists_and_left, List.nil_append, List.cons_append, List.append_nil, true_and, and_true, decide_eq_true_eq, Bool.not_eq_true', decide_eq_false_iff_not, if_true, if_false, Bool.not_true, Bool.not_false, Bool.false_eq_true, reduceCtorEq, decide_true, decide_false, ite_true, ite_false, rSetL, rIxL, tRaise, jCons, jNil, tFmt, tDNew, rCount, rIndex, Int.reduceToNat, Int.reducePow]
        exact k
      · rw [if_neg (by simpa using hl)]
        have e : isBet (.int i) lo hi = false := by simp [isBet, hl]
        rw [e] at k
        exact k
    all_goals exact iteF k
abbrev s_want_between : Stmt := top 9
theorem sc_want_between : FnScope ["thing", "least", "most", "name"] ["thing", "least", "most", "name"] (defScope s_want_between) := ⟨rfl, rfl, rfl, by decide +kernel, rfl, by decide +kernel, by decide +kernel⟩
abbrev Df_want_between (K : PySem.W.Frag) (mg : Str → Option Value) (f : Addr) (fd : FuncData) : Prop := Def K mg "want_between" s_want_between ["thing", "least", "most", "name"] f fd
def spWantB : Sp := fun vs H Q _ => ∃ (i lo hi : Int) (nm : Str), vs = [.int i, .int lo, .int hi, .str nm] ∧ (lo ≤ i ∧ i ≤ hi) ∧ Q .non H
theorem ok_want_between (D : Df_want_between K mg f fd) (T : Txt K mg t1 t2 t3) {f1 fd1 f2 fd2} (D_is_whole : Df_is_whole K mg f1 fd1) (D_is_between : Df_is_between K mg f2 fd2) : FnOk P w K mg base CX0 3 f fd ["thing", "least", "most", "name"] spWantB := by
  have G_is_between : FnOk P w K mg base CX0 2 _ _ _ _ := ok_is_between D_is_between T D_is_whole
  refine D.fn.ok sc_want_between (fun vs H Q E h => ?_) (fun cdv A outer s H vs Q E hr h => ?_)
  · obtain ⟨i, lo, hi, nm, rfl, _⟩ := h
    rfl
  · obtain ⟨i, lo, hi, nm, rfl, hb, k⟩ := h
    refine ⟨_, (pss_one (ps_if (pt_not (pt_val (pe_call (G_is_between.mono (by decide)) hr rfl D_is_between.mgx D_is_between.fn.kp D_is_between.bd .nil pass0 (pa_cons (pv 0) (pa_cons (pv 1) (pa_cons (pv 2) pa_nil))))))
 (pss_one ps_never)
 pss_nil)), ?_⟩
    have e0 : L2.start ["thing", "least", "most", "name"] [.int i, .int lo, .int hi, .str nm] = [some (.int i), some (.int lo), some (.int hi), some (.str nm)] := rfl
    rw [e0]; clear e0
    simp only [tSeq, tIfS, tTest, tRet, tRetN, tNext, tDrop, tAsg, tPar, tPar3, tAug, tVar, tC, tOp, tUn, rI, rI0, rU, tB, tAnd, tOr, tNot, tAndV, tOrV, tNotV, tIf, gName, gNil, gCons, gTup, gSub, tCB, tCons, tNil, tCall, tChain, ipI, tIsN, tNotN, tBM, tyV, tTup, tLst, rAppend, rCat, scal_ii, scal_bb, scal_ss, scal_ni, scal_in, rEq, rNe, List.getElem?_cons_zero, List.getElem?_cons_succ, List.set_cons_zero, List.set_cons_succ, eq_self, and_assoc, Option.some.injEq, V.int.injEq, V.bl.injEq, V.ref.injEq, V.str.injEq, List.cons.injEq, exists_eq_left', exists_eq_left, exists_and_left, List.nil_append, List.cons_append, List.append_nil, true_and, and_true, decide_eq_true_eq, Bool.not_eq_true', decide_eq_false_iff_not, if_true, if_false, Bool.not_true, Bool.not_false, Bool.false_eq_true, reduceCtorEq, decide_true, decide_false, ite_true, ite_false, rSetL, rIxL, tRaise, jCons, jNil, tFmt, tDNew, rCount, rIndex, Int.reduceToNat, Int.reducePow]
    refine ⟨.int i, "int", lo, hi, rfl, .int _, _, rfl, ?_⟩
    have e : isBet (.int i) lo hi = true := by simp [isBet, hb]
    rw [e]
    exact k
abbrev s_want_tried : Stmt := top 11
theorem sc_want_tried : FnScope ["thing", "name"] ["thing", "name"] (defScope s_want_tried) := ⟨rfl, rfl, rfl, by decide +kernel, rfl, by decide +kernel, by decide +kernel⟩
abbrev Df_want_tried (K : PySem.W.Frag) (mg : Str → Option Value) (f : Addr) (fd : FuncData) : Prop := Def K mg "want_tried" s_want_tried ["thing", "name"] f fd
abbrev s_want_far : Stmt := top 12
theorem sc_want_far : FnScope ["thing", "name"] ["thing", "name"] (defScope s_want_far) := ⟨rfl, rfl, rfl, by decide +kernel, rfl, by decide +kernel, by decide +kernel⟩
abbrev Df_want_far (K : PySem.W.Frag) (mg : Str → Option Value) (f : Addr) (fd : FuncData) : Prop := Def K mg "want_far" s_want_far ["thing", "name"] f fd
def spWant (lo hi : Int) : Sp := fun vs H Q _ => ∃ (i : Int) (nm : Str), vs = [.int i, .str nm] ∧ (lo ≤ i ∧ i ≤ hi) ∧ Q .non H
theorem ok_want_tried (D : Df_want_tried K mg f fd) (T : Txt K mg t1 t2 t3) {f1 fd1 f2 fd2 f3 fd3} (D_is_whole : Df_is_whole K mg f1 fd1) (D_is_between : Df_is_between K mg f2 fd2) (D_want_between : Df_want_between K mg f3 fd3) : FnOk P w K mg base CX0 4 f fd ["thing", "name"] (spWant 1 (10 ^ 9)) := by
  have G_want_between : FnOk P w K mg base CX0 3 _ _ _ _ := ok_want_between D_want_between T D_is_whole D_is_between
  refine D.fn.ok sc_want_tried (fun vs H Q E h => ?_) (fun cdv A outer s H vs Q E hr h => ?_)
  · obtain ⟨i, nm, rfl, _⟩ := h
    rfl
  · obtain ⟨i, nm, rfl, hb, k⟩ := h
    refine ⟨_, (pss_one (ps_expr (pe_call (G_want_between.mono (by decide)) hr rfl D_want_between.mgx D_want_between.fn.kp D_want_between.bd .nil pass0 (pa_cons (pv 0) (pa_cons pe_int (pa_cons (pe_glob (v := .int _) rfl T.mg_MOST_TRIED ⟨_, rfl⟩) (pa_cons (pv 1) pa_nil))))))), ?_⟩
    have e0 : L2.start ["thing", "name"] [.int i, .str nm] = [some (.int i), some (.str nm)] := rfl
    rw [e0]; clear e0
    simp only [tSeq, tIfS, tTest, tRet, tRetN, tNext, tDrop, tAsg, tPar, tPar3, tAug, tVar, tC, tOp, tUn, rI, rI0, rU, tB, tAnd, tOr, tNot, tAndV, tOrV, tNotV, tIf, gName, gNil, gCons, gTup, gSub, tCB, tCons, tNil, tCall, tChain, ipI, tIsN, tNotN, tBM, tyV, tTup, tLst, rAppend, rCat, scal_ii, scal_bb, scal_ss, scal_ni, scal_in, rEq, rNe, List.getElem?_cons_zero, List.getElem?_cons_succ, List.set_cons_zero, List.set_cons_succ, eq_self, and_assoc, Option.some.injEq, V.int.injEq, V.bl.injEq, V.ref.injEq, V.str.injEq, List.cons.injEq, exists_eq_left', exists_eq_left, exists_and_left, List.nil_append, List.cons_append, List.append_nil, true_and, and_true, decide_eq_true_eq, Bool.not_eq_true', decide_eq_false_iff_not, if_true, if_false, Bool.not_true, Bool.not_false, Bool.false_eq_true, reduceCtorEq, decide_true, decide_false, ite_true, ite_false, rSetL, rIxL, tRaise, jCons, jNil, tFmt, tDNew, rCount, rIndex, Int.reduceToNat, Int.reducePow]
    exact ⟨i, _, _, nm, rfl, hb, k⟩
theorem ok_want_far (D : Df_want_far K mg f fd) (T : Txt K mg t1 t2 t3) {f1 fd1 f2 fd2 f3 fd3} (D_is_whole : Df_is_whole K mg f1 fd1) (D_is_between : Df_is_between K mg f2 fd2) (D_want_between : Df_want_between K mg f3 fd3) : FnOk P w K mg base CX0 4 f fd ["thing", "name"] (spWant (-(10 ^ 30)) (10 ^ 30)) := by
  have G_want_between : FnOk P w K mg base CX0 3 _ _ _ _ := ok_want_between D_want_between T D_is_whole D_is_between
  refine D.fn.ok sc_want_far (fun vs H Q E h => ?_) (fun cdv A outer s H vs Q E hr h => ?_)
  · obtain ⟨i, nm, rfl, _⟩ := h
    rfl
  · obtain ⟨i, nm, rfl, hb, k⟩ := h
    refine ⟨_, (pss_one (ps_expr (pe_call (G_want_between.mono (by decide)) hr rfl D_want_between.mgx D_want_between.fn.kp D_want_between.bd .nil pass0 (pa_cons (pv 0) (pa_cons (pe_un un_neg (pe_glob (v := .int _) rfl T.mg_MOST ⟨_, rfl⟩)) (pa_cons (pe_glob (v := .int _) rfl T.mg_MOST ⟨_, rfl⟩) (pa_cons (pv 1) pa_nil))))))), ?_⟩
    have e0 : L2.start ["thing", "name"] [.int i, .str nm] = [some (.int i), some (.str nm)] := rfl
    rw [e0]; clear e0
    simp only [tSeq, tIfS, tTest, tRet, tRetN, tNext, tDrop, tAsg, tPar, tPar3, tAug, tVar, tC, tOp, tUn, rI, rI0, rU, tB, tAnd, tOr, tNot, tAndV, tOrV, tNotV, tIf, gName, gNil, gCons, gTup, gSub, tCB, tCons, tNil, tCall, tChain, ipI, tIsN, tNotN, tBM, tyV, tTup, tLst, rAppend, rCat, scal_ii, scal_bb, scal_ss, scal_ni, scal_in, rEq, rNe, List.getElem?_cons_zero, List.getElem?_cons_succ, List.set_cons_zero, List.set_cons_succ, eq_self, and_assoc, Option.some.injEq, V.int.injEq, V.bl.injEq, V.ref.injEq, V.str.injEq, List.cons.injEq, exists_eq_left', exists_eq_left, exists_and_left, List.nil_append, List.cons_append, List.append_nil, true_and, and_true, decide_eq_true_eq, Bool.not_eq_true', decide_eq_false_iff_not, if_true, if_false, Bool.not_true, Bool.not_false, Bool.false_eq_true, reduceCtorEq, decide_true, decide_false, ite_true, ite_false, rSetL, rIxL, tRaise, jCons, jNil, tFmt, tDNew, rCount, rIndex, Int.reduceToNat, Int.reducePow]
    exact ⟨i, _, _, nm, rfl, hb, k⟩
abbrev s_power_rest : Stmt := top 19
theorem sc_power_rest : FnScope ["base", "often", "n", "done", "square", "left"] ["base", "often", "n"] (defScope s_power_rest) := ⟨rfl, rfl, rfl, by decide +kernel, rfl, by decide +kernel, by decide +kernel⟩
abbrev Df_power_rest (K : PySem.W.Frag) (mg : Str → Option Value) (f : Addr) (fd : FuncData) : Prop := Def K mg "power_rest" s_power_rest ["base", "often", "n"] f fd
def spPower : Sp := fun vs H Q _ => ∃ (b o n : Int), vs = [.int b, .int o, .int n] ∧ (b.natAbs < 10 ^ 100 ∧ 0 ≤ o ∧ 0 < n ∧ n ≤ 10 ^ 40) ∧ Q (.int (b ^ o.toNat % n)) H
theorem ok_power_rest (D : Df_power_rest K mg f fd) (T : Txt K mg t1 t2 t3) : FnOk P w K mg base CX0 1 f fd ["base", "often", "n"] spPower := by
  refine D.fn.ok sc_power_rest (fun vs H Q E h => ?_) (fun cdv A outer s H vs Q E hr h => ?_)
  · obtain ⟨b, o, n, rfl, _⟩ := h
    rfl
  · obtain ⟨b, o, n, rfl, ⟨hb, ho, hn, hn2⟩, k⟩ := h
    refine ⟨_, (pss_cons (ps_set (i := 3) sc_power_rest.nd rfl (by first | exact Or.inl rfl | exact Or.inr rfl) (pe_op op_mod pe_int (pv 2)))
 (pss_cons (ps_set (i := 4) sc_power_rest.nd rfl (by first | exact Or.inl rfl | exact Or.inr rfl) (pe_op op_mod (pv 0) (pv 2)))
 (pss_cons (ps_set (i := 5) sc_power_rest.nd rfl (by first | exact Or.inl rfl | exact Or.inr rfl) (pv 1))
 (pss_cons (ps_while PassesOwn.never (pt_cmpR op_gt (pv 5) pe_int (nomark _))
 (pss_cons (ps_if (pt_cmpR op_eq (pe_op op_mod (pv 5) pe_int) pe_int (nomark _))
 (pss_one (ps_set (i := 3) sc_power_rest.nd rfl (by first | exact Or.inl rfl | exact Or.inr rfl) (pe_op op_mod (pe_op op_mulB (pv 3) (pv 4)) (pv 2))))
 pss_nil)
 (pss_cons (ps_set (i := 4) sc_power_rest.nd rfl (by first | exact Or.inl rfl | exact Or.inr rfl) (pe_op op_mod (pe_op op_mulB (pv 4) (pv 4)) (pv 2)))
 (pss_one (ps_set (i := 5) sc_power_rest.nd rfl (by first | exact Or.inl rfl | exact Or.inr rfl) (pe_op op_fdivB (pv 5) pe_int))))))
 (pss_one (ps_ret (pv 3))))))), ?_⟩
    have e0 : L2.start ["base", "often", "n", "done", "square", "left"] [.int b, .int o, .int n] = [some (.int b), some (.int o), some (.int n), none, none, none] := rfl
    rw [e0]; clear e0
    simp only [tSeq, tIfS, tTest, tRet, tRetN, tNext, tDrop, tAsg, tPar, tPar3, tAug, tVar, tC, tOp, tUn, rI, rI0, rU, tB, tAnd, tOr, tNot, tAndV, tOrV, tNotV, tIf, gName, gNil, gCons, gTup, gSub, tCB, tCons, tNil, tCall, tChain, ipI, tIsN, tNotN, tBM, tyV, tTup, tLst, rAppend, rCat, scal_ii, scal_bb, scal_ss, scal_ni, scal_in, rEq, rNe, List.getElem?_cons_zero, List.getElem?_cons_succ, List.set_cons_zero, List.set_cons_succ, eq_self, and_assoc, Option.some.injEq, V.int.injEq, V.bl.injEq, V.ref.injEq, V.str.injEq, List.cons.injEq, exists_eq_left', exists_eq_left, exists_and_left, List.nil_append, List.cons_append, List.append_nil, true_and, and_true, decide_eq_true_eq, Bool.not_eq_true', decide_eq_false_iff_not, if_true, if_false, Bool.not_true, Bool.not_false, Bool.false_eq_true, reduceCtorEq, decide_true, decide_false, ite_true, ite_false, rSetL, rIxL, tRaise, jCons, jNil, tFmt, tDNew, rCount, rIndex, Int.reduceToNat, Int.reducePow]
    refine ⟨hn, hn, ?_⟩
    refine ⟨fun m σ H' => H' = H ∧ ∃ d q l, m = l.toNat ∧ σ = [some (.int b), some (.int o), some (.int n), some (.int d), some (.int q), some (.int l)] ∧ PowInv b o n d q l,
      ⟨_, rfl, _, _, _, rfl, rfl, pow_start hn ho⟩, ?_⟩
    rintro m σ H' ⟨rfl, d, q, l, rfl, rfl, I⟩
    simp only [tSeq, tIfS, tTest, tRet, tRetN, tNext, tDrop, tAsg, tPar, tPar3, tAug, tVar, tC, tOp, tUn, rI, rI0, rU, tB, tAnd, tOr, tNot, tAndV, tOrV, tNotV, tIf, gName, gNil, gCons, gTup, gSub, tCB, tCons, tNil, tCall, tChain, ipI, tIsN, tNotN, tBM, tyV, tTup, tLst, rAppend, rCat, scal_ii, scal_bb, scal_ss, scal_ni, scal_in, rEq, rNe, List.getElem?_cons_zero, List.getElem?_cons_succ, List.set_cons_zero, List.set_cons_succ, eq_self, and_assoc, Option.some.injEq, V.int.injEq, V.bl.injEq, V.ref.injEq, V.str.injEq, List.cons.injEq, exists_eq_left', exists_eq_left, exists_and_left, List.nil_append, List.cons_append, List.append_nil, true_and, and_true, decide_eq_true_eq, Bool.not_eq_true', decide_eq_false_iff_not, if_true, if_false, Bool.not_true, Bool.not_false, Bool.false_eq_true, reduceCtorEq, decide_true, decide_false, ite_true, ite_false, rSetL, rIxL, tRaise, jCons, jNil, tFmt, tDNew, rCount, rIndex, Int.reduceToNat, Int.reducePow]
    have i0 := I.d0; have i1 := I.d1; have i2 := I.s0; have i3 := I.s1; have i4 := I.l0
    refine ite2 (fun hl => ?_) (fun hl => ?_)
    · refine ⟨fun σ' H2 => H2 = H' ∧ ∃ d' q' l', l'.toNat < l.toNat ∧ σ' = [some (.int b), some (.int o), some (.int n), some (.int d'), some (.int q'), some (.int l')] ∧ PowInv b o n d' q' l',
        fun σ' H2 ⟨e, d', q', l', hlt, e2, J⟩ => ⟨_, hlt, e, d', q', l', rfl, e2, J⟩, ?_⟩
      have c1 : CMulB d q := .inr ⟨by omega, by omega⟩
      have c2 : CMulB q q := .inr ⟨by omega, by omega⟩
      have c3 : CDivB l 2 := ⟨by decide, by decide⟩
      refine ⟨by decide, ?_⟩
      refine ite2 (fun ho => ?_) (fun ho => ?_)
      · exact ⟨c1, hn, c2, hn, c3, rfl, _, _, _, by omega, rfl, pow_odd hn I ho⟩
      · exact ⟨c2, hn, c3, rfl, _, _, _, by omega, rfl, pow_even hn I ho⟩
    · have e := pow_end I hl
      rw [← e] at k
      exact k
abbrev O_want_between (P : Program) (w : World) (K : PySem.W.Frag) (mg : Str → Option Value) (base : Heap) : Prop := ∃ f fd, Df_want_between K mg f fd ∧ FnOk P w K mg base CX0 3 f fd ["thing", "least", "most", "name"] (spWantB)
abbrev O_want_tried (P : Program) (w : World) (K : PySem.W.Frag) (mg : Str → Option Value) (base : Heap) : Prop := ∃ f fd, Df_want_tried K mg f fd ∧ FnOk P w K mg base CX0 4 f fd ["thing", "name"] (spWant 1 (10 ^ 9))
abbrev O_want_far (P : Program) (w : World) (K : PySem.W.Frag) (mg : Str → Option Value) (base : Heap) : Prop := ∃ f fd, Df_want_far K mg f fd ∧ FnOk P w K mg base CX0 4 f fd ["thing", "name"] (spWant (-(10 ^ 30)) (10 ^ 30))
abbrev O_power_rest (P : Program) (w : World) (K : PySem.W.Frag) (mg : Str → Option Value) (base : Heap) : Prop := ∃ f fd, Df_power_rest K mg f fd ∧ FnOk P w K mg base CX0 1 f fd ["base", "often", "n"] (spPower)
abbrev s_greatest_in_both : Stmt := top 21
theorem sc_greatest_in_both : FnScope ["one", "other", "great", "small"] ["one", "other"] (defScope s_greatest_in_both) := ⟨rfl, rfl, rfl, by decide +kernel, rfl, by decide +kernel, by decide +kernel⟩
abbrev Df_greatest_in_both (K : PySem.W.Frag) (mg : Str → Option Value) (f : Addr) (fd : FuncData) : Prop := Def K mg "greatest_in_both" s_greatest_in_both ["one", "other"] f fd
def spGreat : Sp := fun vs H Q _ => ∃ (a b : Int), vs = [.int a, .int b] ∧ (a.natAbs < 10 ^ 100 ∧ b.natAbs < 10 ^ 100) ∧ Q (.int (Int.gcd a b)) H
theorem ok_greatest_in_both (D : Df_greatest_in_both K mg f fd) (T : Txt K mg t1 t2 t3) : FnOk P w K mg base CX0 1 f fd ["one", "other"] spGreat := by
  refine D.fn.ok sc_greatest_in_both (fun vs H Q E h => ?_) (fun cdv A outer s H vs Q E hr h => ?_)
  · obtain ⟨a, b, rfl, _⟩ := h
    rfl
  · obtain ⟨a, b, rfl, ⟨ha, hb⟩, k⟩ := h
    refine ⟨_, (pss_cons (ps_set (i := 2) sc_greatest_in_both.nd rfl (by first | exact Or.inl rfl | exact Or.inr rfl) (pe_callB call_abs (by rfl) T.no_abs PyProof.Rows.boot_abs (pa_cons (pv 0) pa_nil)))
 (pss_cons (ps_set (i := 3) sc_greatest_in_both.nd rfl (by first | exact Or.inl rfl | exact Or.inr rfl) (pe_callB call_abs (by rfl) T.no_abs PyProof.Rows.boot_abs (pa_cons (pv 1) pa_nil)))
 (pss_cons (ps_while PassesOwn.never (pt_cmpR op_gt (pv 3) pe_int (nomark _))
 (pss_one (ps_par (i := 2) (j := 3) rfl sc_greatest_in_both.nd rfl rfl (by decide) rfl rfl (pa_cons (pv 3) (pa_cons (pe_op op_mod (pv 2) (pv 3)) pa_nil)) (by first | rfl | with_unfolding_all rfl))))
 (pss_one (ps_ret (pv 2)))))), ?_⟩
    have e0 : L2.start ["one", "other", "great", "small"] [.int a, .int b] = [some (.int a), some (.int b), none, none] := rfl
    rw [e0]; clear e0
    simp only [tSeq, tIfS, tTest, tRet, tRetN, tNext, tDrop, tAsg, tPar, tPar3, tAug, tVar, tC, tOp, tUn, rI, rI0, rU, tB, tAnd, tOr, tNot, tAndV, tOrV, tNotV, tIf, gName, gNil, gCons, gTup, gSub, tCB, tCons, tNil, tCall, tChain, ipI, tIsN, tNotN, tBM, tyV, tTup, tLst, rAppend, rCat, scal_ii, scal_bb, scal_ss, scal_ni, scal_in, rEq, rNe, List.getElem?_cons_zero, List.getElem?_cons_succ, List.set_cons_zero, List.set_cons_succ, eq_self, and_assoc, Option.some.injEq, V.int.injEq, V.bl.injEq, V.ref.injEq, V.str.injEq, List.cons.injEq, exists_eq_left', exists_eq_left, exists_and_left, List.nil_append, List.cons_append, List.append_nil, true_and, and_true, decide_eq_true_eq, Bool.not_eq_true', decide_eq_false_iff_not, if_true, if_false, Bool.not_true, Bool.not_false, Bool.false_eq_true, reduceCtorEq, decide_true, decide_false, ite_true, ite_false, rSetL, rIxL, tRaise, jCons, jNil, tFmt, tDNew, rCount, rIndex, Int.reduceToNat, Int.reducePow]
    refine ⟨fun m σ H' => H' = H ∧ ∃ g s, m = s.toNat ∧ σ = [some (.int a), some (.int b), some (.int g), some (.int s)] ∧ GcdInv a b g s,
      ⟨_, rfl, _, _, rfl, rfl, gcd_start a b⟩, ?_⟩
    rintro m σ H' ⟨rfl, g, s, rfl, rfl, I⟩
    simp only [tSeq, tIfS, tTest, tRet, tRetN, tNext, tDrop, tAsg, tPar, tPar3, tAug, tVar, tC, tOp, tUn, rI, rI0, rU, tB, tAnd, tOr, tNot, tAndV, tOrV, tNotV, tIf, gName, gNil, gCons, gTup, gSub, tCB, tCons, tNil, tCall, tChain, ipI, tIsN, tNotN, tBM, tyV, tTup, tLst, rAppend, rCat, scal_ii, scal_bb, scal_ss, scal_ni, scal_in, rEq, rNe, List.getElem?_cons_zero, List.getElem?_cons_succ, List.set_cons_zero, List.set_cons_succ, eq_self, and_assoc, Option.some.injEq, V.int.injEq, V.bl.injEq, V.ref.injEq, V.str.injEq, List.cons.injEq, exists_eq_left', exists_eq_left, exists_and_left, List.nil_append, List.cons_append, List.append_nil, true_and, and_true, decide_eq_true_eq, Bool.not_eq_true', decide_eq_false_iff_not, if_true, if_false, Bool.not_true, Bool.not_false, Bool.false_eq_true, reduceCtorEq, decide_true, decide_false, ite_true, ite_false, rSetL, rIxL, tRaise, jCons, jNil, tFmt, tDNew, rCount, rIndex, Int.reduceToNat, Int.reducePow]
    refine ite2 (fun hl => ?_) (fun hl => ?_)
    · refine ⟨fun σ' H2 => H2 = H' ∧ ∃ g' s', s'.toNat < s.toNat ∧ σ' = [some (.int a), some (.int b), some (.int g'), some (.int s')] ∧ GcdInv a b g' s',
        fun σ' H2 ⟨e, g', s', hlt, e2, J⟩ => ⟨_, hlt, e, g', s', rfl, e2, J⟩, ?_⟩
      have l1 := Int.emod_lt_of_pos g hl
      have l2 := Int.emod_nonneg g (show s ≠ 0 by omega)
      exact ⟨hl, rfl, _, _, by omega, rfl, gcd_turn I hl⟩
    · have e := gcd_end I hl
      rw [← e] at k
      exact k
abbrev O_greatest_in_both (P : Program) (w : World) (K : PySem.W.Frag) (mg : Str → Option Value) (base : Heap) : Prop := ∃ f fd, Df_greatest_in_both K mg f fd ∧ FnOk P w K mg base CX0 1 f fd ["one", "other"] (spGreat)
abbrev s_shared : Stmt := top 20
theorem sc_shared : FnScope ["one", "other"] ["one", "other"] (defScope s_shared) := ⟨rfl, rfl, rfl, by decide +kernel, rfl, by decide +kernel, by decide +kernel⟩
abbrev Df_shared (K : PySem.W.Frag) (mg : Str → Option Value) (f : Addr) (fd : FuncData) : Prop := Def K mg "shared" s_shared ["one", "other"] f fd
def spShared : Sp := fun vs H Q _ => ∃ (a b : Int), vs = [.int a, .int b] ∧ (-(10 ^ 30) ≤ a ∧ a ≤ 10 ^ 30 ∧ -(10 ^ 30) ≤ b ∧ b ≤ 10 ^ 30) ∧ Q (.int (Int.gcd a b)) H
theorem ok_shared (D : Df_shared K mg f fd) (T : Txt K mg t1 t2 t3) (o1 : O_want_far P w K mg base) (o2 : O_greatest_in_both P w K mg base) : FnOk P w K mg base CX0 5 f fd ["one", "other"] spShared := by
  obtain ⟨_, _, D_want_far, G_want_far⟩ := o1
  obtain ⟨_, _, D_greatest_in_both, G_greatest_in_both⟩ := o2
  refine D.fn.ok sc_shared (fun vs H Q E h => ?_) (fun cdv A outer s H vs Q E hr h => ?_)
  · obtain ⟨a, b, rfl, _⟩ := h
    rfl
  · obtain ⟨a, b, rfl, hb, k⟩ := h
    refine ⟨_, (pss_cons (ps_expr (pe_call (G_want_far.mono (by decide)) hr rfl D_want_far.mgx D_want_far.fn.kp D_want_far.bd .nil pass0 (pa_cons (pv 0) (pa_cons pe_str pa_nil))))
 (pss_cons (ps_expr (pe_call (G_want_far.mono (by decide)) hr rfl D_want_far.mgx D_want_far.fn.kp D_want_far.bd .nil pass0 (pa_cons (pv 1) (pa_cons pe_str pa_nil))))
 (pss_one (ps_ret (pe_call (G_greatest_in_both.mono (by decide)) hr rfl D_greatest_in_both.mgx D_greatest_in_both.fn.kp D_greatest_in_both.bd .nil pass0 (pa_cons (pv 0) (pa_cons (pv 1) pa_nil))))))), ?_⟩
    have e0 : L2.start ["one", "other"] [.int a, .int b] = [some (.int a), some (.int b)] := rfl
    rw [e0]; clear e0
    simp only [tSeq, tIfS, tTest, tRet, tRetN, tNext, tDrop, tAsg, tPar, tPar3, tAug, tVar, tC, tOp, tUn, rI, rI0, rU, tB, tAnd, tOr, tNot, tAndV, tOrV, tNotV, tIf, gName, gNil, gCons, gTup, gSub, tCB, tCons, tNil, tCall, tChain, ipI, tIsN, tNotN, tBM, tyV, tTup, tLst, rAppend, rCat, scal_ii, scal_bb, scal_ss, scal_ni, scal_in, rEq, rNe, List.getElem?_cons_zero, List.getElem?_cons_succ, List.set_cons_zero, List.set_cons_succ, eq_self, and_assoc, Option.some.injEq, V.int.injEq, V.bl.injEq, V.ref.injEq, V.str.injEq, List.cons.injEq, exists_eq_left', exists_eq_left, exists_and_left, List.nil_append, List.cons_append, List.append_nil, true_and, and_true, decide_eq_true_eq, Bool.not_eq_true', decide_eq_false_iff_not, if_true, if_false, Bool.not_true, Bool.not_false, Bool.false_eq_true, reduceCtorEq, decide_true, decide_false, ite_true, ite_false, rSetL, rIxL, tRaise, jCons, jNil, tFmt, tDNew, rCount, rIndex, Int.reduceToNat, Int.reducePow]
    exact ⟨a, _, rfl, ⟨by omega, by omega⟩, b, _, rfl, ⟨by omega, by omega⟩, a, b, rfl, ⟨by omega, by omega⟩, k⟩
abbrev O_shared (P : Program) (w : World) (K : PySem.W.Frag) (mg : Str → Option Value) (base : Heap) : Prop := ∃ f fd, Df_shared K mg f fd ∧ FnOk P w K mg base CX0 5 f fd ["one", "other"] (spShared)
abbrev s_least_part : Stmt := top 17
theorem sc_least_part : FnScope ["number", "start", "tried"] ["number", "start"] (defScope s_least_part) := ⟨rfl, rfl, rfl, by decide +kernel, rfl, by decide +kernel, by decide +kernel⟩
abbrev Df_least_part (K : PySem.W.Frag) (mg : Str → Option Value) (f : Addr) (fd : FuncData) : Prop := Def K mg "least_part" s_least_part ["number", "start"] f fd
def LpInv (n s t : Int) : Prop := s ≤ t ∧ ∀ d, s ≤ d → d < t → n % d ≠ 0
def spLeast : Sp := fun vs H Q _ => ∃ (n s : Int), vs = [.int n, .int s] ∧ (0 ≤ n ∧ n ≤ 10 ^ 9 ∧ 2 ≤ s ∧ s ≤ 10 ^ 9 + 1) ∧ ∀ r, LpEnd n s r → Q (.int r) H
theorem ok_least_part (D : Df_least_part K mg f fd) (T : Txt K mg t1 t2 t3) : FnOk P w K mg base CX0 1 f fd ["number", "start"] spLeast := by
  refine D.fn.ok sc_least_part (fun vs H Q E h => ?_) (fun cdv A outer s H vs Q E hr h => ?_)
  · obtain ⟨a, n, rfl, _⟩ := h
    rfl
  · obtain ⟨n, s, rfl, ⟨h0, h1, h2, h3⟩, k⟩ := h
    refine ⟨_, (pss_cons (ps_set (i := 2) sc_least_part.nd rfl (by first | exact Or.inl rfl | exact Or.inr rfl) (pv 1))
 (pss_cons (ps_while PassesOwn.never (pt_cmpR op_le (pe_op op_mulB (pv 2) (pv 2)) (pv 0) (nomark _))
 (pss_cons (ps_if (pt_cmpR op_eq (pe_op op_mod (pv 0) (pv 2)) pe_int (nomark _))
 (pss_one (ps_ret (pv 2)))
 pss_nil)
 (pss_one (ps_aug (i := 2) sc_least_part.nd rfl (Or.inl rfl) pe_int ip_add))))
 (pss_one (ps_ret (pv 0))))), ?_⟩
    have e0 : L2.start ["number", "start", "tried"] [.int n, .int s] = [some (.int n), some (.int s), none] := rfl
    rw [e0]; clear e0
    simp only [tSeq, tIfS, tTest, tRet, tRetN, tNext, tDrop, tAsg, tPar, tPar3, tAug, tVar, tC, tOp, tUn, rI, rI0, rU, tB, tAnd, tOr, tNot, tAndV, tOrV, tNotV, tIf, gName, gNil, gCons, gTup, gSub, tCB, tCons, tNil, tCall, tChain, ipI, tIsN, tNotN, tBM, tyV, tTup, tLst, rAppend, rCat, scal_ii, scal_bb, scal_ss, scal_ni, scal_in, rEq, rNe, List.getElem?_cons_zero, List.getElem?_cons_succ, List.set_cons_zero, List.set_cons_succ, eq_self, and_assoc, Option.some.injEq, V.int.injEq, V.bl.injEq, V.ref.injEq, V.str.injEq, List.cons.injEq, exists_eq_left', exists_eq_left, exists_and_left, List.nil_append, List.cons_append, List.append_nil, true_and, and_true, decide_eq_true_eq, Bool.not_eq_true', decide_eq_false_iff_not, if_true, if_false, Bool.not_true, Bool.not_false, Bool.false_eq_true, reduceCtorEq, decide_true, decide_false, ite_true, ite_false, rSetL, rIxL, tRaise, jCons, jNil, tFmt, tDNew, rCount, rIndex, Int.reduceToNat, Int.reducePow]
    refine ⟨fun m σ H' => H' = H ∧ ∃ t, m = (10 ^ 10 - t).toNat ∧ σ = [some (.int n), some (.int s), some (.int t)] ∧ LpInv n s t ∧ t ≤ 10 ^ 9 + 2,
      ⟨_, rfl, _, rfl, rfl, ⟨Int.le_refl _, fun d a b => by omega⟩, by omega⟩, ?_⟩
    rintro m σ H' ⟨rfl, t, rfl, rfl, ⟨I1, I2⟩, I3⟩
    simp only [tSeq, tIfS, tTest, tRet, tRetN, tNext, tDrop, tAsg, tPar, tPar3, tAug, tVar, tC, tOp, tUn, rI, rI0, rU, tB, tAnd, tOr, tNot, tAndV, tOrV, tNotV, tIf, gName, gNil, gCons, gTup, gSub, tCB, tCons, tNil, tCall, tChain, ipI, tIsN, tNotN, tBM, tyV, tTup, tLst, rAppend, rCat, scal_ii, scal_bb, scal_ss, scal_ni, scal_in, rEq, rNe, List.getElem?_cons_zero, List.getElem?_cons_succ, List.set_cons_zero, List.set_cons_succ, eq_self, and_assoc, Option.some.injEq, V.int.injEq, V.bl.injEq, V.ref.injEq, V.str.injEq, List.cons.injEq, exists_eq_left', exists_eq_left, exists_and_left, List.nil_append, List.cons_append, List.append_nil, true_and, and_true, decide_eq_true_eq, Bool.not_eq_true', decide_eq_false_iff_not, if_true, if_false, Bool.not_true, Bool.not_false, Bool.false_eq_true, reduceCtorEq, decide_true, decide_false, ite_true, ite_false, rSetL, rIxL, tRaise, jCons, jNil, tFmt, tDNew, rCount, rIndex, Int.reduceToNat, Int.reducePow]
    refine ⟨.inr ⟨by omega, by omega⟩, ?_⟩
    refine ite2 (fun hl => ?_) (fun hl => ?_)
    · refine ⟨fun σ' H2 => H2 = H' ∧ ∃ t', (10 ^ 10 - t').toNat < (10 ^ 10 - t).toNat ∧ σ' = [some (.int n), some (.int s), some (.int t')] ∧ LpInv n s t' ∧ t' ≤ 10 ^ 9 + 2,
        fun σ' H2 ⟨e, t', hlt, e2, J⟩ => ⟨_, hlt, e, t', rfl, e2, J⟩, ?_⟩
      have t2 : t ≤ n := by
        have := Int.mul_le_mul_of_nonneg_right (show (1 : Int) ≤ t by omega) (show 0 ≤ t by omega)
        omega
      refine ⟨by omega, ?_⟩
      refine ite2 (fun hd => ?_) (fun hd => ?_)
      · exact k t (.inr ⟨I1, hl, hd, I2⟩)
      · refine ⟨rfl, t + 1, by omega, rfl, ⟨by omega, fun d a b => ?_⟩, by omega⟩
        by_cases e : d = t
        · rw [e]; exact hd
        · exact I2 d a (by omega)
    · refine k n (.inl ⟨rfl, fun d a b => I2 d a ?_⟩)
      refine Classical.byContradiction fun hc => hl ?_
      have := sq_mono (show 0 ≤ t by omega) (show t ≤ d by omega)
      omega
abbrev O_least_part (P : Program) (w : World) (K : PySem.W.Frag) (mg : Str → Option Value) (base : Heap) : Prop := ∃ f fd, Df_least_part K mg f fd ∧ FnOk P w K mg base CX0 1 f fd ["number", "start"] (spLeast)
abbrev s_is_prime : Stmt := top 14
theorem sc_is_prime : FnScope ["number"] ["number"] (defScope s_is_prime) := ⟨rfl, rfl, rfl, by decide +kernel, rfl, by decide +kernel, by decide +kernel⟩
abbrev Df_is_prime (K : PySem.W.Frag) (mg : Str → Option Value) (f : Addr) (fd : FuncData) : Prop := Def K mg "is_prime" s_is_prime ["number"] f fd
def spIsPrime : Sp := fun vs H Q _ => ∃ (n : Int), vs = [.int n] ∧ (0 ≤ n ∧ n ≤ 10 ^ 9) ∧ Q (.bl (isPrB n)) H
theorem lp_prime {n r : Int} (hn : 1 < n) (h : LpEnd n 2 r) : r = n ↔ IsPr n := by
  constructor
  · intro e
    rcases h with ⟨_, h⟩ | ⟨h1, h2, h3, h4⟩
    · exact ⟨by omega, h⟩
    · subst e
      have := Int.mul_le_mul_of_nonneg_right (show (2 : Int) ≤ r by omega) (show 0 ≤ r by omega)
      omega
  · intro hp
    rcases h with ⟨h, _⟩ | ⟨h1, h2, h3, h4⟩
    · exact h
    · exact absurd h3 (hp.2 r h1 h2)
theorem ok_is_prime (D : Df_is_prime K mg f fd) (T : Txt K mg t1 t2 t3) (o1 : O_want_between P w K mg base) (o2 : O_least_part P w K mg base) : FnOk P w K mg base CX0 5 f fd ["number"] spIsPrime := by
  obtain ⟨_, _, D_want_between, G_want_between⟩ := o1
  obtain ⟨_, _, D_least_part, G_least_part⟩ := o2
  refine D.fn.ok sc_is_prime (fun vs H Q E h => ?_) (fun cdv A outer s H vs Q E hr h => ?_)
  · obtain ⟨n, rfl, _⟩ := h
    rfl
  · obtain ⟨n, rfl, hb, k⟩ := h
    refine ⟨_, (pss_cons (ps_expr (pe_call (G_want_between.mono (by decide)) hr rfl D_want_between.mgx D_want_between.fn.kp D_want_between.bd .nil pass0 (pa_cons (pv 0) (pa_cons pe_int (pa_cons (pe_glob (v := .int _) rfl T.mg_MOST_TRIED ⟨_, rfl⟩) (pa_cons pe_str pa_nil))))))
 (pss_one (ps_ret (pe_and (pe_cmpR op_gt (pv 0) pe_int (nomark _)) (pe_one (pe_cmpR op_eq (pe_call (G_least_part.mono (by decide)) hr rfl D_least_part.mgx D_least_part.fn.kp D_least_part.bd .nil pass0 (pa_cons (pv 0) (pa_cons pe_int pa_nil))) (pv 0) (nomark _))))))), ?_⟩
    have e0 : L2.start ["number"] [.int n] = [some (.int n)] := rfl
    rw [e0]; clear e0
    simp only [tSeq, tIfS, tTest, tRet, tRetN, tNext, tDrop, tAsg, tPar, tPar3, tAug, tVar, tC, tOp, tUn, rI, rI0, rU, tB, tAnd, tOr, tNot, tAndV, tOrV, tNotV, tIf, gName, gNil, gCons, gTup, gSub, tCB, tCons, tNil, tCall, tChain, ipI, tIsN, tNotN, tBM, tyV, tTup, tLst, rAppend, rCat, scal_ii, scal_bb, scal_ss, scal_ni, scal_in, rEq, rNe, List.getElem?_cons_zero, List.getElem?_cons_succ, List.set_cons_zero, List.set_cons_succ, eq_self, and_assoc, Option.some.injEq, V.int.injEq, V.bl.injEq, V.ref.injEq, V.str.injEq, List.cons.injEq, exists_eq_left', exists_eq_left, exists_and_left, List.nil_append, List.cons_append, List.append_nil, true_and, and_true, decide_eq_true_eq, Bool.not_eq_true', decide_eq_false_iff_not, if_true, if_false, Bool.not_true, Bool.not_false, Bool.false_eq_true, reduceCtorEq, decide_true, decide_false, ite_true, ite_false, rSetL, rIxL, tRaise, jCons, jNil, tFmt, tDNew, rCount, rIndex, Int.reduceToNat, Int.reducePow]
    refine ⟨n, 0, _, _, rfl, ⟨by omega, by omega⟩, ?_⟩
    refine ite2 (fun hl => ?_) (fun hl => ?_)
    · refine ⟨n, 2, rfl, ⟨by omega, by omega, by omega, by omega⟩, fun r hr => ?_⟩
      simp only [tSeq, tIfS, tTest, tRet, tRetN, tNext, tDrop, tAsg, tPar, tPar3, tAug, tVar, tC, tOp, tUn, rI, rI0, rU, tB, tAnd, tOr, tNot, tAndV, tOrV, tNotV, tIf, gName, gNil, gCons, gTup, gSub, tCB, tCons, tNil, tCall, tChain, ipI, tIsN, tNotN, tBM, tyV, tTup, tLst, rAppend, rCat, scal_ii, scal_bb, scal_ss, scal_ni, scal_in, rEq, rNe, List.getElem?_cons_zero, List.getElem?_cons_succ, List.set_cons_zero, List.set_cons_succ, eq_self, and_assoc, Option.some.injEq, V.int.injEq, V.bl.injEq, V.ref.injEq, V.str.injEq, List.cons.injEq, exists_eq_left', exists_eq_left, exists_and_left, List.nil_append, List.cons_append, List.append_nil, true_and, and_true, decide_eq_true_eq, Bool.not_eq_true', decide_eq_false_iff_not, if_true, if_false, Bool.not_true, Bool.not_false, Bool.false_eq_true, reduceCtorEq, decide_true, decide_false, ite_true, ite_false, rSetL, rIxL, tRaise, jCons, jNil, tFmt, tDNew, rCount, rIndex, Int.reduceToNat, Int.reducePow]
      have e := lp_prime hl hr
      by_cases hp : IsPr n
      · rw [isPrB_of hp] at k
        rw [decide_eq_true (e.mpr hp)]
        exact k
      · rw [isPrB_not hp] at k
        rw [decide_eq_false (fun z => hp (e.mp z))]
        exact k
    · have e : ¬ IsPr n := fun h => by have := h.1; omega
      rw [isPrB_not e] at k
      exact k
abbrev O_is_prime (P : Program) (w : World) (K : PySem.W.Frag) (mg : Str → Option Value) (base : Heap) : Prop := ∃ f fd, Df_is_prime K mg f fd ∧ FnOk P w K mg base CX0 5 f fd ["number"] (spIsPrime)
abbrev s_want_prime : Stmt := top 15
theorem sc_want_prime : FnScope ["thing", "name"] ["thing", "name"] (defScope s_want_prime) := ⟨rfl, rfl, rfl, by decide +kernel, rfl, by decide +kernel, by decide +kernel⟩
abbrev Df_want_prime (K : PySem.W.Frag) (mg : Str → Option Value) (f : Addr) (fd : FuncData) : Prop := Def K mg "want_prime" s_want_prime ["thing", "name"] f fd
def spWantP : Sp := fun vs H Q _ => ∃ (p : Int) (nm : Str), vs = [.int p, .str nm] ∧ (IsPr p ∧ p ≤ 10 ^ 9) ∧ Q .non H
theorem ok_want_prime (D : Df_want_prime K mg f fd) (T : Txt K mg t1 t2 t3) (o1 : O_want_tried P w K mg base) (o2 : O_is_prime P w K mg base) : FnOk P w K mg base CX0 6 f fd ["thing", "name"] spWantP := by
  obtain ⟨_, _, D_want_tried, G_want_tried⟩ := o1
  obtain ⟨_, _, D_is_prime, G_is_prime⟩ := o2
  refine D.fn.ok sc_want_prime (fun vs H Q E h => ?_) (fun cdv A outer s H vs Q E hr h => ?_)
  · obtain ⟨p, nm, rfl, _⟩ := h
    rfl
  · obtain ⟨p, nm, rfl, ⟨hp, hb⟩, k⟩ := h
    have p2 := hp.1
    refine ⟨_, (pss_cons (ps_expr (pe_call (G_want_tried.mono (by decide)) hr rfl D_want_tried.mgx D_want_tried.fn.kp D_want_tried.bd .nil pass0 (pa_cons (pv 0) (pa_cons (pv 1) pa_nil))))
 (pss_one (ps_if (pt_not (pt_val (pe_call (G_is_prime.mono (by decide)) hr rfl D_is_prime.mgx D_is_prime.fn.kp D_is_prime.bd .nil pass0 (pa_cons (pv 0) pa_nil))))
 (pss_one ps_never)
 pss_nil))), ?_⟩
    have e0 : L2.start ["thing", "name"] [.int p, .str nm] = [some (.int p), some (.str nm)] := rfl
    rw [e0]; clear e0
    simp only [tSeq, tIfS, tTest, tRet, tRetN, tNext, tDrop, tAsg, tPar, tPar3, tAug, tVar, tC, tOp, tUn, rI, rI0, rU, tB, tAnd, tOr, tNot, tAndV, tOrV, tNotV, tIf, gName, gNil, gCons, gTup, gSub, tCB, tCons, tNil, tCall, tChain, ipI, tIsN, tNotN, tBM, tyV, tTup, tLst, rAppend, rCat, scal_ii, scal_bb, scal_ss, scal_ni, scal_in, rEq, rNe, List.getElem?_cons_zero, List.getElem?_cons_succ, List.set_cons_zero, List.set_cons_succ, eq_self, and_assoc, Option.some.injEq, V.int.injEq, V.bl.injEq, V.ref.injEq, V.str.injEq, List.cons.injEq, exists_eq_left', exists_eq_left, exists_and_left, List.nil_append, List.cons_append, List.append_nil, true_and, and_true, decide_eq_true_eq, Bool.not_eq_true', decide_eq_false_iff_not, if_true, if_false, Bool.not_true, Bool.not_false, Bool.false_eq_true, reduceCtorEq, decide_true, decide_false, ite_true, ite_false, rSetL, rIxL, tRaise, jCons, jNil, tFmt, tDNew, rCount, rIndex, Int.reduceToNat, Int.reducePow]
    refine ⟨p, _, rfl, ⟨by omega, by omega⟩, p, rfl, ⟨by omega, by omega⟩, ?_⟩
    rw [isPrB_of hp]
    simp only [tSeq, tIfS, tTest, tRet, tRetN, tNext, tDrop, tAsg, tPar, tPar3, tAug, tVar, tC, tOp, tUn, rI, rI0, rU, tB, tAnd, tOr, tNot, tAndV, tOrV, tNotV, tIf, gName, gNil, gCons, gTup, gSub, tCB, tCons, tNil, tCall, tChain, ipI, tIsN, tNotN, tBM, tyV, tTup, tLst, rAppend, rCat, scal_ii, scal_bb, scal_ss, scal_ni, scal_in, rEq, rNe, List.getElem?_cons_zero, List.getElem?_cons_succ, List.set_cons_zero, List.set_cons_succ, eq_self, and_assoc, Option.some.injEq, V.int.injEq, V.bl.injEq, V.ref.injEq, V.str.injEq, List.cons.injEq, exists_eq_left', exists_eq_left, exists_and_left, List.nil_append, List.cons_append, List.append_nil, true_and, and_true, decide_eq_true_eq, Bool.not_eq_true', decide_eq_false_iff_not, if_true, if_false, Bool.not_true, Bool.not_false, Bool.false_eq_true, reduceCtorEq, decide_true, decide_false, ite_true, ite_false, rSetL, rIxL, tRaise, jCons, jNil, tFmt, tDNew, rCount, rIndex, Int.reduceToNat, Int.reducePow]
    exact k
abbrev O_want_prime (P : Program) (w : World) (K : PySem.W.Frag) (mg : Str → Option Value) (base : Heap) : Prop := ∃ f fd, Df_want_prime K mg f fd ∧ FnOk P w K mg base CX0 6 f fd ["thing", "name"] (spWantP)
abbrev s_want_odd : Stmt := top 10
theorem sc_want_odd : FnScope ["thing", "least", "most", "name"] ["thing", "least", "most", "name"] (defScope s_want_odd) := ⟨rfl, rfl, rfl, by decide +kernel, rfl, by decide +kernel, by decide +kernel⟩
abbrev Df_want_odd (K : PySem.W.Frag) (mg : Str → Option Value) (f : Addr) (fd : FuncData) : Prop := Def K mg "want_odd" s_want_odd ["thing", "least", "most", "name"] f fd
def spWantO : Sp := fun vs H Q _ => ∃ (i lo hi : Int) (nm : Str), vs = [.int i, .int lo, .int hi, .str nm] ∧ (lo ≤ i ∧ i ≤ hi ∧ i % 2 = 1) ∧ Q .non H
theorem ok_want_odd (D : Df_want_odd K mg f fd) (T : Txt K mg t1 t2 t3) {f1 fd1 f2 fd2} (D_is_whole : Df_is_whole K mg f1 fd1) (D_is_between : Df_is_between K mg f2 fd2) : FnOk P w K mg base CX0 3 f fd ["thing", "least", "most", "name"] spWantO := by
  have G_is_between : FnOk P w K mg base CX0 2 _ _ _ _ := ok_is_between D_is_between T D_is_whole
  refine D.fn.ok sc_want_odd (fun vs H Q E h => ?_) (fun cdv A outer s H vs Q E hr h => ?_)
  · obtain ⟨i, lo, hi, nm, rfl, _⟩ := h
    rfl
  · obtain ⟨i, lo, hi, nm, rfl, ⟨h1, h2, h3⟩, k⟩ := h
    refine ⟨_, (pss_one (ps_if (PW.pt (pw_or (pt_not (pt_val (pe_call (G_is_between.mono (by decide)) hr rfl D_is_between.mgx D_is_between.fn.kp D_is_between.bd .nil pass0 (pa_cons (pv 0) (pa_cons (pv 1) (pa_cons (pv 2) pa_nil)))))) (pw_or1 (pt_cmpR op_eq (pe_op op_mod (pv 0) pe_int) pe_int (nomark _)))))
 (pss_one ps_never)
 pss_nil)), ?_⟩
    have e0 : L2.start ["thing", "least", "most", "name"] [.int i, .int lo, .int hi, .str nm] = [some (.int i), some (.int lo), some (.int hi), some (.str nm)] := rfl
    rw [e0]; clear e0
    simp only [tSeq, tIfS, tTest, tRet, tRetN, tNext, tDrop, tAsg, tPar, tPar3, tAug, tVar, tC, tOp, tUn, rI, rI0, rU, tB, tAnd, tOr, tNot, tAndV, tOrV, tNotV, tIf, gName, gNil, gCons, gTup, gSub, tCB, tCons, tNil, tCall, tChain, ipI, tIsN, tNotN, tBM, tyV, tTup, tLst, rAppend, rCat, scal_ii, scal_bb, scal_ss, scal_ni, scal_in, rEq, rNe, List.getElem?_cons_zero, List.getElem?_cons_succ, List.set_cons_zero, List.set_cons_succ, eq_self, and_assoc, Option.some.injEq, V.int.injEq, V.bl.injEq, V.ref.injEq, V.str.injEq, List.cons.injEq, exists_eq_left', exists_eq_left, exists_and_left, List.nil_append, List.cons_append, List.append_nil, true_and, and_true, decide_eq_true_eq, Bool.not_eq_true', decide_eq_false_iff_not, if_true, if_false, Bool.not_true, Bool.not_false, Bool.false_eq_true, reduceCtorEq, decide_true, decide_false, ite_true, ite_false, rSetL, rIxL, tRaise, jCons, jNil, tFmt, tDNew, rCount, rIndex, Int.reduceToNat, Int.reducePow]
    refine ⟨.int i, "int", lo, hi, rfl, .int _, _, rfl, ?_⟩
    have e : isBet (.int i) lo hi = true := by simp [isBet, h1, h2]
    rw [e, if_neg (by decide)]
    refine ⟨by decide, ?_⟩
    rw [if_neg (by omega)]
    exact k
abbrev O_want_odd (P : Program) (w : World) (K : PySem.W.Frag) (mg : Str → Option Value) (base : Heap) : Prop := ∃ f fd, Df_want_odd K mg f fd ∧ FnOk P w K mg base CX0 3 f fd ["thing", "least", "most", "name"] (spWantO)
abbrev s_want_odd_prime : Stmt := top 16
theorem sc_want_odd_prime : FnScope ["thing", "name"] ["thing", "name"] (defScope s_want_odd_prime) := ⟨rfl, rfl, rfl, by decide +kernel, rfl, by decide +kernel, by decide +kernel⟩
abbrev Df_want_odd_prime (K : PySem.W.Frag) (mg : Str → Option Value) (f : Addr) (fd : FuncData) : Prop := Def K mg "want_odd_prime" s_want_odd_prime ["thing", "name"] f fd
theorem ok_want_odd_prime (D : Df_want_odd_prime K mg f fd) (T : Txt K mg t1 t2 t3) (o1 : O_want_prime P w K mg base) : FnOk P w K mg base CX0 7 f fd ["thing", "name"] (fun vs H Q _ => ∃ (p : Int) (nm : Str), vs = [.int p, .str nm] ∧ (IsPr p ∧ 3 ≤ p ∧ p ≤ 10 ^ 9) ∧ Q .non H) := by
  obtain ⟨_, _, D_want_prime, G_want_prime⟩ := o1
  refine D.fn.ok sc_want_odd_prime (fun vs H Q E h => ?_) (fun cdv A outer s H vs Q E hr h => ?_)
  · obtain ⟨p, nm, rfl, _⟩ := h
    rfl
  · obtain ⟨p, nm, rfl, ⟨hp, h3, h9⟩, k⟩ := h
    refine ⟨_, (pss_cons (ps_expr (pe_call (G_want_prime.mono (by decide)) hr rfl D_want_prime.mgx D_want_prime.fn.kp D_want_prime.bd .nil pass0 (pa_cons (pv 0) (pa_cons (pv 1) pa_nil))))
 (pss_one (ps_if (pt_cmpR op_eq (pv 0) pe_int (nomark _))
 (pss_one ps_never)
 pss_nil))), ?_⟩
    have e0 : L2.start ["thing", "name"] [.int p, .str nm] = [some (.int p), some (.str nm)] := rfl
    rw [e0]; clear e0
    simp only [tSeq, tIfS, tTest, tRet, tRetN, tNext, tDrop, tAsg, tPar, tPar3, tAug, tVar, tC, tOp, tUn, rI, rI0, rU, tB, tAnd, tOr, tNot, tAndV, tOrV, tNotV, tIf, gName, gNil, gCons, gTup, gSub, tCB, tCons, tNil, tCall, tChain, ipI, tIsN, tNotN, tBM, tyV, tTup, tLst, rAppend, rCat, scal_ii, scal_bb, scal_ss, scal_ni, scal_in, rEq, rNe, List.getElem?_cons_zero, List.getElem?_cons_succ, List.set_cons_zero, List.set_cons_succ, eq_self, and_assoc, Option.some.injEq, V.int.injEq, V.bl.injEq, V.ref.injEq, V.str.injEq, List.cons.injEq, exists_eq_left', exists_eq_left, exists_and_left, List.nil_append, List.cons_append, List.append_nil, true_and, and_true, decide_eq_true_eq, Bool.not_eq_true', decide_eq_false_iff_not, if_true, if_false, Bool.not_true, Bool.not_false, Bool.false_eq_true, reduceCtorEq, decide_true, decide_false, ite_true, ite_false, rSetL, rIxL, tRaise, jCons, jNil, tFmt, tDNew, rCount, rIndex, Int.reduceToNat, Int.reducePow]
    refine ⟨p, _, rfl, ⟨hp, h9⟩, ?_⟩
    dsimp only
    rw [if_neg (by omega)]
    exact k
def spWantOP : Sp := fun vs H Q _ => ∃ (p : Int) (nm : Str), vs = [.int p, .str nm] ∧ (IsPr p ∧ 3 ≤ p ∧ p ≤ 10 ^ 9) ∧ Q .non H
abbrev O_want_odd_prime (P : Program) (w : World) (K : PySem.W.Frag) (mg : Str → Option Value) (base : Heap) : Prop := ∃ f fd, Df_want_odd_prime K mg f fd ∧ FnOk P w K mg base CX0 7 f fd ["thing", "name"] (spWantOP)
abbrev s_want_look : Stmt := top 25
theorem sc_want_look : FnScope ["n", "base"] ["n", "base"] (defScope s_want_look) := ⟨rfl, rfl, rfl, by decide +kernel, rfl, by decide +kernel, by decide +kernel⟩
abbrev Df_want_look (K : PySem.W.Frag) (mg : Str → Option Value) (f : Addr) (fd : FuncData) : Prop := Def K mg "want_look" s_want_look ["n", "base"] f fd
def spLook : Sp := fun vs H Q _ => ∃ (n b : Int), vs = [.int n, .int b] ∧ (3 ≤ n ∧ n ≤ 10 ^ 30 ∧ n % 2 = 1 ∧ 1 ≤ b ∧ b ≤ n - 1) ∧ Q .non H
theorem ok_want_look (D : Df_want_look K mg f fd) (T : Txt K mg t1 t2 t3) (o1 : O_want_odd P w K mg base) (o2 : O_want_between P w K mg base) : FnOk P w K mg base CX0 4 f fd ["n", "base"] spLook := by
  obtain ⟨_, _, D_want_odd, G_want_odd⟩ := o1
  obtain ⟨_, _, D_want_between, G_want_between⟩ := o2
  refine D.fn.ok sc_want_look (fun vs H Q E h => ?_) (fun cdv A outer s H vs Q E hr h => ?_)
  · obtain ⟨n, b, rfl, _⟩ := h
    rfl
  · obtain ⟨n, b, rfl, ⟨h1, h2, h3, h4, h5⟩, k⟩ := h
    refine ⟨_, (pss_cons (ps_expr (pe_call (G_want_odd.mono (by decide)) hr rfl D_want_odd.mgx D_want_odd.fn.kp D_want_odd.bd .nil pass0 (pa_cons (pv 0) (pa_cons pe_int (pa_cons (pe_glob (v := .int _) rfl T.mg_MOST ⟨_, rfl⟩) (pa_cons pe_str pa_nil))))))
 (pss_one (ps_expr (pe_call (G_want_between.mono (by decide)) hr rfl D_want_between.mgx D_want_between.fn.kp D_want_between.bd .nil pass0 (pa_cons (pv 1) (pa_cons pe_int (pa_cons (pe_op op_sub (pv 0) pe_int) (pa_cons pe_str pa_nil)))))))), ?_⟩
    have e0 : L2.start ["n", "base"] [.int n, .int b] = [some (.int n), some (.int b)] := rfl
    rw [e0]; clear e0
    simp only [tSeq, tIfS, tTest, tRet, tRetN, tNext, tDrop, tAsg, tPar, tPar3, tAug, tVar, tC, tOp, tUn, rI, rI0, rU, tB, tAnd, tOr, tNot, tAndV, tOrV, tNotV, tIf, gName, gNil, gCons, gTup, gSub, tCB, tCons, tNil, tCall, tChain, ipI, tIsN, tNotN, tBM, tyV, tTup, tLst, rAppend, rCat, scal_ii, scal_bb, scal_ss, scal_ni, scal_in, rEq, rNe, List.getElem?_cons_zero, List.getElem?_cons_succ, List.set_cons_zero, List.set_cons_succ, eq_self, and_assoc, Option.some.injEq, V.int.injEq, V.bl.injEq, V.ref.injEq, V.str.injEq, List.cons.injEq, exists_eq_left', exists_eq_left, exists_and_left, List.nil_append, List.cons_append, List.append_nil, true_and, and_true, decide_eq_true_eq, Bool.not_eq_true', decide_eq_false_iff_not, if_true, if_false, Bool.not_true, Bool.not_false, Bool.false_eq_true, reduceCtorEq, decide_true, decide_false, ite_true, ite_false, rSetL, rIxL, tRaise, jCons, jNil, tFmt, tDNew, rCount, rIndex, Int.reduceToNat, Int.reducePow]
    exact ⟨n, 3, _, _, rfl, ⟨h1, by omega, h3⟩, b, 1, _, _, rfl, ⟨h4, h5⟩, k⟩
abbrev O_want_look (P : Program) (w : World) (K : PySem.W.Frag) (mg : Str → Option Value) (base : Heap) : Prop := ∃ f fd, Df_want_look K mg f fd ∧ FnOk P w K mg base CX0 4 f fd ["n", "base"] (spLook)
abbrev s_by_powers : Stmt := top 23
theorem sc_by_powers : FnScope ["n", "base"] ["n", "base"] (defScope s_by_powers) := ⟨rfl, rfl, rfl, by decide +kernel, rfl, by decide +kernel, by decide +kernel⟩
abbrev Df_by_powers (K : PySem.W.Frag) (mg : Str → Option Value) (f : Addr) (fd : FuncData) : Prop := Def K mg "by_powers" s_by_powers ["n", "base"] f fd
theorem ok_by_powers (D : Df_by_powers K mg f fd) (T : Txt K mg t1 t2 t3) (o1 : O_want_look P w K mg base) (o3 : O_power_rest P w K mg base) : FnOk P w K mg base CX0 5 f fd ["n", "base"] (fun vs H Q _ => ∃ (n b : Int), vs = [.int n, .int b] ∧ (3 ≤ n ∧ n ≤ 10 ^ 30 ∧ n % 2 = 1 ∧ 1 ≤ b ∧ b ≤ n - 1) ∧ Q (.bl (powL n b)) H) := by
  obtain ⟨_, _, D_want_look, G_want_look⟩ := o1
  obtain ⟨_, _, D_power_rest, G_power_rest⟩ := o3
  refine D.fn.ok sc_by_powers (fun vs H Q E h => ?_) (fun cdv A outer s H vs Q E hr h => ?_)
  · obtain ⟨n, b, rfl, _⟩ := h
    rfl
  · obtain ⟨n, b, rfl, hb, k⟩ := h
    refine ⟨_, (pss_cons (ps_expr (pe_call (G_want_look.mono (by decide)) hr rfl D_want_look.mgx D_want_look.fn.kp D_want_look.bd .nil pass0 (pa_cons (pv 0) (pa_cons (pv 1) pa_nil))))
 (pss_one (ps_ret (pe_cmpR op_eq (pe_call (G_power_rest.mono (by decide)) hr rfl D_power_rest.mgx D_power_rest.fn.kp D_power_rest.bd .nil pass0 (pa_cons (pv 1) (pa_cons (pe_op op_sub (pv 0) pe_int) (pa_cons (pv 0) pa_nil)))) pe_int (nomark _))))), ?_⟩
    have e0 : L2.start ["n", "base"] [.int n, .int b] = [some (.int n), some (.int b)] := rfl
    rw [e0]; clear e0
    simp only [tSeq, tIfS, tTest, tRet, tRetN, tNext, tDrop, tAsg, tPar, tPar3, tAug, tVar, tC, tOp, tUn, rI, rI0, rU, tB, tAnd, tOr, tNot, tAndV, tOrV, tNotV, tIf, gName, gNil, gCons, gTup, gSub, tCB, tCons, tNil, tCall, tChain, ipI, tIsN, tNotN, tBM, tyV, tTup, tLst, rAppend, rCat, scal_ii, scal_bb, scal_ss, scal_ni, scal_in, rEq, rNe, List.getElem?_cons_zero, List.getElem?_cons_succ, List.set_cons_zero, List.set_cons_succ, eq_self, and_assoc, Option.some.injEq, V.int.injEq, V.bl.injEq, V.ref.injEq, V.str.injEq, List.cons.injEq, exists_eq_left', exists_eq_left, exists_and_left, List.nil_append, List.cons_append, List.append_nil, true_and, and_true, decide_eq_true_eq, Bool.not_eq_true', decide_eq_false_iff_not, if_true, if_false, Bool.not_true, Bool.not_false, Bool.false_eq_true, reduceCtorEq, decide_true, decide_false, ite_true, ite_false, rSetL, rIxL, tRaise, jCons, jNil, tFmt, tDNew, rCount, rIndex, Int.reduceToNat, Int.reducePow]
    refine ⟨n, b, rfl, hb, b, _, n, rfl, ⟨by omega, by omega, by omega, by omega⟩, ?_⟩
    simp only [tSeq, tIfS, tTest, tRet, tRetN, tNext, tDrop, tAsg, tPar, tPar3, tAug, tVar, tC, tOp, tUn, rI, rI0, rU, tB, tAnd, tOr, tNot, tAndV, tOrV, tNotV, tIf, gName, gNil, gCons, gTup, gSub, tCB, tCons, tNil, tCall, tChain, ipI, tIsN, tNotN, tBM, tyV, tTup, tLst, rAppend, rCat, scal_ii, scal_bb, scal_ss, scal_ni, scal_in, rEq, rNe, List.getElem?_cons_zero, List.getElem?_cons_succ, List.set_cons_zero, List.set_cons_succ, eq_self, and_assoc, Option.some.injEq, V.int.injEq, V.bl.injEq, V.ref.injEq, V.str.injEq, List.cons.injEq, exists_eq_left', exists_eq_left, exists_and_left, List.nil_append, List.cons_append, List.append_nil, true_and, and_true, decide_eq_true_eq, Bool.not_eq_true', decide_eq_false_iff_not, if_true, if_false, Bool.not_true, Bool.not_false, Bool.false_eq_true, reduceCtorEq, decide_true, decide_false, ite_true, ite_false, rSetL, rIxL, tRaise, jCons, jNil, tFmt, tDNew, rCount, rIndex, Int.reduceToNat, Int.reducePow]
    exact k
def spByP : Sp := fun vs H Q _ => ∃ (n b : Int), vs = [.int n, .int b] ∧ (3 ≤ n ∧ n ≤ 10 ^ 30 ∧ n % 2 = 1 ∧ 1 ≤ b ∧ b ≤ n - 1) ∧ Q (.bl (powL n b)) H
abbrev O_by_powers (P : Program) (w : World) (K : PySem.W.Frag) (mg : Str → Option Value) (base : Heap) : Prop := ∃ f fd, Df_by_powers K mg f fd ∧ FnOk P w K mg base CX0 5 f fd ["n", "base"] (spByP)
abbrev s_halved : Stmt := top 27
theorem sc_halved : FnScope ["number", "odd", "often"] ["number"] (defScope s_halved) := ⟨rfl, rfl, rfl, by decide +kernel, rfl, by decide +kernel, by decide +kernel⟩
abbrev Df_halved (K : PySem.W.Frag) (mg : Str → Option Value) (f : Addr) (fd : FuncData) : Prop := Def K mg "halved" s_halved ["number"] f fd
def spHalved : Sp := fun vs H Q _ => ∃ (m : Int), vs = [.int m] ∧ 0 < m ∧ ∀ p, H p = none → Q (.ref p) (upd H p (.tup [.int (op m), .int (tw m)]))
theorem ok_halved (D : Df_halved K mg f fd) (T : Txt K mg t1 t2 t3) : FnOk P w K mg base CX0 1 f fd ["number"] spHalved := by
  refine D.fn.ok sc_halved (fun vs H Q E h => ?_) (fun cdv A outer s H vs Q E hr h => ?_)
  · obtain ⟨m, rfl, _⟩ := h
    rfl
  · obtain ⟨m, rfl, hm, k⟩ := h
    refine ⟨_, (pss_cons (ps_set (i := 1) sc_halved.nd rfl (by first | exact Or.inl rfl | exact Or.inr rfl) (pv 0))
 (pss_cons (ps_set (i := 2) sc_halved.nd rfl (by first | exact Or.inl rfl | exact Or.inr rfl) pe_int)
 (pss_cons (ps_while PassesOwn.never (pt_cmpR op_eq (pe_op op_mod (pv 1) pe_int) pe_int (nomark _))
 (pss_cons (ps_set (i := 1) sc_halved.nd rfl (by first | exact Or.inl rfl | exact Or.inr rfl) (pe_op op_fdivB (pv 1) pe_int))
 (pss_one (ps_aug (i := 2) sc_halved.nd rfl (Or.inl rfl) pe_int ip_add))))
 (pss_one (ps_ret (pe_tup (pa_cons (pv 1) (pa_cons (pv 2) pa_nil)))))))), ?_⟩
    have e0 : L2.start ["number", "odd", "often"] [.int m] = [some (.int m), none, none] := rfl
    rw [e0]; clear e0
    simp only [tSeq, tIfS, tTest, tRet, tRetN, tNext, tDrop, tAsg, tPar, tPar3, tAug, tVar, tC, tOp, tUn, rI, rI0, rU, tB, tAnd, tOr, tNot, tAndV, tOrV, tNotV, tIf, gName, gNil, gCons, gTup, gSub, tCB, tCons, tNil, tCall, tChain, ipI, tIsN, tNotN, tBM, tyV, tTup, tLst, rAppend, rCat, scal_ii, scal_bb, scal_ss, scal_ni, scal_in, rEq, rNe, List.getElem?_cons_zero, List.getElem?_cons_succ, List.set_cons_zero, List.set_cons_succ, eq_self, and_assoc, Option.some.injEq, V.int.injEq, V.bl.injEq, V.ref.injEq, V.str.injEq, List.cons.injEq, exists_eq_left', exists_eq_left, exists_and_left, List.nil_append, List.cons_append, List.append_nil, true_and, and_true, decide_eq_true_eq, Bool.not_eq_true', decide_eq_false_iff_not, if_true, if_false, Bool.not_true, Bool.not_false, Bool.false_eq_true, reduceCtorEq, decide_true, decide_false, ite_true, ite_false, rSetL, rIxL, tRaise, jCons, jNil, tFmt, tDNew, rCount, rIndex, Int.reduceToNat, Int.reducePow]
    obtain ⟨W, hW⟩ : ∃ W : Nat → St → Hp → Prop, ∀ j σ H', W j σ H' ↔ ∃ o s, j = o.toNat ∧ σ = [some (.int m), some (.int o), some (.int s)] ∧ HvInv m o s ∧ H' = H := ⟨_, fun _ _ _ => Iff.rfl⟩
    refine ⟨W, ⟨_, (hW _ _ _).mpr ⟨_, _, rfl, rfl, hv_start hm, rfl⟩⟩, ?_⟩
    intro j σ H' hw
    obtain ⟨o, s', rfl, rfl, I, rfl⟩ := (hW _ _ _).mp hw
    clear hw
    have o0 := I.o0
    simp only [tSeq, tIfS, tTest, tRet, tRetN, tNext, tDrop, tAsg, tPar, tPar3, tAug, tVar, tC, tOp, tUn, rI, rI0, rU, tB, tAnd, tOr, tNot, tAndV, tOrV, tNotV, tIf, gName, gNil, gCons, gTup, gSub, tCB, tCons, tNil, tCall, tChain, ipI, tIsN, tNotN, tBM, tyV, tTup, tLst, rAppend, rCat, scal_ii, scal_bb, scal_ss, scal_ni, scal_in, rEq, rNe, List.getElem?_cons_zero, List.getElem?_cons_succ, List.set_cons_zero, List.set_cons_succ, eq_self, and_assoc, Option.some.injEq, V.int.injEq, V.bl.injEq, V.ref.injEq, V.str.injEq, List.cons.injEq, exists_eq_left', exists_eq_left, exists_and_left, List.nil_append, List.cons_append, List.append_nil, true_and, and_true, decide_eq_true_eq, Bool.not_eq_true', decide_eq_false_iff_not, if_true, if_false, Bool.not_true, Bool.not_false, Bool.false_eq_true, reduceCtorEq, decide_true, decide_false, ite_true, ite_false, rSetL, rIxL, tRaise, jCons, jNil, tFmt, tDNew, rCount, rIndex, Int.reduceToNat, Int.reducePow]
    refine ⟨by decide, ?_⟩
    refine ite2 (fun he => ?_) (fun he => ?_)
    · refine ⟨fun σ' H2 => ∃ m', m' < o.toNat ∧ W m' σ' H2, fun _ _ h => h, ?_⟩
      exact ⟨⟨by decide, by decide⟩, _, by omega, (hW _ _ _).mpr ⟨_, _, rfl, rfl, hv_turn I he, rfl⟩⟩
    · obtain ⟨e1, e2⟩ := hv_end I he
      refine ⟨by show 2 ≤ sizeLine; decide, fun p hp => ?_⟩
      rw [e1, e2]
      exact k p hp
abbrev O_halved (P : Program) (w : World) (K : PySem.W.Frag) (mg : Str → Option Value) (base : Heap) : Prop := ∃ f fd, Df_halved K mg f fd ∧ FnOk P w K mg base CX0 1 f fd ["number"] (spHalved)
abbrev s_lets_by_halves : Stmt := top 26
theorem sc_lets_by_halves : FnScope ["n", "base", "odd", "often", "power", "step"] ["n", "base"] (defScope s_lets_by_halves) := ⟨rfl, rfl, rfl, by decide +kernel, rfl, by decide +kernel, by decide +kernel⟩
abbrev Df_lets_by_halves (K : PySem.W.Frag) (mg : Str → Option Value) (f : Addr) (fd : FuncData) : Prop := Def K mg "lets_by_halves" s_lets_by_halves ["n", "base"] f fd
def spLets : Sp := fun vs H Q _ => ∃ (n b : Int), vs = [.int n, .int b] ∧ (3 ≤ n ∧ n ≤ 10 ^ 30 ∧ b.natAbs < 10 ^ 100) ∧ ∀ H', Same H H' → Q (.bl (halvB n b)) H'
theorem ok_lets_by_halves (D : Df_lets_by_halves K mg f fd) (T : Txt K mg t1 t2 t3) (o1 : O_halved P w K mg base) (o2 : O_power_rest P w K mg base) : FnOk P w K mg base CX0 2 f fd ["n", "base"] spLets := by
  obtain ⟨_, _, D_halved, G_halved⟩ := o1
  obtain ⟨_, _, D_power_rest, G_power_rest⟩ := o2
  refine D.fn.ok sc_lets_by_halves (fun vs H Q E h => ?_) (fun cdv A outer s H vs Q E hr h => ?_)
  · obtain ⟨n, b, rfl, _⟩ := h
    rfl
  · obtain ⟨n, b, rfl, ⟨n3, n4, hb⟩, k⟩ := h
    refine ⟨_, (pss_cons (ps_asg (pe_call (G_halved.mono (by decide)) hr rfl D_halved.mgx D_halved.fn.kp D_halved.bd .nil pass0 (pa_cons (pe_op op_sub (pv 0) pe_int) pa_nil)) (pg_tup rfl (pgs_cons (pg_name (i := 2) sc_lets_by_halves.nd rfl (by first | exact Or.inl rfl | exact Or.inr rfl)) (pgs_cons (pg_name (i := 3) sc_lets_by_halves.nd rfl (by first | exact Or.inl rfl | exact Or.inr rfl)) pgs_nil))))
 (pss_cons (ps_set (i := 4) sc_lets_by_halves.nd rfl (by first | exact Or.inl rfl | exact Or.inr rfl) (pe_call (G_power_rest.mono (by decide)) hr rfl D_power_rest.mgx D_power_rest.fn.kp D_power_rest.bd .nil pass0 (pa_cons (pv 1) (pa_cons (pv 2) (pa_cons (pv 0) pa_nil)))))
 (pss_cons (ps_if (pt_cmpR op_eq (pv 4) pe_int (nomark _))
 (pss_one (ps_ret pe_bl))
 pss_nil)
 (pss_cons (ps_for PassesOwn.never rfl (pi_range1 rfl T.no_range (pa_cons (pv 3) pa_nil)) (pg_name (i := 5) sc_lets_by_halves.nd rfl (by first | exact Or.inl rfl | exact Or.inr rfl))
 (pss_cons (ps_if (pt_cmpR op_eq (pv 4) (pe_op op_sub (pv 0) pe_int) (nomark _))
 (pss_one (ps_ret pe_bl))
 pss_nil)
 (pss_one (ps_set (i := 4) sc_lets_by_halves.nd rfl (by first | exact Or.inl rfl | exact Or.inr rfl) (pe_op op_mod (pe_op op_mulB (pv 4) (pv 4)) (pv 0))))))
 (pss_one (ps_ret pe_bl)))))), ?_⟩
    have e0 : L2.start ["n", "base", "odd", "often", "power", "step"] [.int n, .int b] = [some (.int n), some (.int b), none, none, none, none] := rfl
    rw [e0]; clear e0
    simp only [tSeq, tIfS, tTest, tRet, tRetN, tNext, tDrop, tAsg, tPar, tPar3, tAug, tVar, tC, tOp, tUn, rI, rI0, rU, tB, tAnd, tOr, tNot, tAndV, tOrV, tNotV, tIf, gName, gNil, gCons, gTup, gSub, tCB, tCons, tNil, tCall, tChain, ipI, tIsN, tNotN, tBM, tyV, tTup, tLst, rAppend, rCat, scal_ii, scal_bb, scal_ss, scal_ni, scal_in, rEq, rNe, List.getElem?_cons_zero, List.getElem?_cons_succ, List.set_cons_zero, List.set_cons_succ, eq_self, and_assoc, Option.some.injEq, V.int.injEq, V.bl.injEq, V.ref.injEq, V.str.injEq, List.cons.injEq, exists_eq_left', exists_eq_left, exists_and_left, List.nil_append, List.cons_append, List.append_nil, true_and, and_true, decide_eq_true_eq, Bool.not_eq_true', decide_eq_false_iff_not, if_true, if_false, Bool.not_true, Bool.not_false, Bool.false_eq_true, reduceCtorEq, decide_true, decide_false, ite_true, ite_false, rSetL, rIxL, tRaise, jCons, jNil, tFmt, tDNew, rCount, rIndex, Int.reduceToNat, Int.reducePow]
    have opp := op_pos (m := n - 1) (by omega) _ (Nat.le_refl _)
    have twl : tw (n - 1) ≤ 100 := tw_le 100 (by have : (10 : Int) ^ 30 ≤ 2 ^ 100 := by decide
                                                 omega)
    refine ⟨n - 1, rfl, by omega, fun p hp => ?_⟩
    simp only [tSeq, tIfS, tTest, tRet, tRetN, tNext, tDrop, tAsg, tPar, tPar3, tAug, tVar, tC, tOp, tUn, rI, rI0, rU, tB, tAnd, tOr, tNot, tAndV, tOrV, tNotV, tIf, gName, gNil, gCons, gTup, gSub, tCB, tCons, tNil, tCall, tChain, ipI, tIsN, tNotN, tBM, tyV, tTup, tLst, rAppend, rCat, scal_ii, scal_bb, scal_ss, scal_ni, scal_in, rEq, rNe, List.getElem?_cons_zero, List.getElem?_cons_succ, List.set_cons_zero, List.set_cons_succ, eq_self, and_assoc, Option.some.injEq, V.int.injEq, V.bl.injEq, V.ref.injEq, V.str.injEq, List.cons.injEq, exists_eq_left', exists_eq_left, exists_and_left, List.nil_append, List.cons_append, List.append_nil, true_and, and_true, decide_eq_true_eq, Bool.not_eq_true', decide_eq_false_iff_not, if_true, if_false, Bool.not_true, Bool.not_false, Bool.false_eq_true, reduceCtorEq, decide_true, decide_false, ite_true, ite_false, rSetL, rIxL, tRaise, jCons, jNil, tFmt, tDNew, rCount, rIndex, Int.reduceToNat, Int.reducePow]
    refine ⟨_, SqT.of upd_same, rfl, ?_⟩
    have s1 : Same H (upd H p (.tup [.int (op (n - 1)), .int (tw (n - 1))])) := fun b o e => by rw [upd_ne (ne_of_none e hp)]; exact e
    generalize upd H p (.tup [.int (op (n - 1)), .int (tw (n - 1))]) = H1 at s1 ⊢
    simp only [tSeq, tIfS, tTest, tRet, tRetN, tNext, tDrop, tAsg, tPar, tPar3, tAug, tVar, tC, tOp, tUn, rI, rI0, rU, tB, tAnd, tOr, tNot, tAndV, tOrV, tNotV, tIf, gName, gNil, gCons, gTup, gSub, tCB, tCons, tNil, tCall, tChain, ipI, tIsN, tNotN, tBM, tyV, tTup, tLst, rAppend, rCat, scal_ii, scal_bb, scal_ss, scal_ni, scal_in, rEq, rNe, List.getElem?_cons_zero, List.getElem?_cons_succ, List.set_cons_zero, List.set_cons_succ, eq_self, and_assoc, Option.some.injEq, V.int.injEq, V.bl.injEq, V.ref.injEq, V.str.injEq, List.cons.injEq, exists_eq_left', exists_eq_left, exists_and_left, List.nil_append, List.cons_append, List.append_nil, true_and, and_true, decide_eq_true_eq, Bool.not_eq_true', decide_eq_false_iff_not, if_true, if_false, Bool.not_true, Bool.not_false, Bool.false_eq_true, reduceCtorEq, decide_true, decide_false, ite_true, ite_false, rSetL, rIxL, tRaise, jCons, jNil, tFmt, tDNew, rCount, rIndex, Int.reduceToNat, Int.reducePow]
    refine ⟨b, _, n, rfl, ⟨hb, by omega, by omega, by omega⟩, ?_⟩
    simp only [tSeq, tIfS, tTest, tRet, tRetN, tNext, tDrop, tAsg, tPar, tPar3, tAug, tVar, tC, tOp, tUn, rI, rI0, rU, tB, tAnd, tOr, tNot, tAndV, tOrV, tNotV, tIf, gName, gNil, gCons, gTup, gSub, tCB, tCons, tNil, tCall, tChain, ipI, tIsN, tNotN, tBM, tyV, tTup, tLst, rAppend, rCat, scal_ii, scal_bb, scal_ss, scal_ni, scal_in, rEq, rNe, List.getElem?_cons_zero, List.getElem?_cons_succ, List.set_cons_zero, List.set_cons_succ, eq_self, and_assoc, Option.some.injEq, V.int.injEq, V.bl.injEq, V.ref.injEq, V.str.injEq, List.cons.injEq, exists_eq_left', exists_eq_left, exists_and_left, List.nil_append, List.cons_append, List.append_nil, true_and, and_true, decide_eq_true_eq, Bool.not_eq_true', decide_eq_false_iff_not, if_true, if_false, Bool.not_true, Bool.not_false, Bool.false_eq_true, reduceCtorEq, decide_true, decide_false, ite_true, ite_false, rSetL, rIxL, tRaise, jCons, jNil, tFmt, tDNew, rCount, rIndex, Int.reduceToNat, Int.reducePow]
    have kk := k H1 s1
    unfold halvB at kk
    have p0 := Int.emod_nonneg (b ^ (op (n - 1)).toNat) (show n ≠ 0 by omega)
    have p1 := Int.emod_lt_of_pos (b ^ (op (n - 1)).toNat) (show 0 < n by omega)
    generalize b ^ (op (n - 1)).toNat % n = p at kk p0 p1 ⊢
    refine ite2 (fun h1 => ?_) (fun h1 => ?_)
    · rw [decide_eq_true h1] at kk
      exact kk
    · rw [decide_eq_false h1, Bool.false_or] at kk
      generalize tw (n - 1) = s' at kk twl ⊢
      refine ⟨_, rfl, _, rfl, by omega, by omega, for_range (n := s') (fun j σ H' => H' = H1 ∧ j ≤ s' ∧ ∃ q v, σ = [some (.int n), some (.int b), some (.int (op (n - 1))), some (.int s'), some (.int q), v] ∧ 0 ≤ q ∧ q < n ∧ hvs n (s' - j) q = hvs n s' p) ⟨rfl, Nat.zero_le _, p, none, rfl, p0, p1, rfl⟩ ?_ ?_⟩
      · rintro j σ H' hj ⟨rfl, _, q, v, rfl, q0, q1, hq⟩
        simp only [tSeq, tIfS, tTest, tRet, tRetN, tNext, tDrop, tAsg, tPar, tPar3, tAug, tVar, tC, tOp, tUn, rI, rI0, rU, tB, tAnd, tOr, tNot, tAndV, tOrV, tNotV, tIf, gName, gNil, gCons, gTup, gSub, tCB, tCons, tNil, tCall, tChain, ipI, tIsN, tNotN, tBM, tyV, tTup, tLst, rAppend, rCat, scal_ii, scal_bb, scal_ss, scal_ni, scal_in, rEq, rNe, List.getElem?_cons_zero, List.getElem?_cons_succ, List.set_cons_zero, List.set_cons_succ, eq_self, and_assoc, Option.some.injEq, V.int.injEq, V.bl.injEq, V.ref.injEq, V.str.injEq, List.cons.injEq, exists_eq_left', exists_eq_left, exists_and_left, List.nil_append, List.cons_append, List.append_nil, true_and, and_true, decide_eq_true_eq, Bool.not_eq_true', decide_eq_false_iff_not, if_true, if_false, Bool.not_true, Bool.not_false, Bool.false_eq_true, reduceCtorEq, decide_true, decide_false, ite_true, ite_false, rSetL, rIxL, tRaise, jCons, jNil, tFmt, tDNew, rCount, rIndex, Int.reduceToNat, Int.reducePow]
        have es : s' - j = (s' - (j + 1)) + 1 := by omega
        rw [es] at hq
        refine ite2 (fun h2 => ?_) (fun h2 => ?_)
        · have e : hvs n (s' - (j + 1) + 1) q = true := by
            show (decide (q = n - 1) || _) = true
            rw [decide_eq_true h2]; rfl
          rw [← hq, e] at kk
          exact kk
        · refine ⟨.inr ⟨by omega, by omega⟩, by omega, ?_⟩
          have e : hvs n (s' - (j + 1)) (q * q % n) = hvs n s' p := by
            rw [← hq]
            show _ = (decide (q = n - 1) || _)
            rw [decide_eq_false h2]; rfl
          exact ⟨by omega, Int.emod_nonneg _ (by omega), Int.emod_lt_of_pos _ (by omega), e⟩
      · rintro σ H' ⟨rfl, _, q, v, rfl, q0, q1, hq⟩
        simp only [tSeq, tIfS, tTest, tRet, tRetN, tNext, tDrop, tAsg, tPar, tPar3, tAug, tVar, tC, tOp, tUn, rI, rI0, rU, tB, tAnd, tOr, tNot, tAndV, tOrV, tNotV, tIf, gName, gNil, gCons, gTup, gSub, tCB, tCons, tNil, tCall, tChain, ipI, tIsN, tNotN, tBM, tyV, tTup, tLst, rAppend, rCat, scal_ii, scal_bb, scal_ss, scal_ni, scal_in, rEq, rNe, List.getElem?_cons_zero, List.getElem?_cons_succ, List.set_cons_zero, List.set_cons_succ, eq_self, and_assoc, Option.some.injEq, V.int.injEq, V.bl.injEq, V.ref.injEq, V.str.injEq, List.cons.injEq, exists_eq_left', exists_eq_left, exists_and_left, List.nil_append, List.cons_append, List.append_nil, true_and, and_true, decide_eq_true_eq, Bool.not_eq_true', decide_eq_false_iff_not, if_true, if_false, Bool.not_true, Bool.not_false, Bool.false_eq_true, reduceCtorEq, decide_true, decide_false, ite_true, ite_false, rSetL, rIxL, tRaise, jCons, jNil, tFmt, tDNew, rCount, rIndex, Int.reduceToNat, Int.reducePow]
        rw [Nat.sub_self] at hq
        rw [← hq] at kk
        exact kk
abbrev O_lets_by_halves (P : Program) (w : World) (K : PySem.W.Frag) (mg : Str → Option Value) (base : Heap) : Prop := ∃ f fd, Df_lets_by_halves K mg f fd ∧ FnOk P w K mg base CX0 2 f fd ["n", "base"] (spLets)
abbrev s_by_halves : Stmt := top 24
theorem sc_by_halves : FnScope ["n", "base"] ["n", "base"] (defScope s_by_halves) := ⟨rfl, rfl, rfl, by decide +kernel, rfl, by decide +kernel, by decide +kernel⟩
abbrev Df_by_halves (K : PySem.W.Frag) (mg : Str → Option Value) (f : Addr) (fd : FuncData) : Prop := Def K mg "by_halves" s_by_halves ["n", "base"] f fd
def spByH : Sp := fun vs H Q _ => ∃ (n b : Int), vs = [.int n, .int b] ∧ (3 ≤ n ∧ n ≤ 10 ^ 30 ∧ n % 2 = 1 ∧ 1 ≤ b ∧ b ≤ n - 1) ∧ ∀ H', Same H H' → Q (.bl (halvB n b)) H'
theorem ok_by_halves (D : Df_by_halves K mg f fd) (T : Txt K mg t1 t2 t3) (o1 : O_want_look P w K mg base) (o3 : O_lets_by_halves P w K mg base) : FnOk P w K mg base CX0 5 f fd ["n", "base"] spByH := by
  obtain ⟨_, _, D_want_look, G_want_look⟩ := o1
  obtain ⟨_, _, D_lets_by_halves, G_lets_by_halves⟩ := o3
  refine D.fn.ok sc_by_halves (fun vs H Q E h => ?_) (fun cdv A outer s H vs Q E hr h => ?_)
  · obtain ⟨n, b, rfl, _⟩ := h
    rfl
  · obtain ⟨n, b, rfl, hb, k⟩ := h
    refine ⟨_, (pss_cons (ps_expr (pe_call (G_want_look.mono (by decide)) hr rfl D_want_look.mgx D_want_look.fn.kp D_want_look.bd .nil pass0 (pa_cons (pv 0) (pa_cons (pv 1) pa_nil))))
 (pss_one (ps_ret (pe_call (G_lets_by_halves.mono (by decide)) hr rfl D_lets_by_halves.mgx D_lets_by_halves.fn.kp D_lets_by_halves.bd .nil pass0 (pa_cons (pv 0) (pa_cons (pv 1) pa_nil)))))), ?_⟩
    have e0 : L2.start ["n", "base"] [.int n, .int b] = [some (.int n), some (.int b)] := rfl
    rw [e0]; clear e0
    simp only [tSeq, tIfS, tTest, tRet, tRetN, tNext, tDrop, tAsg, tPar, tPar3, tAug, tVar, tC, tOp, tUn, rI, rI0, rU, tB, tAnd, tOr, tNot, tAndV, tOrV, tNotV, tIf, gName, gNil, gCons, gTup, gSub, tCB, tCons, tNil, tCall, tChain, ipI, tIsN, tNotN, tBM, tyV, tTup, tLst, rAppend, rCat, scal_ii, scal_bb, scal_ss, scal_ni, scal_in, rEq, rNe, List.getElem?_cons_zero, List.getElem?_cons_succ, List.set_cons_zero, List.set_cons_succ, eq_self, and_assoc, Option.some.injEq, V.int.injEq, V.bl.injEq, V.ref.injEq, V.str.injEq, List.cons.injEq, exists_eq_left', exists_eq_left, exists_and_left, List.nil_append, List.cons_append, List.append_nil, true_and, and_true, decide_eq_true_eq, Bool.not_eq_true', decide_eq_false_iff_not, if_true, if_false, Bool.not_true, Bool.not_false, Bool.false_eq_true, reduceCtorEq, decide_true, decide_false, ite_true, ite_false, rSetL, rIxL, tRaise, jCons, jNil, tFmt, tDNew, rCount, rIndex, Int.reduceToNat, Int.reducePow]
    exact ⟨n, b, rfl, hb, n, b, rfl, ⟨by omega, by omega, by omega⟩, k⟩
abbrev O_by_halves (P : Program) (w : World) (K : PySem.W.Frag) (mg : Str → Option Value) (base : Heap) : Prop := ∃ f fd, Df_by_halves K mg f fd ∧ FnOk P w K mg base CX0 5 f fd ["n", "base"] (spByH)
end
end PP
set_option Elab.async false
set_option linter.all false
set_option maxRecDepth 100000
set_option maxHeartbeats 4000000
namespace PP
open PySem L2 MM
section
variable {P : Program} {w : World} {K : PySem.W.Frag} {mg : Str → Option Value} {base : Heap} {t1 t2 t3 : Tok} {f : Addr} {fd : FuncData}
abbrev s_sign_by : Stmt := top 37
theorem sc_sign_by : FnScope ["number", "n", "top", "bottom", "found"] ["number", "n"] (defScope s_sign_by) := ⟨rfl, rfl, rfl, by decide +kernel, rfl, by decide +kernel, by decide +kernel⟩
abbrev Df_sign_by (K : PySem.W.Frag) (mg : Str → Option Value) (f : Addr) (fd : FuncData) : Prop := Def K mg "sign_by" s_sign_by ["number", "n"] f fd
def spSign : Sp := fun vs H Q _ => ∃ (a n : Int), vs = [.int a, .int n] ∧ (0 < n ∧ n ≤ 10 ^ 40 ∧ n % 2 = 1) ∧ Q (.int (J (a % n) n)) H
theorem ok_sign_by (D : Df_sign_by K mg f fd) (T : Txt K mg t1 t2 t3) : FnOk P w K mg base CX0 1 f fd ["number", "n"] spSign := by
  refine D.fn.ok sc_sign_by (fun vs H Q E h => ?_) (fun cdv A outer s H vs Q E hr h => ?_)
  · obtain ⟨a, n, rfl, _⟩ := h
    rfl
  · obtain ⟨a, n, rfl, ⟨hn, hn2, ho⟩, k⟩ := h
    refine ⟨_, (pss_cons (ps_set (i := 2) sc_sign_by.nd rfl (by first | exact Or.inl rfl | exact Or.inr rfl) (pe_op op_mod (pv 0) (pv 1)))
 (pss_cons (ps_set (i := 3) sc_sign_by.nd rfl (by first | exact Or.inl rfl | exact Or.inr rfl) (pv 1))
 (pss_cons (ps_set (i := 4) sc_sign_by.nd rfl (by first | exact Or.inl rfl | exact Or.inr rfl) pe_int)
 (pss_cons (ps_while PassesOwn.never (pt_cmpR op_gt (pv 2) pe_int (nomark _))
 (pss_cons (ps_while PassesOwn.never (pt_cmpR op_eq (pe_op op_mod (pv 2) pe_int) pe_int (nomark _))
 (pss_cons (ps_set (i := 2) sc_sign_by.nd rfl (by first | exact Or.inl rfl | exact Or.inr rfl) (pe_op op_fdivB (pv 2) pe_int))
 (pss_one (ps_if (PW.pt (pw_or (pt_cmpR op_eq (pe_op op_mod (pv 3) pe_int) pe_int (nomark _)) (pw_or1 (pt_cmpR op_eq (pe_op op_mod (pv 3) pe_int) pe_int (nomark _)))))
 (pss_one (ps_set (i := 4) sc_sign_by.nd rfl (by first | exact Or.inl rfl | exact Or.inr rfl) (pe_un un_neg (pv 4))))
 pss_nil))))
 (pss_cons (ps_if (PW.pt (pw_and (pt_cmpR op_eq (pe_op op_mod (pv 2) pe_int) pe_int (nomark _)) (pw_and1 (pt_cmpR op_eq (pe_op op_mod (pv 3) pe_int) pe_int (nomark _)))))
 (pss_one (ps_set (i := 4) sc_sign_by.nd rfl (by first | exact Or.inl rfl | exact Or.inr rfl) (pe_un un_neg (pv 4))))
 pss_nil)
 (pss_one (ps_par (i := 2) (j := 3) rfl sc_sign_by.nd rfl rfl (by decide) rfl rfl (pa_cons (pe_op op_mod (pv 3) (pv 2)) (pa_cons (pv 2) pa_nil)) (by first | rfl | with_unfolding_all rfl))))))
 (pss_one (ps_ret (pe_ifExp (pt_cmpR op_eq (pv 3) pe_int (nomark _)) (pv 4) pe_int))))))), ?_⟩
    have e0 : L2.start ["number", "n", "top", "bottom", "found"] [.int a, .int n] = [some (.int a), some (.int n), none, none, none] := rfl
    rw [e0]; clear e0
    simp only [tSeq, tIfS, tTest, tRet, tRetN, tNext, tDrop, tAsg, tPar, tPar3, tAug, tVar, tC, tOp, tUn, rI, rI0, rU, tB, tAnd, tOr, tNot, tAndV, tOrV, tNotV, tIf, gName, gNil, gCons, gTup, gSub, tCB, tCons, tNil, tCall, tChain, ipI, tIsN, tNotN, tBM, tyV, tTup, tLst, rAppend, rCat, scal_ii, scal_bb, scal_ss, scal_ni, scal_in, rEq, rNe, List.getElem?_cons_zero, List.getElem?_cons_succ, List.set_cons_zero, List.set_cons_succ, eq_self, and_assoc, Option.some.injEq, V.int.injEq, V.bl.injEq, V.ref.injEq, V.str.injEq, List.cons.injEq, exists_eq_left', exists_eq_left, exists_and_left, List.nil_append, List.cons_append, List.append_nil, true_and, and_true, decide_eq_true_eq, Bool.not_eq_true', decide_eq_false_iff_not, if_true, if_false, Bool.not_true, Bool.not_false, Bool.false_eq_true, reduceCtorEq, decide_true, decide_false, ite_true, ite_false, rSetL, rIxL, tRaise, jCons, jNil, tFmt, tDNew, rCount, rIndex, Int.reduceToNat, Int.reducePow]
    refine ⟨hn, ?_⟩
    obtain ⟨W, hW⟩ : ∃ W : Nat → St → Hp → Prop, ∀ m σ H', W m σ H' ↔ ∃ t b g, m = t.toNat ∧ σ = [some (.int a), some (.int n), some (.int t), some (.int b), some (.int g)] ∧ SgInv (J (a % n) n) t b g ∧ H' = H := ⟨_, fun _ _ _ => Iff.rfl⟩
    refine ⟨W, ⟨_, (hW _ _ _).mpr ⟨_, _, _, rfl, rfl, sg_start hn ho, rfl⟩⟩, ?_⟩
    intro m σ H' hw
    obtain ⟨t, b, g, rfl, rfl, I, rfl⟩ := (hW _ _ _).mp hw
    clear hw
    simp only [tSeq, tIfS, tTest, tRet, tRetN, tNext, tDrop, tAsg, tPar, tPar3, tAug, tVar, tC, tOp, tUn, rI, rI0, rU, tB, tAnd, tOr, tNot, tAndV, tOrV, tNotV, tIf, gName, gNil, gCons, gTup, gSub, tCB, tCons, tNil, tCall, tChain, ipI, tIsN, tNotN, tBM, tyV, tTup, tLst, rAppend, rCat, scal_ii, scal_bb, scal_ss, scal_ni, scal_in, rEq, rNe, List.getElem?_cons_zero, List.getElem?_cons_succ, List.set_cons_zero, List.set_cons_succ, eq_self, and_assoc, Option.some.injEq, V.int.injEq, V.bl.injEq, V.ref.injEq, V.str.injEq, List.cons.injEq, exists_eq_left', exists_eq_left, exists_and_left, List.nil_append, List.cons_append, List.append_nil, true_and, and_true, decide_eq_true_eq, Bool.not_eq_true', decide_eq_false_iff_not, if_true, if_false, Bool.not_true, Bool.not_false, Bool.false_eq_true, reduceCtorEq, decide_true, decide_false, ite_true, ite_false, rSetL, rIxL, tRaise, jCons, jNil, tFmt, tDNew, rCount, rIndex, Int.reduceToNat, Int.reducePow]
    refine ite2 (fun hl => ?_) (fun hl => ?_)
    · refine ⟨fun σ' H2 => ∃ m', m' < t.toNat ∧ W m' σ' H2, fun _ _ h => h, ?_⟩
      obtain ⟨W2, hW2⟩ : ∃ W : Nat → St → Hp → Prop, ∀ m σ H2, W m σ H2 ↔ ∃ t' g', m = t'.toNat ∧ σ = [some (.int a), some (.int n), some (.int t'), some (.int b), some (.int g')] ∧ (SgInv (J (a % n) n) t' b g' ∧ 0 < t' ∧ t' ≤ t) ∧ H2 = H' := ⟨_, fun _ _ _ => Iff.rfl⟩
      refine ⟨W2, ⟨_, (hW2 _ _ _).mpr ⟨t, g, rfl, rfl, ⟨I, hl, Int.le_refl _⟩, rfl⟩⟩, ?_⟩
      intro m2 σ2 H2 hw2
      obtain ⟨t', g', rfl, rfl, ⟨J1, t0, tt⟩, rfl⟩ := (hW2 _ _ _).mp hw2
      clear hw2
      simp only [tSeq, tIfS, tTest, tRet, tRetN, tNext, tDrop, tAsg, tPar, tPar3, tAug, tVar, tC, tOp, tUn, rI, rI0, rU, tB, tAnd, tOr, tNot, tAndV, tOrV, tNotV, tIf, gName, gNil, gCons, gTup, gSub, tCB, tCons, tNil, tCall, tChain, ipI, tIsN, tNotN, tBM, tyV, tTup, tLst, rAppend, rCat, scal_ii, scal_bb, scal_ss, scal_ni, scal_in, rEq, rNe, List.getElem?_cons_zero, List.getElem?_cons_succ, List.set_cons_zero, List.set_cons_succ, eq_self, and_assoc, Option.some.injEq, V.int.injEq, V.bl.injEq, V.ref.injEq, V.str.injEq, List.cons.injEq, exists_eq_left', exists_eq_left, exists_and_left, List.nil_append, List.cons_append, List.append_nil, true_and, and_true, decide_eq_true_eq, Bool.not_eq_true', decide_eq_false_iff_not, if_true, if_false, Bool.not_true, Bool.not_false, Bool.false_eq_true, reduceCtorEq, decide_true, decide_false, ite_true, ite_false, rSetL, rIxL, tRaise, jCons, jNil, tFmt, tDNew, rCount, rIndex, Int.reduceToNat, Int.reducePow]
      refine ⟨by decide, ?_⟩
      refine ite2 (fun he => ?_) (fun he => ?_)
      · refine ⟨fun σ' H3 => ∃ m', m' < t'.toNat ∧ W2 m' σ' H3, fun _ _ h => h, ?_⟩
        have J2 := sg_half J1 t0 he
        refine ⟨⟨by decide, by decide⟩, by decide, ?_⟩
        refine ite2 (fun h3 => ?_) (fun h3 => ?_)
        · rw [if_pos (.inl h3)] at J2
          exact ⟨_, by omega, (hW2 _ _ _).mpr ⟨_, _, rfl, rfl, ⟨J2, by omega, by omega⟩, rfl⟩⟩
        · refine ⟨by decide, ?_⟩
          refine ite2 (fun h5 => ?_) (fun h5 => ?_)
          · rw [if_pos (.inr h5)] at J2
            exact ⟨_, by omega, (hW2 _ _ _).mpr ⟨_, _, rfl, rfl, ⟨J2, by omega, by omega⟩, rfl⟩⟩
          · rw [if_neg (fun h => h.elim h3 h5)] at J2
            exact ⟨_, by omega, (hW2 _ _ _).mpr ⟨_, _, rfl, rfl, ⟨J2, by omega, by omega⟩, rfl⟩⟩
      · have J2 := sg_turn J1 t0 he
        have l1 := J2.t0
        have l2 := J2.tb
        refine ⟨by decide, ?_⟩
        refine ite2 (fun h3 => ?_) (fun h3 => ?_)
        · refine ⟨by decide, ?_⟩
          refine ite2 (fun h4 => ?_) (fun h4 => ?_)
          · rw [if_pos ⟨h3, h4⟩] at J2
            exact ⟨t0, _, by omega, (hW _ _ _).mpr ⟨_, _, _, rfl, rfl, J2, rfl⟩⟩
          · rw [if_neg (fun h => h4 h.2)] at J2
            exact ⟨t0, _, by omega, (hW _ _ _).mpr ⟨_, _, _, rfl, rfl, J2, rfl⟩⟩
        · rw [if_neg (fun h => h3 h.1)] at J2
          exact ⟨t0, _, by omega, (hW _ _ _).mpr ⟨_, _, _, rfl, rfl, J2, rfl⟩⟩
    · have e := sg_end I hl
      refine ite2 (fun hb => ?_) (fun hb => ?_)
      · rw [if_pos hb] at e; rw [e]; exact k
      · rw [if_neg hb] at e; rw [e]; exact k
abbrev O_sign_by (P : Program) (w : World) (K : PySem.W.Frag) (mg : Str → Option Value) (base : Heap) : Prop := ∃ f fd, Df_sign_by K mg f fd ∧ FnOk P w K mg base CX0 1 f fd ["number", "n"] (spSign)
abbrev s_sign : Stmt := top 33
theorem sc_sign : FnScope ["number", "n"] ["number", "n"] (defScope s_sign) := ⟨rfl, rfl, rfl, by decide +kernel, rfl, by decide +kernel, by decide +kernel⟩
abbrev Df_sign (K : PySem.W.Frag) (mg : Str → Option Value) (f : Addr) (fd : FuncData) : Prop := Def K mg "sign" s_sign ["number", "n"] f fd
def spSignP : Sp := fun vs H Q _ => ∃ (a n : Int), vs = [.int a, .int n] ∧ (-(10 ^ 30) ≤ a ∧ a ≤ 10 ^ 30 ∧ 1 ≤ n ∧ n ≤ 10 ^ 30 ∧ n % 2 = 1) ∧ Q (.int (J (a % n) n)) H
theorem ok_sign (D : Df_sign K mg f fd) (T : Txt K mg t1 t2 t3) (o1 : O_want_far P w K mg base) (o2 : O_want_odd P w K mg base) (o3 : O_sign_by P w K mg base) : FnOk P w K mg base CX0 5 f fd ["number", "n"] spSignP := by
  obtain ⟨_, _, D_want_far, G_want_far⟩ := o1
  obtain ⟨_, _, D_want_odd, G_want_odd⟩ := o2
  obtain ⟨_, _, D_sign_by, G_sign_by⟩ := o3
  refine D.fn.ok sc_sign (fun vs H Q E h => ?_) (fun cdv A outer s H vs Q E hr h => ?_)
  · obtain ⟨a, n, rfl, _⟩ := h
    rfl
  · obtain ⟨a, n, rfl, ⟨h1, h2, h3, h4, h5⟩, k⟩ := h
    refine ⟨_, (pss_cons (ps_expr (pe_call (G_want_far.mono (by decide)) hr rfl D_want_far.mgx D_want_far.fn.kp D_want_far.bd .nil pass0 (pa_cons (pv 0) (pa_cons pe_str pa_nil))))
 (pss_cons (ps_expr (pe_call (G_want_odd.mono (by decide)) hr rfl D_want_odd.mgx D_want_odd.fn.kp D_want_odd.bd .nil pass0 (pa_cons (pv 1) (pa_cons pe_int (pa_cons (pe_glob (v := .int _) rfl T.mg_MOST ⟨_, rfl⟩) (pa_cons pe_str pa_nil))))))
 (pss_one (ps_ret (pe_call (G_sign_by.mono (by decide)) hr rfl D_sign_by.mgx D_sign_by.fn.kp D_sign_by.bd .nil pass0 (pa_cons (pv 0) (pa_cons (pv 1) pa_nil))))))), ?_⟩
    have e0 : L2.start ["number", "n"] [.int a, .int n] = [some (.int a), some (.int n)] := rfl
    rw [e0]; clear e0
    simp only [tSeq, tIfS, tTest, tRet, tRetN, tNext, tDrop, tAsg, tPar, tPar3, tAug, tVar, tC, tOp, tUn, rI, rI0, rU, tB, tAnd, tOr, tNot, tAndV, tOrV, tNotV, tIf, gName, gNil, gCons, gTup, gSub, tCB, tCons, tNil, tCall, tChain, ipI, tIsN, tNotN, tBM, tyV, tTup, tLst, rAppend, rCat, scal_ii, scal_bb, scal_ss, scal_ni, scal_in, rEq, rNe, List.getElem?_cons_zero, List.getElem?_cons_succ, List.set_cons_zero, List.set_cons_succ, eq_self, and_assoc, Option.some.injEq, V.int.injEq, V.bl.injEq, V.ref.injEq, V.str.injEq, List.cons.injEq, exists_eq_left', exists_eq_left, exists_and_left, List.nil_append, List.cons_append, List.append_nil, true_and, and_true, decide_eq_true_eq, Bool.not_eq_true', decide_eq_false_iff_not, if_true, if_false, Bool.not_true, Bool.not_false, Bool.false_eq_true, reduceCtorEq, decide_true, decide_false, ite_true, ite_false, rSetL, rIxL, tRaise, jCons, jNil, tFmt, tDNew, rCount, rIndex, Int.reduceToNat, Int.reducePow]
    exact ⟨a, _, rfl, ⟨h1, h2⟩, n, _, _, _, rfl, ⟨h3, by omega, h5⟩, a, n, rfl, ⟨by omega, by omega, h5⟩, k⟩
abbrev O_sign (P : Program) (w : World) (K : PySem.W.Frag) (mg : Str → Option Value) (base : Heap) : Prop := ∃ f fd, Df_sign K mg f fd ∧ FnOk P w K mg base CX0 5 f fd ["number", "n"] (spSignP)
abbrev s_by_signs : Stmt := top 34
theorem sc_by_signs : FnScope ["n", "base", "found"] ["n", "base"] (defScope s_by_signs) := ⟨rfl, rfl, rfl, by decide +kernel, rfl, by decide +kernel, by decide +kernel⟩
abbrev Df_by_signs (K : PySem.W.Frag) (mg : Str → Option Value) (f : Addr) (fd : FuncData) : Prop := Def K mg "by_signs" s_by_signs ["n", "base"] f fd
def spBySigns : Sp := fun vs H Q _ => ∃ (n b : Int), vs = [.int n, .int b] ∧ (3 ≤ n ∧ n ≤ 10 ^ 30 ∧ n % 2 = 1 ∧ 1 ≤ b ∧ b ≤ n - 1) ∧ Q (.bl (sgnL n b)) H
theorem ok_by_signs (D : Df_by_signs K mg f fd) (T : Txt K mg t1 t2 t3) (o1 : O_want_look P w K mg base) (o2 : O_sign_by P w K mg base) (o3 : O_power_rest P w K mg base) : FnOk P w K mg base CX0 5 f fd ["n", "base"] spBySigns := by
  obtain ⟨_, _, D_want_look, G_want_look⟩ := o1
  obtain ⟨_, _, D_sign_by, G_sign_by⟩ := o2
  obtain ⟨_, _, D_power_rest, G_power_rest⟩ := o3
  refine D.fn.ok sc_by_signs (fun vs H Q E h => ?_) (fun cdv A outer s H vs Q E hr h => ?_)
  · obtain ⟨n, b, rfl, _⟩ := h
    rfl
  · obtain ⟨n, b, rfl, hb, kk⟩ := h
    refine ⟨_, (pss_cons (ps_expr (pe_call (G_want_look.mono (by decide)) hr rfl D_want_look.mgx D_want_look.fn.kp D_want_look.bd .nil pass0 (pa_cons (pv 0) (pa_cons (pv 1) pa_nil))))
 (pss_cons (ps_set (i := 2) sc_by_signs.nd rfl (by first | exact Or.inl rfl | exact Or.inr rfl) (pe_call (G_sign_by.mono (by decide)) hr rfl D_sign_by.mgx D_sign_by.fn.kp D_sign_by.bd .nil pass0 (pa_cons (pv 1) (pa_cons (pv 0) pa_nil))))
 (pss_one (ps_ret (pe_and (pe_cmpR op_ne (pv 2) pe_int (nomark _)) (pe_one (pe_cmpR op_eq (pe_call (G_power_rest.mono (by decide)) hr rfl D_power_rest.mgx D_power_rest.fn.kp D_power_rest.bd .nil pass0 (pa_cons (pv 1) (pa_cons (pe_op op_fdivB (pe_op op_sub (pv 0) pe_int) pe_int) (pa_cons (pv 0) pa_nil)))) (pe_op op_mod (pv 2) (pv 0)) (nomark _)))))))), ?_⟩
    have e0 : L2.start ["n", "base", "found"] [.int n, .int b] = [some (.int n), some (.int b), none] := rfl
    rw [e0]; clear e0
    simp only [tSeq, tIfS, tTest, tRet, tRetN, tNext, tDrop, tAsg, tPar, tPar3, tAug, tVar, tC, tOp, tUn, rI, rI0, rU, tB, tAnd, tOr, tNot, tAndV, tOrV, tNotV, tIf, gName, gNil, gCons, gTup, gSub, tCB, tCons, tNil, tCall, tChain, ipI, tIsN, tNotN, tBM, tyV, tTup, tLst, rAppend, rCat, scal_ii, scal_bb, scal_ss, scal_ni, scal_in, rEq, rNe, List.getElem?_cons_zero, List.getElem?_cons_succ, List.set_cons_zero, List.set_cons_succ, eq_self, and_assoc, Option.some.injEq, V.int.injEq, V.bl.injEq, V.ref.injEq, V.str.injEq, List.cons.injEq, exists_eq_left', exists_eq_left, exists_and_left, List.nil_append, List.cons_append, List.append_nil, true_and, and_true, decide_eq_true_eq, Bool.not_eq_true', decide_eq_false_iff_not, if_true, if_false, Bool.not_true, Bool.not_false, Bool.false_eq_true, reduceCtorEq, decide_true, decide_false, ite_true, ite_false, rSetL, rIxL, tRaise, jCons, jNil, tFmt, tDNew, rCount, rIndex, Int.reduceToNat, Int.reducePow]
    refine ⟨n, b, rfl, hb, b, n, rfl, ⟨by omega, by omega, hb.2.2.1⟩, ?_⟩
    simp only [tSeq, tIfS, tTest, tRet, tRetN, tNext, tDrop, tAsg, tPar, tPar3, tAug, tVar, tC, tOp, tUn, rI, rI0, rU, tB, tAnd, tOr, tNot, tAndV, tOrV, tNotV, tIf, gName, gNil, gCons, gTup, gSub, tCB, tCons, tNil, tCall, tChain, ipI, tIsN, tNotN, tBM, tyV, tTup, tLst, rAppend, rCat, scal_ii, scal_bb, scal_ss, scal_ni, scal_in, rEq, rNe, List.getElem?_cons_zero, List.getElem?_cons_succ, List.set_cons_zero, List.set_cons_succ, eq_self, and_assoc, Option.some.injEq, V.int.injEq, V.bl.injEq, V.ref.injEq, V.str.injEq, List.cons.injEq, exists_eq_left', exists_eq_left, exists_and_left, List.nil_append, List.cons_append, List.append_nil, true_and, and_true, decide_eq_true_eq, Bool.not_eq_true', decide_eq_false_iff_not, if_true, if_false, Bool.not_true, Bool.not_false, Bool.false_eq_true, reduceCtorEq, decide_true, decide_false, ite_true, ite_false, rSetL, rIxL, tRaise, jCons, jNil, tFmt, tDNew, rCount, rIndex, Int.reduceToNat, Int.reducePow]
    unfold sgnL at kk
    by_cases hz : J (b % n) n = 0
    · rw [decide_eq_true hz] at kk
      rw [if_neg (fun h => h hz)]
      exact kk
    · rw [decide_eq_false hz] at kk
      rw [if_pos hz]
      refine ⟨⟨by decide, by decide⟩, b, _, n, rfl, ⟨by omega, by omega, by omega, by omega⟩, ?_⟩
      simp only [tSeq, tIfS, tTest, tRet, tRetN, tNext, tDrop, tAsg, tPar, tPar3, tAug, tVar, tC, tOp, tUn, rI, rI0, rU, tB, tAnd, tOr, tNot, tAndV, tOrV, tNotV, tIf, gName, gNil, gCons, gTup, gSub, tCB, tCons, tNil, tCall, tChain, ipI, tIsN, tNotN, tBM, tyV, tTup, tLst, rAppend, rCat, scal_ii, scal_bb, scal_ss, scal_ni, scal_in, rEq, rNe, List.getElem?_cons_zero, List.getElem?_cons_succ, List.set_cons_zero, List.set_cons_succ, eq_self, and_assoc, Option.some.injEq, V.int.injEq, V.bl.injEq, V.ref.injEq, V.str.injEq, List.cons.injEq, exists_eq_left', exists_eq_left, exists_and_left, List.nil_append, List.cons_append, List.append_nil, true_and, and_true, decide_eq_true_eq, Bool.not_eq_true', decide_eq_false_iff_not, if_true, if_false, Bool.not_true, Bool.not_false, Bool.false_eq_true, reduceCtorEq, decide_true, decide_false, ite_true, ite_false, rSetL, rIxL, tRaise, jCons, jNil, tFmt, tDNew, rCount, rIndex, Int.reduceToNat, Int.reducePow]
      exact ⟨by omega, kk⟩
abbrev O_by_signs (P : Program) (w : World) (K : PySem.W.Frag) (mg : Str → Option Value) (base : Heap) : Prop := ∃ f fd, Df_by_signs K mg f fd ∧ FnOk P w K mg base CX0 5 f fd ["n", "base"] (spBySigns)
abbrev s_unsquare_by : Stmt := top 38
theorem sc_unsquare_by : FnScope ["p", "number"] ["p"] (defScope s_unsquare_by) := ⟨rfl, rfl, rfl, by decide +kernel, rfl, by decide +kernel, by decide +kernel⟩
abbrev Df_unsquare_by (K : PySem.W.Frag) (mg : Str → Option Value) (f : Addr) (fd : FuncData) : Prop := Def K mg "unsquare_by" s_unsquare_by ["p"] f fd
def spUns : Sp := fun vs H Q _ => ∃ (p : Int), vs = [.int p] ∧ (IsPr p ∧ 3 ≤ p ∧ p ≤ 10 ^ 9) ∧ ∀ z, 1 ≤ z → z < p → J (z % p) p = -1 → Q (.int z) H
theorem ok_unsquare_by (D : Df_unsquare_by K mg f fd) (T : Txt K mg t1 t2 t3) (o1 : O_sign_by P w K mg base) : FnOk P w K mg base CX0 2 f fd ["p"] spUns := by
  obtain ⟨_, _, D_sign_by, G_sign_by⟩ := o1
  refine D.fn.ok sc_unsquare_by (fun vs H Q E h => ?_) (fun cdv A outer s H vs Q E hr h => ?_)
  · obtain ⟨p, rfl, _⟩ := h
    rfl
  · obtain ⟨p, rfl, ⟨hp, p3, p9⟩, k⟩ := h
    obtain ⟨z, z1, z2, hz⟩ := unsq_ex hp p3
    have ho : p % 2 = 1 := by
      obtain ⟨q, rfl⟩ := Int.eq_ofNat_of_zero_le (show 0 ≤ p by omega)
      have := pr_odd_nat (p := q) hp (by omega)
      omega
    refine ⟨_, (pss_cons (ps_set (i := 1) sc_unsquare_by.nd rfl (by first | exact Or.inl rfl | exact Or.inr rfl) pe_int)
 (pss_cons (ps_while PassesOwn.never (pt_cmpR op_ne (pe_call (G_sign_by.mono (by decide)) hr rfl D_sign_by.mgx D_sign_by.fn.kp D_sign_by.bd .nil pass0 (pa_cons (pv 1) (pa_cons (pv 0) pa_nil))) (pe_un un_neg pe_int) (nomark _))
 (pss_one (ps_aug (i := 1) sc_unsquare_by.nd rfl (Or.inl rfl) pe_int ip_add)))
 (pss_one (ps_ret (pv 1))))), ?_⟩
    have e0 : L2.start ["p", "number"] [.int p] = [some (.int p), none] := rfl
    rw [e0]; clear e0
    simp only [tSeq, tIfS, tTest, tRet, tRetN, tNext, tDrop, tAsg, tPar, tPar3, tAug, tVar, tC, tOp, tUn, rI, rI0, rU, tB, tAnd, tOr, tNot, tAndV, tOrV, tNotV, tIf, gName, gNil, gCons, gTup, gSub, tCB, tCons, tNil, tCall, tChain, ipI, tIsN, tNotN, tBM, tyV, tTup, tLst, rAppend, rCat, scal_ii, scal_bb, scal_ss, scal_ni, scal_in, rEq, rNe, List.getElem?_cons_zero, List.getElem?_cons_succ, List.set_cons_zero, List.set_cons_succ, eq_self, and_assoc, Option.some.injEq, V.int.injEq, V.bl.injEq, V.ref.injEq, V.str.injEq, List.cons.injEq, exists_eq_left', exists_eq_left, exists_and_left, List.nil_append, List.cons_append, List.append_nil, true_and, and_true, decide_eq_true_eq, Bool.not_eq_true', decide_eq_false_iff_not, if_true, if_false, Bool.not_true, Bool.not_false, Bool.false_eq_true, reduceCtorEq, decide_true, decide_false, ite_true, ite_false, rSetL, rIxL, tRaise, jCons, jNil, tFmt, tDNew, rCount, rIndex, Int.reduceToNat, Int.reducePow]
    obtain ⟨W, hW⟩ : ∃ W : Nat → St → Hp → Prop, ∀ j σ H', W j σ H' ↔ ∃ n : Int, j = (z - n).toNat ∧ σ = [some (.int p), some (.int n)] ∧ (1 ≤ n ∧ n ≤ z) ∧ H' = H := ⟨_, fun _ _ _ => Iff.rfl⟩
    refine ⟨W, ⟨_, (hW _ _ _).mpr ⟨1, rfl, rfl, ⟨Int.le_refl _, z1⟩, rfl⟩⟩, ?_⟩
    intro j σ H' hw
    obtain ⟨n, rfl, rfl, ⟨n1, n2⟩, rfl⟩ := (hW _ _ _).mp hw
    clear hw
    simp only [tSeq, tIfS, tTest, tRet, tRetN, tNext, tDrop, tAsg, tPar, tPar3, tAug, tVar, tC, tOp, tUn, rI, rI0, rU, tB, tAnd, tOr, tNot, tAndV, tOrV, tNotV, tIf, gName, gNil, gCons, gTup, gSub, tCB, tCons, tNil, tCall, tChain, ipI, tIsN, tNotN, tBM, tyV, tTup, tLst, rAppend, rCat, scal_ii, scal_bb, scal_ss, scal_ni, scal_in, rEq, rNe, List.getElem?_cons_zero, List.getElem?_cons_succ, List.set_cons_zero, List.set_cons_succ, eq_self, and_assoc, Option.some.injEq, V.int.injEq, V.bl.injEq, V.ref.injEq, V.str.injEq, List.cons.injEq, exists_eq_left', exists_eq_left, exists_and_left, List.nil_append, List.cons_append, List.append_nil, true_and, and_true, decide_eq_true_eq, Bool.not_eq_true', decide_eq_false_iff_not, if_true, if_false, Bool.not_true, Bool.not_false, Bool.false_eq_true, reduceCtorEq, decide_true, decide_false, ite_true, ite_false, rSetL, rIxL, tRaise, jCons, jNil, tFmt, tDNew, rCount, rIndex, Int.reduceToNat, Int.reducePow]
    refine ⟨n, p, rfl, ⟨by omega, by omega, ho⟩, ?_⟩
    simp only [tSeq, tIfS, tTest, tRet, tRetN, tNext, tDrop, tAsg, tPar, tPar3, tAug, tVar, tC, tOp, tUn, rI, rI0, rU, tB, tAnd, tOr, tNot, tAndV, tOrV, tNotV, tIf, gName, gNil, gCons, gTup, gSub, tCB, tCons, tNil, tCall, tChain, ipI, tIsN, tNotN, tBM, tyV, tTup, tLst, rAppend, rCat, scal_ii, scal_bb, scal_ss, scal_ni, scal_in, rEq, rNe, List.getElem?_cons_zero, List.getElem?_cons_succ, List.set_cons_zero, List.set_cons_succ, eq_self, and_assoc, Option.some.injEq, V.int.injEq, V.bl.injEq, V.ref.injEq, V.str.injEq, List.cons.injEq, exists_eq_left', exists_eq_left, exists_and_left, List.nil_append, List.cons_append, List.append_nil, true_and, and_true, decide_eq_true_eq, Bool.not_eq_true', decide_eq_false_iff_not, if_true, if_false, Bool.not_true, Bool.not_false, Bool.false_eq_true, reduceCtorEq, decide_true, decide_false, ite_true, ite_false, rSetL, rIxL, tRaise, jCons, jNil, tFmt, tDNew, rCount, rIndex, Int.reduceToNat, Int.reducePow]
    refine ite2 (fun h1 => ?_) (fun h1 => ?_)
    · refine ⟨fun σ' H2 => ∃ m', m' < (z - n).toNat ∧ W m' σ' H2, fun _ _ h => h, ?_⟩
      have ne : n ≠ z := fun e => h1 (by rw [e]; exact hz)
      exact ⟨_, by omega, (hW _ _ _).mpr ⟨_, rfl, rfl, ⟨by omega, by omega⟩, rfl⟩⟩
    · exact k n n1 (by omega) (Classical.byContradiction h1)
abbrev O_unsquare_by (P : Program) (w : World) (K : PySem.W.Frag) (mg : Str → Option Value) (base : Heap) : Prop := ∃ f fd, Df_unsquare_by K mg f fd ∧ FnOk P w K mg base CX0 2 f fd ["p"] (spUns)
abbrev s_least_unsquare : Stmt := top 35
theorem sc_least_unsquare : FnScope ["p"] ["p"] (defScope s_least_unsquare) := ⟨rfl, rfl, rfl, by decide +kernel, rfl, by decide +kernel, by decide +kernel⟩
abbrev Df_least_unsquare (K : PySem.W.Frag) (mg : Str → Option Value) (f : Addr) (fd : FuncData) : Prop := Def K mg "least_unsquare" s_least_unsquare ["p"] f fd
theorem ok_least_unsquare (D : Df_least_unsquare K mg f fd) (T : Txt K mg t1 t2 t3) (o1 : O_want_odd_prime P w K mg base) (o2 : O_unsquare_by P w K mg base) : FnOk P w K mg base CX0 8 f fd ["p"] spUns := by
  obtain ⟨_, _, D_want_odd_prime, G_want_odd_prime⟩ := o1
  obtain ⟨_, _, D_unsquare_by, G_unsquare_by⟩ := o2
  refine D.fn.ok sc_least_unsquare (fun vs H Q E h => ?_) (fun cdv A outer s H vs Q E hr h => ?_)
  · obtain ⟨p, rfl, _⟩ := h
    rfl
  · obtain ⟨p, rfl, hb, k⟩ := h
    refine ⟨_, (pss_cons (ps_expr (pe_call (G_want_odd_prime.mono (by decide)) hr rfl D_want_odd_prime.mgx D_want_odd_prime.fn.kp D_want_odd_prime.bd .nil pass0 (pa_cons (pv 0) (pa_cons pe_str pa_nil))))
 (pss_one (ps_ret (pe_call (G_unsquare_by.mono (by decide)) hr rfl D_unsquare_by.mgx D_unsquare_by.fn.kp D_unsquare_by.bd .nil pass0 (pa_cons (pv 0) pa_nil))))), ?_⟩
    have e0 : L2.start ["p"] [.int p] = [some (.int p)] := rfl
    rw [e0]; clear e0
    simp only [tSeq, tIfS, tTest, tRet, tRetN, tNext, tDrop, tAsg, tPar, tPar3, tAug, tVar, tC, tOp, tUn, rI, rI0, rU, tB, tAnd, tOr, tNot, tAndV, tOrV, tNotV, tIf, gName, gNil, gCons, gTup, gSub, tCB, tCons, tNil, tCall, tChain, ipI, tIsN, tNotN, tBM, tyV, tTup, tLst, rAppend, rCat, scal_ii, scal_bb, scal_ss, scal_ni, scal_in, rEq, rNe, List.getElem?_cons_zero, List.getElem?_cons_succ, List.set_cons_zero, List.set_cons_succ, eq_self, and_assoc, Option.some.injEq, V.int.injEq, V.bl.injEq, V.ref.injEq, V.str.injEq, List.cons.injEq, exists_eq_left', exists_eq_left, exists_and_left, List.nil_append, List.cons_append, List.append_nil, true_and, and_true, decide_eq_true_eq, Bool.not_eq_true', decide_eq_false_iff_not, if_true, if_false, Bool.not_true, Bool.not_false, Bool.false_eq_true, reduceCtorEq, decide_true, decide_false, ite_true, ite_false, rSetL, rIxL, tRaise, jCons, jNil, tFmt, tDNew, rCount, rIndex, Int.reduceToNat, Int.reducePow]
    exact ⟨p, _, rfl, hb, p, rfl, hb, k⟩
abbrev O_least_unsquare (P : Program) (w : World) (K : PySem.W.Frag) (mg : Str → Option Value) (base : Heap) : Prop := ∃ f fd, Df_least_unsquare K mg f fd ∧ FnOk P w K mg base CX0 8 f fd ["p"] (spUns)
abbrev prV (P : PZ) : List V := [.int P.1, .int P.2]
structure Sm (P : PZ) : Prop where
  a : P.1.natAbs < 10 ^ 31
  b : P.2.natAbs < 10 ^ 31
structure Fr (P : PZ) : Prop where
  a0 : -(10 ^ 30) ≤ P.1
  a1 : P.1 ≤ 10 ^ 30
  b0 : -(10 ^ 30) ≤ P.2
  b1 : P.2 ≤ 10 ^ 30
theorem Fr.sm {P : PZ} (h : Fr P) : Sm P := by
  have := h.a0; have := h.a1; have := h.b0; have := h.b1
  exact ⟨by omega, by omega⟩
theorem rst_sm {n : Int} {P : PZ} (r : Rst n P) (h : n ≤ 10 ^ 30) : Sm P := by
  have := r.a0; have := r.a1; have := r.b0; have := r.b1
  exact ⟨by omega, by omega⟩
theorem Sm.rp {n : Int} (hn : 0 < n) (h : n ≤ 10 ^ 30) (P : PZ) : Sm (rp n P) := rst_sm (Rst.of hn P) h
theorem ten100 {z : Int} (h : z.natAbs < 10 ^ 31) : z.natAbs < 10 ^ 100 := by omega
def spProd (K : PySem.W.Frag) : Sp := fun vs H Q _ => ∃ (p q : Addr) (A B : PZ) (d n : Int), vs = [.ref p, .ref q, .int d, .int n] ∧ SqT K H p (prV A) ∧ SqT K H q (prV B) ∧ (Sm A ∧ Sm B ∧ d.natAbs < 10 ^ 31 ∧ 0 < n ∧ n ≤ 10 ^ 30) ∧ ∀ r, H r = none → Q (.ref r) (upd H r (.tup (prV (rp n (pm d A B)))))
abbrev s_pair_product : Stmt := top 29
theorem sc_pair_product : FnScope ["one", "other", "d", "n", "x", "y", "z", "w"] ["one", "other", "d", "n"] (defScope s_pair_product) := ⟨rfl, rfl, rfl, by decide +kernel, rfl, by decide +kernel, by decide +kernel⟩
abbrev Df_pair_product (K : PySem.W.Frag) (mg : Str → Option Value) (f : Addr) (fd : FuncData) : Prop := Def K mg "pair_product" s_pair_product ["one", "other", "d", "n"] f fd
theorem ok_pair_product (D : Df_pair_product K mg f fd) (T : Txt K mg t1 t2 t3) : FnOk P w K mg base CX0 1 f fd ["one", "other", "d", "n"] (spProd K) := by
  refine D.fn.ok sc_pair_product (fun vs H Q E h => ?_) (fun cdv A outer s H vs Q E hr h => ?_)
  · obtain ⟨p, q, A, B, d, n, rfl, _⟩ := h
    rfl
  · obtain ⟨p, q, A, B, d, n, rfl, hp, hq, ⟨sa, sb, hd, hn, hn2⟩, k⟩ := h
    refine ⟨_, (pss_cons (ps_asg (pv 0) (pg_tup rfl (pgs_cons (pg_name (i := 4) sc_pair_product.nd rfl (by first | exact Or.inl rfl | exact Or.inr rfl)) (pgs_cons (pg_name (i := 5) sc_pair_product.nd rfl (by first | exact Or.inl rfl | exact Or.inr rfl)) pgs_nil))))
 (pss_cons (ps_asg (pv 1) (pg_tup rfl (pgs_cons (pg_name (i := 6) sc_pair_product.nd rfl (by first | exact Or.inl rfl | exact Or.inr rfl)) (pgs_cons (pg_name (i := 7) sc_pair_product.nd rfl (by first | exact Or.inl rfl | exact Or.inr rfl)) pgs_nil))))
 (pss_one (ps_ret (pe_tup (pa_cons (pe_op op_mod (pe_op op_add (pe_op op_mulB (pv 4) (pv 6)) (pe_op op_mulB (pe_op op_mulB (pv 2) (pv 5)) (pv 7))) (pv 3)) (pa_cons (pe_op op_mod (pe_op op_add (pe_op op_mulB (pv 4) (pv 7)) (pe_op op_mulB (pv 5) (pv 6))) (pv 3)) pa_nil))))))), ?_⟩
    have e0 : L2.start ["one", "other", "d", "n", "x", "y", "z", "w"] [.ref p, .ref q, .int d, .int n] = [some (.ref p), some (.ref q), some (.int d), some (.int n), none, none, none, none] := rfl
    rw [e0]; clear e0
    simp only [tSeq, tIfS, tTest, tRet, tRetN, tNext, tDrop, tAsg, tPar, tPar3, tAug, tVar, tC, tOp, tUn, rI, rI0, rU, tB, tAnd, tOr, tNot, tAndV, tOrV, tNotV, tIf, gName, gNil, gCons, gTup, gSub, tCB, tCons, tNil, tCall, tChain, ipI, tIsN, tNotN, tBM, tyV, tTup, tLst, rAppend, rCat, scal_ii, scal_bb, scal_ss, scal_ni, scal_in, rEq, rNe, List.getElem?_cons_zero, List.getElem?_cons_succ, List.set_cons_zero, List.set_cons_succ, eq_self, and_assoc, Option.some.injEq, V.int.injEq, V.bl.injEq, V.ref.injEq, V.str.injEq, List.cons.injEq, exists_eq_left', exists_eq_left, exists_and_left, List.nil_append, List.cons_append, List.append_nil, true_and, and_true, decide_eq_true_eq, Bool.not_eq_true', decide_eq_false_iff_not, if_true, if_false, Bool.not_true, Bool.not_false, Bool.false_eq_true, reduceCtorEq, decide_true, decide_false, ite_true, ite_false, rSetL, rIxL, tRaise, jCons, jNil, tFmt, tDNew, rCount, rIndex, Int.reduceToNat, Int.reducePow]
    refine ⟨_, hp, rfl, ?_⟩
    simp only [tSeq, tIfS, tTest, tRet, tRetN, tNext, tDrop, tAsg, tPar, tPar3, tAug, tVar, tC, tOp, tUn, rI, rI0, rU, tB, tAnd, tOr, tNot, tAndV, tOrV, tNotV, tIf, gName, gNil, gCons, gTup, gSub, tCB, tCons, tNil, tCall, tChain, ipI, tIsN, tNotN, tBM, tyV, tTup, tLst, rAppend, rCat, scal_ii, scal_bb, scal_ss, scal_ni, scal_in, rEq, rNe, List.getElem?_cons_zero, List.getElem?_cons_succ, List.set_cons_zero, List.set_cons_succ, eq_self, and_assoc, Option.some.injEq, V.int.injEq, V.bl.injEq, V.ref.injEq, V.str.injEq, List.cons.injEq, exists_eq_left', exists_eq_left, exists_and_left, List.nil_append, List.cons_append, List.append_nil, true_and, and_true, decide_eq_true_eq, Bool.not_eq_true', decide_eq_false_iff_not, if_true, if_false, Bool.not_true, Bool.not_false, Bool.false_eq_true, reduceCtorEq, decide_true, decide_false, ite_true, ite_false, rSetL, rIxL, tRaise, jCons, jNil, tFmt, tDNew, rCount, rIndex, Int.reduceToNat, Int.reducePow]
    refine ⟨_, hq, rfl, ?_⟩
    simp only [tSeq, tIfS, tTest, tRet, tRetN, tNext, tDrop, tAsg, tPar, tPar3, tAug, tVar, tC, tOp, tUn, rI, rI0, rU, tB, tAnd, tOr, tNot, tAndV, tOrV, tNotV, tIf, gName, gNil, gCons, gTup, gSub, tCB, tCons, tNil, tCall, tChain, ipI, tIsN, tNotN, tBM, tyV, tTup, tLst, rAppend, rCat, scal_ii, scal_bb, scal_ss, scal_ni, scal_in, rEq, rNe, List.getElem?_cons_zero, List.getElem?_cons_succ, List.set_cons_zero, List.set_cons_succ, eq_self, and_assoc, Option.some.injEq, V.int.injEq, V.bl.injEq, V.ref.injEq, V.str.injEq, List.cons.injEq, exists_eq_left', exists_eq_left, exists_and_left, List.nil_append, List.cons_append, List.append_nil, true_and, and_true, decide_eq_true_eq, Bool.not_eq_true', decide_eq_false_iff_not, if_true, if_false, Bool.not_true, Bool.not_false, Bool.false_eq_true, reduceCtorEq, decide_true, decide_false, ite_true, ite_false, rSetL, rIxL, tRaise, jCons, jNil, tFmt, tDNew, rCount, rIndex, Int.reduceToNat, Int.reducePow]
    exact ⟨.inr ⟨ten100 sa.a, ten100 sb.a⟩, .inr ⟨ten100 hd, ten100 sa.b⟩, .inr ⟨nb_mul hd sa.b (by decide), ten100 sb.b⟩, hn, .inr ⟨ten100 sa.a, ten100 sb.b⟩, .inr ⟨ten100 sa.b, ten100 sb.a⟩, hn, by show 2 ≤ sizeLine; decide, fun r hr' => k r hr'⟩
abbrev O_pair_product (P : Program) (w : World) (K : PySem.W.Frag) (mg : Str → Option Value) (base : Heap) : Prop := ∃ f fd, Df_pair_product K mg f fd ∧ FnOk P w K mg base CX0 1 f fd ["one", "other", "d", "n"] (spProd K)
abbrev s_pair_power : Stmt := top 30
theorem sc_pair_power : FnScope ["pair", "often", "d", "n", "done", "square", "left"] ["pair", "often", "d", "n"] (defScope s_pair_power) := ⟨rfl, rfl, rfl, by decide +kernel, rfl, by decide +kernel, by decide +kernel⟩
abbrev Df_pair_power (K : PySem.W.Frag) (mg : Str → Option Value) (f : Addr) (fd : FuncData) : Prop := Def K mg "pair_power" s_pair_power ["pair", "often", "d", "n"] f fd
def spPP (K : PySem.W.Frag) : Sp := fun vs H Q _ => ∃ (p : Addr) (A : PZ) (o d n : Int), vs = [.ref p, .int o, .int d, .int n] ∧ H p = some (.tup (prV A)) ∧ (Sm A ∧ 0 ≤ o ∧ o ≤ 10 ^ 30 ∧ d.natAbs < 10 ^ 31 ∧ 0 < n ∧ n ≤ 10 ^ 30) ∧ ∀ r H', Same H H' → H' r = some (.tup (prV (rp n (pw d A o.toNat)))) → Q (.ref r) H'
theorem keep {H : Hp} {p q : Addr} {o u : HO} (e : H q = some o) (hp : H p = none) : (upd H p u) q = some o := by rw [upd_ne (ne_of_none e hp)]; exact e
theorem ok_pair_power (D : Df_pair_power K mg f fd) (T : Txt K mg t1 t2 t3) (o1 : O_pair_product P w K mg base) : FnOk P w K mg base CX0 2 f fd ["pair", "often", "d", "n"] (spPP K) := by
  obtain ⟨_, _, D_pair_product, G_pair_product⟩ := o1
  refine D.fn.ok sc_pair_power (fun vs H Q E h => ?_) (fun cdv A outer s H vs Q E hr h => ?_)
  · obtain ⟨p, A, o, d, n, rfl, _⟩ := h
    rfl
  · obtain ⟨p, A, o, d, n, rfl, hp, ⟨sa, ho, ho2, hd, hn, hn2⟩, k⟩ := h
    refine ⟨_, (pss_cons (ps_set (i := 4) sc_pair_power.nd rfl (by first | exact Or.inl rfl | exact Or.inr rfl) (pe_tup (pa_cons (pe_op op_mod pe_int (pv 3)) (pa_cons pe_int pa_nil))))
 (pss_cons (ps_set (i := 5) sc_pair_power.nd rfl (by first | exact Or.inl rfl | exact Or.inr rfl) (pe_tup (pa_cons (pe_op op_mod (pe_ix ix_tup (pv 0) pe_int (fun _ _ => rfl)) (pv 3)) (pa_cons (pe_op op_mod (pe_ix ix_tup (pv 0) pe_int (fun _ _ => rfl)) (pv 3)) pa_nil))))
 (pss_cons (ps_set (i := 6) sc_pair_power.nd rfl (by first | exact Or.inl rfl | exact Or.inr rfl) (pv 1))
 (pss_cons (ps_while PassesOwn.never (pt_cmpR op_gt (pv 6) pe_int (nomark _))
 (pss_cons (ps_if (pt_cmpR op_eq (pe_op op_mod (pv 6) pe_int) pe_int (nomark _))
 (pss_one (ps_set (i := 4) sc_pair_power.nd rfl (by first | exact Or.inl rfl | exact Or.inr rfl) (pe_call (G_pair_product.mono (by decide)) hr rfl D_pair_product.mgx D_pair_product.fn.kp D_pair_product.bd .nil pass0 (pa_cons (pv 4) (pa_cons (pv 5) (pa_cons (pv 2) (pa_cons (pv 3) pa_nil)))))))
 pss_nil)
 (pss_cons (ps_set (i := 5) sc_pair_power.nd rfl (by first | exact Or.inl rfl | exact Or.inr rfl) (pe_call (G_pair_product.mono (by decide)) hr rfl D_pair_product.mgx D_pair_product.fn.kp D_pair_product.bd .nil pass0 (pa_cons (pv 5) (pa_cons (pv 5) (pa_cons (pv 2) (pa_cons (pv 3) pa_nil))))))
 (pss_one (ps_set (i := 6) sc_pair_power.nd rfl (by first | exact Or.inl rfl | exact Or.inr rfl) (pe_op op_fdivB (pv 6) pe_int))))))
 (pss_one (ps_ret (pv 4))))))), ?_⟩
    have e0 : L2.start ["pair", "often", "d", "n", "done", "square", "left"] [.ref p, .int o, .int d, .int n] = [some (.ref p), some (.int o), some (.int d), some (.int n), none, none, none] := rfl
    rw [e0]; clear e0
    simp only [tSeq, tIfS, tTest, tRet, tRetN, tNext, tDrop, tAsg, tPar, tPar3, tAug, tVar, tC, tOp, tUn, rI, rI0, rU, tB, tAnd, tOr, tNot, tAndV, tOrV, tNotV, tIf, gName, gNil, gCons, gTup, gSub, tCB, tCons, tNil, tCall, tChain, ipI, tIsN, tNotN, tBM, tyV, tTup, tLst, rAppend, rCat, scal_ii, scal_bb, scal_ss, scal_ni, scal_in, rEq, rNe, List.getElem?_cons_zero, List.getElem?_cons_succ, List.set_cons_zero, List.set_cons_succ, eq_self, and_assoc, Option.some.injEq, V.int.injEq, V.bl.injEq, V.ref.injEq, V.str.injEq, List.cons.injEq, exists_eq_left', exists_eq_left, exists_and_left, List.nil_append, List.cons_append, List.append_nil, true_and, and_true, decide_eq_true_eq, Bool.not_eq_true', decide_eq_false_iff_not, if_true, if_false, Bool.not_true, Bool.not_false, Bool.false_eq_true, reduceCtorEq, decide_true, decide_false, ite_true, ite_false, rSetL, rIxL, tRaise, jCons, jNil, tFmt, tDNew, rCount, rIndex, Int.reduceToNat, Int.reducePow, rIxT]
    refine ⟨hn, by show 2 ≤ sizeLine; decide, fun p1 hp1 => ?_⟩
    have hp2 := keep (u := .tup [V.int (1 % n), V.int 0]) hp hp1
    have s1 : Same H (upd H p1 (.tup [V.int (1 % n), V.int 0])) := fun b o e => keep e hp1
    have e1 : (upd H p1 (.tup [V.int (1 % n), V.int 0])) p1 = some (.tup (prV (1 % n, 0))) := upd_same
    generalize upd H p1 (.tup [V.int (1 % n), V.int 0]) = H1 at hp2 s1 e1 ⊢
    refine ⟨_, SqT.of hp2, _, rfl, _, rfl, hn, _, SqT.of hp2, _, rfl, _, rfl, hn, by show 2 ≤ sizeLine; decide, fun p3 hp3 => ?_⟩
    have s2 : Same H (upd H1 p3 (.tup (prV (rp n A)))) := fun b o e => keep (s1 _ _ e) hp3
    have e2 : (upd H1 p3 (.tup (prV (rp n A)))) p1 = some (.tup (prV (1 % n, 0))) := keep e1 hp3
    have e3 : (upd H1 p3 (.tup (prV (rp n A)))) p3 = some (.tup (prV (rp n A))) := upd_same
    obtain ⟨W, hW⟩ : ∃ W : Nat → St → Hp → Prop, ∀ m σ H', W m σ H' ↔ ∃ (pd ps : Addr) (D S : PZ) (l : Int), m = l.toNat ∧ σ = [some (.ref p), some (.int o), some (.int d), some (.int n), some (.ref pd), some (.ref ps), some (.int l)] ∧ Same H H' ∧ H' pd = some (.tup (prV D)) ∧ H' ps = some (.tup (prV S)) ∧ PPInv d n A o D S l := ⟨_, fun _ _ _ => Iff.rfl⟩
    refine ⟨W, ⟨_, (hW _ _ _).mpr ⟨p1, p3, (1 % n, 0), rp n A, o, rfl, rfl, s2, e2, e3, pp_start hn ho⟩⟩, ?_⟩
    intro m σ H' hw
    obtain ⟨pd, ps, D, S, l, rfl, rfl, sm, ed, es, I⟩ := (hW _ _ _).mp hw
    clear hw
    have l0 := I.l0
    simp only [tSeq, tIfS, tTest, tRet, tRetN, tNext, tDrop, tAsg, tPar, tPar3, tAug, tVar, tC, tOp, tUn, rI, rI0, rU, tB, tAnd, tOr, tNot, tAndV, tOrV, tNotV, tIf, gName, gNil, gCons, gTup, gSub, tCB, tCons, tNil, tCall, tChain, ipI, tIsN, tNotN, tBM, tyV, tTup, tLst, rAppend, rCat, scal_ii, scal_bb, scal_ss, scal_ni, scal_in, rEq, rNe, List.getElem?_cons_zero, List.getElem?_cons_succ, List.set_cons_zero, List.set_cons_succ, eq_self, and_assoc, Option.some.injEq, V.int.injEq, V.bl.injEq, V.ref.injEq, V.str.injEq, List.cons.injEq, exists_eq_left', exists_eq_left, exists_and_left, List.nil_append, List.cons_append, List.append_nil, true_and, and_true, decide_eq_true_eq, Bool.not_eq_true', decide_eq_false_iff_not, if_true, if_false, Bool.not_true, Bool.not_false, Bool.false_eq_true, reduceCtorEq, decide_true, decide_false, ite_true, ite_false, rSetL, rIxL, tRaise, jCons, jNil, tFmt, tDNew, rCount, rIndex, Int.reduceToNat, Int.reducePow]
    refine ite2 (fun hl => ?_) (fun hl => ?_)
    · refine ⟨fun σ' H2 => ∃ m', m' < l.toNat ∧ W m' σ' H2, fun _ _ h => h, ?_⟩
      have c3 : CDivB l 2 := ⟨by decide, by decide⟩
      refine ⟨by decide, ?_⟩
      refine ite2 (fun ho => ?_) (fun ho => ?_)
      · refine ⟨pd, ps, D, S, d, n, rfl, SqT.of ed, SqT.of es, ⟨rst_sm I.rd hn2, rst_sm I.rs hn2, hd, hn, hn2⟩, fun r1 hr1 => ?_⟩
        simp only [tSeq, tIfS, tTest, tRet, tRetN, tNext, tDrop, tAsg, tPar, tPar3, tAug, tVar, tC, tOp, tUn, rI, rI0, rU, tB, tAnd, tOr, tNot, tAndV, tOrV, tNotV, tIf, gName, gNil, gCons, gTup, gSub, tCB, tCons, tNil, tCall, tChain, ipI, tIsN, tNotN, tBM, tyV, tTup, tLst, rAppend, rCat, scal_ii, scal_bb, scal_ss, scal_ni, scal_in, rEq, rNe, List.getElem?_cons_zero, List.getElem?_cons_succ, List.set_cons_zero, List.set_cons_succ, eq_self, and_assoc, Option.some.injEq, V.int.injEq, V.bl.injEq, V.ref.injEq, V.str.injEq, List.cons.injEq, exists_eq_left', exists_eq_left, exists_and_left, List.nil_append, List.cons_append, List.append_nil, true_and, and_true, decide_eq_true_eq, Bool.not_eq_true', decide_eq_false_iff_not, if_true, if_false, Bool.not_true, Bool.not_false, Bool.false_eq_true, reduceCtorEq, decide_true, decide_false, ite_true, ite_false, rSetL, rIxL, tRaise, jCons, jNil, tFmt, tDNew, rCount, rIndex, Int.reduceToNat, Int.reducePow]
        have es1 := keep (u := .tup (prV (rp n (pm d D S)))) es hr1
        refine ⟨ps, ps, S, S, d, n, rfl, SqT.of es1, SqT.of es1, ⟨rst_sm I.rs hn2, rst_sm I.rs hn2, hd, hn, hn2⟩, fun r2 hr2 => ?_⟩
        simp only [tSeq, tIfS, tTest, tRet, tRetN, tNext, tDrop, tAsg, tPar, tPar3, tAug, tVar, tC, tOp, tUn, rI, rI0, rU, tB, tAnd, tOr, tNot, tAndV, tOrV, tNotV, tIf, gName, gNil, gCons, gTup, gSub, tCB, tCons, tNil, tCall, tChain, ipI, tIsN, tNotN, tBM, tyV, tTup, tLst, rAppend, rCat, scal_ii, scal_bb, scal_ss, scal_ni, scal_in, rEq, rNe, List.getElem?_cons_zero, List.getElem?_cons_succ, List.set_cons_zero, List.set_cons_succ, eq_self, and_assoc, Option.some.injEq, V.int.injEq, V.bl.injEq, V.ref.injEq, V.str.injEq, List.cons.injEq, exists_eq_left', exists_eq_left, exists_and_left, List.nil_append, List.cons_append, List.append_nil, true_and, and_true, decide_eq_true_eq, Bool.not_eq_true', decide_eq_false_iff_not, if_true, if_false, Bool.not_true, Bool.not_false, Bool.false_eq_true, reduceCtorEq, decide_true, decide_false, ite_true, ite_false, rSetL, rIxL, tRaise, jCons, jNil, tFmt, tDNew, rCount, rIndex, Int.reduceToNat, Int.reducePow]
        exact ⟨c3, _, by omega, (hW _ _ _).mpr ⟨r1, r2, _, _, l / 2, rfl, rfl, fun b o e => keep (keep (sm _ _ e) hr1) hr2, keep upd_same hr2, upd_same, pp_odd hn I ho⟩⟩
      · refine ⟨ps, ps, S, S, d, n, rfl, SqT.of es, SqT.of es, ⟨rst_sm I.rs hn2, rst_sm I.rs hn2, hd, hn, hn2⟩, fun r2 hr2 => ?_⟩
        simp only [tSeq, tIfS, tTest, tRet, tRetN, tNext, tDrop, tAsg, tPar, tPar3, tAug, tVar, tC, tOp, tUn, rI, rI0, rU, tB, tAnd, tOr, tNot, tAndV, tOrV, tNotV, tIf, gName, gNil, gCons, gTup, gSub, tCB, tCons, tNil, tCall, tChain, ipI, tIsN, tNotN, tBM, tyV, tTup, tLst, rAppend, rCat, scal_ii, scal_bb, scal_ss, scal_ni, scal_in, rEq, rNe, List.getElem?_cons_zero, List.getElem?_cons_succ, List.set_cons_zero, List.set_cons_succ, eq_self, and_assoc, Option.some.injEq, V.int.injEq, V.bl.injEq, V.ref.injEq, V.str.injEq, List.cons.injEq, exists_eq_left', exists_eq_left, exists_and_left, List.nil_append, List.cons_append, List.append_nil, true_and, and_true, decide_eq_true_eq, Bool.not_eq_true', decide_eq_false_iff_not, if_true, if_false, Bool.not_true, Bool.not_false, Bool.false_eq_true, reduceCtorEq, decide_true, decide_false, ite_true, ite_false, rSetL, rIxL, tRaise, jCons, jNil, tFmt, tDNew, rCount, rIndex, Int.reduceToNat, Int.reducePow]
        exact ⟨c3, _, by omega, (hW _ _ _).mpr ⟨pd, r2, _, _, l / 2, rfl, rfl, fun b o e => keep (sm _ _ e) hr2, keep ed hr2, upd_same, pp_even hn I ho⟩⟩
    · have e := pp_end I hl
      rw [e] at ed
      exact k _ _ sm ed
abbrev O_pair_power (P : Program) (w : World) (K : PySem.W.Frag) (mg : Str → Option Value) (base : Heap) : Prop := ∃ f fd, Df_pair_power K mg f fd ∧ FnOk P w K mg base CX0 2 f fd ["pair", "often", "d", "n"] (spPP K)
abbrev s_root_of_square : Stmt := top 39
theorem sc_root_of_square : FnScope ["square", "p", "first", "root"] ["square", "p"] (defScope s_root_of_square) := ⟨rfl, rfl, rfl, by decide +kernel, rfl, by decide +kernel, by decide +kernel⟩
abbrev Df_root_of_square (K : PySem.W.Frag) (mg : Str → Option Value) (f : Addr) (fd : FuncData) : Prop := Def K mg "root_of_square" s_root_of_square ["square", "p"] f fd
def spRoot : Sp := fun vs H Q _ => ∃ (a p : Int), vs = [.int a, .int p] ∧ (IsPr p ∧ 3 ≤ p ∧ p ≤ 10 ^ 6 ∧ 0 < a ∧ a < p ∧ J (a % p) p = 1) ∧ ∀ m H', 0 ≤ m → 2 * m ≤ p → Cg p (m * m) a → Same H H' → Q (.int m) H'
theorem ok_root_of_square (D : Df_root_of_square K mg f fd) (T : Txt K mg t1 t2 t3) (o1 : O_sign_by P w K mg base) (o2 : O_pair_power P w K mg base) : FnOk P w K mg base CX0 3 f fd ["square", "p"] spRoot := by
  obtain ⟨_, _, D_sign_by, G_sign_by⟩ := o1
  obtain ⟨_, _, D_pair_power, G_pair_power⟩ := o2
  refine D.fn.ok sc_root_of_square (fun vs H Q E h => ?_) (fun cdv A outer s H vs Q E hr h => ?_)
  · obtain ⟨a, p, rfl, _⟩ := h
    rfl
  · obtain ⟨a, p, rfl, ⟨hp, p3, p6, a0, a1, ha⟩, k⟩ := h
    have ho : p % 2 = 1 := by
      obtain ⟨q, rfl⟩ := Int.eq_ofNat_of_zero_le (show 0 ≤ p by omega)
      have := pr_odd_nat (p := q) hp (by omega)
      omega
    obtain ⟨z, z2, hz⟩ := step_ex hp p3 (show ¬ p ∣ a from fun w => by have := Int.le_of_dvd a0 w; omega)
    refine ⟨_, (pss_cons (ps_set (i := 2) sc_root_of_square.nd rfl (by first | exact Or.inl rfl | exact Or.inr rfl) pe_int)
 (pss_cons (ps_while PassesOwn.never (pt_cmpR op_ne (pe_call (G_sign_by.mono (by decide)) hr rfl D_sign_by.mgx D_sign_by.fn.kp D_sign_by.bd .nil pass0 (pa_cons (pe_op op_sub (pe_op op_mulB (pv 2) (pv 2)) (pv 0)) (pa_cons (pv 1) pa_nil))) (pe_un un_neg pe_int) (nomark _))
 (pss_one (ps_aug (i := 2) sc_root_of_square.nd rfl (Or.inl rfl) pe_int ip_add)))
 (pss_cons (ps_set (i := 3) sc_root_of_square.nd rfl (by first | exact Or.inl rfl | exact Or.inr rfl) (pe_ix ix_tup (pe_call (G_pair_power.mono (by decide)) hr rfl D_pair_power.mgx D_pair_power.fn.kp D_pair_power.bd .nil pass0 (pa_cons (pe_tup (pa_cons (pv 2) (pa_cons pe_int pa_nil))) (pa_cons (pe_op op_fdivB (pe_op op_add (pv 1) pe_int) pe_int) (pa_cons (pe_op op_sub (pe_op op_mulB (pv 2) (pv 2)) (pv 0)) (pa_cons (pv 1) pa_nil))))) pe_int (fun _ _ => rfl)))
 (pss_one (ps_ret (pe_callB (call_min2 rfl) (by rfl) T.no_min PyProof.Rows.boot_min (pa_cons (pv 3) (pa_cons (pe_op op_sub (pv 1) (pv 3)) pa_nil)))))))), ?_⟩
    have e0 : L2.start ["square", "p", "first", "root"] [.int a, .int p] = [some (.int a), some (.int p), none, none] := rfl
    rw [e0]; clear e0
    simp only [tSeq, tIfS, tTest, tRet, tRetN, tNext, tDrop, tAsg, tPar, tPar3, tAug, tVar, tC, tOp, tUn, rI, rI0, rU, tB, tAnd, tOr, tNot, tAndV, tOrV, tNotV, tIf, gName, gNil, gCons, gTup, gSub, tCB, tCons, tNil, tCall, tChain, ipI, tIsN, tNotN, tBM, tyV, tTup, tLst, rAppend, rCat, scal_ii, scal_bb, scal_ss, scal_ni, scal_in, rEq, rNe, List.getElem?_cons_zero, List.getElem?_cons_succ, List.set_cons_zero, List.set_cons_succ, eq_self, and_assoc, Option.some.injEq, V.int.injEq, V.bl.injEq, V.ref.injEq, V.str.injEq, List.cons.injEq, exists_eq_left', exists_eq_left, exists_and_left, List.nil_append, List.cons_append, List.append_nil, true_and, and_true, decide_eq_true_eq, Bool.not_eq_true', decide_eq_false_iff_not, if_true, if_false, Bool.not_true, Bool.not_false, Bool.false_eq_true, reduceCtorEq, decide_true, decide_false, ite_true, ite_false, rSetL, rIxL, tRaise, jCons, jNil, tFmt, tDNew, rCount, rIndex, Int.reduceToNat, Int.reducePow]
    obtain ⟨W, hW⟩ : ∃ W : Nat → St → Hp → Prop, ∀ j σ H', W j σ H' ↔ ∃ n : Nat, j = z - n ∧ σ = [some (.int a), some (.int p), some (.int n), none] ∧ n ≤ z ∧ H' = H := ⟨_, fun _ _ _ => Iff.rfl⟩
    refine ⟨W, ⟨_, (hW _ _ _).mpr ⟨0, rfl, rfl, Nat.zero_le _, rfl⟩⟩, ?_⟩
    intro j σ H' hw
    obtain ⟨n, rfl, rfl, n2, rfl⟩ := (hW _ _ _).mp hw
    clear hw
    have nn := Int.mul_le_mul (show (n : Int) ≤ 10 ^ 6 by omega) (show (n : Int) ≤ 10 ^ 6 by omega) (by omega) (by omega)
    have nn0 := Int.mul_nonneg (show (0 : Int) ≤ n by omega) (show (0 : Int) ≤ n by omega)
    simp only [tSeq, tIfS, tTest, tRet, tRetN, tNext, tDrop, tAsg, tPar, tPar3, tAug, tVar, tC, tOp, tUn, rI, rI0, rU, tB, tAnd, tOr, tNot, tAndV, tOrV, tNotV, tIf, gName, gNil, gCons, gTup, gSub, tCB, tCons, tNil, tCall, tChain, ipI, tIsN, tNotN, tBM, tyV, tTup, tLst, rAppend, rCat, scal_ii, scal_bb, scal_ss, scal_ni, scal_in, rEq, rNe, List.getElem?_cons_zero, List.getElem?_cons_succ, List.set_cons_zero, List.set_cons_succ, eq_self, and_assoc, Option.some.injEq, V.int.injEq, V.bl.injEq, V.ref.injEq, V.str.injEq, List.cons.injEq, exists_eq_left', exists_eq_left, exists_and_left, List.nil_append, List.cons_append, List.append_nil, true_and, and_true, decide_eq_true_eq, Bool.not_eq_true', decide_eq_false_iff_not, if_true, if_false, Bool.not_true, Bool.not_false, Bool.false_eq_true, reduceCtorEq, decide_true, decide_false, ite_true, ite_false, rSetL, rIxL, tRaise, jCons, jNil, tFmt, tDNew, rCount, rIndex, Int.reduceToNat, Int.reducePow]
    refine ⟨.inr ⟨by omega, by omega⟩, _, p, rfl, ⟨by omega, by omega, ho⟩, ?_⟩
    simp only [tSeq, tIfS, tTest, tRet, tRetN, tNext, tDrop, tAsg, tPar, tPar3, tAug, tVar, tC, tOp, tUn, rI, rI0, rU, tB, tAnd, tOr, tNot, tAndV, tOrV, tNotV, tIf, gName, gNil, gCons, gTup, gSub, tCB, tCons, tNil, tCall, tChain, ipI, tIsN, tNotN, tBM, tyV, tTup, tLst, rAppend, rCat, scal_ii, scal_bb, scal_ss, scal_ni, scal_in, rEq, rNe, List.getElem?_cons_zero, List.getElem?_cons_succ, List.set_cons_zero, List.set_cons_succ, eq_self, and_assoc, Option.some.injEq, V.int.injEq, V.bl.injEq, V.ref.injEq, V.str.injEq, List.cons.injEq, exists_eq_left', exists_eq_left, exists_and_left, List.nil_append, List.cons_append, List.append_nil, true_and, and_true, decide_eq_true_eq, Bool.not_eq_true', decide_eq_false_iff_not, if_true, if_false, Bool.not_true, Bool.not_false, Bool.false_eq_true, reduceCtorEq, decide_true, decide_false, ite_true, ite_false, rSetL, rIxL, tRaise, jCons, jNil, tFmt, tDNew, rCount, rIndex, Int.reduceToNat, Int.reducePow]
    refine ite2 (fun h1 => ?_) (fun h1 => ?_)
    · refine ⟨fun σ' H2 => ∃ m', m' < z - n ∧ W m' σ' H2, fun _ _ h => h, ?_⟩
      have ne : n ≠ z := fun e => h1 (by rw [e]; exact hz)
      exact ⟨_, by omega, (hW _ _ _).mpr ⟨n + 1, rfl, by simp, by omega, rfl⟩⟩
    · have hn : J (((n : Int) * n - a) % p) p = -1 := Classical.byContradiction h1
      have C := cipolla hp p3 ha hn
      refine ⟨by show 2 ≤ sizeLine; decide, fun p1 hp1 => ⟨⟨by decide, by decide⟩, .inr ⟨by omega, by omega⟩, ?_⟩⟩
      have s1 : Same H' (upd H' p1 (.tup [V.int n, V.int 1])) := fun b o e => by rw [upd_ne (ne_of_none e hp1)]; exact e
      refine ⟨p1, ((n : Int), 1), _, _, _, rfl, upd_same, ⟨⟨by show (n : Int).natAbs < _; omega, by show (1 : Int).natAbs < _; decide⟩, by omega, by omega, by omega, by omega, by omega⟩, fun q H2 S2 e2 => ?_⟩
      simp only [tSeq, tIfS, tTest, tRet, tRetN, tNext, tDrop, tAsg, tPar, tPar3, tAug, tVar, tC, tOp, tUn, rI, rI0, rU, tB, tAnd, tOr, tNot, tAndV, tOrV, tNotV, tIf, gName, gNil, gCons, gTup, gSub, tCB, tCons, tNil, tCall, tChain, ipI, tIsN, tNotN, tBM, tyV, tTup, tLst, rAppend, rCat, scal_ii, scal_bb, scal_ss, scal_ni, scal_in, rEq, rNe, List.getElem?_cons_zero, List.getElem?_cons_succ, List.set_cons_zero, List.set_cons_succ, eq_self, and_assoc, Option.some.injEq, V.int.injEq, V.bl.injEq, V.ref.injEq, V.str.injEq, List.cons.injEq, exists_eq_left', exists_eq_left, exists_and_left, List.nil_append, List.cons_append, List.append_nil, true_and, and_true, decide_eq_true_eq, Bool.not_eq_true', decide_eq_false_iff_not, if_true, if_false, Bool.not_true, Bool.not_false, Bool.false_eq_true, reduceCtorEq, decide_true, decide_false, ite_true, ite_false, rSetL, rIxL, tRaise, jCons, jNil, tFmt, tDNew, rCount, rIndex, Int.reduceToNat, Int.reducePow, rIxT]
      have r0 : 0 ≤ (rp p (pw ((n : Int) * n - a) ((n : Int), 1) ((p + 1) / 2).toNat)).1 := Int.emod_nonneg (pw ((n : Int) * n - a) ((n : Int), 1) ((p + 1) / 2).toNat).1 (show p ≠ 0 by omega)
      have r1 : (rp p (pw ((n : Int) * n - a) ((n : Int), 1) ((p + 1) / 2).toNat)).1 < p := Int.emod_lt_of_pos (pw ((n : Int) * n - a) ((n : Int), 1) ((p + 1) / 2).toNat).1 (show 0 < p by omega)
      have rc : Cg p ((rp p (pw ((n : Int) * n - a) ((n : Int), 1) ((p + 1) / 2).toNat)).1 * (rp p (pw ((n : Int) * n - a) ((n : Int), 1) ((p + 1) / 2).toNat)).1) a := ((cg_mod p _).mul (cg_mod p _)).trans C
      refine ⟨_, SqT.of e2, _, rfl, ?_⟩
      show ∃ x, V.int _ = V.int x ∧ _
      generalize (rp p (pw ((n : Int) * n - a) ((n : Int), 1) ((p + 1) / 2).toNat)).1 = r at r0 r1 rc ⊢
      refine ⟨_, rfl, ?_⟩
      have rn : r ≠ 0 := fun z => by
        rw [z, Int.mul_zero] at rc
        have := Int.le_of_dvd a0 (by have := rc.symm; unfold Cg at this; rwa [Int.sub_zero] at this)
        omega
      have rc2 : Cg p ((p - r) * (p - r)) a := by
        have h : Cg p ((p - r) * (p - r)) (r * r) := ⟨p - 2 * r, by grind⟩
        exact h.trans rc
      refine ⟨_, rfl, ?_⟩
      split
      · exact k _ _ (by omega) (by omega) rc2 (s1.trans S2)
      · exact k _ _ (by omega) (by omega) rc (s1.trans S2)
abbrev O_root_of_square (P : Program) (w : World) (K : PySem.W.Frag) (mg : Str → Option Value) (base : Heap) : Prop := ∃ f fd, Df_root_of_square K mg f fd ∧ FnOk P w K mg base CX0 3 f fd ["square", "p"] (spRoot)
abbrev s_root_by : Stmt := top 36
theorem sc_root_by : FnScope ["number", "p", "rest"] ["number", "p"] (defScope s_root_by) := ⟨rfl, rfl, rfl, by decide +kernel, rfl, by decide +kernel, by decide +kernel⟩
abbrev Df_root_by (K : PySem.W.Frag) (mg : Str → Option Value) (f : Addr) (fd : FuncData) : Prop := Def K mg "root_by" s_root_by ["number", "p"] f fd
def spRootBy : Sp := fun vs H Q _ => ∃ (a p : Int), vs = [.int a, .int p] ∧ (-(10 ^ 30) ≤ a ∧ a ≤ 10 ^ 30 ∧ IsPr p ∧ 3 ≤ p ∧ p ≤ 10 ^ 6) ∧ (J (a % p) p = -1 → Q .non H) ∧ (J (a % p) p ≠ -1 → ∀ m H', 0 ≤ m → 2 * m ≤ p → Cg p (m * m) a → Same H H' → Q (.int m) H')
theorem ok_root_by (D : Df_root_by K mg f fd) (T : Txt K mg t1 t2 t3) (o1 : O_want_far P w K mg base) (o2 : O_want_between P w K mg base) (o3 : O_want_prime P w K mg base) (o4 : O_sign_by P w K mg base) (o5 : O_root_of_square P w K mg base) : FnOk P w K mg base CX0 7 f fd ["number", "p"] spRootBy := by
  obtain ⟨_, _, D_want_far, G_want_far⟩ := o1
  obtain ⟨_, _, D_want_between, G_want_between⟩ := o2
  obtain ⟨_, _, D_want_prime, G_want_prime⟩ := o3
  obtain ⟨_, _, D_sign_by, G_sign_by⟩ := o4
  obtain ⟨_, _, D_root_of_square, G_root_of_square⟩ := o5
  refine D.fn.ok sc_root_by (fun vs H Q E h => ?_) (fun cdv A outer s H vs Q E hr h => ?_)
  · obtain ⟨a, p, rfl, _⟩ := h
    rfl
  · obtain ⟨a, p, rfl, ⟨h1, h2, hp, p3, p6⟩, k1, k2⟩ := h
    have ho : p % 2 = 1 := by
      obtain ⟨q, rfl⟩ := Int.eq_ofNat_of_zero_le (show 0 ≤ p by omega)
      have := pr_odd_nat (p := q) hp (by omega)
      omega
    refine ⟨_, (pss_cons (ps_expr (pe_call (G_want_far.mono (by decide)) hr rfl D_want_far.mgx D_want_far.fn.kp D_want_far.bd .nil pass0 (pa_cons (pv 0) (pa_cons pe_str pa_nil))))
 (pss_cons (ps_expr (pe_call (G_want_between.mono (by decide)) hr rfl D_want_between.mgx D_want_between.fn.kp D_want_between.bd .nil pass0 (pa_cons (pv 1) (pa_cons pe_int (pa_cons (pe_glob (v := .int _) rfl T.mg_MOST_ROOTED ⟨_, rfl⟩) (pa_cons pe_str pa_nil))))))
 (pss_cons (ps_expr (pe_call (G_want_prime.mono (by decide)) hr rfl D_want_prime.mgx D_want_prime.fn.kp D_want_prime.bd .nil pass0 (pa_cons (pv 1) (pa_cons pe_str pa_nil))))
 (pss_cons (ps_set (i := 2) sc_root_by.nd rfl (by first | exact Or.inl rfl | exact Or.inr rfl) (pe_op op_mod (pv 0) (pv 1)))
 (pss_cons (ps_if (PW.pt (pw_or (pt_cmpR op_eq (pv 2) pe_int (nomark _)) (pw_or1 (pt_cmpR op_eq (pv 1) pe_int (nomark _)))))
 (pss_one (ps_ret (pv 2)))
 pss_nil)
 (pss_cons (ps_if (pt_cmpR op_eq (pe_call (G_sign_by.mono (by decide)) hr rfl D_sign_by.mgx D_sign_by.fn.kp D_sign_by.bd .nil pass0 (pa_cons (pv 2) (pa_cons (pv 1) pa_nil))) (pe_un un_neg pe_int) (nomark _))
 (pss_one (ps_ret pe_non))
 pss_nil)
 (pss_one (ps_ret (pe_call (G_root_of_square.mono (by decide)) hr rfl D_root_of_square.mgx D_root_of_square.fn.kp D_root_of_square.bd .nil pass0 (pa_cons (pv 2) (pa_cons (pv 1) pa_nil))))))))))), ?_⟩
    have e0 : L2.start ["number", "p", "rest"] [.int a, .int p] = [some (.int a), some (.int p), none] := rfl
    rw [e0]; clear e0
    simp only [tSeq, tIfS, tTest, tRet, tRetN, tNext, tDrop, tAsg, tPar, tPar3, tAug, tVar, tC, tOp, tUn, rI, rI0, rU, tB, tAnd, tOr, tNot, tAndV, tOrV, tNotV, tIf, gName, gNil, gCons, gTup, gSub, tCB, tCons, tNil, tCall, tChain, ipI, tIsN, tNotN, tBM, tyV, tTup, tLst, rAppend, rCat, scal_ii, scal_bb, scal_ss, scal_ni, scal_in, rEq, rNe, List.getElem?_cons_zero, List.getElem?_cons_succ, List.set_cons_zero, List.set_cons_succ, eq_self, and_assoc, Option.some.injEq, V.int.injEq, V.bl.injEq, V.ref.injEq, V.str.injEq, List.cons.injEq, exists_eq_left', exists_eq_left, exists_and_left, List.nil_append, List.cons_append, List.append_nil, true_and, and_true, decide_eq_true_eq, Bool.not_eq_true', decide_eq_false_iff_not, if_true, if_false, Bool.not_true, Bool.not_false, Bool.false_eq_true, reduceCtorEq, decide_true, decide_false, ite_true, ite_false, rSetL, rIxL, tRaise, jCons, jNil, tFmt, tDNew, rCount, rIndex, Int.reduceToNat, Int.reducePow]
    refine ⟨a, _, rfl, ⟨h1, h2⟩, p, 1, _, _, rfl, ⟨by omega, by omega⟩, p, _, rfl, ⟨hp, by omega⟩, by omega, ?_⟩
    have a0 := Int.emod_nonneg a (show p ≠ 0 by omega)
    have a1 := Int.emod_lt_of_pos a (show 0 < p by omega)
    by_cases hz : a % p = 0
    · rw [if_pos hz]
      rw [hz]
      refine k2 ?_ 0 H (Int.le_refl _) (by omega) (cg_of ?_) (Same.refl H)
      · rw [hz, J_zero]; split <;> decide
      · rw [Int.mul_zero, hz, Int.zero_emod]
    · rw [if_neg hz, if_neg (by omega)]
      refine ⟨_, p, rfl, ⟨by omega, by omega, ho⟩, ?_⟩
      simp only [tSeq, tIfS, tTest, tRet, tRetN, tNext, tDrop, tAsg, tPar, tPar3, tAug, tVar, tC, tOp, tUn, rI, rI0, rU, tB, tAnd, tOr, tNot, tAndV, tOrV, tNotV, tIf, gName, gNil, gCons, gTup, gSub, tCB, tCons, tNil, tCall, tChain, ipI, tIsN, tNotN, tBM, tyV, tTup, tLst, rAppend, rCat, scal_ii, scal_bb, scal_ss, scal_ni, scal_in, rEq, rNe, List.getElem?_cons_zero, List.getElem?_cons_succ, List.set_cons_zero, List.set_cons_succ, eq_self, and_assoc, Option.some.injEq, V.int.injEq, V.bl.injEq, V.ref.injEq, V.str.injEq, List.cons.injEq, exists_eq_left', exists_eq_left, exists_and_left, List.nil_append, List.cons_append, List.append_nil, true_and, and_true, decide_eq_true_eq, Bool.not_eq_true', decide_eq_false_iff_not, if_true, if_false, Bool.not_true, Bool.not_false, Bool.false_eq_true, reduceCtorEq, decide_true, decide_false, ite_true, ite_false, rSetL, rIxL, tRaise, jCons, jNil, tFmt, tDNew, rCount, rIndex, Int.reduceToNat, Int.reducePow]
      rw [Int.emod_emod_of_dvd _ (Int.dvd_refl p)]
      refine ite2 (fun h => k1 h) (fun h => ?_)
      have jp : J (a % p) p = 1 := by
        have := EE_pm hp p3 hz
        rw [EE_J hp p3] at this
        rcases this with w | w
        · exact w
        · exact absurd w h
      refine ⟨_, p, rfl, ⟨hp, p3, p6, by omega, a1, by rw [Int.emod_emod_of_dvd _ (Int.dvd_refl p)]; exact jp⟩, fun m H' m0 m1 c S => k2 h m H' m0 m1 (c.trans (cg_mod p a)) S⟩
abbrev O_root_by (P : Program) (w : World) (K : PySem.W.Frag) (mg : Str → Option Value) (base : Heap) : Prop := ∃ f fd, Df_root_by K mg f fd ∧ FnOk P w K mg base CX0 7 f fd ["number", "p"] (spRootBy)
end
end PP
set_option Elab.async false
set_option linter.all false
set_option maxRecDepth 100000
set_option maxHeartbeats 4000000
namespace PP
open PySem L2 MM
def StAt (H : Hp) (a : Addr) : Prop := ∃ x y, H a = some (.lst [.int x, .int y]) ∧ 0 ≤ y ∧ y < 2 ^ 32
def But (a : Addr) (H H' : Hp) : Prop := ∀ b o, b ≠ a → H b = some o → H' b = some o
structure Step (a : Addr) (H H' : Hp) : Prop where
  st : StAt H' a
  but : But a H H'
theorem Step.trans {a : Addr} {H H1 H2 : Hp} (x : Step a H H1) (y : Step a H1 H2) : Step a H H2 := ⟨y.st, fun b o hb e => y.but b o hb (x.but b o hb e)⟩
theorem StAt.upd {H : Hp} {a p : Addr} {o : HO} (h : StAt H a) (hp : H p = none) : StAt (upd H p o) a := by
  obtain ⟨x, y, e, r⟩ := h
  exact ⟨x, y, by rw [upd_ne (ne_of_none e hp)]; exact e, r⟩
theorem Step.new {a p : Addr} {H H1 : Hp} {o : HO} (x : Step a H H1) (hp : H1 p = none) : Step a H (upd H1 p o) :=
  ⟨x.st.upd hp, fun b u hb e => by rw [upd_ne (ne_of_none (x.but b u hb e) hp)]; exact x.but b u hb e⟩
theorem Step.refl {a : Addr} {H : Hp} (h : StAt H a) : Step a H H := ⟨h, fun _ _ _ e => e⟩
theorem nb_mod (a : Int) {m : Int} (h0 : 0 < m) (h1 : m < 10 ^ 99) : (a % m).natAbs < 10 ^ 100 := by
  have := Int.emod_nonneg a (show m ≠ 0 by omega)
  have := Int.emod_lt_of_pos a h0
  omega
section
variable {P : Program} {w : World} {K : PySem.W.Frag} {mg : Str → Option Value} {base : Heap} {t1 t2 t3 : Tok} {f : Addr} {fd : FuncData}
abbrev s_law_cell_at : Stmt := top 41
theorem sc_law_cell_at : FnScope ["_law_script", "_law_k"] ["_law_script", "_law_k"] (defScope s_law_cell_at) := ⟨rfl, rfl, rfl, by decide +kernel, rfl, by decide +kernel, by decide +kernel⟩
abbrev Df_law_cell_at (K : PySem.W.Frag) (mg : Str → Option Value) (f : Addr) (fd : FuncData) : Prop := Def K mg "_law_cell_at" s_law_cell_at ["_law_script", "_law_k"] f fd
def spCell (K : PySem.W.Frag) : Sp := fun vs H Q _ => ∃ (a : Addr) (ns : List Int) (k : Int), vs = [.ref a, .int k] ∧ SqL K H a (ns.map V.int) ∧ ns.length ≤ 63 ∧ 0 ≤ k ∧ ∀ v, Q (.int v) H
theorem ok_law_cell_at (D : Df_law_cell_at K mg f fd) (T : Txt K mg t1 t2 t3) : FnOk P w K mg base CX0 1 f fd ["_law_script", "_law_k"] (spCell K) := by
  refine D.fn.ok sc_law_cell_at (fun vs H Q E h => ?_) (fun cdv A outer s H vs Q E hr h => ?_)
  · obtain ⟨a, ns, k, rfl, _⟩ := h
    rfl
  · obtain ⟨a, ns, k, rfl, hS, hl, h0, q⟩ := h
    refine ⟨_, (pss_cons (ps_if (pt_cmpR op_lt (pv 1) (pe_callB call_len_seq (by rfl) T.no_len PySem.boot_len (pa_cons (pv 0) pa_nil)) (nomark _))
 (pss_one (ps_ret (pe_ix ix_list (pv 0) (pv 1) (fun _ _ => rfl))))
 pss_nil)
 (pss_one (ps_ret pe_int))), ?_⟩
    have e0 : L2.start ["_law_script", "_law_k"] [.ref a, .int k] = [some (.ref a), some (.int k)] := rfl
    rw [e0]; clear e0
    simp only [tSeq, tIfS, tTest, tRet, tRetN, tNext, tDrop, tAsg, tPar, tPar3, tAug, tVar, tC, tOp, tUn, rI, rI0, rU, tB, tAnd, tOr, tNot, tAndV, tOrV, tNotV, tIf, gName, gNil, gCons, gTup, gSub, tCB, tCons, tNil, tCall, tChain, ipI, tIsN, tNotN, tBM, tyV, tTup, tLst, rAppend, rCat, scal_ii, scal_bb, scal_ss, scal_ni, scal_in, rEq, rNe, List.getElem?_cons_zero, List.getElem?_cons_succ, List.set_cons_zero, List.set_cons_succ, eq_self, and_assoc, Option.some.injEq, V.int.injEq, V.bl.injEq, V.ref.injEq, V.str.injEq, List.cons.injEq, exists_eq_left', exists_eq_left, exists_and_left, List.nil_append, List.cons_append, List.append_nil, true_and, and_true, decide_eq_true_eq, Bool.not_eq_true', decide_eq_false_iff_not, if_true, if_false, Bool.not_true, Bool.not_false, Bool.false_eq_true, reduceCtorEq, decide_true, decide_false, ite_true, ite_false, rSetL, rIxL, tRaise, jCons, jNil, tFmt, tDNew, rCount, rIndex, Int.reduceToNat, Int.reducePow]
    refine ⟨_, .inl hS, ?_⟩
    rw [List.length_map]
    refine ite2 (fun hk => ?_) (fun _ => q 0)
    obtain ⟨j, rfl⟩ := Int.eq_ofNat_of_zero_le h0
    have hj : j < ns.length := by omega
    refine ⟨_, hS, .int (ns[j]), atI_nat ?_, q _⟩
    rw [List.getElem?_map, List.getElem?_eq_getElem hj]
    rfl
abbrev O_law_cell_at (P : Program) (w : World) (K : PySem.W.Frag) (mg : Str → Option Value) (base : Heap) : Prop := ∃ f fd, Df_law_cell_at K mg f fd ∧ FnOk P w K mg base CX0 1 f fd ["_law_script", "_law_k"] (spCell K)
abbrev s_law_state : Stmt := top 42
theorem sc_law_state : FnScope ["_law_script", "_law_k", "_law_cell"] ["_law_script", "_law_k"] (defScope s_law_state) := ⟨rfl, rfl, rfl, by decide +kernel, rfl, by decide +kernel, by decide +kernel⟩
abbrev Df_law_state (K : PySem.W.Frag) (mg : Str → Option Value) (f : Addr) (fd : FuncData) : Prop := Def K mg "_law_state" s_law_state ["_law_script", "_law_k"] f fd
def spState (K : PySem.W.Frag) : Sp := fun vs H Q _ => ∃ (a : Addr) (ns : List Int) (k : Int), vs = [.ref a, .int k] ∧ SqL K H a (ns.map V.int) ∧ ns.length ≤ 63 ∧ 0 ≤ k ∧ ∀ p x y, 0 ≤ y → y < 2 ^ 32 → H p = none → Q (.ref p) (upd H p (.lst [.int x, .int y]))
theorem ok_law_state (D : Df_law_state K mg f fd) (T : Txt K mg t1 t2 t3) (o1 : O_law_cell_at P w K mg base) : FnOk P w K mg base CX0 2 f fd ["_law_script", "_law_k"] (spState K) := by
  obtain ⟨_, _, D_law_cell_at, G_law_cell_at⟩ := o1
  refine D.fn.ok sc_law_state (fun vs H Q E h => ?_) (fun cdv A outer s H vs Q E hr h => ?_)
  · obtain ⟨a, ns, k, rfl, _⟩ := h
    rfl
  · obtain ⟨a, ns, k, rfl, hS, hl, h0, q⟩ := h
    refine ⟨_, (pss_cons (ps_set (i := 2) sc_law_state.nd rfl (by first | exact Or.inl rfl | exact Or.inr rfl) (pe_call (G_law_cell_at.mono (by decide)) hr rfl D_law_cell_at.mgx D_law_cell_at.fn.kp D_law_cell_at.bd .nil pass0 (pa_cons (pv 0) (pa_cons (pv 1) pa_nil))))
 (pss_cons (ps_if (pt_cmpR op_ge (pv 2) (pe_op op_pow pe_int pe_int) (nomark _))
 (pss_one (ps_ret (pe_lst (pa_cons (pe_op op_sub (pv 2) (pe_op op_pow pe_int pe_int)) (pa_cons (pe_op op_add (pe_op op_mod (pv 2) pe_int) pe_int) pa_nil)))))
 pss_nil)
 (pss_one (ps_ret (pe_lst (pa_cons pe_int (pa_cons (pe_op op_add (pe_op op_mod (pv 2) pe_int) pe_int) pa_nil))))))), ?_⟩
    have e0 : L2.start ["_law_script", "_law_k", "_law_cell"] [.ref a, .int k] = [some (.ref a), some (.int k), none] := rfl
    rw [e0]; clear e0
    simp only [tSeq, tIfS, tTest, tRet, tRetN, tNext, tDrop, tAsg, tPar, tPar3, tAug, tVar, tC, tOp, tUn, rI, rI0, rU, tB, tAnd, tOr, tNot, tAndV, tOrV, tNotV, tIf, gName, gNil, gCons, gTup, gSub, tCB, tCons, tNil, tCall, tChain, ipI, tIsN, tNotN, tBM, tyV, tTup, tLst, rAppend, rCat, scal_ii, scal_bb, scal_ss, scal_ni, scal_in, rEq, rNe, List.getElem?_cons_zero, List.getElem?_cons_succ, List.set_cons_zero, List.set_cons_succ, eq_self, and_assoc, Option.some.injEq, V.int.injEq, V.bl.injEq, V.ref.injEq, V.str.injEq, List.cons.injEq, exists_eq_left', exists_eq_left, exists_and_left, List.nil_append, List.cons_append, List.append_nil, true_and, and_true, decide_eq_true_eq, Bool.not_eq_true', decide_eq_false_iff_not, if_true, if_false, Bool.not_true, Bool.not_false, Bool.false_eq_true, reduceCtorEq, decide_true, decide_false, ite_true, ite_false, rSetL, rIxL, tRaise, jCons, jNil, tFmt, tDNew, rCount, rIndex, Int.reduceToNat, Int.reducePow]
    refine ⟨a, ns, k, rfl, hS, hl, h0, fun v => ⟨⟨by decide, by decide, by decide⟩, ?_⟩⟩
    simp only [tSeq, tIfS, tTest, tRet, tRetN, tNext, tDrop, tAsg, tPar, tPar3, tAug, tVar, tC, tOp, tUn, rI, rI0, rU, tB, tAnd, tOr, tNot, tAndV, tOrV, tNotV, tIf, gName, gNil, gCons, gTup, gSub, tCB, tCons, tNil, tCall, tChain, ipI, tIsN, tNotN, tBM, tyV, tTup, tLst, rAppend, rCat, scal_ii, scal_bb, scal_ss, scal_ni, scal_in, rEq, rNe, List.getElem?_cons_zero, List.getElem?_cons_succ, List.set_cons_zero, List.set_cons_succ, eq_self, and_assoc, Option.some.injEq, V.int.injEq, V.bl.injEq, V.ref.injEq, V.str.injEq, List.cons.injEq, exists_eq_left', exists_eq_left, exists_and_left, List.nil_append, List.cons_append, List.append_nil, true_and, and_true, decide_eq_true_eq, Bool.not_eq_true', decide_eq_false_iff_not, if_true, if_false, Bool.not_true, Bool.not_false, Bool.false_eq_true, reduceCtorEq, decide_true, decide_false, ite_true, ite_false, rSetL, rIxL, tRaise, jCons, jNil, tFmt, tDNew, rCount, rIndex, Int.reduceToNat, Int.reducePow]
    refine ite2 (fun hk => ?_) (fun _ => ?_)
    · refine ⟨⟨by decide, by decide, by decide⟩, by decide, by show 2 ≤ sizeLine; decide, fun p hp => q p _ _ ?_ ?_ hp⟩ <;> omega
    · refine ⟨by decide, by show 2 ≤ sizeLine; decide, fun p hp => q p _ _ ?_ ?_ hp⟩ <;> omega
abbrev O_law_state (P : Program) (w : World) (K : PySem.W.Frag) (mg : Str → Option Value) (base : Heap) : Prop := ∃ f fd, Df_law_state K mg f fd ∧ FnOk P w K mg base CX0 2 f fd ["_law_script", "_law_k"] (spState K)
abbrev s_law_take : Stmt := top 43
theorem sc_law_take : FnScope ["_law_state_here", "_law_many", "_law_found", "_law_stirred"] ["_law_state_here", "_law_many"] (defScope s_law_take) := ⟨rfl, rfl, rfl, by decide +kernel, rfl, by decide +kernel, by decide +kernel⟩
abbrev Df_law_take (K : PySem.W.Frag) (mg : Str → Option Value) (f : Addr) (fd : FuncData) : Prop := Def K mg "_law_take" s_law_take ["_law_state_here", "_law_many"] f fd
def spTake : Sp := fun vs H Q _ => ∃ (a : Addr) (m : Int), vs = [.ref a, .int m] ∧ (0 < m ∧ m < 10 ^ 90) ∧ StAt H a ∧ ∀ r H', 0 ≤ r → r < m → Step a H H' → Q (.int r) H'
theorem ok_law_take (D : Df_law_take K mg f fd) (T : Txt K mg t1 t2 t3) : FnOk P w K mg base CX0 1 f fd ["_law_state_here", "_law_many"] spTake := by
  refine D.fn.ok sc_law_take (fun vs H Q E h => ?_) (fun cdv A outer s H vs Q E hr h => ?_)
  · obtain ⟨a, m, rfl, _⟩ := h
    rfl
  · obtain ⟨a, m, rfl, ⟨m0, m1⟩, ⟨x, y, hH, y0, y1⟩, q⟩ := h
    refine ⟨_, (pss_cons (ps_if (pt_cmpR op_gt (pe_ix ix_list (pv 0) pe_int (fun _ _ => rfl)) pe_int (nomark _))
 (pss_cons (ps_set (i := 2) sc_law_take.nd rfl (by first | exact Or.inl rfl | exact Or.inr rfl) (pe_op op_mod (pe_ix ix_list (pv 0) pe_int (fun _ _ => rfl)) (pv 1)))
 (pss_cons (ps_asg (pe_op op_fdivB (pe_ix ix_list (pv 0) pe_int (fun _ _ => rfl)) (pv 1)) (pg_sub (pv 0) pe_int set_list))
 (pss_one (ps_ret (pv 2)))))
 pss_nil)
 (pss_cons (ps_asg (pe_op op_mod (pe_op op_add (pe_op op_mulB (pe_ix ix_list (pv 0) pe_int (fun _ _ => rfl)) pe_int) pe_int) pe_int) (pg_sub (pv 0) pe_int set_list))
 (pss_cons (ps_set (i := 3) sc_law_take.nd rfl (by first | exact Or.inl rfl | exact Or.inr rfl) (pe_op op_mod (pe_op op_add (pe_op op_add (pe_op op_mulB (pe_ix ix_list (pv 0) pe_int (fun _ _ => rfl)) (pe_ix ix_list (pv 0) pe_int (fun _ _ => rfl))) (pe_op op_mulB pe_int (pe_ix ix_list (pv 0) pe_int (fun _ _ => rfl)))) pe_int) pe_int))
 (pss_cons (ps_set (i := 3) sc_law_take.nd rfl (by first | exact Or.inl rfl | exact Or.inr rfl) (pe_op op_mod (pe_op op_add (pe_op op_mulB (pv 3) (pv 3)) (pe_op op_mulB pe_int (pv 3))) pe_int))
 (pss_one (ps_ret (pe_op op_mod (pe_op op_fdivB (pv 3) pe_int) (pv 1)))))))), ?_⟩
    have e0 : L2.start ["_law_state_here", "_law_many", "_law_found", "_law_stirred"] [.ref a, .int m] = [some (.ref a), some (.int m), none, none] := rfl
    rw [e0]; clear e0
    simp only [tSeq, tIfS, tTest, tRet, tRetN, tNext, tDrop, tAsg, tPar, tPar3, tAug, tVar, tC, tOp, tUn, rI, rI0, rU, tB, tAnd, tOr, tNot, tAndV, tOrV, tNotV, tIf, gName, gNil, gCons, gTup, gSub, tCB, tCons, tNil, tCall, tChain, ipI, tIsN, tNotN, tBM, tyV, tTup, tLst, rAppend, rCat, scal_ii, scal_bb, scal_ss, scal_ni, scal_in, rEq, rNe, List.getElem?_cons_zero, List.getElem?_cons_succ, List.set_cons_zero, List.set_cons_succ, eq_self, and_assoc, Option.some.injEq, V.int.injEq, V.bl.injEq, V.ref.injEq, V.str.injEq, List.cons.injEq, exists_eq_left', exists_eq_left, exists_and_left, List.nil_append, List.cons_append, List.append_nil, true_and, and_true, decide_eq_true_eq, Bool.not_eq_true', decide_eq_false_iff_not, if_true, if_false, Bool.not_true, Bool.not_false, Bool.false_eq_true, reduceCtorEq, decide_true, decide_false, ite_true, ite_false, rSetL, rIxL, tRaise, jCons, jNil, tFmt, tDNew, rCount, rIndex, Int.reduceToNat, Int.reducePow]
    refine ⟨_, SqL.of hH, _, rfl, _, rfl, ?_⟩
    refine ite2 (fun hx => ?_) (fun hx => ?_)
    · refine ⟨_, SqL.of hH, _, rfl, _, rfl, m0, _, SqL.of hH, _, rfl, _, rfl, ⟨m0, by omega⟩, _, hH, _, rfl, q _ _ (Int.emod_nonneg _ (by omega)) (Int.emod_lt_of_pos _ m0) ⟨⟨_, _, upd_same, y0, y1⟩, fun b o hb e => by rw [upd_ne hb]; exact e⟩⟩
    · have e1 : 0 ≤ (y * 48271 + 29) % 2147483647 := Int.emod_nonneg _ (by omega)
      have e2 : (y * 48271 + 29) % 2147483647 < 2147483647 := Int.emod_lt_of_pos _ (by omega)
      refine ⟨_, SqL.of hH, _, rfl, _, rfl, .inr ⟨by omega, by omega⟩, by decide, _, hH, _, rfl, _, SqL.of upd_same, _, rfl, _, SqL.of upd_same, _, rfl, _, rfl, _, rfl, .inr ⟨nb_mod _ (by decide) (by decide), nb_mod _ (by decide) (by decide)⟩, _, SqL.of upd_same, _, rfl, _, rfl,
        .inr ⟨by decide, nb_mod _ (by decide) (by decide)⟩, by decide, .inr ⟨nb_mod _ (by decide) (by decide), nb_mod _ (by decide) (by decide)⟩, .inr ⟨by decide, nb_mod _ (by decide) (by decide)⟩, by decide, ⟨by decide, by decide⟩, m0,
        q _ _ (Int.emod_nonneg _ (by omega)) (Int.emod_lt_of_pos _ m0) ⟨⟨_, _, upd_same, e1, by omega⟩, fun b o hb e => by rw [upd_ne hb]; exact e⟩⟩
abbrev O_law_take (P : Program) (w : World) (K : PySem.W.Frag) (mg : Str → Option Value) (base : Heap) : Prop := ∃ f fd, Df_law_take K mg f fd ∧ FnOk P w K mg base CX0 1 f fd ["_law_state_here", "_law_many"] (spTake)
abbrev s_law_parts : Stmt := top 45
theorem sc_law_parts : FnScope ["_law_number", "_law_found", "_law_left", "_law_prime_here", "_law_often"] ["_law_number"] (defScope s_law_parts) := ⟨rfl, rfl, rfl, by decide +kernel, rfl, by decide +kernel, by decide +kernel⟩
abbrev Df_law_parts (K : PySem.W.Frag) (mg : Str → Option Value) (f : Addr) (fd : FuncData) : Prop := Def K mg "_law_parts" s_law_parts ["_law_number"] f fd
def spLParts (K : PySem.W.Frag) : Sp := fun vs H Q _ => ∃ (n : Int), vs = [.int n] ∧ (1 ≤ n ∧ n ≤ 10 ^ 9) ∧ ∀ l p xs H', Parts n l → Same H H' → H' p = some (.lst xs) → RepL K H' (l.map pD) xs → Q (.ref p) H'
theorem ok_law_parts (D : Df_law_parts K mg f fd) (T : Txt K mg t1 t2 t3) : FnOk P w K mg base CX0 1 f fd ["_law_number"] (spLParts K) := by
  refine D.fn.ok sc_law_parts (fun vs H Q E h => ?_) (fun cdv A outer s H vs Q E hr h => ?_)
  · obtain ⟨n, rfl, _⟩ := h
    rfl
  · obtain ⟨n, rfl, hb, k⟩ := h
    refine ⟨_, (pss_cons (ps_par3 (i := 1) (j := 2) (l := 3) rfl sc_law_parts.nd rfl rfl rfl (by decide) (by decide) (by decide) rfl rfl rfl (pa_cons (pe_lst pa_nil) (pa_cons (pv 0) (pa_cons pe_int pa_nil))) (by first | rfl | with_unfolding_all rfl))
 (pss_cons (ps_while PassesOwn.never (pt_cmpR op_gt (pv 2) pe_int (nomark _))
 (pss_cons (ps_if (pt_cmpR op_gt (pe_op op_mulB (pv 3) (pv 3)) (pv 2) (nomark _))
 (pss_one (ps_set (i := 3) sc_law_parts.nd rfl (by first | exact Or.inl rfl | exact Or.inr rfl) (pv 2)))
 pss_nil)
 (pss_cons (ps_set (i := 4) sc_law_parts.nd rfl (by first | exact Or.inl rfl | exact Or.inr rfl) pe_int)
 (pss_cons (ps_while PassesOwn.never (pt_cmpR op_eq (pe_op op_mod (pv 2) (pv 3)) pe_int (nomark _))
 (pss_one (ps_par (i := 2) (j := 4) rfl sc_law_parts.nd rfl rfl (by decide) rfl rfl (pa_cons (pe_op op_fdivB (pv 2) (pv 3)) (pa_cons (pe_op op_add (pv 4) pe_int) pa_nil)) (by first | rfl | with_unfolding_all rfl))))
 (pss_cons (ps_if (pt_cmpR op_gt (pv 4) pe_int (nomark _))
 (pss_one (ps_expr (pe_bm PySem.F.plainAttrs_list PySem.F.slot_list_append PySem.F.type_list_append mt_append (pv 1) (pa_cons (pe_tup (pa_cons (pv 3) (pa_cons (pv 4) pa_nil))) pa_nil))))
 pss_nil)
 (pss_one (ps_set (i := 3) sc_law_parts.nd rfl (by first | exact Or.inl rfl | exact Or.inr rfl) (pe_op op_add (pv 3) pe_int))))))))
 (pss_one (ps_ret (pv 1))))), ?_⟩
    have e0 : L2.start ["_law_number", "_law_found", "_law_left", "_law_prime_here", "_law_often"] [.int n] = [some (.int n), none, none, none, none] := rfl
    rw [e0]; clear e0
    simp only [tSeq, tIfS, tTest, tRet, tRetN, tNext, tDrop, tAsg, tPar, tPar3, tAug, tVar, tC, tOp, tUn, rI, rI0, rU, tB, tAnd, tOr, tNot, tAndV, tOrV, tNotV, tIf, gName, gNil, gCons, gTup, gSub, tCB, tCons, tNil, tCall, tChain, ipI, tIsN, tNotN, tBM, tyV, tTup, tLst, rAppend, rCat, scal_ii, scal_bb, scal_ss, scal_ni, scal_in, rEq, rNe, List.getElem?_cons_zero, List.getElem?_cons_succ, List.set_cons_zero, List.set_cons_succ, eq_self, and_assoc, Option.some.injEq, V.int.injEq, V.bl.injEq, V.ref.injEq, V.str.injEq, List.cons.injEq, exists_eq_left', exists_eq_left, exists_and_left, List.nil_append, List.cons_append, List.append_nil, true_and, and_true, decide_eq_true_eq, Bool.not_eq_true', decide_eq_false_iff_not, if_true, if_false, Bool.not_true, Bool.not_false, Bool.false_eq_true, reduceCtorEq, decide_true, decide_false, ite_true, ite_false, rSetL, rIxL, tRaise, jCons, jNil, tFmt, tDNew, rCount, rIndex, Int.reduceToNat, Int.reducePow]
    refine ⟨Nat.zero_le _, fun p hp => ?_⟩
    obtain ⟨W, hW⟩ : ∃ W : Nat → St → Hp → Prop, ∀ m σ H', W m σ H' ↔ ∃ l left t o xs, m = (left - t + 2).toNat ∧ σ = [some (.int n), some (.ref p), some (.int left), some (.int t), o] ∧ LtInv n l left t ∧ Same H H' ∧ H' p = some (.lst xs) ∧ RepL K H' (l.map pD) xs := ⟨_, fun _ _ _ => Iff.rfl⟩
    have s0 : Same H (upd H p (.lst [])) := fun b o e => by rw [upd_ne (ne_of_none e hp)]; exact e
    refine ⟨W, ⟨_, (hW _ _ _).mpr ⟨[], n, 2, none, [], rfl, rfl, lt_start hb.1, s0, upd_same, rfl⟩⟩, ?_⟩
    intro m σ H' hw
    obtain ⟨l, left, t, o, xs, rfl, rfl, I, S, hl, R⟩ := (hW _ _ _).mp hw
    clear hw
    have i1 := I.l1; have i2 := I.t2; have i3 := lt_le I
    simp only [tSeq, tIfS, tTest, tRet, tRetN, tNext, tDrop, tAsg, tPar, tPar3, tAug, tVar, tC, tOp, tUn, rI, rI0, rU, tB, tAnd, tOr, tNot, tAndV, tOrV, tNotV, tIf, gName, gNil, gCons, gTup, gSub, tCB, tCons, tNil, tCall, tChain, ipI, tIsN, tNotN, tBM, tyV, tTup, tLst, rAppend, rCat, scal_ii, scal_bb, scal_ss, scal_ni, scal_in, rEq, rNe, List.getElem?_cons_zero, List.getElem?_cons_succ, List.set_cons_zero, List.set_cons_succ, eq_self, and_assoc, Option.some.injEq, V.int.injEq, V.bl.injEq, V.ref.injEq, V.str.injEq, List.cons.injEq, exists_eq_left', exists_eq_left, exists_and_left, List.nil_append, List.cons_append, List.append_nil, true_and, and_true, decide_eq_true_eq, Bool.not_eq_true', decide_eq_false_iff_not, if_true, if_false, Bool.not_true, Bool.not_false, Bool.false_eq_true, reduceCtorEq, decide_true, decide_false, ite_true, ite_false, rSetL, rIxL, tRaise, jCons, jNil, tFmt, tDNew, rCount, rIndex, Int.reduceToNat, Int.reducePow]
    refine ite2 (fun h1 => ?_) (fun h1 => ?_)
    · have itb := I.tb h1
      refine ⟨fun σ' H2 => ∃ m', m' < (left - t + 2).toNat ∧ W m' σ' H2, fun _ _ h => h, ?_⟩
      have inner : ∀ t' : Int, LtInv n l left t' → t ≤ t' → t' ≤ left → tWhile (tTest (tOp rEq (tOp (rI (fun _ j => 0 < j) fun i j => V.int (i % j)) (tVar 2) (tVar 3)) (tC (V.int 0))))
          (tPar 2 4 (tCons (tOp (rI CDivB fun i j => V.int (i / j)) (tVar 2) (tVar 3)) (tCons (tOp (rI0 fun i j => V.int (i + j)) (tVar 4) (tC (V.int 1))) tNil)))
          { nx := tSeq (tIfS (tTest (tOp (rI0 fun i j => V.bl (decide (j < i))) (tVar 4) (tC (V.int 0)))) (tDrop (tBM K "list" rAppend (tVar 1) (tCons (tTup (tCons (tVar 3) (tCons (tVar 4) tNil))) tNil))) tNext) (tAsg (tOp (rI0 fun i j => V.int (i + j)) (tVar 3) (tC (V.int 1))) (gName 3))
              { nx := fun σ' H2 => ∃ m', m' < (left - t + 2).toNat ∧ W m' σ' H2, rt := Q, bk := tRet (tVar 1) { nx := fun x H' => Q V.non H', rt := Q }, ct := fun σ' H2 => ∃ m', m' < (left - t + 2).toNat ∧ W m' σ' H2 }, rt := Q, bk := tRet (tVar 1) { nx := fun x H' => Q V.non H', rt := Q }, ct := fun σ' H2 => ∃ m', m' < (left - t + 2).toNat ∧ W m' σ' H2 }
          [some (.int n), some (.ref p), some (.int left), some (.int t'), some (.int 0)] H' := by
        intro t' I' tt tl
        have t2 := I'.t2
        obtain ⟨W2, hW2⟩ : ∃ W : Nat → St → Hp → Prop, ∀ m σ H2, W m σ H2 ↔ ∃ left' oft, m = left'.toNat ∧ σ = [some (.int n), some (.ref p), some (.int left'), some (.int t'), some (.int oft)] ∧ DivInv left t' left' oft ∧ H2 = H' := ⟨_, fun _ _ _ => Iff.rfl⟩
        refine ⟨W2, ⟨_, (hW2 _ _ _).mpr ⟨left, 0, rfl, rfl, div_start (by omega), rfl⟩⟩, ?_⟩
        intro m2 σ2 H2 hw2
        obtain ⟨left', oft, rfl, rfl, J, rfl⟩ := (hW2 _ _ _).mp hw2
        clear hw2
        have j1 := J.l1
        have j2 := div_le t2 J
        simp only [tSeq, tIfS, tTest, tRet, tRetN, tNext, tDrop, tAsg, tPar, tPar3, tAug, tVar, tC, tOp, tUn, rI, rI0, rU, tB, tAnd, tOr, tNot, tAndV, tOrV, tNotV, tIf, gName, gNil, gCons, gTup, gSub, tCB, tCons, tNil, tCall, tChain, ipI, tIsN, tNotN, tBM, tyV, tTup, tLst, rAppend, rCat, scal_ii, scal_bb, scal_ss, scal_ni, scal_in, rEq, rNe, List.getElem?_cons_zero, List.getElem?_cons_succ, List.set_cons_zero, List.set_cons_succ, eq_self, and_assoc, Option.some.injEq, V.int.injEq, V.bl.injEq, V.ref.injEq, V.str.injEq, List.cons.injEq, exists_eq_left', exists_eq_left, exists_and_left, List.nil_append, List.cons_append, List.append_nil, true_and, and_true, decide_eq_true_eq, Bool.not_eq_true', decide_eq_false_iff_not, if_true, if_false, Bool.not_true, Bool.not_false, Bool.false_eq_true, reduceCtorEq, decide_true, decide_false, ite_true, ite_false, rSetL, rIxL, tRaise, jCons, jNil, tFmt, tDNew, rCount, rIndex, Int.reduceToNat, Int.reducePow]
        refine ⟨by omega, ?_⟩
        refine ite2 (fun hd => ?_) (fun hd => ?_)
        · refine ⟨fun σ' H2 => ∃ m', m' < left'.toNat ∧ W2 m' σ' H2, fun _ _ h => h, ?_⟩
          obtain ⟨J2, jl⟩ := div_turn t2 J hd
          have j3 := J2.l1
          exact ⟨⟨by omega, by omega⟩, _, by omega, (hW2 _ _ _).mpr ⟨_, _, rfl, rfl, J2, rfl⟩⟩
        · obtain ⟨I2, lle⟩ := lt_turn I' J hd
          refine ite2 (fun ho => ?_) (fun ho => ?_)
          · rw [if_pos ho] at I2
            refine ⟨.inl ⟨_, SqL.of hl⟩, ?_⟩
            refine ⟨by show 2 ≤ sizeLine; decide, fun a ha => ?_⟩
            have npa : p ≠ a := ne_of_none hl ha
            have hlen : xs.length < sizeLine := by
              have e := R.length
              rw [List.length_map] at e
              have e2 := parts_len I.ok.pr (by have := I.eq; have := prod_pos I.ok.pr; have := Int.mul_le_mul_of_nonneg_left i1 (show 0 ≤ prod l by omega); omega)
              exact small1000 (by omega)
            refine ⟨_, by rw [upd_ne npa]; exact hl, hlen, _, by omega, (hW _ _ _).mpr ⟨l ++ [(t', oft)], left', t' + 1, _, _, rfl, rfl, I2, ?_, upd_same, ?_⟩⟩
            · intro b u e
              have e1 : b ≠ p := ne_of_none e hp
              have e2 : b ≠ a := ne_of_none (S b u e) ha
              rw [upd_ne e1, upd_ne e2]
              exact S b u e
            · have tk : TK H2 (upd (upd H2 a (.tup [.int t', .int oft])) p (.lst (xs ++ [.ref a]))) := (TK.new ha).trans (TK.lst (xs := xs) (by rw [upd_ne npa]; exact hl))
              rw [List.map_append]
              refine (R.mono tk _ (noLL_pD l)).append ⟨_, [], rfl, rep_pair ?_, rfl⟩
              rw [upd_ne npa.symm, upd_same]
          · rw [if_neg ho] at I2
            exact ⟨_, by omega, (hW _ _ _).mpr ⟨l, left', t' + 1, _, xs, rfl, rfl, I2, S, hl, R⟩⟩
      refine ⟨.inr ⟨by omega, by omega⟩, ?_⟩
      refine ite2 (fun hs => ?_) (fun hs => ?_)
      · exact inner left (lt_jump I h1 hs).1 itb (Int.le_refl _)
      · exact inner t I (Int.le_refl _) itb
    · exact k l p xs H' (lt_end I h1) S hl R
abbrev O_law_parts (P : Program) (w : World) (K : PySem.W.Frag) (mg : Str → Option Value) (base : Heap) : Prop := ∃ f fd, Df_law_parts K mg f fd ∧ FnOk P w K mg base CX0 1 f fd ["_law_number"] (spLParts K)
abbrev s_law_is_prime : Stmt := top 46
theorem sc_law_is_prime : FnScope ["_law_number"] ["_law_number"] (defScope s_law_is_prime) := ⟨rfl, rfl, rfl, by decide +kernel, rfl, by decide +kernel, by decide +kernel⟩
abbrev Df_law_is_prime (K : PySem.W.Frag) (mg : Str → Option Value) (f : Addr) (fd : FuncData) : Prop := Def K mg "_law_is_prime" s_law_is_prime ["_law_number"] f fd
def spLPrime : Sp := fun vs H Q _ => ∃ (n : Int), vs = [.int n] ∧ n ≤ 10 ^ 9 ∧ ∀ H', Same H H' → Q (.bl (isPrB n)) H'
theorem ok_law_is_prime (D : Df_law_is_prime K mg f fd) (T : Txt K mg t1 t2 t3) (o1 : O_law_parts P w K mg base) : FnOk P w K mg base CX0 2 f fd ["_law_number"] spLPrime := by
  obtain ⟨_, _, D_law_parts, G_law_parts⟩ := o1
  refine D.fn.ok sc_law_is_prime (fun vs H Q E h => ?_) (fun cdv A outer s H vs Q E hr h => ?_)
  · obtain ⟨n, rfl, _⟩ := h
    rfl
  · obtain ⟨n, rfl, hb, k⟩ := h
    refine ⟨_, (pss_one (ps_ret (pe_and (pe_cmpR op_gt (pv 0) pe_int (nomark _)) (pe_one (pe_cmpR (op_eqS (hu150 hr)) (pe_call (G_law_parts.mono (by decide)) hr rfl D_law_parts.mgx D_law_parts.fn.kp D_law_parts.bd .nil pass0 (pa_cons (pv 0) pa_nil)) (pe_lst (pa_cons (pe_tup (pa_cons (pv 0) (pa_cons pe_int pa_nil))) pa_nil)) (nomark _)))))), ?_⟩
    have e0 : L2.start ["_law_number"] [.int n] = [some (.int n)] := rfl
    rw [e0]; clear e0
    simp only [tSeq, tIfS, tTest, tRet, tRetN, tNext, tDrop, tAsg, tPar, tPar3, tAug, tVar, tC, tOp, tUn, rI, rI0, rU, tB, tAnd, tOr, tNot, tAndV, tOrV, tNotV, tIf, gName, gNil, gCons, gTup, gSub, tCB, tCons, tNil, tCall, tChain, ipI, tIsN, tNotN, tBM, tyV, tTup, tLst, rAppend, rCat, scal_ii, scal_bb, scal_ss, scal_ni, scal_in, rEq, rNe, List.getElem?_cons_zero, List.getElem?_cons_succ, List.set_cons_zero, List.set_cons_succ, eq_self, and_assoc, Option.some.injEq, V.int.injEq, V.bl.injEq, V.ref.injEq, V.str.injEq, List.cons.injEq, exists_eq_left', exists_eq_left, exists_and_left, List.nil_append, List.cons_append, List.append_nil, true_and, and_true, decide_eq_true_eq, Bool.not_eq_true', decide_eq_false_iff_not, if_true, if_false, Bool.not_true, Bool.not_false, Bool.false_eq_true, reduceCtorEq, decide_true, decide_false, ite_true, ite_false, rSetL, rIxL, tRaise, jCons, jNil, tFmt, tDNew, rCount, rIndex, Int.reduceToNat, Int.reducePow]
    refine ite2 (fun h1 => ?_) (fun h1 => ?_)
    · refine ⟨n, rfl, ⟨by omega, hb⟩, fun l p xs H' hl S hp R => ?_⟩
      simp only [tSeq, tIfS, tTest, tRet, tRetN, tNext, tDrop, tAsg, tPar, tPar3, tAug, tVar, tC, tOp, tUn, rI, rI0, rU, tB, tAnd, tOr, tNot, tAndV, tOrV, tNotV, tIf, gName, gNil, gCons, gTup, gSub, tCB, tCons, tNil, tCall, tChain, ipI, tIsN, tNotN, tBM, tyV, tTup, tLst, rAppend, rCat, scal_ii, scal_bb, scal_ss, scal_ni, scal_in, rEq, rNe, List.getElem?_cons_zero, List.getElem?_cons_succ, List.set_cons_zero, List.set_cons_succ, eq_self, and_assoc, Option.some.injEq, V.int.injEq, V.bl.injEq, V.ref.injEq, V.str.injEq, List.cons.injEq, exists_eq_left', exists_eq_left, exists_and_left, List.nil_append, List.cons_append, List.append_nil, true_and, and_true, decide_eq_true_eq, Bool.not_eq_true', decide_eq_false_iff_not, if_true, if_false, Bool.not_true, Bool.not_false, Bool.false_eq_true, reduceCtorEq, decide_true, decide_false, ite_true, ite_false, rSetL, rIxL, tRaise, jCons, jNil, tFmt, tDNew, rCount, rIndex, Int.reduceToNat, Int.reducePow]
      refine ⟨by show 2 ≤ sizeLine; decide, fun a ha => ⟨by show 1 ≤ sizeLine; decide, fun b hb' => ?_⟩⟩
      have na : b ≠ a := (ne_of_none upd_same hb').symm
      have tk : TK H' (upd (upd H' a (.tup [.int n, .int 1])) b (.lst [.ref a])) := (TK.new ha).trans (TK.new hb')
      have npa : p ≠ a := ne_of_none hp ha
      have npb : p ≠ b := ne_of_none (by rw [upd_ne npa]; exact hp) hb'
      refine ⟨l.map pD, [(n, 1)].map pD, .inr ⟨⟨p, xs, rfl, SqL.of (by rw [upd_ne npb, upd_ne npa]; exact hp), R.mono tk _ (noLL_pD l)⟩, ⟨b, _, rfl, SqL.of upd_same, _, _, rfl, rep_pair (by rw [upd_ne na.symm, upd_same]), rfl⟩⟩, Nat.le_trans (depL_pD l) (by decide), ?_⟩
      have e := parts_prime hl
      have kk := k _ (fun c o z => show (upd (upd H' a (.tup [.int n, .int 1])) b (.lst [.ref a])) c = some o by
        rw [upd_ne (ne_of_none (show (upd H' a _) c = some o by rw [upd_ne (ne_of_none (S c o z) ha)]; exact S c o z) hb'), upd_ne (ne_of_none (S c o z) ha)]
        exact S c o z)
      rw [eqDL_pD]
      by_cases hp' : IsPr n
      · rw [isPrB_of hp'] at kk
        rw [decide_eq_true (e.mpr hp')]
        exact kk
      · rw [isPrB_not hp'] at kk
        rw [decide_eq_false (fun z => hp' (e.mp z))]
        exact kk
    · have kk := k H (Same.refl H)
      rw [isPrB_not (fun h => by have := h.1; omega)] at kk
      exact kk
abbrev O_law_is_prime (P : Program) (w : World) (K : PySem.W.Frag) (mg : Str → Option Value) (base : Heap) : Prop := ∃ f fd, Df_law_is_prime K mg f fd ∧ FnOk P w K mg base CX0 2 f fd ["_law_number"] (spLPrime)
theorem Step.same {a : Addr} {H H1 H2 : Hp} (x : Step a H H1) (y : Same H1 H2) : Step a H H2 := by
  obtain ⟨u, v, e, r⟩ := x.st
  exact ⟨⟨u, v, y a _ e, r⟩, fun b o hb e => y b o (x.but b o hb e)⟩
abbrev s_law_prime : Stmt := top 47
theorem sc_law_prime : FnScope ["_law_state_here", "_law_most", "_law_number"] ["_law_state_here", "_law_most"] (defScope s_law_prime) := ⟨rfl, rfl, rfl, by decide +kernel, rfl, by decide +kernel, by decide +kernel⟩
abbrev Df_law_prime (K : PySem.W.Frag) (mg : Str → Option Value) (f : Addr) (fd : FuncData) : Prop := Def K mg "_law_prime" s_law_prime ["_law_state_here", "_law_most"] f fd
def spPrimeD : Sp := fun vs H Q _ => ∃ (a : Addr) (m z : Int), vs = [.ref a, .int m] ∧ (0 < m ∧ m + 1 ≤ z ∧ IsPr z ∧ z ≤ 10 ^ 9) ∧ StAt H a ∧ ∀ r H', IsPr r → r ≤ z → Step a H H' → Q (.int r) H'
theorem ok_law_prime (D : Df_law_prime K mg f fd) (T : Txt K mg t1 t2 t3) (o1 : O_law_take P w K mg base) (o2 : O_law_is_prime P w K mg base) : FnOk P w K mg base CX0 3 f fd ["_law_state_here", "_law_most"] spPrimeD := by
  obtain ⟨_, _, D_law_take, G_law_take⟩ := o1
  obtain ⟨_, _, D_law_is_prime, G_law_is_prime⟩ := o2
  refine D.fn.ok sc_law_prime (fun vs H Q E h => ?_) (fun cdv A outer s H vs Q E hr h => ?_)
  · obtain ⟨a, m, z, rfl, _⟩ := h
    rfl
  · obtain ⟨a, m, z, rfl, ⟨m0, m1, hz, z9⟩, hst, k⟩ := h
    refine ⟨_, (pss_cons (ps_set (i := 2) sc_law_prime.nd rfl (by first | exact Or.inl rfl | exact Or.inr rfl) (pe_op op_add pe_int (pe_call (G_law_take.mono (by decide)) hr rfl D_law_take.mgx D_law_take.fn.kp D_law_take.bd .nil pass0 (pa_cons (pv 0) (pa_cons (pv 1) pa_nil)))))
 (pss_cons (ps_while PassesOwn.never (pt_not (pt_val (pe_call (G_law_is_prime.mono (by decide)) hr rfl D_law_is_prime.mgx D_law_is_prime.fn.kp D_law_is_prime.bd .nil pass0 (pa_cons (pv 2) pa_nil))))
 (pss_one (ps_set (i := 2) sc_law_prime.nd rfl (by first | exact Or.inl rfl | exact Or.inr rfl) (pe_op op_add (pv 2) pe_int))))
 (pss_one (ps_ret (pv 2))))), ?_⟩
    have e0 : L2.start ["_law_state_here", "_law_most", "_law_number"] [.ref a, .int m] = [some (.ref a), some (.int m), none] := rfl
    rw [e0]; clear e0
    simp only [tSeq, tIfS, tTest, tRet, tRetN, tNext, tDrop, tAsg, tPar, tPar3, tAug, tVar, tC, tOp, tUn, rI, rI0, rU, tB, tAnd, tOr, tNot, tAndV, tOrV, tNotV, tIf, gName, gNil, gCons, gTup, gSub, tCB, tCons, tNil, tCall, tChain, ipI, tIsN, tNotN, tBM, tyV, tTup, tLst, rAppend, rCat, scal_ii, scal_bb, scal_ss, scal_ni, scal_in, rEq, rNe, List.getElem?_cons_zero, List.getElem?_cons_succ, List.set_cons_zero, List.set_cons_succ, eq_self, and_assoc, Option.some.injEq, V.int.injEq, V.bl.injEq, V.ref.injEq, V.str.injEq, List.cons.injEq, exists_eq_left', exists_eq_left, exists_and_left, List.nil_append, List.cons_append, List.append_nil, true_and, and_true, decide_eq_true_eq, Bool.not_eq_true', decide_eq_false_iff_not, if_true, if_false, Bool.not_true, Bool.not_false, Bool.false_eq_true, reduceCtorEq, decide_true, decide_false, ite_true, ite_false, rSetL, rIxL, tRaise, jCons, jNil, tFmt, tDNew, rCount, rIndex, Int.reduceToNat, Int.reducePow]
    refine ⟨a, m, rfl, ⟨by omega, by omega⟩, hst, fun r H1 r0 r1 S1 => ?_⟩
    simp only [tSeq, tIfS, tTest, tRet, tRetN, tNext, tDrop, tAsg, tPar, tPar3, tAug, tVar, tC, tOp, tUn, rI, rI0, rU, tB, tAnd, tOr, tNot, tAndV, tOrV, tNotV, tIf, gName, gNil, gCons, gTup, gSub, tCB, tCons, tNil, tCall, tChain, ipI, tIsN, tNotN, tBM, tyV, tTup, tLst, rAppend, rCat, scal_ii, scal_bb, scal_ss, scal_ni, scal_in, rEq, rNe, List.getElem?_cons_zero, List.getElem?_cons_succ, List.set_cons_zero, List.set_cons_succ, eq_self, and_assoc, Option.some.injEq, V.int.injEq, V.bl.injEq, V.ref.injEq, V.str.injEq, List.cons.injEq, exists_eq_left', exists_eq_left, exists_and_left, List.nil_append, List.cons_append, List.append_nil, true_and, and_true, decide_eq_true_eq, Bool.not_eq_true', decide_eq_false_iff_not, if_true, if_false, Bool.not_true, Bool.not_false, Bool.false_eq_true, reduceCtorEq, decide_true, decide_false, ite_true, ite_false, rSetL, rIxL, tRaise, jCons, jNil, tFmt, tDNew, rCount, rIndex, Int.reduceToNat, Int.reducePow]
    obtain ⟨W, hW⟩ : ∃ W : Nat → St → Hp → Prop, ∀ j σ H', W j σ H' ↔ ∃ n : Int, j = (z - n).toNat ∧ σ = [some (.ref a), some (.int m), some (.int n)] ∧ n ≤ z ∧ Step a H H' := ⟨_, fun _ _ _ => Iff.rfl⟩
    refine ⟨W, ⟨_, (hW _ _ _).mpr ⟨_, rfl, rfl, by omega, S1⟩⟩, ?_⟩
    intro j σ H' hw
    obtain ⟨n, rfl, rfl, nb, S⟩ := (hW _ _ _).mp hw
    clear hw
    simp only [tSeq, tIfS, tTest, tRet, tRetN, tNext, tDrop, tAsg, tPar, tPar3, tAug, tVar, tC, tOp, tUn, rI, rI0, rU, tB, tAnd, tOr, tNot, tAndV, tOrV, tNotV, tIf, gName, gNil, gCons, gTup, gSub, tCB, tCons, tNil, tCall, tChain, ipI, tIsN, tNotN, tBM, tyV, tTup, tLst, rAppend, rCat, scal_ii, scal_bb, scal_ss, scal_ni, scal_in, rEq, rNe, List.getElem?_cons_zero, List.getElem?_cons_succ, List.set_cons_zero, List.set_cons_succ, eq_self, and_assoc, Option.some.injEq, V.int.injEq, V.bl.injEq, V.ref.injEq, V.str.injEq, List.cons.injEq, exists_eq_left', exists_eq_left, exists_and_left, List.nil_append, List.cons_append, List.append_nil, true_and, and_true, decide_eq_true_eq, Bool.not_eq_true', decide_eq_false_iff_not, if_true, if_false, Bool.not_true, Bool.not_false, Bool.false_eq_true, reduceCtorEq, decide_true, decide_false, ite_true, ite_false, rSetL, rIxL, tRaise, jCons, jNil, tFmt, tDNew, rCount, rIndex, Int.reduceToNat, Int.reducePow]
    refine ⟨n, rfl, by omega, fun H2 S2 => ?_⟩
    simp only [tSeq, tIfS, tTest, tRet, tRetN, tNext, tDrop, tAsg, tPar, tPar3, tAug, tVar, tC, tOp, tUn, rI, rI0, rU, tB, tAnd, tOr, tNot, tAndV, tOrV, tNotV, tIf, gName, gNil, gCons, gTup, gSub, tCB, tCons, tNil, tCall, tChain, ipI, tIsN, tNotN, tBM, tyV, tTup, tLst, rAppend, rCat, scal_ii, scal_bb, scal_ss, scal_ni, scal_in, rEq, rNe, List.getElem?_cons_zero, List.getElem?_cons_succ, List.set_cons_zero, List.set_cons_succ, eq_self, and_assoc, Option.some.injEq, V.int.injEq, V.bl.injEq, V.ref.injEq, V.str.injEq, List.cons.injEq, exists_eq_left', exists_eq_left, exists_and_left, List.nil_append, List.cons_append, List.append_nil, true_and, and_true, decide_eq_true_eq, Bool.not_eq_true', decide_eq_false_iff_not, if_true, if_false, Bool.not_true, Bool.not_false, Bool.false_eq_true, reduceCtorEq, decide_true, decide_false, ite_true, ite_false, rSetL, rIxL, tRaise, jCons, jNil, tFmt, tDNew, rCount, rIndex, Int.reduceToNat, Int.reducePow]
    cases e : isPrB n with
    | false =>
      refine ite2 (fun _ => ?_) (fun h => absurd rfl h)
      refine ⟨fun σ' H2 => ∃ m', m' < (z - n).toNat ∧ W m' σ' H2, fun _ _ h => h, ?_⟩
      have ne : n ≠ z := fun w => by rw [w, isPrB_of hz] at e; cases e
      exact ⟨_, by omega, (hW _ _ _).mpr ⟨_, rfl, rfl, by omega, S.same S2⟩⟩
    | true =>
      refine ite2 (fun h => absurd h (by decide)) (fun _ => ?_)
      exact k n H2 (isPrB_iff.mp e) nb (S.same S2)
abbrev O_law_prime (P : Program) (w : World) (K : PySem.W.Frag) (mg : Str → Option Value) (base : Heap) : Prop := ∃ f fd, Df_law_prime K mg f fd ∧ FnOk P w K mg base CX0 3 f fd ["_law_state_here", "_law_most"] (spPrimeD)
abbrev s_law_far : Stmt := top 44
theorem sc_law_far : FnScope ["_law_state_here", "_law_many", "_law_found", "_law_turn"] ["_law_state_here", "_law_many"] (defScope s_law_far) := ⟨rfl, rfl, rfl, by decide +kernel, rfl, by decide +kernel, by decide +kernel⟩
abbrev Df_law_far (K : PySem.W.Frag) (mg : Str → Option Value) (f : Addr) (fd : FuncData) : Prop := Def K mg "_law_far" s_law_far ["_law_state_here", "_law_many"] f fd
def spFar : Sp := fun vs H Q _ => ∃ (a : Addr) (m : Int), vs = [.ref a, .int m] ∧ (0 < m ∧ m < 10 ^ 90) ∧ StAt H a ∧ ∀ r H', 0 ≤ r → r < m → Step a H H' → Q (.int r) H'
theorem ok_law_far (D : Df_law_far K mg f fd) (T : Txt K mg t1 t2 t3) (o1 : O_law_take P w K mg base) : FnOk P w K mg base CX0 2 f fd ["_law_state_here", "_law_many"] spFar := by
  obtain ⟨_, _, D_law_take, G_law_take⟩ := o1
  refine D.fn.ok sc_law_far (fun vs H Q E h => ?_) (fun cdv A outer s H vs Q E hr h => ?_)
  · obtain ⟨a, m, rfl, _⟩ := h
    rfl
  · obtain ⟨a, m, rfl, ⟨m0, m1⟩, hst, q⟩ := h
    refine ⟨_, (pss_cons (ps_set (i := 2) sc_law_far.nd rfl (by first | exact Or.inl rfl | exact Or.inr rfl) pe_int)
 (pss_cons (ps_for PassesOwn.never rfl (pi_range1 rfl T.no_range (pa_cons pe_int pa_nil)) (pg_name (i := 3) sc_law_far.nd rfl (by first | exact Or.inl rfl | exact Or.inr rfl))
 (pss_one (ps_set (i := 2) sc_law_far.nd rfl (by first | exact Or.inl rfl | exact Or.inr rfl) (pe_op op_add (pe_op op_mulB (pv 2) pe_int) (pe_call (G_law_take.mono (by decide)) hr rfl D_law_take.mgx D_law_take.fn.kp D_law_take.bd .nil pass0 (pa_cons (pv 0) (pa_cons pe_int pa_nil)))))))
 (pss_one (ps_ret (pe_op op_mod (pv 2) (pv 1)))))), ?_⟩
    have e0 : L2.start ["_law_state_here", "_law_many", "_law_found", "_law_turn"] [.ref a, .int m] = [some (.ref a), some (.int m), none, none] := rfl
    rw [e0]; clear e0
    simp only [tSeq, tIfS, tTest, tRet, tRetN, tNext, tDrop, tAsg, tPar, tPar3, tAug, tVar, tC, tOp, tUn, rI, rI0, rU, tB, tAnd, tOr, tNot, tAndV, tOrV, tNotV, tIf, gName, gNil, gCons, gTup, gSub, tCB, tCons, tNil, tCall, tChain, ipI, tIsN, tNotN, tBM, tyV, tTup, tLst, rAppend, rCat, scal_ii, scal_bb, scal_ss, scal_ni, scal_in, rEq, rNe, List.getElem?_cons_zero, List.getElem?_cons_succ, List.set_cons_zero, List.set_cons_succ, eq_self, and_assoc, Option.some.injEq, V.int.injEq, V.bl.injEq, V.ref.injEq, V.str.injEq, List.cons.injEq, exists_eq_left', exists_eq_left, exists_and_left, List.nil_append, List.cons_append, List.append_nil, true_and, and_true, decide_eq_true_eq, Bool.not_eq_true', decide_eq_false_iff_not, if_true, if_false, Bool.not_true, Bool.not_false, Bool.false_eq_true, reduceCtorEq, decide_true, decide_false, ite_true, ite_false, rSetL, rIxL, tRaise, jCons, jNil, tFmt, tDNew, rCount, rIndex, Int.reduceToNat, Int.reducePow]
    refine ⟨4, rfl, by decide, by decide, for_range (n := 4) (fun i σ H' => Step a H H' ∧ ∃ r t, σ = [some (.ref a), some (.int m), some (.int r), t] ∧ r.natAbs < 10 ^ (10 * i) ∧ 0 ≤ r) ⟨.refl hst, 0, none, rfl, by decide, by decide⟩ ?_ ?_⟩
    · rintro i σ H' hi ⟨S, r, t, rfl, hb, h0⟩
      simp only [tSeq, tIfS, tTest, tRet, tRetN, tNext, tDrop, tAsg, tPar, tPar3, tAug, tVar, tC, tOp, tUn, rI, rI0, rU, tB, tAnd, tOr, tNot, tAndV, tOrV, tNotV, tIf, gName, gNil, gCons, gTup, gSub, tCB, tCons, tNil, tCall, tChain, ipI, tIsN, tNotN, tBM, tyV, tTup, tLst, rAppend, rCat, scal_ii, scal_bb, scal_ss, scal_ni, scal_in, rEq, rNe, List.getElem?_cons_zero, List.getElem?_cons_succ, List.set_cons_zero, List.set_cons_succ, eq_self, and_assoc, Option.some.injEq, V.int.injEq, V.bl.injEq, V.ref.injEq, V.str.injEq, List.cons.injEq, exists_eq_left', exists_eq_left, exists_and_left, List.nil_append, List.cons_append, List.append_nil, true_and, and_true, decide_eq_true_eq, Bool.not_eq_true', decide_eq_false_iff_not, if_true, if_false, Bool.not_true, Bool.not_false, Bool.false_eq_true, reduceCtorEq, decide_true, decide_false, ite_true, ite_false, rSetL, rIxL, tRaise, jCons, jNil, tFmt, tDNew, rCount, rIndex, Int.reduceToNat, Int.reducePow]
      refine ⟨.inl (.inr ⟨by decide, by decide⟩), a, _, rfl, ⟨by decide, by decide⟩, S.st, fun r2 H2 r0 r1 S2 => ?_⟩
      simp only [tSeq, tIfS, tTest, tRet, tRetN, tNext, tDrop, tAsg, tPar, tPar3, tAug, tVar, tC, tOp, tUn, rI, rI0, rU, tB, tAnd, tOr, tNot, tAndV, tOrV, tNotV, tIf, gName, gNil, gCons, gTup, gSub, tCB, tCons, tNil, tCall, tChain, ipI, tIsN, tNotN, tBM, tyV, tTup, tLst, rAppend, rCat, scal_ii, scal_bb, scal_ss, scal_ni, scal_in, rEq, rNe, List.getElem?_cons_zero, List.getElem?_cons_succ, List.set_cons_zero, List.set_cons_succ, eq_self, and_assoc, Option.some.injEq, V.int.injEq, V.bl.injEq, V.ref.injEq, V.str.injEq, List.cons.injEq, exists_eq_left', exists_eq_left, exists_and_left, List.nil_append, List.cons_append, List.append_nil, true_and, and_true, decide_eq_true_eq, Bool.not_eq_true', decide_eq_false_iff_not, if_true, if_false, Bool.not_true, Bool.not_false, Bool.false_eq_true, reduceCtorEq, decide_true, decide_false, ite_true, ite_false, rSetL, rIxL, tRaise, jCons, jNil, tFmt, tDNew, rCount, rIndex, Int.reduceToNat, Int.reducePow]
      refine ⟨S.trans S2, ?_, by omega⟩
      have : i = 0 ∨ i = 1 ∨ i = 2 ∨ i = 3 := by omega
      rcases this with rfl | rfl | rfl | rfl <;> simp only [Nat.mul_zero, Nat.mul_one, Nat.reduceMul, Nat.reduceAdd] at hb ⊢ <;> omega
    · rintro σ H' ⟨S, r, t, rfl, hb, h0⟩
      simp only [tSeq, tIfS, tTest, tRet, tRetN, tNext, tDrop, tAsg, tPar, tPar3, tAug, tVar, tC, tOp, tUn, rI, rI0, rU, tB, tAnd, tOr, tNot, tAndV, tOrV, tNotV, tIf, gName, gNil, gCons, gTup, gSub, tCB, tCons, tNil, tCall, tChain, ipI, tIsN, tNotN, tBM, tyV, tTup, tLst, rAppend, rCat, scal_ii, scal_bb, scal_ss, scal_ni, scal_in, rEq, rNe, List.getElem?_cons_zero, List.getElem?_cons_succ, List.set_cons_zero, List.set_cons_succ, eq_self, and_assoc, Option.some.injEq, V.int.injEq, V.bl.injEq, V.ref.injEq, V.str.injEq, List.cons.injEq, exists_eq_left', exists_eq_left, exists_and_left, List.nil_append, List.cons_append, List.append_nil, true_and, and_true, decide_eq_true_eq, Bool.not_eq_true', decide_eq_false_iff_not, if_true, if_false, Bool.not_true, Bool.not_false, Bool.false_eq_true, reduceCtorEq, decide_true, decide_false, ite_true, ite_false, rSetL, rIxL, tRaise, jCons, jNil, tFmt, tDNew, rCount, rIndex, Int.reduceToNat, Int.reducePow]
      exact ⟨m0, q _ _ (Int.emod_nonneg _ (by omega)) (Int.emod_lt_of_pos _ m0) S⟩
abbrev O_law_far (P : Program) (w : World) (K : PySem.W.Frag) (mg : Str → Option Value) (base : Heap) : Prop := ∃ f fd, Df_law_far K mg f fd ∧ FnOk P w K mg base CX0 2 f fd ["_law_state_here", "_law_many"] (spFar)
end
end PP
set_option Elab.async false
set_option linter.all false
set_option maxRecDepth 100000
set_option maxHeartbeats 4000000
namespace PP
open PySem L2 MM
section
variable {P : Program} {w : World} {K : PySem.W.Frag} {mg : Str → Option Value} {base : Heap} {t1 t2 t3 : Tok} {f : Addr} {fd : FuncData}
theorem pr_3 : IsPr 3 := pr_try (n := 3) (k := 0) (by decide) (by decide) (by decide)
theorem odd_pr {r z : Int} (h : IsPr r) (hb : r ≤ z) (hz : 3 ≤ z) : ∃ p : Int, (if r > 3 then r else 3) = p ∧ IsPr p ∧ 3 ≤ p ∧ p ≤ z := by
  split
  · exact ⟨r, rfl, h, by omega, hb⟩
  · exact ⟨3, rfl, pr_3, by omega, hz⟩
theorem srt3 {h s p : Bool} {bs : List Bool} (hp : bs.Perm [h, s, p]) (pw : bs.Pairwise (fun a b => (!b && a) = false)) (h1 : h = true → s = true) (h2 : s = true → p = true) : bs = [h, s, p] := by
  have hl := hp.length_eq
  match bs, hl with
  | [x, y, z], _ =>
    have c := hp.count_eq true
    have pw : ((!y && x) = false ∧ (!z && x) = false) ∧ (!z && y) = false := by simpa using pw
    revert c pw h1 h2
    cases h <;> cases s <;> cases p <;> cases x <;> cases y <;> cases z <;> decide
theorem pm_root {p m o : Int} (hp : IsPr p) (h3 : 3 ≤ p) (m0 : 0 ≤ m) (m1 : 2 * m ≤ p) (h : Cg p (m * m) (o * o)) : m = o % p ∨ m = -o % p := by
  have hd : p ∣ (m - o) * (m + o) := by
    obtain ⟨c, hc⟩ := h
    exact ⟨c, by rw [← hc]; grind⟩
  have lt : m < p := by omega
  rcases pr_int_euclid hp hd with w | w
  · left
    exact cg_self (show Cg p m o from w) m0 lt
  · right
    refine cg_self (show Cg p m (-o) from ?_) m0 lt
    show p ∣ m - -o
    rwa [Int.sub_neg]
def tTurn : TE := fun σ H Q => ∃ (n m : Int), σ[5]? = some (some (.int n)) ∧ σ[6]? = some (some (.int m)) ∧ Q (.int (sgT n m)) H
theorem turn_ok : ∀ (σ : St) (H : Hp) (Q : VK), tTurn σ H Q → (tIf (tAnd (tTest (tOp rEq (tOp (rI (fun _ j => 0 < j) fun i j => V.int (i % j)) (tVar 5) (tC (V.int 4))) (tC (V.int 3)))) (tTest (tOp rEq (tOp (rI (fun _ j => 0 < j) fun i j => V.int (i % j)) (tVar 6) (tC (V.int 4))) (tC (V.int 3))))) (tUn (rU fun i => V.int (-i)) (tC (V.int 1))) (tC (V.int 1))) σ H Q := by
  rintro σ H Q ⟨n, m, e1, e2, q⟩
  simp only [tSeq, tIfS, tTest, tRet, tRetN, tNext, tDrop, tAsg, tPar, tPar3, tAug, tVar, tC, tOp, tUn, rI, rI0, rU, tB, tAnd, tOr, tNot, tAndV, tOrV, tNotV, tIf, gName, gNil, gCons, gTup, gSub, tCB, tCons, tNil, tCall, tChain, ipI, tIsN, tNotN, tBM, tyV, tTup, tLst, rAppend, rCat, scal_ii, scal_bb, scal_ss, scal_ni, scal_in, rEq, rNe, List.getElem?_cons_zero, List.getElem?_cons_succ, List.set_cons_zero, List.set_cons_succ, eq_self, and_assoc, Option.some.injEq, V.int.injEq, V.bl.injEq, V.ref.injEq, V.str.injEq, List.cons.injEq, exists_eq_left', exists_eq_left, exists_and_left, List.nil_append, List.cons_append, List.append_nil, true_and, and_true, decide_eq_true_eq, Bool.not_eq_true', decide_eq_false_iff_not, if_true, if_false, Bool.not_true, Bool.not_false, Bool.false_eq_true, reduceCtorEq, decide_true, decide_false, ite_true, ite_false, rSetL, rIxL, tRaise, jCons, jNil, tFmt, tDNew, rCount, rIndex, Int.reduceToNat, Int.reducePow]
  refine ⟨.int n, e1, n, rfl, by decide, ?_⟩
  unfold sgT at q
  by_cases h3 : n % 4 = 3
  · rw [if_pos h3]
    refine ⟨.int m, e2, m, rfl, by decide, ?_⟩
    by_cases h4 : m % 4 = 3
    · rw [if_pos h4]; rw [if_pos ⟨h3, h4⟩] at q; exact q
    · rw [if_neg h4]; rw [if_neg (fun z => h4 z.2)] at q; exact q
  · rw [if_neg h3]; rw [if_neg (fun z => h3 z.1)] at q; exact q
abbrev s_law : Stmt := top 48
theorem sc_law : FnScope ["_law_script", "_law_k", "_law_state_here", "_law_one", "_law_other", "_law_n", "_law_m", "_law_turned", "_law_prime_here", "_law_number", "_law_base", "_law_looks", "_law_root"] ["_law_script"] (defScope s_law) := ⟨rfl, rfl, rfl, by decide +kernel, rfl, by decide +kernel, by decide +kernel⟩
abbrev Df_law (K : PySem.W.Frag) (mg : Str → Option Value) (f : Addr) (fd : FuncData) : Prop := Def K mg "law" s_law ["_law_script"] f fd
def spLaw (K : PySem.W.Frag) : Sp := fun vs H Q _ => ∃ (a : Addr) (ns : List Int), vs = [.ref a] ∧ SqL K H a (ns.map V.int) ∧ ns.length ≤ 63 ∧ ∀ H', Q (.bl true) H'
theorem ok_law (D : Df_law K mg f fd) (T : Txt K mg t1 t2 t3) (o1 : O_law_state P w K mg base) (o2 : O_law_take P w K mg base) (o3 : O_law_far P w K mg base) (o4 : O_law_prime P w K mg base) (o5 : O_sign P w K mg base) (o6 : O_shared P w K mg base) (o7 : O_by_halves P w K mg base) (o8 : O_by_signs P w K mg base) (o9 : O_by_powers P w K mg base) (o10 : O_root_by P w K mg base) (o11 : O_least_unsquare P w K mg base) : FnOk P w K mg base CX0 9 f fd ["_law_script"] (spLaw K) := by
  obtain ⟨_, _, D_law_state, G_law_state⟩ := o1
  obtain ⟨_, _, D_law_take, G_law_take⟩ := o2
  obtain ⟨_, _, D_law_far, G_law_far⟩ := o3
  obtain ⟨_, _, D_law_prime, G_law_prime⟩ := o4
  obtain ⟨_, _, D_sign, G_sign⟩ := o5
  obtain ⟨_, _, D_shared, G_shared⟩ := o6
  obtain ⟨_, _, D_by_halves, G_by_halves⟩ := o7
  obtain ⟨_, _, D_by_signs, G_by_signs⟩ := o8
  obtain ⟨_, _, D_by_powers, G_by_powers⟩ := o9
  obtain ⟨_, _, D_root_by, G_root_by⟩ := o10
  obtain ⟨_, _, D_least_unsquare, G_least_unsquare⟩ := o11
  refine D.fn.ok sc_law (fun vs H Q E h => ?_) (fun cdv A outer s H vs Q E hr h => ?_)
  · obtain ⟨a, ns, rfl, _⟩ := h
    rfl
  · obtain ⟨sa, ns, rfl, hS, hlen, k⟩ := h
    refine ⟨_, (pss_cons (ps_for PassesOwn.never rfl (pi_range1 rfl T.no_range (pa_cons (pe_callB (call_max2 rfl) (by rfl) T.no_max PyProof.Rows.boot_max (pa_cons pe_int (pa_cons (pe_callB (call_min2 rfl) (by rfl) T.no_min PyProof.Rows.boot_min (pa_cons (pe_callB call_len_seq (by rfl) T.no_len PySem.boot_len (pa_cons (pv 0) pa_nil)) (pa_cons pe_int pa_nil))) pa_nil))) pa_nil)) (pg_name (i := 1) sc_law.nd rfl (by first | exact Or.inl rfl | exact Or.inr rfl))
 (pss_cons (ps_set (i := 2) sc_law.nd rfl (by first | exact Or.inl rfl | exact Or.inr rfl) (pe_call (G_law_state.mono (by decide)) hr rfl D_law_state.mgx D_law_state.fn.kp D_law_state.bd .nil pass0 (pa_cons (pv 0) (pa_cons (pv 1) pa_nil))))
 (pss_cons (ps_par (i := 3) (j := 4) rfl sc_law.nd rfl rfl (by decide) rfl rfl (pa_cons (pe_op op_sub (pe_call (G_law_far.mono (by decide)) hr rfl D_law_far.mgx D_law_far.fn.kp D_law_far.bd .nil pass0 (pa_cons (pv 2) (pa_cons (pe_op op_pow pe_int pe_int) pa_nil))) (pe_op op_pow pe_int pe_int)) (pa_cons (pe_op op_sub (pe_call (G_law_take.mono (by decide)) hr rfl D_law_take.mgx D_law_take.fn.kp D_law_take.bd .nil pass0 (pa_cons (pv 2) (pa_cons (pe_op op_pow pe_int pe_int) pa_nil))) (pe_op op_pow pe_int pe_int)) pa_nil)) (by first | rfl | with_unfolding_all rfl))
 (pss_cons (ps_par (i := 5) (j := 6) rfl sc_law.nd rfl rfl (by decide) rfl rfl (pa_cons (pe_op op_add pe_int (pe_op op_mulB pe_int (pe_call (G_law_far.mono (by decide)) hr rfl D_law_far.mgx D_law_far.fn.kp D_law_far.bd .nil pass0 (pa_cons (pv 2) (pa_cons (pe_op op_pow pe_int pe_int) pa_nil))))) (pa_cons (pe_op op_add pe_int (pe_op op_mulB pe_int (pe_call (G_law_take.mono (by decide)) hr rfl D_law_take.mgx D_law_take.fn.kp D_law_take.bd .nil pass0 (pa_cons (pv 2) (pa_cons (pe_op op_pow pe_int pe_int) pa_nil))))) pa_nil)) (by first | rfl | with_unfolding_all rfl))
 (pss_cons (ps_if (PW.pt (pw_or (pt_cmpR op_ne (pe_call (G_sign.mono (by decide)) hr rfl D_sign.mgx D_sign.fn.kp D_sign.bd .nil pass0 (pa_cons (pe_op op_mulB (pv 3) (pv 4)) (pa_cons (pv 5) pa_nil))) (pe_op op_mulB (pe_call (G_sign.mono (by decide)) hr rfl D_sign.mgx D_sign.fn.kp D_sign.bd .nil pass0 (pa_cons (pv 3) (pa_cons (pv 5) pa_nil))) (pe_call (G_sign.mono (by decide)) hr rfl D_sign.mgx D_sign.fn.kp D_sign.bd .nil pass0 (pa_cons (pv 4) (pa_cons (pv 5) pa_nil)))) (nomark _)) (pw_or1 (pt_cmpR op_ne (pe_call (G_sign.mono (by decide)) hr rfl D_sign.mgx D_sign.fn.kp D_sign.bd .nil pass0 (pa_cons (pv 3) (pa_cons (pe_op op_mulB (pv 5) (pv 6)) pa_nil))) (pe_op op_mulB (pe_call (G_sign.mono (by decide)) hr rfl D_sign.mgx D_sign.fn.kp D_sign.bd .nil pass0 (pa_cons (pv 3) (pa_cons (pv 5) pa_nil))) (pe_call (G_sign.mono (by decide)) hr rfl D_sign.mgx D_sign.fn.kp D_sign.bd .nil pass0 (pa_cons (pv 3) (pa_cons (pv 6) pa_nil)))) (nomark _)))))
 (pss_one (ps_ret pe_bl))
 pss_nil)
 (pss_cons (ps_if (PW.pt (pw_or (pt_cmpR op_ne (pe_call (G_sign.mono (by decide)) hr rfl D_sign.mgx D_sign.fn.kp D_sign.bd .nil pass0 (pa_cons (pe_op op_add (pv 3) (pe_op op_mulB (pv 5) (pv 6))) (pa_cons (pv 5) pa_nil))) (pe_call (G_sign.mono (by decide)) hr rfl D_sign.mgx D_sign.fn.kp D_sign.bd .nil pass0 (pa_cons (pv 3) (pa_cons (pv 5) pa_nil))) (nomark _)) (pw_or1 (pt_cmpR op_ne (pe_call (G_sign.mono (by decide)) hr rfl D_sign.mgx D_sign.fn.kp D_sign.bd .nil pass0 (pa_cons (pe_op op_mulB (pv 3) (pv 3)) (pa_cons (pv 5) pa_nil))) (pe_callTy call_int_bl (by rfl) T.no_int PyProof.Rows.boot_int (pa_cons (pe_cmpR op_eq (pe_call (G_shared.mono (by decide)) hr rfl D_shared.mgx D_shared.fn.kp D_shared.bd .nil pass0 (pa_cons (pv 3) (pa_cons (pv 5) pa_nil))) pe_int (nomark _)) pa_nil)) (nomark _)))))
 (pss_one (ps_ret pe_bl))
 pss_nil)
 (pss_cons (ps_set (i := 7) sc_law.nd rfl (by first | exact Or.inl rfl | exact Or.inr rfl) (pe_imp (t' := tTurn) (pe_ifExp (PW.pt (pw_and (pt_cmpR op_eq (pe_op op_mod (pv 5) pe_int) pe_int (nomark _)) (pw_and1 (pt_cmpR op_eq (pe_op op_mod (pv 6) pe_int) pe_int (nomark _))))) (pe_un un_neg pe_int) pe_int) turn_ok))
 (pss_cons (ps_if (pt_cmpR op_ne (pe_call (G_sign.mono (by decide)) hr rfl D_sign.mgx D_sign.fn.kp D_sign.bd .nil pass0 (pa_cons (pv 5) (pa_cons (pv 6) pa_nil))) (pe_op op_mulB (pv 7) (pe_call (G_sign.mono (by decide)) hr rfl D_sign.mgx D_sign.fn.kp D_sign.bd .nil pass0 (pa_cons (pv 6) (pa_cons (pv 5) pa_nil)))) (nomark _))
 (pss_one (ps_ret pe_bl))
 pss_nil)
 (pss_cons (ps_set (i := 8) sc_law.nd rfl (by first | exact Or.inl rfl | exact Or.inr rfl) (pe_callB (call_max2 rfl) (by rfl) T.no_max PyProof.Rows.boot_max (pa_cons pe_int (pa_cons (pe_call (G_law_prime.mono (by decide)) hr rfl D_law_prime.mgx D_law_prime.fn.kp D_law_prime.bd .nil pass0 (pa_cons (pv 2) (pa_cons (pe_op op_sub (pe_op op_pow pe_int pe_int) pe_int) pa_nil))) pa_nil))))
 (pss_cons (ps_for PassesOwn.never rfl (pi_list (pe_lst (pa_cons (pv 8) (pa_cons (pv 6) (pa_cons (pv 5) (pa_cons (pe_op op_add pe_int (pe_op op_mulB pe_int (pe_call (G_law_take.mono (by decide)) hr rfl D_law_take.mgx D_law_take.fn.kp D_law_take.bd .nil pass0 (pa_cons (pv 2) (pa_cons pe_int pa_nil))))) (pa_cons pe_int (pa_cons pe_int (pa_cons pe_int (pa_cons pe_int pa_nil)))))))))) (pg_name (i := 9) sc_law.nd rfl (by first | exact Or.inl rfl | exact Or.inr rfl))
 (pss_one (ps_for PassesOwn.never rfl (pi_list (pe_lst (pa_cons (pe_op op_add pe_int (pe_call (G_law_take.mono (by decide)) hr rfl D_law_take.mgx D_law_take.fn.kp D_law_take.bd .nil pass0 (pa_cons (pv 2) (pa_cons (pe_op op_sub (pv 9) pe_int) pa_nil)))) (pa_cons pe_int (pa_cons (pe_op op_sub (pv 9) pe_int) pa_nil))))) (pg_name (i := 10) sc_law.nd rfl (by first | exact Or.inl rfl | exact Or.inr rfl))
 (pss_cons (ps_set (i := 11) sc_law.nd rfl (by first | exact Or.inl rfl | exact Or.inr rfl) (pe_lst (pa_cons (pe_call (G_by_halves.mono (by decide)) hr rfl D_by_halves.mgx D_by_halves.fn.kp D_by_halves.bd .nil pass0 (pa_cons (pv 9) (pa_cons (pv 10) pa_nil))) (pa_cons (pe_call (G_by_signs.mono (by decide)) hr rfl D_by_signs.mgx D_by_signs.fn.kp D_by_signs.bd .nil pass0 (pa_cons (pv 9) (pa_cons (pv 10) pa_nil))) (pa_cons (pe_call (G_by_powers.mono (by decide)) hr rfl D_by_powers.mgx D_by_powers.fn.kp D_by_powers.bd .nil pass0 (pa_cons (pv 9) (pa_cons (pv 10) pa_nil))) pa_nil)))))
 (pss_one (ps_if (PW.pt (pw_or (pt_cmpR (op_neS (hu150 hr)) (pv 11) (pe_callB call_sortedB (by rfl) T.no_sorted PyProof.Rows.boot_sorted (pa_cons (pv 11) pa_nil)) (nomark _)) (pw_or1 (PW.pt (pw_and (pt_cmpR op_eq (pv 9) (pv 8) (nomark _)) (pw_and1 (pt_cmpR (op_neS (hu150 hr)) (pv 11) (pe_op op_rep (pe_lst (pa_cons pe_bl pa_nil)) pe_int) (nomark _))))))))
 (pss_one (ps_ret pe_bl))
 pss_nil))))))
 (pss_one (ps_if (pt_cmpR op_le (pv 8) (pe_op op_pow pe_int pe_int) (nomark _))
 (pss_cons (ps_set (i := 12) sc_law.nd rfl (by first | exact Or.inl rfl | exact Or.inr rfl) (pe_call (G_root_by.mono (by decide)) hr rfl D_root_by.mgx D_root_by.fn.kp D_root_by.bd .nil pass0 (pa_cons (pe_op op_mulB (pv 4) (pv 4)) (pa_cons (pv 8) pa_nil))))
 (pss_cons (ps_if (PW.pt (pw_or (pt_cmp (pc_isN (pv 12))) (pw_or (pt_cmpR op_notIn_seq (pv 12) (pe_tup (pa_cons (pe_op op_mod (pv 4) (pv 8)) (pa_cons (pe_op op_mod (pe_un un_neg (pv 4)) (pv 8)) pa_nil))) (by with_unfolding_all rfl)) (pw_or1 (pt_cmpR op_gt (pe_op op_mulB (pv 12) pe_int) (pv 8) (nomark _))))))
 (pss_one (ps_ret pe_bl))
 pss_nil)
 (pss_one (ps_if (pt_cmp (pc_notN (pe_call (G_root_by.mono (by decide)) hr rfl D_root_by.mgx D_root_by.fn.kp D_root_by.bd .nil pass0 (pa_cons (pe_call (G_least_unsquare.mono (by decide)) hr rfl D_least_unsquare.mgx D_least_unsquare.fn.kp D_least_unsquare.bd .nil pass0 (pa_cons (pv 8) pa_nil)) (pa_cons (pv 8) pa_nil)))))
 (pss_one (ps_ret pe_bl))
 pss_nil))))
 pss_nil))))))))))))
 (pss_one (ps_ret pe_bl))), ?_⟩
    have e0 : L2.start ["_law_script", "_law_k", "_law_state_here", "_law_one", "_law_other", "_law_n", "_law_m", "_law_turned", "_law_prime_here", "_law_number", "_law_base", "_law_looks", "_law_root"] [.ref sa] = [some (.ref sa), none, none, none, none, none, none, none, none, none, none, none, none] := rfl
    rw [e0]; clear e0
    simp only [tSeq, tIfS, tTest, tRet, tRetN, tNext, tDrop, tAsg, tPar, tPar3, tAug, tVar, tC, tOp, tUn, rI, rI0, rU, tB, tAnd, tOr, tNot, tAndV, tOrV, tNotV, tIf, gName, gNil, gCons, gTup, gSub, tCB, tCons, tNil, tCall, tChain, ipI, tIsN, tNotN, tBM, tyV, tTup, tLst, rAppend, rCat, scal_ii, scal_bb, scal_ss, scal_ni, scal_in, rEq, rNe, List.getElem?_cons_zero, List.getElem?_cons_succ, List.set_cons_zero, List.set_cons_succ, eq_self, and_assoc, Option.some.injEq, V.int.injEq, V.bl.injEq, V.ref.injEq, V.str.injEq, List.cons.injEq, exists_eq_left', exists_eq_left, exists_and_left, List.nil_append, List.cons_append, List.append_nil, true_and, and_true, decide_eq_true_eq, Bool.not_eq_true', decide_eq_false_iff_not, if_true, if_false, Bool.not_true, Bool.not_false, Bool.false_eq_true, reduceCtorEq, decide_true, decide_false, ite_true, ite_false, rSetL, rIxL, tRaise, jCons, jNil, tFmt, tDNew, rCount, rIndex, Int.reduceToNat, Int.reducePow]
    refine ⟨_, rfl, sa, rfl, _, .inl hS, _, _, rfl, _, _, rfl, _, rfl, ?_, ?_, for_range (fun i σ H' => Same H H' ∧ ∃ v1 v2 v3 v4 v5 v6 v7 v8 v9 v10 v11 v12, σ = [some (.ref sa), v1, v2, v3, v4, v5, v6, v7, v8, v9, v10, v11, v12]) ⟨Same.refl _, none, none, none, none, none, none, none, none, none, none, none, none, rfl⟩ ?_ ?_⟩
    · rw [List.length_map]; repeat' split
      all_goals omega
    · rw [List.length_map]; repeat' split
      all_goals omega
    · rintro i σ H1 hi ⟨S, v1, v2, v3, v4, v5, v6, v7, v8, v9, v10, v11, v12, rfl⟩
      simp only [tSeq, tIfS, tTest, tRet, tRetN, tNext, tDrop, tAsg, tPar, tPar3, tAug, tVar, tC, tOp, tUn, rI, rI0, rU, tB, tAnd, tOr, tNot, tAndV, tOrV, tNotV, tIf, gName, gNil, gCons, gTup, gSub, tCB, tCons, tNil, tCall, tChain, ipI, tIsN, tNotN, tBM, tyV, tTup, tLst, rAppend, rCat, scal_ii, scal_bb, scal_ss, scal_ni, scal_in, rEq, rNe, List.getElem?_cons_zero, List.getElem?_cons_succ, List.set_cons_zero, List.set_cons_succ, eq_self, and_assoc, Option.some.injEq, V.int.injEq, V.bl.injEq, V.ref.injEq, V.str.injEq, List.cons.injEq, exists_eq_left', exists_eq_left, exists_and_left, List.nil_append, List.cons_append, List.append_nil, true_and, and_true, decide_eq_true_eq, Bool.not_eq_true', decide_eq_false_iff_not, if_true, if_false, Bool.not_true, Bool.not_false, Bool.false_eq_true, reduceCtorEq, decide_true, decide_false, ite_true, ite_false, rSetL, rIxL, tRaise, jCons, jNil, tFmt, tDNew, rCount, rIndex, Int.reduceToNat, Int.reducePow]
      have hS1 := S.seq hS
      refine ⟨sa, ns, _, rfl, hS1, hlen, by omega, fun a x y y0 y1 ha => ?_⟩
      simp only [tSeq, tIfS, tTest, tRet, tRetN, tNext, tDrop, tAsg, tPar, tPar3, tAug, tVar, tC, tOp, tUn, rI, rI0, rU, tB, tAnd, tOr, tNot, tAndV, tOrV, tNotV, tIf, gName, gNil, gCons, gTup, gSub, tCB, tCons, tNil, tCall, tChain, ipI, tIsN, tNotN, tBM, tyV, tTup, tLst, rAppend, rCat, scal_ii, scal_bb, scal_ss, scal_ni, scal_in, rEq, rNe, List.getElem?_cons_zero, List.getElem?_cons_succ, List.set_cons_zero, List.set_cons_succ, eq_self, and_assoc, Option.some.injEq, V.int.injEq, V.bl.injEq, V.ref.injEq, V.str.injEq, List.cons.injEq, exists_eq_left', exists_eq_left, exists_and_left, List.nil_append, List.cons_append, List.append_nil, true_and, and_true, decide_eq_true_eq, Bool.not_eq_true', decide_eq_false_iff_not, if_true, if_false, Bool.not_true, Bool.not_false, Bool.false_eq_true, reduceCtorEq, decide_true, decide_false, ite_true, ite_false, rSetL, rIxL, tRaise, jCons, jNil, tFmt, tDNew, rCount, rIndex, Int.reduceToNat, Int.reducePow]
      have S0 : Same H (upd H1 a (.lst [.int x, .int y])) := fun b o e => keep (S b o e) ha
      have na : H a = none := by
        cases e : H a with
        | none => rfl
        | some o => rw [S _ _ e] at ha; cases ha
      have st0 : StAt (upd H1 a (.lst [.int x, .int y])) a := ⟨x, y, upd_same, y0, y1⟩
      generalize upd H1 a (.lst [.int x, .int y]) = H2 at S0 st0 ⊢
      have c6 : CPow 10 6 := ⟨by decide, by decide, by decide⟩
      have c8 : CPow 10 8 := ⟨by decide, by decide, by decide⟩
      have c9 : CPow 10 9 := ⟨by decide, by decide, by decide⟩
      have c14 : CPow 10 14 := ⟨by decide, by decide, by decide⟩
      have c15 : CPow 10 15 := ⟨by decide, by decide, by decide⟩
      refine ⟨c15, a, _, rfl, ⟨by decide, by decide⟩, st0, fun w1 H3 a1 b1 T1 => ⟨c14, _, rfl, c9, ?_⟩⟩
      refine ⟨a, _, rfl, ⟨by decide, by decide⟩, T1.st, fun w2 H4 a2 b2 T2 => ⟨c8, _, rfl, c14, ?_⟩⟩
      refine ⟨a, _, rfl, ⟨by decide, by decide⟩, T2.st, fun w3 H5 a3 b3 T3 => ⟨_, rfl, .inr ⟨by decide, by omega⟩, c6, ?_⟩⟩
      refine ⟨a, _, rfl, ⟨by decide, by decide⟩, T3.st, fun w4 H6 a4 b4 T4 => ⟨_, rfl, .inr ⟨by decide, by omega⟩, ?_⟩⟩
      have T5 := T1.trans (T2.trans (T3.trans T4))
      obtain ⟨one, hone, i1, i2⟩ : ∃ z : Int, w1 - 100000000000000 = z ∧ -100000000000000 ≤ z ∧ z ≤ 900000000000000 := ⟨_, rfl, by omega, by omega⟩
      obtain ⟨oth, hoth, j1, j2⟩ : ∃ z : Int, w2 - 100000000 = z ∧ -100000000 ≤ z ∧ z ≤ 900000000 := ⟨_, rfl, by omega, by omega⟩
      obtain ⟨n, hn, n1, n2, n3⟩ : ∃ z : Int, 3 + 2 * w3 = z ∧ 3 ≤ z ∧ z ≤ 200000000000003 ∧ z % 2 = 1 := ⟨_, rfl, by omega, by omega, by omega⟩
      obtain ⟨m, hm, m1, m2, m3⟩ : ∃ z : Int, 3 + 2 * w4 = z ∧ 3 ≤ z ∧ z ≤ 2000003 ∧ z % 2 = 1 := ⟨_, rfl, by omega, by omega, by omega⟩
      rw [hone, hoth, hn, hm]
      clear hone hoth hn hm
      have pr1 : (one * oth).natAbs ≤ 900000000000000 * 900000000 := by
        rw [Int.natAbs_mul]; exact Nat.mul_le_mul (by omega) (by omega)
      have pr2 : (one * one).natAbs ≤ 900000000000000 * 900000000000000 := by
        rw [Int.natAbs_mul]; exact Nat.mul_le_mul (by omega) (by omega)
      have pr4 : (oth * oth).natAbs ≤ 900000000 * 900000000 := by
        rw [Int.natAbs_mul]; exact Nat.mul_le_mul (by omega) (by omega)
      have pr3 := Int.mul_le_mul n2 m2 (by omega) (by omega)
      have pr3' := Int.mul_le_mul n1 m1 (by omega) (by omega)
      have onm : n * m % 2 = 1 := by rw [Int.mul_emod, n3, m3]; rfl
      have Jn : ∀ u v : Int, (J u v).natAbs < 10 ^ 100 := fun u v => by have := J_b u v; omega
      have hm0 : CMulB one oth := .inr ⟨by omega, by omega⟩
      have hm1 : CMulB n m := .inr ⟨by omega, by omega⟩
      have hm2 : CMulB one one := .inr ⟨by omega, by omega⟩
      refine ⟨hm0, _, _, rfl, ⟨by omega, by omega, by omega, by omega, n3⟩, _, _, rfl, ⟨by omega, by omega, by omega, by omega, n3⟩, _, _, rfl, ⟨by omega, by omega, by omega, by omega, n3⟩, _, rfl, _, rfl, .inr ⟨Jn _ _, Jn _ _⟩, rfl, ?_⟩
      rw [if_neg (fun h => h (by rw [J_top (by omega) n3]))]
      refine ⟨hm1, _, _, rfl, ⟨by omega, by omega, by omega, by omega, onm⟩, _, _, rfl, ⟨by omega, by omega, by omega, by omega, n3⟩, _, _, rfl, ⟨by omega, by omega, by omega, by omega, m3⟩, _, rfl, _, rfl, .inr ⟨Jn _ _, Jn _ _⟩, rfl, ?_⟩
      rw [if_neg (fun h => h (by rw [J_bot (by omega) (by omega) n3 m3]))]
      refine ⟨hm1, _, _, rfl, ⟨by omega, by omega, by omega, by omega, n3⟩, _, _, rfl, ⟨by omega, by omega, by omega, by omega, n3⟩, rfl, ?_⟩
      rw [if_neg (fun h => h (by rw [show (one + n * m) % n = one % n from Int.add_mul_emod_self_left ..]))]
      refine ⟨hm2, _, _, rfl, ⟨by omega, by omega, by omega, by omega, n3⟩, _, _, rfl, ⟨by omega, by omega, by omega, by omega⟩, rfl, _, rfl, rfl, ?_⟩
      rw [if_neg (fun h => h (by
        rw [J_sq (by omega) n3]
        by_cases z : Int.gcd one n = 1
        · rw [if_pos z, decide_eq_true (by rw [z]; rfl)]; rfl
        · rw [if_neg z, decide_eq_false (fun w => z (by have := V.int.inj w; omega))]; rfl))]
      refine ⟨n, m, rfl, rfl, ?_⟩
      refine ⟨_, _, rfl, ⟨by omega, by omega, by omega, by omega, m3⟩, _, _, rfl, ⟨by omega, by omega, by omega, by omega, n3⟩, ?_⟩
      refine ⟨_, rfl, _, rfl, .inr ⟨by rcases sgT_abs n m with e | e <;> rw [e] <;> decide, Jn _ _⟩, rfl, ?_⟩
      rw [if_neg (fun h => h (by rw [J_rec (by omega) (by omega) m3 n3]))]
      refine ⟨c6, a, _, 1000003, rfl, ⟨by decide, by decide, pr_1000003, by decide⟩, T5.st, fun r1 H7 q1 q2 T6 => ⟨_, rfl, ?_⟩⟩
      obtain ⟨p, hp', prp, p3, p4⟩ := odd_pr q1 q2 (by decide)
      rw [hp']
      clear hp'
      have po : p % 2 = 1 := by
        obtain ⟨q, rfl⟩ := Int.eq_ofNat_of_zero_le (show 0 ≤ p by omega)
        have := pr_odd_nat (p := q) prp (by omega)
        omega
      have T7 := T5.trans T6
      refine tFor_list ?_
      simp only [tSeq, tIfS, tTest, tRet, tRetN, tNext, tDrop, tAsg, tPar, tPar3, tAug, tVar, tC, tOp, tUn, rI, rI0, rU, tB, tAnd, tOr, tNot, tAndV, tOrV, tNotV, tIf, gName, gNil, gCons, gTup, gSub, tCB, tCons, tNil, tCall, tChain, ipI, tIsN, tNotN, tBM, tyV, tTup, tLst, rAppend, rCat, scal_ii, scal_bb, scal_ss, scal_ni, scal_in, rEq, rNe, List.getElem?_cons_zero, List.getElem?_cons_succ, List.set_cons_zero, List.set_cons_succ, eq_self, and_assoc, Option.some.injEq, V.int.injEq, V.bl.injEq, V.ref.injEq, V.str.injEq, List.cons.injEq, exists_eq_left', exists_eq_left, exists_and_left, List.nil_append, List.cons_append, List.append_nil, true_and, and_true, decide_eq_true_eq, Bool.not_eq_true', decide_eq_false_iff_not, if_true, if_false, Bool.not_true, Bool.not_false, Bool.false_eq_true, reduceCtorEq, decide_true, decide_false, ite_true, ite_false, rSetL, rIxL, tRaise, jCons, jNil, tFmt, tDNew, rCount, rIndex, Int.reduceToNat, Int.reducePow]
      refine ⟨a, _, rfl, ⟨by decide, by decide⟩, T7.st, fun w5 H8 a5 b5 T8 => ⟨_, rfl, .inr ⟨by decide, by omega⟩, by show 8 ≤ sizeLine; decide, fun l1 hl1 => ⟨⟨_, SqL.of upd_same⟩, ?_⟩⟩⟩
      obtain ⟨xs, hxs⟩ : ∃ xs, xs = [V.int p, V.int m, V.int n, V.int (9 + 6 * w5), V.int 561, V.int 1729, V.int 2047, V.int 1373653] := ⟨_, rfl⟩
      rw [← hxs]
      have hall : ∀ x ∈ xs, ∃ z, x = V.int z ∧ 3 ≤ z ∧ z ≤ 10 ^ 30 ∧ z % 2 = 1 := by
        intro x hx
        rw [hxs] at hx
        simp only [List.mem_cons, List.not_mem_nil, or_false] at hx
        rcases hx with rfl | rfl | rfl | rfl | rfl | rfl | rfl | rfl <;> exact ⟨_, rfl, by omega, by omega, by omega⟩
      have nl1 : l1 ≠ a := by
        obtain ⟨_, _, e, _⟩ := T8.st
        exact (ne_of_none e hl1).symm
      have T9 := (T7.trans T8).new (o := .lst xs) hl1
      have el1 : (upd H8 l1 (.lst xs)) l1 = some (.lst xs) := upd_same
      generalize upd H8 l1 (.lst xs) = H9 at T9 el1 ⊢
      obtain ⟨Pv, hPv⟩ : ∃ Pv : Nat → St → Hp → Prop, ∀ j σ H', Pv j σ H' ↔ (∃ u9 u10 u11, σ = [some (.ref sa), some (.int (0 + (i : Int))), some (.ref a), some (.int one), some (.int oth), some (.int n), some (.int m), some (.int (sgT n m)), some (.int p), u9, u10, u11, v12]) ∧ Step a H2 H' ∧ H' l1 = some (.lst xs) := ⟨_, fun _ _ _ => Iff.rfl⟩
      refine fl_of (xs := xs) Pv ((hPv _ _ _).mpr ⟨⟨_, _, _, rfl⟩, T9, el1⟩) (fun j σ H' _ h => SqL.of ((hPv _ _ _).mp h).2.2) ?_ ?_
      · intro j x σ HC hx h
        obtain ⟨⟨u9, u10, u11, rfl⟩, TC, ec⟩ := (hPv _ _ _).mp h
        obtain ⟨z, rfl, z1, z2, z3⟩ := hall x (List.mem_of_getElem? hx)
        simp only [tSeq, tIfS, tTest, tRet, tRetN, tNext, tDrop, tAsg, tPar, tPar3, tAug, tVar, tC, tOp, tUn, rI, rI0, rU, tB, tAnd, tOr, tNot, tAndV, tOrV, tNotV, tIf, gName, gNil, gCons, gTup, gSub, tCB, tCons, tNil, tCall, tChain, ipI, tIsN, tNotN, tBM, tyV, tTup, tLst, rAppend, rCat, scal_ii, scal_bb, scal_ss, scal_ni, scal_in, rEq, rNe, List.getElem?_cons_zero, List.getElem?_cons_succ, List.set_cons_zero, List.set_cons_succ, eq_self, and_assoc, Option.some.injEq, V.int.injEq, V.bl.injEq, V.ref.injEq, V.str.injEq, List.cons.injEq, exists_eq_left', exists_eq_left, exists_and_left, List.nil_append, List.cons_append, List.append_nil, true_and, and_true, decide_eq_true_eq, Bool.not_eq_true', decide_eq_false_iff_not, if_true, if_false, Bool.not_true, Bool.not_false, Bool.false_eq_true, reduceCtorEq, decide_true, decide_false, ite_true, ite_false, rSetL, rIxL, tRaise, jCons, jNil, tFmt, tDNew, rCount, rIndex, Int.reduceToNat, Int.reducePow]
        refine tFor_list ?_
        simp only [tSeq, tIfS, tTest, tRet, tRetN, tNext, tDrop, tAsg, tPar, tPar3, tAug, tVar, tC, tOp, tUn, rI, rI0, rU, tB, tAnd, tOr, tNot, tAndV, tOrV, tNotV, tIf, gName, gNil, gCons, gTup, gSub, tCB, tCons, tNil, tCall, tChain, ipI, tIsN, tNotN, tBM, tyV, tTup, tLst, rAppend, rCat, scal_ii, scal_bb, scal_ss, scal_ni, scal_in, rEq, rNe, List.getElem?_cons_zero, List.getElem?_cons_succ, List.set_cons_zero, List.set_cons_succ, eq_self, and_assoc, Option.some.injEq, V.int.injEq, V.bl.injEq, V.ref.injEq, V.str.injEq, List.cons.injEq, exists_eq_left', exists_eq_left, exists_and_left, List.nil_append, List.cons_append, List.append_nil, true_and, and_true, decide_eq_true_eq, Bool.not_eq_true', decide_eq_false_iff_not, if_true, if_false, Bool.not_true, Bool.not_false, Bool.false_eq_true, reduceCtorEq, decide_true, decide_false, ite_true, ite_false, rSetL, rIxL, tRaise, jCons, jNil, tFmt, tDNew, rCount, rIndex, Int.reduceToNat, Int.reducePow]
        refine ⟨a, _, rfl, ⟨by omega, by omega⟩, TC.st, fun w6 HD a6 b6 TD => ⟨_, rfl, by show 3 ≤ sizeLine; decide, fun l2 hl2 => ⟨⟨_, SqL.of upd_same⟩, ?_⟩⟩⟩
        obtain ⟨bs, hbs⟩ : ∃ bs, bs = [V.int (1 + w6), V.int 2, V.int (z - 1)] := ⟨_, rfl⟩
        rw [← hbs]
        have hb : ∀ x ∈ bs, ∃ b, x = V.int b ∧ 1 ≤ b ∧ b ≤ z - 1 := by
          intro x hx
          rw [hbs] at hx
          simp only [List.mem_cons, List.not_mem_nil, or_false] at hx
          rcases hx with rfl | rfl | rfl <;> exact ⟨_, rfl, by omega, by omega⟩
        have TE := TD.new (o := .lst bs) hl2
        have el2 : (upd HD l2 (.lst bs)) l2 = some (.lst bs) := upd_same
        generalize upd HD l2 (.lst bs) = HE at TE el2 ⊢
        have ec2 := TE.but l1 _ nl1 ec
        obtain ⟨Pv2, hPv2⟩ : ∃ Pv : Nat → St → Hp → Prop, ∀ j σ H', Pv j σ H' ↔ (∃ u10 u11, σ = [some (.ref sa), some (.int (0 + (i : Int))), some (.ref a), some (.int one), some (.int oth), some (.int n), some (.int m), some (.int (sgT n m)), some (.int p), some (.int z), u10, u11, v12]) ∧ Same HE H' := ⟨_, fun _ _ _ => Iff.rfl⟩
        refine fl_of (xs := bs) Pv2 ((hPv2 _ _ _).mpr ⟨⟨_, _, rfl⟩, Same.refl _⟩) (fun j σ H' _ h => SqL.of (((hPv2 _ _ _).mp h).2 _ _ el2)) ?_ ?_
        · intro j2 x σ HG hx2 h2
          obtain ⟨⟨u10, u11, rfl⟩, SG⟩ := (hPv2 _ _ _).mp h2
          obtain ⟨b, rfl, b1, b2⟩ := hb x (List.mem_of_getElem? hx2)
          simp only [tSeq, tIfS, tTest, tRet, tRetN, tNext, tDrop, tAsg, tPar, tPar3, tAug, tVar, tC, tOp, tUn, rI, rI0, rU, tB, tAnd, tOr, tNot, tAndV, tOrV, tNotV, tIf, gName, gNil, gCons, gTup, gSub, tCB, tCons, tNil, tCall, tChain, ipI, tIsN, tNotN, tBM, tyV, tTup, tLst, rAppend, rCat, scal_ii, scal_bb, scal_ss, scal_ni, scal_in, rEq, rNe, List.getElem?_cons_zero, List.getElem?_cons_succ, List.set_cons_zero, List.set_cons_succ, eq_self, and_assoc, Option.some.injEq, V.int.injEq, V.bl.injEq, V.ref.injEq, V.str.injEq, List.cons.injEq, exists_eq_left', exists_eq_left, exists_and_left, List.nil_append, List.cons_append, List.append_nil, true_and, and_true, decide_eq_true_eq, Bool.not_eq_true', decide_eq_false_iff_not, if_true, if_false, Bool.not_true, Bool.not_false, Bool.false_eq_true, reduceCtorEq, decide_true, decide_false, ite_true, ite_false, rSetL, rIxL, tRaise, jCons, jNil, tFmt, tDNew, rCount, rIndex, Int.reduceToNat, Int.reducePow]
          refine ⟨z, b, rfl, ⟨z1, z2, z3, b1, b2⟩, fun HI SI => ⟨z, b, rfl, ⟨z1, z2, z3, b1, b2⟩, z, b, rfl, ⟨z1, z2, z3, b1, b2⟩, by show 3 ≤ sizeLine; decide, fun l3 hl3 => ?_⟩⟩
          have hh : halvB z b = true → sgnL z b = true := halv_sgn z1 z3
          have hs : sgnL z b = true → powL z b = true := sgn_pow z1 z3
          have rep3 : ∀ (HX : Hp) (l : Addr) (x y z : Bool), HX l = some (.lst [V.bl x, V.bl y, V.bl z]) → Rep K HX (.lst [.bl x, .bl y, .bl z]) (.ref l) := fun HX l x y z e => ⟨l, _, rfl, SqL.of e, ⟨_, _, rfl, rfl, _, _, rfl, rfl, _, _, rfl, rfl, rfl⟩⟩
          refine ⟨l3, [halvB z b, sgnL z b, powL z b], rfl, upd_same, by show 3 < 64; decide, fun q bs' hq perm pws => ?_⟩
          have e := srt3 perm pws hh hs
          subst e
          have s3 : Same HE (upd (upd HI l3 (.lst [V.bl (halvB z b), V.bl (sgnL z b), V.bl (powL z b)])) q (.lst ([halvB z b, sgnL z b, powL z b].map V.bl))) := fun b o e => keep (keep (SI _ _ (SG _ _ e)) hl3) hq
          have g3 : (upd (upd HI l3 (.lst [V.bl (halvB z b), V.bl (sgnL z b), V.bl (powL z b)])) q (.lst ([halvB z b, sgnL z b, powL z b].map V.bl))) l3 = some (.lst [V.bl (halvB z b), V.bl (sgnL z b), V.bl (powL z b)]) := keep upd_same hq
          have gq : (upd (upd HI l3 (.lst [V.bl (halvB z b), V.bl (sgnL z b), V.bl (powL z b)])) q (.lst ([halvB z b, sgnL z b, powL z b].map V.bl))) q = some (.lst [V.bl (halvB z b), V.bl (sgnL z b), V.bl (powL z b)]) := upd_same
          generalize upd (upd HI l3 (.lst [V.bl (halvB z b), V.bl (sgnL z b), V.bl (powL z b)])) q (.lst ([halvB z b, sgnL z b, powL z b].map V.bl)) = HJ at s3 g3 gq ⊢
          refine ⟨_, _, rep3 _ _ _ _ _ g3, rep3 _ _ _ _ _ gq, Nat.zero_le _, _, rfl, ?_⟩
          rw [eqDL_self, if_neg (show ¬ (!true) = true by decide)]
          refine ite2 (fun hz => ?_) (fun _ => (hPv2 _ _ _).mpr ⟨⟨_, _, rfl⟩, s3⟩)
          obtain ⟨e1, e2, e3⟩ := pr_looks prp p3 b1 (show b < p by omega)
          rw [hz, e1, e2, e3] at g3
          refine ⟨by show 1 ≤ sizeLine; decide, fun l4 hl4 => ⟨l4, 3, _, rfl, rfl, upd_same, by decide, by decide, Nat.le_of_lt (small1000 (show 1 * 3 ≤ 1000 by decide)), fun l5 hl5 => ?_⟩⟩
          refine ⟨_, _, rep3 _ _ _ _ _ (keep (keep g3 hl4) hl5), rep3 _ _ true true true upd_same, Nat.zero_le _, _, rfl, ?_⟩
          rw [eqDL_self, if_neg (show ¬ (!true) = true by decide)]
          exact (hPv2 _ _ _).mpr ⟨⟨_, _, rfl⟩, fun b o e => keep (keep (s3 _ _ e) hl4) hl5⟩
        · intro σ HG h2
          obtain ⟨⟨u10, u11, rfl⟩, SG⟩ := (hPv2 _ _ _).mp h2
          exact (hPv _ _ _).mpr ⟨⟨_, _, _, rfl⟩, (TC.trans TE).same SG, SG _ _ ec2⟩
      · intro σ HC h
        obtain ⟨⟨u9, u10, u11, rfl⟩, TC, ec⟩ := (hPv _ _ _).mp h
        clear hall hPv
        have SH : Same H HC := fun b o e => TC.but b o (ne_of_none e na) (S0 b o e)
        simp only [tSeq, tIfS, tTest, tRet, tRetN, tNext, tDrop, tAsg, tPar, tPar3, tAug, tVar, tC, tOp, tUn, rI, rI0, rU, tB, tAnd, tOr, tNot, tAndV, tOrV, tNotV, tIf, gName, gNil, gCons, gTup, gSub, tCB, tCons, tNil, tCall, tChain, ipI, tIsN, tNotN, tBM, tyV, tTup, tLst, rAppend, rCat, scal_ii, scal_bb, scal_ss, scal_ni, scal_in, rEq, rNe, List.getElem?_cons_zero, List.getElem?_cons_succ, List.set_cons_zero, List.set_cons_succ, eq_self, and_assoc, Option.some.injEq, V.int.injEq, V.bl.injEq, V.ref.injEq, V.str.injEq, List.cons.injEq, exists_eq_left', exists_eq_left, exists_and_left, List.nil_append, List.cons_append, List.append_nil, true_and, and_true, decide_eq_true_eq, Bool.not_eq_true', decide_eq_false_iff_not, if_true, if_false, Bool.not_true, Bool.not_false, Bool.false_eq_true, reduceCtorEq, decide_true, decide_false, ite_true, ite_false, rSetL, rIxL, tRaise, jCons, jNil, tFmt, tDNew, rCount, rIndex, Int.reduceToNat, Int.reducePow]
        refine ⟨c6, ?_⟩
        refine ite2 (fun h6 => ?_) (fun _ => ⟨SH, _, rfl⟩)
        refine ⟨.inr ⟨by omega, by omega⟩, _, p, rfl, ⟨by omega, by omega, prp, p3, by omega⟩, fun hj => ?_, fun _ mm HD m0 mm1 cm SD => ?_⟩
        · rw [J_sq (by omega) po] at hj
          split at hj <;> cases hj
        dsimp only
        rw [if_neg (show ¬ V.int mm = V.non from fun h => nomatch h)]
        refine ⟨by omega, by omega, by show 2 ≤ sizeLine; decide, fun q hq => ⟨q, _, rfl, .inr (SqT.of upd_same), rfl, rfl, _, rfl, ?_⟩⟩
        have hin : inV (.int mm) [.int (oth % p), .int (-oth % p)] = true := by
          show (decide (oth % p = mm) || (decide (-oth % p = mm) || false)) = true
          rcases pm_root prp p3 m0 mm1 cm with e | e
          · rw [decide_eq_true e.symm]; rfl
          · rw [decide_eq_true (show -oth % p = mm from e.symm), Bool.true_or, Bool.or_true]
        rw [if_pos (show true = true from rfl), hin, if_neg (by decide)]
        refine ⟨_, rfl, .inr ⟨by omega, by decide⟩, ?_⟩
        rw [if_neg (by omega)]
        refine ⟨p, rfl, ⟨prp, p3, by omega⟩, fun zz z1 z2 hz => ?_⟩
        refine ⟨zz, p, rfl, ⟨by omega, by omega, prp, p3, by omega⟩, fun _ => ?_, fun hj => absurd hz hj⟩
        dsimp only
        rw [if_neg (fun h => h rfl)]
        exact ⟨fun b o e => keep (SD _ _ (SH _ _ e)) hq, _, rfl⟩
    · rintro σ H1 ⟨S, v1, v2, v3, v4, v5, v6, v7, v8, v9, v10, v11, v12, rfl⟩
      simp only [tSeq, tIfS, tTest, tRet, tRetN, tNext, tDrop, tAsg, tPar, tPar3, tAug, tVar, tC, tOp, tUn, rI, rI0, rU, tB, tAnd, tOr, tNot, tAndV, tOrV, tNotV, tIf, gName, gNil, gCons, gTup, gSub, tCB, tCons, tNil, tCall, tChain, ipI, tIsN, tNotN, tBM, tyV, tTup, tLst, rAppend, rCat, scal_ii, scal_bb, scal_ss, scal_ni, scal_in, rEq, rNe, List.getElem?_cons_zero, List.getElem?_cons_succ, List.set_cons_zero, List.set_cons_succ, eq_self, and_assoc, Option.some.injEq, V.int.injEq, V.bl.injEq, V.ref.injEq, V.str.injEq, List.cons.injEq, exists_eq_left', exists_eq_left, exists_and_left, List.nil_append, List.cons_append, List.append_nil, true_and, and_true, decide_eq_true_eq, Bool.not_eq_true', decide_eq_false_iff_not, if_true, if_false, Bool.not_true, Bool.not_false, Bool.false_eq_true, reduceCtorEq, decide_true, decide_false, ite_true, ite_false, rSetL, rIxL, tRaise, jCons, jNil, tFmt, tDNew, rCount, rIndex, Int.reduceToNat, Int.reducePow]
      exact k _
end
end PP
set_option Elab.async false
set_option linter.all false
set_option maxRecDepth 100000
set_option maxHeartbeats 4000000
namespace L2
open PySem PySem.Spec PyProof.Rows
theorem walk_ofX {l : PySem.W.OpenLaw} {n k : Nat} {q : Program} {loose : List Str} {XP : (Str → Option Value) → Heap → Prop} {YP : World → Heap → Prop} {d : DefRec} {K : Params → PySem.W.Frag} {CX : World → CXT} {sp : PySem.W.Frag → Sp} {x : Str}
    (hn : l.most = some n) (hn2 : n ≤ sizeLine) (hdf : d.params.defaults = []) (hr : Room k callerA)
    (hY : ∀ (w : World) (h : Heap), YP w h → (K w.params).In h)
    (F : ∀ (w : World) (mg : Str → Option Value) (fa : Addr) (h : Heap), (K w.params).In h → h.Ns mainGlobals mg → XP mg h → mg d.name = some (.ref fa) →
      ∃ fd : FuncData, (∀ (s : Shared) (u : Value), BindsTo s fd ⟨[u], []⟩ [(x, u)]) ∧
        ∀ base : Heap, (K w.params).In base → base.Ns mainGlobals mg → FnOk l.prog w (K w.params) mg base (CX w) k fa fd [x] (sp (K w.params)))
    (hsp : ∀ (K : PySem.W.Frag) (H : Hp) (a : Addr) (ns : List Int), ns.length ≤ n → Only H → SqL K H a (ns.map V.int) → sp K [.ref a] H (fun v _ => v = .bl true) fun _ _ _ => False)
    (hCX : ∀ (w : World) (H : Hp) (s : Shared) (e : Value) (s' : Shared), CX w [] H s (fun _ _ _ => False) e s' → False) :
    PySem.W.WalkO q loose XP YP l.row.toRowW d [] (fun f vs => PySem.call f vs) := by
  refine Att.attach_call hn hdf fun w s₀ s₁ mg mb fa o pm cd doc a vs ns G Y ho hd hcd hmg hobj hints hlen hg => ?_
  have KX := hY w _ Y
  obtain ⟨fd, hb, hF⟩ := F w mg fa _ KX G.T.g G.X hmg
  exact law_call KX G.T.g G.T.b G.T.builtins G.T.nolimit hg hobj hints (Nat.le_trans hlen hn2) hr hF hb (fun H hO hS => hsp (K w.params) H a ns hlen hO hS) fun H e s' => hCX w H s₁ e s'
theorem loose_int {p : Program} {lv : List (Str × PySem.W.WData)} {mg : Str → Option Value} {h : Heap} {n : Str} {i : Int} (x : PySem.W.XL p lv mg h) (hm : (n, PySem.W.WData.int i) ∈ lv) : ∃ t, mg n = some (.int i t) := by
  obtain ⟨v, a, b⟩ := x.2.val _ hm
  cases b
  exact ⟨_, a⟩
end L2
set_option Elab.async false
set_option linter.all false
set_option maxRecDepth 100000
set_option maxHeartbeats 8000000
namespace PP
open PySem L2 MM
theorem def_mk {K : PySem.W.Frag} {h : Heap} {mg : Str → Option Value} {x : Str} {st : Stmt} {ps : List Str} {f : Addr} {oc : Value} {od an : Option Addr} {osl : Array (Option Value)} {kV doc pm cdv ct : Value} (X : K.In h) (G : h.Ns mainGlobals mg)
    (a : PySem.W.nsIn K mainGlobals x = some (some (.ref f))) (l : K.lookup f = some ⟨oc, od, .func (PySem.W.fnOf x x (defArgs st) (defBody st) (defScope st) .none kV doc pm an cdv ct), osl⟩) (c : PySem.W.codeIn K cdv x = true) (k : PySem.W.keepIn K (.ref f) = true)
    (hb : ∀ (kV doc pm : Value) (an : Option Addr) (cdv ct : Value) (us : List Value), us.length = ps.length → bindArgs (PySem.W.fnOf x x (defArgs st) (defBody st) (defScope st) .none kV doc pm an cdv ct) ⟨us, []⟩ = pure (ps.zip us)) : ∃ fd, Def K mg x st ps f fd := by
  have F := fun_mk (st := st) l c k
  exact ⟨_, F, F.binds hb, PySem.W.mg_of X G a⟩
section
variable {P : Program} {w : World} {K : PySem.W.Frag} {mg : Str → Option Value} {base : Heap}
theorem all_ok {t1 t2 t3 : Tok} {fa : Addr} {fd : FuncData} (T : Txt K mg t1 t2 t3)  (d_is_whole : ∃ f fd, Df_is_whole K mg f fd) (d_is_between : ∃ f fd, Df_is_between K mg f fd) (d_want_between : ∃ f fd, Df_want_between K mg f fd) (d_want_tried : ∃ f fd, Df_want_tried K mg f fd) (d_want_far : ∃ f fd, Df_want_far K mg f fd) (d_power_rest : ∃ f fd, Df_power_rest K mg f fd) (d_greatest_in_both : ∃ f fd, Df_greatest_in_both K mg f fd) (d_shared : ∃ f fd, Df_shared K mg f fd) (d_least_part : ∃ f fd, Df_least_part K mg f fd) (d_is_prime : ∃ f fd, Df_is_prime K mg f fd) (d_want_prime : ∃ f fd, Df_want_prime K mg f fd) (d_want_odd : ∃ f fd, Df_want_odd K mg f fd) (d_want_odd_prime : ∃ f fd, Df_want_odd_prime K mg f fd) (d_want_look : ∃ f fd, Df_want_look K mg f fd) (d_by_powers : ∃ f fd, Df_by_powers K mg f fd) (d_halved : ∃ f fd, Df_halved K mg f fd) (d_lets_by_halves : ∃ f fd, Df_lets_by_halves K mg f fd) (d_by_halves : ∃ f fd, Df_by_halves K mg f fd) (d_sign_by : ∃ f fd, Df_sign_by K mg f fd) (d_sign : ∃ f fd, Df_sign K mg f fd) (d_by_signs : ∃ f fd, Df_by_signs K mg f fd) (d_unsquare_by : ∃ f fd, Df_unsquare_by K mg f fd) (d_least_unsquare : ∃ f fd, Df_least_unsquare K mg f fd) (d_pair_product : ∃ f fd, Df_pair_product K mg f fd) (d_pair_power : ∃ f fd, Df_pair_power K mg f fd) (d_root_of_square : ∃ f fd, Df_root_of_square K mg f fd) (d_root_by : ∃ f fd, Df_root_by K mg f fd) (d_law_cell_at : ∃ f fd, Df_law_cell_at K mg f fd) (d_law_state : ∃ f fd, Df_law_state K mg f fd) (d_law_take : ∃ f fd, Df_law_take K mg f fd) (d_law_far : ∃ f fd, Df_law_far K mg f fd) (d_law_parts : ∃ f fd, Df_law_parts K mg f fd) (d_law_is_prime : ∃ f fd, Df_law_is_prime K mg f fd) (d_law_prime : ∃ f fd, Df_law_prime K mg f fd) (D_law : Df_law K mg fa fd) : FnOk P w K mg base CX0 9 fa fd ["_law_script"] (spLaw K) := by
  obtain ⟨f_is_whole, fd_is_whole, D_is_whole⟩ := d_is_whole
  have O_is_whole : ∃ f fd, Df_is_whole K mg f fd ∧ FnOk P w K mg base CX0 1 f fd _ _ := ⟨_, _, D_is_whole, ok_is_whole D_is_whole T⟩
  obtain ⟨f_is_between, fd_is_between, D_is_between⟩ := d_is_between
  have O_is_between : ∃ f fd, Df_is_between K mg f fd ∧ FnOk P w K mg base CX0 2 f fd _ _ := ⟨_, _, D_is_between, ok_is_between D_is_between T D_is_whole⟩
  obtain ⟨f_want_between, fd_want_between, D_want_between⟩ := d_want_between
  have O_want_between : ∃ f fd, Df_want_between K mg f fd ∧ FnOk P w K mg base CX0 3 f fd _ _ := ⟨_, _, D_want_between, ok_want_between D_want_between T D_is_whole D_is_between⟩
  obtain ⟨f_want_tried, fd_want_tried, D_want_tried⟩ := d_want_tried
  have O_want_tried : ∃ f fd, Df_want_tried K mg f fd ∧ FnOk P w K mg base CX0 4 f fd _ _ := ⟨_, _, D_want_tried, ok_want_tried D_want_tried T D_is_whole D_is_between D_want_between⟩
  obtain ⟨f_want_far, fd_want_far, D_want_far⟩ := d_want_far
  have O_want_far : ∃ f fd, Df_want_far K mg f fd ∧ FnOk P w K mg base CX0 4 f fd _ _ := ⟨_, _, D_want_far, ok_want_far D_want_far T D_is_whole D_is_between D_want_between⟩
  obtain ⟨f_power_rest, fd_power_rest, D_power_rest⟩ := d_power_rest
  have O_power_rest : ∃ f fd, Df_power_rest K mg f fd ∧ FnOk P w K mg base CX0 1 f fd _ _ := ⟨_, _, D_power_rest, ok_power_rest D_power_rest T⟩
  obtain ⟨f_greatest_in_both, fd_greatest_in_both, D_greatest_in_both⟩ := d_greatest_in_both
  have O_greatest_in_both : ∃ f fd, Df_greatest_in_both K mg f fd ∧ FnOk P w K mg base CX0 1 f fd _ _ := ⟨_, _, D_greatest_in_both, ok_greatest_in_both D_greatest_in_both T⟩
  obtain ⟨f_shared, fd_shared, D_shared⟩ := d_shared
  have O_shared : ∃ f fd, Df_shared K mg f fd ∧ FnOk P w K mg base CX0 5 f fd _ _ := ⟨_, _, D_shared, ok_shared D_shared T O_want_far O_greatest_in_both⟩
  obtain ⟨f_least_part, fd_least_part, D_least_part⟩ := d_least_part
  have O_least_part : ∃ f fd, Df_least_part K mg f fd ∧ FnOk P w K mg base CX0 1 f fd _ _ := ⟨_, _, D_least_part, ok_least_part D_least_part T⟩
  obtain ⟨f_is_prime, fd_is_prime, D_is_prime⟩ := d_is_prime
  have O_is_prime : ∃ f fd, Df_is_prime K mg f fd ∧ FnOk P w K mg base CX0 5 f fd _ _ := ⟨_, _, D_is_prime, ok_is_prime D_is_prime T O_want_between O_least_part⟩
  obtain ⟨f_want_prime, fd_want_prime, D_want_prime⟩ := d_want_prime
  have O_want_prime : ∃ f fd, Df_want_prime K mg f fd ∧ FnOk P w K mg base CX0 6 f fd _ _ := ⟨_, _, D_want_prime, ok_want_prime D_want_prime T O_want_tried O_is_prime⟩
  obtain ⟨f_want_odd, fd_want_odd, D_want_odd⟩ := d_want_odd
  have O_want_odd : ∃ f fd, Df_want_odd K mg f fd ∧ FnOk P w K mg base CX0 3 f fd _ _ := ⟨_, _, D_want_odd, ok_want_odd D_want_odd T D_is_whole D_is_between⟩
  obtain ⟨f_want_odd_prime, fd_want_odd_prime, D_want_odd_prime⟩ := d_want_odd_prime
  have O_want_odd_prime : ∃ f fd, Df_want_odd_prime K mg f fd ∧ FnOk P w K mg base CX0 7 f fd _ _ := ⟨_, _, D_want_odd_prime, ok_want_odd_prime D_want_odd_prime T O_want_prime⟩
  obtain ⟨f_want_look, fd_want_look, D_want_look⟩ := d_want_look
  have O_want_look : ∃ f fd, Df_want_look K mg f fd ∧ FnOk P w K mg base CX0 4 f fd _ _ := ⟨_, _, D_want_look, ok_want_look D_want_look T O_want_odd O_want_between⟩
  obtain ⟨f_by_powers, fd_by_powers, D_by_powers⟩ := d_by_powers
  have O_by_powers : ∃ f fd, Df_by_powers K mg f fd ∧ FnOk P w K mg base CX0 5 f fd _ _ := ⟨_, _, D_by_powers, ok_by_powers D_by_powers T O_want_look O_power_rest⟩
  obtain ⟨f_halved, fd_halved, D_halved⟩ := d_halved
  have O_halved : ∃ f fd, Df_halved K mg f fd ∧ FnOk P w K mg base CX0 1 f fd _ _ := ⟨_, _, D_halved, ok_halved D_halved T⟩
  obtain ⟨f_lets_by_halves, fd_lets_by_halves, D_lets_by_halves⟩ := d_lets_by_halves
  have O_lets_by_halves : ∃ f fd, Df_lets_by_halves K mg f fd ∧ FnOk P w K mg base CX0 2 f fd _ _ := ⟨_, _, D_lets_by_halves, ok_lets_by_halves D_lets_by_halves T O_halved O_power_rest⟩
  obtain ⟨f_by_halves, fd_by_halves, D_by_halves⟩ := d_by_halves
  have O_by_halves : ∃ f fd, Df_by_halves K mg f fd ∧ FnOk P w K mg base CX0 5 f fd _ _ := ⟨_, _, D_by_halves, ok_by_halves D_by_halves T O_want_look O_lets_by_halves⟩
  obtain ⟨f_sign_by, fd_sign_by, D_sign_by⟩ := d_sign_by
  have O_sign_by : ∃ f fd, Df_sign_by K mg f fd ∧ FnOk P w K mg base CX0 1 f fd _ _ := ⟨_, _, D_sign_by, ok_sign_by D_sign_by T⟩
  obtain ⟨f_sign, fd_sign, D_sign⟩ := d_sign
  have O_sign : ∃ f fd, Df_sign K mg f fd ∧ FnOk P w K mg base CX0 5 f fd _ _ := ⟨_, _, D_sign, ok_sign D_sign T O_want_far O_want_odd O_sign_by⟩
  obtain ⟨f_by_signs, fd_by_signs, D_by_signs⟩ := d_by_signs
  have O_by_signs : ∃ f fd, Df_by_signs K mg f fd ∧ FnOk P w K mg base CX0 5 f fd _ _ := ⟨_, _, D_by_signs, ok_by_signs D_by_signs T O_want_look O_sign_by O_power_rest⟩
  obtain ⟨f_unsquare_by, fd_unsquare_by, D_unsquare_by⟩ := d_unsquare_by
  have O_unsquare_by : ∃ f fd, Df_unsquare_by K mg f fd ∧ FnOk P w K mg base CX0 2 f fd _ _ := ⟨_, _, D_unsquare_by, ok_unsquare_by D_unsquare_by T O_sign_by⟩
  obtain ⟨f_least_unsquare, fd_least_unsquare, D_least_unsquare⟩ := d_least_unsquare
  have O_least_unsquare : ∃ f fd, Df_least_unsquare K mg f fd ∧ FnOk P w K mg base CX0 8 f fd _ _ := ⟨_, _, D_least_unsquare, ok_least_unsquare D_least_unsquare T O_want_odd_prime O_unsquare_by⟩
  obtain ⟨f_pair_product, fd_pair_product, D_pair_product⟩ := d_pair_product
  have O_pair_product : ∃ f fd, Df_pair_product K mg f fd ∧ FnOk P w K mg base CX0 1 f fd _ _ := ⟨_, _, D_pair_product, ok_pair_product D_pair_product T⟩
  obtain ⟨f_pair_power, fd_pair_power, D_pair_power⟩ := d_pair_power
  have O_pair_power : ∃ f fd, Df_pair_power K mg f fd ∧ FnOk P w K mg base CX0 2 f fd _ _ := ⟨_, _, D_pair_power, ok_pair_power D_pair_power T O_pair_product⟩
  obtain ⟨f_root_of_square, fd_root_of_square, D_root_of_square⟩ := d_root_of_square
  have O_root_of_square : ∃ f fd, Df_root_of_square K mg f fd ∧ FnOk P w K mg base CX0 3 f fd _ _ := ⟨_, _, D_root_of_square, ok_root_of_square D_root_of_square T O_sign_by O_pair_power⟩
  obtain ⟨f_root_by, fd_root_by, D_root_by⟩ := d_root_by
  have O_root_by : ∃ f fd, Df_root_by K mg f fd ∧ FnOk P w K mg base CX0 7 f fd _ _ := ⟨_, _, D_root_by, ok_root_by D_root_by T O_want_far O_want_between O_want_prime O_sign_by O_root_of_square⟩
  obtain ⟨f_law_cell_at, fd_law_cell_at, D_law_cell_at⟩ := d_law_cell_at
  have O_law_cell_at : ∃ f fd, Df_law_cell_at K mg f fd ∧ FnOk P w K mg base CX0 1 f fd _ _ := ⟨_, _, D_law_cell_at, ok_law_cell_at D_law_cell_at T⟩
  obtain ⟨f_law_state, fd_law_state, D_law_state⟩ := d_law_state
  have O_law_state : ∃ f fd, Df_law_state K mg f fd ∧ FnOk P w K mg base CX0 2 f fd _ _ := ⟨_, _, D_law_state, ok_law_state D_law_state T O_law_cell_at⟩
  obtain ⟨f_law_take, fd_law_take, D_law_take⟩ := d_law_take
  have O_law_take : ∃ f fd, Df_law_take K mg f fd ∧ FnOk P w K mg base CX0 1 f fd _ _ := ⟨_, _, D_law_take, ok_law_take D_law_take T⟩
  obtain ⟨f_law_far, fd_law_far, D_law_far⟩ := d_law_far
  have O_law_far : ∃ f fd, Df_law_far K mg f fd ∧ FnOk P w K mg base CX0 2 f fd _ _ := ⟨_, _, D_law_far, ok_law_far D_law_far T O_law_take⟩
  obtain ⟨f_law_parts, fd_law_parts, D_law_parts⟩ := d_law_parts
  have O_law_parts : ∃ f fd, Df_law_parts K mg f fd ∧ FnOk P w K mg base CX0 1 f fd _ _ := ⟨_, _, D_law_parts, ok_law_parts D_law_parts T⟩
  obtain ⟨f_law_is_prime, fd_law_is_prime, D_law_is_prime⟩ := d_law_is_prime
  have O_law_is_prime : ∃ f fd, Df_law_is_prime K mg f fd ∧ FnOk P w K mg base CX0 2 f fd _ _ := ⟨_, _, D_law_is_prime, ok_law_is_prime D_law_is_prime T O_law_parts⟩
  obtain ⟨f_law_prime, fd_law_prime, D_law_prime⟩ := d_law_prime
  have O_law_prime : ∃ f fd, Df_law_prime K mg f fd ∧ FnOk P w K mg base CX0 3 f fd _ _ := ⟨_, _, D_law_prime, ok_law_prime D_law_prime T O_law_take O_law_is_prime⟩
  exact ok_law D_law T O_law_state O_law_take O_law_far O_law_prime O_sign O_shared O_by_halves O_by_signs O_by_powers O_root_by O_least_unsquare
end
end PP
open PySem PySem.W PyProof.Rows
set_option maxRecDepth 100000 in
set_option maxHeartbeats 0 in
theorem PySem.Challenge.cw_primepapers_k63_whole_signs_holds : PySem.Challenge.rw_primepapers_k63_whole_signs.Holds := by
  w_on; o_law; k_head; (case hw => w_witness2)
  k_fill
  refine L2.walk_ofX (l := PySem.Challenge.rw_primepapers_k63_whole_signs) (n := 63) (k := 9) (x := "_law_script") (CX := fun _ => L2.CX0) (sp := PP.spLaw) rfl (by decide) rfl ⟨rfl, by decide, by decide, rfl⟩ (fun w h Y => PySem.W.kIn_of Y) ?F ?S ?C
  case F =>
    intro w mg fa h KX G hX hmg
    have d_is_whole : ∃ f fd, PP.Df_is_whole (L2.KOf KX) mg f fd := by
      dsimp only [L2.KOf]
      refine' ⟨_, PP.def_mk KX G ?a ?l ?c ?k ?b⟩
      (case a => k_is); (case l => k_is); (case c => k_is); (case k => k_is)
      case b => exact fun _ _ _ _ _ _ us hl => match us, hl with | [_], _ => rfl
    have d_is_between : ∃ f fd, PP.Df_is_between (L2.KOf KX) mg f fd := by
      dsimp only [L2.KOf]
      refine' ⟨_, PP.def_mk KX G ?a ?l ?c ?k ?b⟩
      (case a => k_is); (case l => k_is); (case c => k_is); (case k => k_is)
      case b => exact fun _ _ _ _ _ _ us hl => match us, hl with | [_, _, _], _ => rfl
    have d_want_between : ∃ f fd, PP.Df_want_between (L2.KOf KX) mg f fd := by
      dsimp only [L2.KOf]
      refine' ⟨_, PP.def_mk KX G ?a ?l ?c ?k ?b⟩
      (case a => k_is); (case l => k_is); (case c => k_is); (case k => k_is)
      case b => exact fun _ _ _ _ _ _ us hl => match us, hl with | [_, _, _, _], _ => rfl
    have d_want_tried : ∃ f fd, PP.Df_want_tried (L2.KOf KX) mg f fd := by
      dsimp only [L2.KOf]
      refine' ⟨_, PP.def_mk KX G ?a ?l ?c ?k ?b⟩
      (case a => k_is); (case l => k_is); (case c => k_is); (case k => k_is)
      case b => exact fun _ _ _ _ _ _ us hl => match us, hl with | [_, _], _ => rfl
    have d_want_far : ∃ f fd, PP.Df_want_far (L2.KOf KX) mg f fd := by
      dsimp only [L2.KOf]
      refine' ⟨_, PP.def_mk KX G ?a ?l ?c ?k ?b⟩
      (case a => k_is); (case l => k_is); (case c => k_is); (case k => k_is)
      case b => exact fun _ _ _ _ _ _ us hl => match us, hl with | [_, _], _ => rfl
    have d_power_rest : ∃ f fd, PP.Df_power_rest (L2.KOf KX) mg f fd := by
      dsimp only [L2.KOf]
      refine' ⟨_, PP.def_mk KX G ?a ?l ?c ?k ?b⟩
      (case a => k_is); (case l => k_is); (case c => k_is); (case k => k_is)
      case b => exact fun _ _ _ _ _ _ us hl => match us, hl with | [_, _, _], _ => rfl
    have d_greatest_in_both : ∃ f fd, PP.Df_greatest_in_both (L2.KOf KX) mg f fd := by
      dsimp only [L2.KOf]
      refine' ⟨_, PP.def_mk KX G ?a ?l ?c ?k ?b⟩
      (case a => k_is); (case l => k_is); (case c => k_is); (case k => k_is)
      case b => exact fun _ _ _ _ _ _ us hl => match us, hl with | [_, _], _ => rfl
    have d_shared : ∃ f fd, PP.Df_shared (L2.KOf KX) mg f fd := by
      dsimp only [L2.KOf]
      refine' ⟨_, PP.def_mk KX G ?a ?l ?c ?k ?b⟩
      (case a => k_is); (case l => k_is); (case c => k_is); (case k => k_is)
      case b => exact fun _ _ _ _ _ _ us hl => match us, hl with | [_, _], _ => rfl
    have d_least_part : ∃ f fd, PP.Df_least_part (L2.KOf KX) mg f fd := by
      dsimp only [L2.KOf]
      refine' ⟨_, PP.def_mk KX G ?a ?l ?c ?k ?b⟩
      (case a => k_is); (case l => k_is); (case c => k_is); (case k => k_is)
      case b => exact fun _ _ _ _ _ _ us hl => match us, hl with | [_, _], _ => rfl
    have d_is_prime : ∃ f fd, PP.Df_is_prime (L2.KOf KX) mg f fd := by
      dsimp only [L2.KOf]
      refine' ⟨_, PP.def_mk KX G ?a ?l ?c ?k ?b⟩
      (case a => k_is); (case l => k_is); (case c => k_is); (case k => k_is)
      case b => exact fun _ _ _ _ _ _ us hl => match us, hl with | [_], _ => rfl
    have d_want_prime : ∃ f fd, PP.Df_want_prime (L2.KOf KX) mg f fd := by
      dsimp only [L2.KOf]
      refine' ⟨_, PP.def_mk KX G ?a ?l ?c ?k ?b⟩
      (case a => k_is); (case l => k_is); (case c => k_is); (case k => k_is)
      case b => exact fun _ _ _ _ _ _ us hl => match us, hl with | [_, _], _ => rfl
    have d_want_odd : ∃ f fd, PP.Df_want_odd (L2.KOf KX) mg f fd := by
      dsimp only [L2.KOf]
      refine' ⟨_, PP.def_mk KX G ?a ?l ?c ?k ?b⟩
      (case a => k_is); (case l => k_is); (case c => k_is); (case k => k_is)
      case b => exact fun _ _ _ _ _ _ us hl => match us, hl with | [_, _, _, _], _ => rfl
    have d_want_odd_prime : ∃ f fd, PP.Df_want_odd_prime (L2.KOf KX) mg f fd := by
      dsimp only [L2.KOf]
      refine' ⟨_, PP.def_mk KX G ?a ?l ?c ?k ?b⟩
      (case a => k_is); (case l => k_is); (case c => k_is); (case k => k_is)
      case b => exact fun _ _ _ _ _ _ us hl => match us, hl with | [_, _], _ => rfl
    have d_want_look : ∃ f fd, PP.Df_want_look (L2.KOf KX) mg f fd := by
      dsimp only [L2.KOf]
      refine' ⟨_, PP.def_mk KX G ?a ?l ?c ?k ?b⟩
      (case a => k_is); (case l => k_is); (case c => k_is); (case k => k_is)
      case b => exact fun _ _ _ _ _ _ us hl => match us, hl with | [_, _], _ => rfl
    have d_by_powers : ∃ f fd, PP.Df_by_powers (L2.KOf KX) mg f fd := by
      dsimp only [L2.KOf]
      refine' ⟨_, PP.def_mk KX G ?a ?l ?c ?k ?b⟩
      (case a => k_is); (case l => k_is); (case c => k_is); (case k => k_is)
      case b => exact fun _ _ _ _ _ _ us hl => match us, hl with | [_, _], _ => rfl
    have d_halved : ∃ f fd, PP.Df_halved (L2.KOf KX) mg f fd := by
      dsimp only [L2.KOf]
      refine' ⟨_, PP.def_mk KX G ?a ?l ?c ?k ?b⟩
      (case a => k_is); (case l => k_is); (case c => k_is); (case k => k_is)
      case b => exact fun _ _ _ _ _ _ us hl => match us, hl with | [_], _ => rfl
    have d_lets_by_halves : ∃ f fd, PP.Df_lets_by_halves (L2.KOf KX) mg f fd := by
      dsimp only [L2.KOf]
      refine' ⟨_, PP.def_mk KX G ?a ?l ?c ?k ?b⟩
      (case a => k_is); (case l => k_is); (case c => k_is); (case k => k_is)
      case b => exact fun _ _ _ _ _ _ us hl => match us, hl with | [_, _], _ => rfl
    have d_by_halves : ∃ f fd, PP.Df_by_halves (L2.KOf KX) mg f fd := by
      dsimp only [L2.KOf]
      refine' ⟨_, PP.def_mk KX G ?a ?l ?c ?k ?b⟩
      (case a => k_is); (case l => k_is); (case c => k_is); (case k => k_is)
      case b => exact fun _ _ _ _ _ _ us hl => match us, hl with | [_, _], _ => rfl
    have d_sign_by : ∃ f fd, PP.Df_sign_by (L2.KOf KX) mg f fd := by
      dsimp only [L2.KOf]
      refine' ⟨_, PP.def_mk KX G ?a ?l ?c ?k ?b⟩
      (case a => k_is); (case l => k_is); (case c => k_is); (case k => k_is)
      case b => exact fun _ _ _ _ _ _ us hl => match us, hl with | [_, _], _ => rfl
    have d_sign : ∃ f fd, PP.Df_sign (L2.KOf KX) mg f fd := by
      dsimp only [L2.KOf]
      refine' ⟨_, PP.def_mk KX G ?a ?l ?c ?k ?b⟩
      (case a => k_is); (case l => k_is); (case c => k_is); (case k => k_is)
      case b => exact fun _ _ _ _ _ _ us hl => match us, hl with | [_, _], _ => rfl
    have d_by_signs : ∃ f fd, PP.Df_by_signs (L2.KOf KX) mg f fd := by
      dsimp only [L2.KOf]
      refine' ⟨_, PP.def_mk KX G ?a ?l ?c ?k ?b⟩
      (case a => k_is); (case l => k_is); (case c => k_is); (case k => k_is)
      case b => exact fun _ _ _ _ _ _ us hl => match us, hl with | [_, _], _ => rfl
    have d_unsquare_by : ∃ f fd, PP.Df_unsquare_by (L2.KOf KX) mg f fd := by
      dsimp only [L2.KOf]
      refine' ⟨_, PP.def_mk KX G ?a ?l ?c ?k ?b⟩
      (case a => k_is); (case l => k_is); (case c => k_is); (case k => k_is)
      case b => exact fun _ _ _ _ _ _ us hl => match us, hl with | [_], _ => rfl
    have d_least_unsquare : ∃ f fd, PP.Df_least_unsquare (L2.KOf KX) mg f fd := by
      dsimp only [L2.KOf]
      refine' ⟨_, PP.def_mk KX G ?a ?l ?c ?k ?b⟩
      (case a => k_is); (case l => k_is); (case c => k_is); (case k => k_is)
      case b => exact fun _ _ _ _ _ _ us hl => match us, hl with | [_], _ => rfl
    have d_pair_product : ∃ f fd, PP.Df_pair_product (L2.KOf KX) mg f fd := by
      dsimp only [L2.KOf]
      refine' ⟨_, PP.def_mk KX G ?a ?l ?c ?k ?b⟩
      (case a => k_is); (case l => k_is); (case c => k_is); (case k => k_is)
      case b => exact fun _ _ _ _ _ _ us hl => match us, hl with | [_, _, _, _], _ => rfl
    have d_pair_power : ∃ f fd, PP.Df_pair_power (L2.KOf KX) mg f fd := by
      dsimp only [L2.KOf]
      refine' ⟨_, PP.def_mk KX G ?a ?l ?c ?k ?b⟩
      (case a => k_is); (case l => k_is); (case c => k_is); (case k => k_is)
      case b => exact fun _ _ _ _ _ _ us hl => match us, hl with | [_, _, _, _], _ => rfl
    have d_root_of_square : ∃ f fd, PP.Df_root_of_square (L2.KOf KX) mg f fd := by
      dsimp only [L2.KOf]
      refine' ⟨_, PP.def_mk KX G ?a ?l ?c ?k ?b⟩
      (case a => k_is); (case l => k_is); (case c => k_is); (case k => k_is)
      case b => exact fun _ _ _ _ _ _ us hl => match us, hl with | [_, _], _ => rfl
    have d_root_by : ∃ f fd, PP.Df_root_by (L2.KOf KX) mg f fd := by
      dsimp only [L2.KOf]
      refine' ⟨_, PP.def_mk KX G ?a ?l ?c ?k ?b⟩
      (case a => k_is); (case l => k_is); (case c => k_is); (case k => k_is)
      case b => exact fun _ _ _ _ _ _ us hl => match us, hl with | [_, _], _ => rfl
    have d_law_cell_at : ∃ f fd, PP.Df_law_cell_at (L2.KOf KX) mg f fd := by
      dsimp only [L2.KOf]
      refine' ⟨_, PP.def_mk KX G ?a ?l ?c ?k ?b⟩
      (case a => k_is); (case l => k_is); (case c => k_is); (case k => k_is)
      case b => exact fun _ _ _ _ _ _ us hl => match us, hl with | [_, _], _ => rfl
    have d_law_state : ∃ f fd, PP.Df_law_state (L2.KOf KX) mg f fd := by
      dsimp only [L2.KOf]
      refine' ⟨_, PP.def_mk KX G ?a ?l ?c ?k ?b⟩
      (case a => k_is); (case l => k_is); (case c => k_is); (case k => k_is)
      case b => exact fun _ _ _ _ _ _ us hl => match us, hl with | [_, _], _ => rfl
    have d_law_take : ∃ f fd, PP.Df_law_take (L2.KOf KX) mg f fd := by
      dsimp only [L2.KOf]
      refine' ⟨_, PP.def_mk KX G ?a ?l ?c ?k ?b⟩
      (case a => k_is); (case l => k_is); (case c => k_is); (case k => k_is)
      case b => exact fun _ _ _ _ _ _ us hl => match us, hl with | [_, _], _ => rfl
    have d_law_far : ∃ f fd, PP.Df_law_far (L2.KOf KX) mg f fd := by
      dsimp only [L2.KOf]
      refine' ⟨_, PP.def_mk KX G ?a ?l ?c ?k ?b⟩
      (case a => k_is); (case l => k_is); (case c => k_is); (case k => k_is)
      case b => exact fun _ _ _ _ _ _ us hl => match us, hl with | [_, _], _ => rfl
    have d_law_parts : ∃ f fd, PP.Df_law_parts (L2.KOf KX) mg f fd := by
      dsimp only [L2.KOf]
      refine' ⟨_, PP.def_mk KX G ?a ?l ?c ?k ?b⟩
      (case a => k_is); (case l => k_is); (case c => k_is); (case k => k_is)
      case b => exact fun _ _ _ _ _ _ us hl => match us, hl with | [_], _ => rfl
    have d_law_is_prime : ∃ f fd, PP.Df_law_is_prime (L2.KOf KX) mg f fd := by
      dsimp only [L2.KOf]
      refine' ⟨_, PP.def_mk KX G ?a ?l ?c ?k ?b⟩
      (case a => k_is); (case l => k_is); (case c => k_is); (case k => k_is)
      case b => exact fun _ _ _ _ _ _ us hl => match us, hl with | [_], _ => rfl
    have d_law_prime : ∃ f fd, PP.Df_law_prime (L2.KOf KX) mg f fd := by
      dsimp only [L2.KOf]
      refine' ⟨_, PP.def_mk KX G ?a ?l ?c ?k ?b⟩
      (case a => k_is); (case l => k_is); (case c => k_is); (case k => k_is)
      case b => exact fun _ _ _ _ _ _ us hl => match us, hl with | [_, _], _ => rfl
    have d_law : ∃ f fd, PP.Df_law (L2.KOf KX) mg f fd := by
      dsimp only [L2.KOf]
      refine' ⟨_, PP.def_mk KX G ?a ?l ?c ?k ?b⟩
      (case a => k_is); (case l => k_is); (case c => k_is); (case k => k_is)
      case b => exact fun _ _ _ _ _ _ us hl => match us, hl with | [_], _ => rfl
    have c_MOST : ∃ t, mg "MOST" = some (.int 1000000000000000000000000000000 t) := by
      exact L2.loose_int hX (by simp)
    have c_MOST_TRIED : ∃ t, mg "MOST_TRIED" = some (.int 1000000000 t) := by
      exact L2.loose_int hX (by simp)
    have c_MOST_ROOTED : ∃ t, mg "MOST_ROOTED" = some (.int 1000000 t) := by
      exact L2.loose_int hX (by simp)
    have n_len : mg "len" = none := by
      refine' PySem.W.mg_none_of KX G ?a
      (case a => k_is)
    have n_isinstance : mg "isinstance" = none := by
      refine' PySem.W.mg_none_of KX G ?a
      (case a => k_is)
    have n_int : mg "int" = none := by
      refine' PySem.W.mg_none_of KX G ?a
      (case a => k_is)
    have n_bool : mg "bool" = none := by
      refine' PySem.W.mg_none_of KX G ?a
      (case a => k_is)
    have n_range : mg "range" = none := by
      refine' PySem.W.mg_none_of KX G ?a
      (case a => k_is)
    have n_abs : mg "abs" = none := by
      refine' PySem.W.mg_none_of KX G ?a
      (case a => k_is)
    have n_max : mg "max" = none := by
      refine' PySem.W.mg_none_of KX G ?a
      (case a => k_is)
    have n_min : mg "min" = none := by
      refine' PySem.W.mg_none_of KX G ?a
      (case a => k_is)
    have n_sorted : mg "sorted" = none := by
      refine' PySem.W.mg_none_of KX G ?a
      (case a => k_is)
    obtain ⟨fl, fdl, D_law⟩ := d_law
    obtain ⟨t_MOST, c_MOST⟩ := c_MOST
    obtain ⟨t_MOST_TRIED, c_MOST_TRIED⟩ := c_MOST_TRIED
    obtain ⟨t_MOST_ROOTED, c_MOST_ROOTED⟩ := c_MOST_ROOTED
    have e0 := hmg.symm.trans D_law.mgx
    cases e0
    have T : PP.Txt (L2.KOf KX) mg t_MOST t_MOST_TRIED t_MOST_ROOTED := ⟨c_MOST, c_MOST_TRIED, c_MOST_ROOTED, n_len, n_isinstance, n_int, n_bool, n_range, n_abs, n_max, n_min, n_sorted⟩
    refine ⟨fdl, fun s u => ?_, fun base kb nb => PP.all_ok T  d_is_whole d_is_between d_want_between d_want_tried d_want_far d_power_rest d_greatest_in_both d_shared d_least_part d_is_prime d_want_prime d_want_odd d_want_odd_prime d_want_look d_by_powers d_halved d_lets_by_halves d_by_halves d_sign_by d_sign d_by_signs d_unsquare_by d_least_unsquare d_pair_product d_pair_power d_root_of_square d_root_by d_law_cell_at d_law_state d_law_take d_law_far d_law_parts d_law_is_prime d_law_prime D_law⟩
    obtain ⟨⟨oc, od, kV, doc, pm, an, cdv, ct, osl, e, _⟩, _⟩ := D_law.fn
    rw [e]
    exact .of_eq rfl
  case S => exact fun K H a ns hl _ hS => ⟨a, ns, rfl, hS, hl, fun _ => rfl⟩
  case C => exact fun _ _ _ _ _ z => z
