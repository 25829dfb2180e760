import PyProof.Rows.All
import Wide.All
import OpenK.AllK
import Wide.FinOn
import Lean
import PyProof.EqAt
import PyProof.EqKinds
import PyProof.TupleCall
import KE.KLam
import PyProof.NeKinds
import KE.KNestM
import PyProof.ReprRoads
import PyProof.ReprLen
import PyProof.CompUse
import PyProof.Conv_int_bool
import PyProof.WalkInts
import KE.KSortTup
import PyProof.Rows.SortRev
import PyProof.ZipIter
import PyProof.TupleIter
import PySem.Challenge.RW_primepapers_k32_share_papers_told
set_option genSizeOfSpec false
set_option genSizeOf false
set_option Elab.async false
set_option linter.all false
set_option maxRecDepth 100000
set_option maxHeartbeats 8000000
namespace L2
open PySem PySem.Spec PyProof.Rows
abbrev Key := Sum Int Str
def keyIs : Key → Value → Bool
  | .inl k, v => Value.isInt k v
  | .inr x, v => Value.isStrOf x v
def keyH (w : World) : Key → Int
  | .inl k => hashInt k
  | .inr x => hashStr w x
theorem keyIs_shape : ∀ {k : Key} {v : Value}, keyIs k v = true → (∃ i t, k = Sum.inl i ∧ v = Value.int i t) ∨ (∃ x t, k = Sum.inr x ∧ v = Value.str x t)
  | .inl i, v, h => by
    obtain ⟨t, e⟩ := Value.isInt_shape (k := i) (v := v) h
    exact .inl ⟨i, t, rfl, e⟩
  | .inr x, v, h => by
    obtain ⟨t, e⟩ := Value.isStrOf_shape (x := x) (v := v) h
    exact .inr ⟨x, t, rfl, e⟩
theorem keyIs_int (i : Int) (t : Tok) : keyIs (.inl i) (.int i t) = true := by simp [keyIs, Value.isInt]
theorem keyIs_str (x : Str) (t : Tok) : keyIs (.inr x) (.str x t) = true := by simp [keyIs, Value.isStrOf]
theorem key_ll (a b : Int) : decide ((Sum.inl a : Key) = Sum.inl b) = (a == b) := by
  by_cases e : a = b
  · subst e; simp
  · have h : ¬ (Sum.inl a : Key) = Sum.inl b := fun q => e (Sum.inl.inj q)
    rw [decide_eq_false h]
    exact (beq_eq_false_iff_ne.mpr e).symm
theorem key_rr (a b : Str) : decide ((Sum.inr a : Key) = Sum.inr b) = decide (a = b) := by
  by_cases e : a = b
  · subst e; simp
  · have h : ¬ (Sum.inr a : Key) = Sum.inr b := fun q => e (Sum.inr.inj q)
    rw [decide_eq_false h, decide_eq_false e]
theorem key_lr (a : Int) (b : Str) : decide ((Sum.inl a : Key) = Sum.inr b) = false := decide_eq_false (fun q => nomatch q)
theorem key_rl (a : Str) (b : Int) : decide ((Sum.inr a : Key) = Sum.inl b) = false := decide_eq_false (fun q => nomatch q)
def mixKind (prog : Program) (w : World) : PySem.KeyKind prog w Key where
  is := keyIs
  hash := keyH w
  inj := fun v a b ha hb => by
    rcases keyIs_shape ha with ⟨i, t, rfl, rfl⟩ | ⟨x, t, rfl, rfl⟩
    · rcases keyIs_shape hb with ⟨j, u, rfl, e⟩ | ⟨y, u, rfl, e⟩
      · injection e with e1 _; rw [e1]
      · exact nomatch e
    · rcases keyIs_shape hb with ⟨j, u, rfl, e⟩ | ⟨y, u, rfl, e⟩
      · exact nomatch e
      · injection e with e1 _; rw [e1]
  byValue := fun k v h => by
    rcases keyIs_shape h with ⟨i, t, rfl, rfl⟩ | ⟨x, t, rfl, rfl⟩ <;> rfl
  pyHash := fun hv h => by
    rcases keyIs_shape hv with ⟨i, t, rfl, rfl⟩ | ⟨x, t, rfl, rfl⟩
    · exact wpAny_pyHash_int h
    · exact wpAny_pyHash_str h
  eqBool := fun hu hv h => by
    rcases keyIs_shape hu with ⟨i, t, rfl, rfl⟩ | ⟨x, t, rfl, rfl⟩
    · rcases keyIs_shape hv with ⟨j, u, rfl, rfl⟩ | ⟨y, u, rfl, rfl⟩
      · rw [key_ll] at h; exact wpAny_eqBool_int h
      · rw [key_lr] at h; exact SeqAt.EqAt.int_str i t y u _ _ _ _ h
    · rcases keyIs_shape hv with ⟨j, u, rfl, rfl⟩ | ⟨y, u, rfl, rfl⟩
      · rw [key_rl] at h; exact SeqAt.EqAt.str_int x t j u _ _ _ _ h
      · rw [key_rr] at h; exact wpAny_eqBool_str h
  «strs» := fun k x t v h => by
    rcases keyIs_shape h with ⟨i, u, rfl, e⟩ | ⟨y, u, rfl, e⟩
    · exact nomatch e
    · injection e with e1 _
      subst e1
      cases v <;> rfl
theorem mixKind_is (prog : Program) (w : World) (k : Key) (v : Value) : (mixKind prog w).is k v = keyIs k v := rfl
end L2
namespace L2
open PySem PySem.Spec PyProof.Rows
inductive V where
  | non | bl (b : Bool) | int (i : Int) | str (x : Str) | byt (b : Array UInt8) | flt (b : UInt64) | ref (a : Addr) | ty (n : String)
  deriving DecidableEq
def RelV : V → Value → Prop
  | .non, u => u = Value.none
  | .bl b, u => u = Value.bool b
  | .int i, u => ∃ t, u = Value.int i t
  | .str x, u => ∃ t, u = Value.str x t
  | .byt b, u => ∃ t, u = Value.bytes b t
  | .flt b, u => ∃ t, u = Value.float b t
  | .ref a, u => u = Value.ref a
  | .ty n, u => u = Value.type n
abbrev Vals : List V → List Value → Prop := Paired RelV
theorem Vals.length {xs : List V} {us : List Value} (r : Vals xs us) : xs.length = us.length := Paired.length r
theorem Vals.get : ∀ {xs : List V} {us : List Value} {i : Nat} {x : V}, Vals xs us → xs[i]? = some x → ∃ u, us[i]? = some u ∧ RelV x u
  | _, _, _, _, .nil, e => by simp at e
  | _, _, 0, _, .cons r _, e => by simp at e; subst e; exact ⟨_, rfl, r⟩
  | _, _, i + 1, x, .cons _ t, e => by
    obtain ⟨u, h1, h2⟩ := Vals.get (i := i) (x := x) t (by simpa using e)
    exact ⟨u, by simpa using h1, h2⟩
theorem Vals.set {x : V} {u : Value} (r : RelV x u) : ∀ {xs : List V} {us : List Value} (i : Nat), Vals xs us → Vals (xs.set i x) (us.set i u)
  | _, _, _, .nil => .nil
  | _, _, 0, .cons _ t => .cons r t
  | _, _, i + 1, .cons q t => .cons q (Vals.set r i t)
theorem Vals.append : ∀ {xs ys : List V} {us ws : List Value}, Vals xs us → Vals ys ws → Vals (xs ++ ys) (us ++ ws)
  | _, _, _, _, .nil, s => s
  | _, _, _, _, .cons r t, s => .cons r (Vals.append t s)
theorem Vals.take : ∀ {xs : List V} {us : List Value} (n : Nat), Vals xs us → Vals (xs.take n) (us.take n)
  | _, _, 0, _ => .nil
  | _, _, _ + 1, .nil => .nil
  | _, _, n + 1, .cons r t => .cons r (Vals.take n t)
theorem Vals.drop : ∀ {xs : List V} {us : List Value} (n : Nat), Vals xs us → Vals (xs.drop n) (us.drop n)
  | _, _, 0, r => r
  | _, _, _ + 1, .nil => .nil
  | _, _, n + 1, .cons _ t => Vals.drop n t
def RelO : Option V → Option Value → Prop
  | some v, some u => RelV v u
  | none, none => True
  | _, _ => False
def KV {κ : Type} : List (κ × V) → List (κ × Value) → Prop := Paired fun (p : κ × V) (q : κ × Value) => p.1 = q.1 ∧ RelV p.2 q.2
def kV : Key → V
  | .inl i => .int i
  | .inr x => .str x
inductive HO where
  
  | lst (xs : List V)
  
  | tup (xs : List V)
  
  | dK (kvs : List (Key × V)) | dT (kvs : List (List Key × V))
  
  | set (S : Int → Bool) (n : Nat)
  
  | ins (C dx : Addr) (fs : List (Str × V))
  
  | own (x : Addr)
  
  | xd (fs : List (Str × V))
  
  | met (f x : Addr)
  
  | rng (lo hi : Int)
  
  | frz (o : Obj) (u : HO)
  
  | tbl (ps : Array Value)
  
  | ext (φ : Heap → Prop)
abbrev Hp := Addr → Option HO
def upd (H : Hp) (a : Addr) (o : HO) : Hp := fun b => if b = a then some o else H b
theorem upd_same {H : Hp} {a : Addr} {o : HO} : upd H a o a = some o := by unfold upd; rw [if_pos rfl]
theorem upd_ne {H : Hp} {a b : Addr} {o : HO} (h : b ≠ a) : upd H a o b = H b := by unfold upd; rw [if_neg h]
theorem ne_of_none {H : Hp} {a b : Addr} {o : HO} (h : H a = some o) (h' : H b = none) : a ≠ b := by
  intro e; subst e; rw [h] at h'; cases h'
section
variable (P : Program) (w : World)
def ObjOk (H : Hp) (h : Heap) (a : Addr) : HO → Prop
  | .lst xs => xs.length ≤ sizeLine ∧ ∃ (its : List Value) (n : Nat), Vals xs its ∧ h.get? a = some { cls := .type "list", data := .seq its.toArray n }
  | .tup xs => xs.length ≤ sizeLine ∧ ∃ its : List Value, Vals xs its ∧ IsTup h a its.toArray
  | .dK kvs => kvs.length ≤ sizeLine ∧ (a == sysModules) = false ∧ ∃ vs, KV kvs vs ∧ h.DictOf (mixKind P w) a vs
  | .dT kvs => kvs.length ≤ sizeLine ∧ (a == sysModules) = false ∧ ∃ xs : List (List Key × Addr × Value),
      Paired (fun (p : List Key × V) (q : List Key × Addr × Value) => p.1 = q.1 ∧ H q.2.1 = some (.tup (p.1.map kV)) ∧ RelV p.2 q.2.2) kvs xs ∧
      ∃ o es ep, h.get? a = some o ∧ o.ExactDict ∧ o.data = .dict es ep ∧ es.toList = xs.map (entryOfKey (tupleKind (mixKind P w))) ∧ (xs.map (·.1)).Nodup
  | .set S n => h.SetOf (intKind P w) a S n
  | .ins C dx fs => H dx = some (.own a) ∧ fs.length ≤ 1000 ∧ dx ≠ a ∧ h.get? a = some (PySem.W.instObj C dx) ∧
      ∃ mA, h.Ns1 dx mA ∧ (∀ f, RelO (fs.lookup f) (mA f)) ∧ PySem.Within mA (fs.map (·.1))
  | .own _ => ∃ o, h.get? a = some o
  | .xd fs => ∃ mA, h.Ns1 a mA ∧ ∀ f, RelO (fs.lookup f) (mA f)
  | .rng lo hi => ∃ t u v, h.get? a = some { cls := .type "range", data := .fields #[.int lo t, .int hi u, .int 1 v] }
  | .frz o u => h.get? a = some o ∧ ObjOk H h a u
  | .tbl ps => h.get? a = some { cls := .none, data := .fields ps }
  | .met f x => h.get? a = some (PySem.W.methodObj (.ref f) (.ref x))
  | .ext φ => φ h ∧ (∃ o, h.get? a = some o) ∧ ∀ h1 h2 : Heap, φ h1 → (∀ o, h1.get? a = some o → h2.get? a = some o) → φ h2
def HOk (H : Hp) (h : Heap) : Prop := ∀ a o, H a = some o → ObjOk P w H h a o
end
section
variable {P : Program} {w : World} {H H' : Hp} {h h' : Heap} {a : Addr} {o : HO}
theorem ObjOk.lt (x : ObjOk P w H h a o) : a < h.objs.size := by
  cases o with
  | lst xs => obtain ⟨_, _, _, _, e⟩ := x; exact Heap.lt_size e
  | tup xs => obtain ⟨_, _, _, p⟩ := x; exact p.lt
  | dK kvs => obtain ⟨_, _, _, _, o, _, _, e, _⟩ := x; exact Heap.lt_size e
  | dT kvs => obtain ⟨_, _, _, _, o, _, _, e, _⟩ := x; exact Heap.lt_size e
  | set S n => obtain ⟨o, _, _, _, e, _⟩ := x; exact Heap.lt_size e
  | ins C dx fs => obtain ⟨_, _, _, e, _⟩ := x; exact Heap.lt_size e
  | own y => obtain ⟨_, e⟩ := x; exact Heap.lt_size e
  | xd fs => obtain ⟨_, ⟨_, _, _, e, _⟩, _⟩ := x; exact Heap.lt_size e
  | rng lo hi => obtain ⟨_, _, _, e⟩ := x; exact Heap.lt_size e
  | frz ob u => obtain ⟨e, _⟩ := x; exact Heap.lt_size e
  | tbl ps => exact Heap.lt_size (show h.get? a = some _ from x)
  | met f y => exact Heap.lt_size (show h.get? a = some _ from x)
  | ext φ => obtain ⟨_, ⟨_, e⟩, _⟩ := x; exact Heap.lt_size e
theorem Paired.mapP {α β : Type} {F G : α → β → Prop} : ∀ {l₁ : List α} {l₂ : List β}, Paired F l₁ l₂ → (∀ a b, F a b → G a b) → Paired G l₁ l₂
  | _, _, .nil, _ => .nil
  | _, _, .cons r t, f => .cons (f _ _ r) (Paired.mapP t f)
theorem ObjOk.stay (x : ObjOk P w H h a o) (k : ∀ b u, (b = a ∨ H b = some (.own a)) → h.get? b = some u → h'.get? b = some u)
    (ho : ∀ b, H b = some (.own a) → H' b = some (.own a)) (ht : ∀ b xs, H b = some (.tup xs) → H' b = some (.tup xs)) : ObjOk P w H' h' a o := by
  induction o with
  | lst xs => obtain ⟨z, its, n, r, e⟩ := x; exact ⟨z, its, n, r, k _ _ (.inl rfl) e⟩
  | tup xs => obtain ⟨z, its, r, ob, e, c⟩ := x; exact ⟨z, its, r, ob, k _ _ (.inl rfl) e, c⟩
  | dK kvs => obtain ⟨z, y, vs, r, ob, es, ep, e, c⟩ := x; exact ⟨z, y, vs, r, ob, es, ep, k _ _ (.inl rfl) e, c⟩
  | dT kvs =>
    obtain ⟨z, y, xs, r, ob, es, ep, e, c⟩ := x
    exact ⟨z, y, xs, Paired.mapP r fun p q z => ⟨z.1, ht _ _ z.2.1, z.2.2⟩, ob, es, ep, k _ _ (.inl rfl) e, c⟩
  | set S n => obtain ⟨ob, es, ep, t, e, c⟩ := x; exact ⟨ob, es, ep, t, k _ _ (.inl rfl) e, c⟩
  | ins C dx fs =>
    obtain ⟨d, z, ne, e, mA, ⟨od, es, ep, e2, c⟩, r⟩ := x
    exact ⟨ho _ d, z, ne, k _ _ (.inl rfl) e, mA, ⟨od, es, ep, k _ _ (.inr d) e2, c⟩, r⟩
  | own y => obtain ⟨ob, e⟩ := x; exact ⟨ob, k _ _ (.inl rfl) e⟩
  | xd fs => obtain ⟨mA, ⟨od, es, ep, e, c⟩, r⟩ := x; exact ⟨mA, ⟨od, es, ep, k _ _ (.inl rfl) e, c⟩, r⟩
  | rng lo hi => obtain ⟨t, u, v, e⟩ := x; exact ⟨t, u, v, k _ _ (.inl rfl) e⟩
  | frz ob u ih => obtain ⟨e, q⟩ := x; exact ⟨k _ _ (.inl rfl) e, ih q⟩
  | tbl ps =>
    have e : h.get? a = some { cls := .none, data := .fields ps } := x
    show h'.get? a = some { cls := .none, data := .fields ps }
    exact k a _ (.inl rfl) e
  | met f y =>
    have e : h.get? a = some (PySem.W.methodObj (.ref f) (.ref y)) := x
    show h'.get? a = some (PySem.W.methodObj (.ref f) (.ref y))
    exact k a _ (.inl rfl) e
  | ext φ => obtain ⟨p, ⟨o, e⟩, st⟩ := x; exact ⟨st _ _ p fun o q => k _ _ (.inl rfl) q, ⟨o, k _ _ (.inl rfl) e⟩, st⟩
theorem HOk.lt (x : HOk P w H h) (e : H a = some o) : a < h.objs.size := (x a o e).lt
theorem HOk.fresh (x : HOk P w H h) (e : h.objs.size ≤ a) : H a = none := by
  cases q : H a with
  | none => rfl
  | some u => exact absurd (Nat.lt_of_lt_of_le (x.lt q) e) (Nat.lt_irrefl _)
theorem HOk.kept (x : HOk P w H h) (k : ∀ b u, h.get? b = some u → h'.get? b = some u) : HOk P w H h' := fun a o e =>
  (x a o e).stay (fun b u _ q => k b u q) (fun _ q => q) fun _ _ q => q
theorem HOk.laid (x : HOk P w H h) (k : ∀ b u, h.get? b = some u → h'.get? b = some u) (hp : h.objs.size ≤ a) (new : ObjOk P w (upd H a o) h' a o) : HOk P w (upd H a o) h' := fun b u e => by
  have hn := x.fresh hp
  by_cases hb : b = a
  · subst hb; rw [upd_same] at e; cases e; exact new
  · rw [upd_ne hb] at e
    exact (x b u e).stay (fun c v _ q => k c v q) (fun c q => by rw [upd_ne (ne_of_none q hn)]; exact q) fun c xs q => by rw [upd_ne (ne_of_none q hn)]; exact q
end
def Rd (H : Hp) (a : Addr) (u : HO) : Prop := H a = some u ∨ ∃ o, H a = some (.frz o u)
theorem Rd.ok {P : Program} {w : World} {H : Hp} {h : Heap} {a : Addr} {u : HO} (r : Rd H a u) (x : HOk P w H h) : ObjOk P w H h a u := by
  rcases r with r | ⟨o, r⟩
  · exact x a u r
  · obtain ⟨_, q⟩ := x a _ r
    exact q
def Mut : Option HO → Prop
  | some (.lst _) => True
  | some (.dK _) => True
  | some (.dT _) => True
  | some (.set _ _) => True
  | some (.ins _ _ _) => True
  | some (.ext _) => True
  | _ => False
section
variable {P : Program} {w : World} {H : Hp} {h h' : Heap} {x e : Addr} {o' : HO}
theorem HOk.write (ok : HOk P w H h) (mu : Mut (H x)) (he : e = x ∨ H e = some (.own x)) (k : ∀ b u, b ≠ e → h.get? b = some u → h'.get? b = some u) (heo : ∃ u, h'.get? e = some u)
    (new : ObjOk P w (upd H x o') h' x o') : HOk P w (upd H x o') h' := fun b u q => by
  have nown : ∀ c y, H c = some (.own y) → c ≠ x := fun c y r z => by subst z; rw [r] at mu; exact mu
  have ntup : ∀ c xs, H c = some (.tup xs) → c ≠ x := fun c xs r z => by subst z; rw [r] at mu; exact mu
  by_cases hb : b = x
  · subst hb; rw [upd_same] at q; cases q; exact new
  · rw [upd_ne hb] at q
    by_cases hbe : b = e
    · have q' : H b = some (.own x) := by
        rcases he with z | z
        · exact absurd (hbe.trans z) hb
        · rw [hbe]; exact z
      rw [q] at q'; cases q'
      obtain ⟨v, hv⟩ := heo
      exact ⟨v, by rw [hbe]; exact hv⟩
    · refine (ok b u q).stay (fun c v hc r => k c v ?_ r) (fun c r => by rw [upd_ne (nown c b r)]; exact r) fun c xs r => by rw [upd_ne (ntup c xs r)]; exact r
      rcases hc with rfl | hc
      · exact hbe
      · rintro rfl
        rcases he with z | z
        · exact nown c b hc z
        · rw [hc] at z; cases z; exact hb rfl
end
structure Un (fs ex : List Addr) (H H' : Hp) (h h' : Heap) : Prop where
  keep : ∀ b o, h.get? b = some o → H b = none → b ∉ fs → b ∉ ex → h'.get? b = some o
  slot : ∀ b o, h.get? b = some o → H b = none → b ∈ fs → b ∉ ex → ∃ sl, h'.get? b = some { o with slots := sl }
  free : ∀ b o, h.get? b = some o → H b = none → b ∉ ex → H' b = none
  there : ∀ b o, h.get? b = some o → b ∉ ex → ∃ o', h'.get? b = some o'
  tups : ∀ b xs, H b = some (.tup xs) → H' b = some (.tup xs)
  frzs : ∀ b o u, H b = some (.frz o u) → H' b = some (.frz o u)
  tbls : ∀ b ps, H b = some (.tbl ps) → ∃ more, H' b = some (.tbl (ps ++ more))
section
variable {fs fs' ex ex' : List Addr} {H H1 H2 : Hp} {h h1 h2 h' : Heap} {a x e : Addr} {o : HO}
theorem Un.any (u : Un fs ex H H1 h h1) {b : Addr} {ob : Obj} (q : h.get? b = some ob) (n : H b = none) (hx : b ∉ ex) : ∃ sl, h1.get? b = some { ob with slots := sl } := by
  by_cases hb : b ∈ fs
  · exact u.slot b ob q n hb hx
  · exact ⟨ob.slots, u.keep b ob q n hb hx⟩
theorem Un.kept (k : ∀ b u, h.get? b = some u → h'.get? b = some u) : Un fs ex H H h h' :=
  ⟨fun b ob q _ _ _ => k b ob q, fun b ob q _ _ _ => ⟨ob.slots, k b ob q⟩, fun _ _ _ n _ => n, fun b ob q _ => ⟨ob, k b ob q⟩, fun _ _ q => q, fun _ _ _ q => q, fun _ ps q => ⟨#[], by rw [q]; simp⟩⟩
theorem Un.refl : Un fs ex H H h h := Un.kept fun _ _ q => q
theorem Un.laid (k : ∀ b u, h.get? b = some u → h'.get? b = some u) (hp : h.objs.size ≤ a) (hn : H a = none) : Un fs ex H (upd H a o) h h' where
  keep := fun b u q _ _ _ => k b u q
  slot := fun b u q _ _ _ => ⟨u.slots, k b u q⟩
  free := fun b u q n _ => by rw [upd_ne (Nat.ne_of_lt (Nat.lt_of_lt_of_le (Heap.lt_size q) hp))]; exact n
  there := fun b u q _ => ⟨u, k b u q⟩
  tups := fun b xs q => by rw [upd_ne (ne_of_none q hn)]; exact q
  frzs := fun b u xs q => by rw [upd_ne (ne_of_none q hn)]; exact q
  tbls := fun b ps q => ⟨#[], by rw [upd_ne (ne_of_none q hn), q]; simp⟩
theorem Un.write (mu : Mut (H x)) (he : e = x ∨ H e = some (.own x)) (k : ∀ b u, b ≠ e → h.get? b = some u → h'.get? b = some u) (heo : ∃ u, h'.get? e = some u) : Un fs ex H (upd H x o) h h' := by
  have hx : ∀ b, H b = none → b ≠ x := fun b n z => by subst z; rw [n] at mu; exact mu
  have hb : ∀ b, H b = none → b ≠ e := fun b n z => by
    subst z
    rcases he with r | r
    · exact hx b n r
    · rw [n] at r; cases r
  have hm : ∀ b u, H b = some u → ¬ Mut (some u) → b ≠ x := fun b u q nm z => by subst z; rw [q] at mu; exact nm mu
  refine ⟨fun b u q n _ _ => k b u (hb b n) q, fun b u q n _ _ => ⟨u.slots, k b u (hb b n) q⟩, fun b u q n _ => by rw [upd_ne (hx b n)]; exact n, fun b u q _ => ?_,
    fun b xs q => by rw [upd_ne (hm b _ q fun z => z)]; exact q, fun b u xs q => by rw [upd_ne (hm b _ q fun z => z)]; exact q, fun b ps q => ⟨#[], by rw [upd_ne (hm b _ q fun z => z), q]; simp⟩⟩
  by_cases hbe : b = e
  · subst hbe; exact heo
  · exact ⟨u, k b u hbe q⟩
end
def trk (h : Heap) (H : Hp) : List Addr := (List.range h.objs.size).filter fun a => (H a).isSome
def hidT (h : Heap) (H : Hp) : Heap := PySem.W.hideAll h (trk h H)
theorem hidT_size (h : Heap) (H : Hp) : (hidT h H).objs.size = h.objs.size := PySem.W.hideAll_size _ _
theorem hidT_get {h : Heap} {H : Hp} {b : Addr} {o : Obj} (e : h.get? b = some o) (n : H b = none) : (hidT h H).get? b = some o :=
  PySem.W.hideAll_get _ e fun hm => by
    have q : (H b).isSome = true := (List.mem_filter.mp hm).2
    rw [n] at q; simp at q
theorem of_hidT {h : Heap} {H : Hp} {b : Addr} {o : Obj} (e : (hidT h H).get? b = some o) : h.get? b = some o ∧ H b = none := by
  have e' : h.get? b = some o := PySem.W.of_hideAll (trk h H) e
  refine ⟨e', ?_⟩
  cases q : H b with
  | none => rfl
  | some x =>
    have hm : b ∈ trk h H := List.mem_filter.mpr ⟨List.mem_range.mpr (Heap.lt_size e'), by simp [q]⟩
    have z : (hidT h H).get? b = none := PySem.W.hideAll_none (trk h H) hm
    rw [z] at e; cases e
def allNews (g h : Heap) (L : Addr) : List (Addr × Obj) := (List.range h.objs.size).filterMap fun a => if a = L ∨ (g.get? a).isSome = true then none else (h.get? a).map fun o => (a, o)
def rest (g h : Heap) (L d : Addr) : List (Addr × Obj) := (allNews g h L).filter fun p => decide (p.1 ≠ d)
end L2
namespace L2
open PySem PySem.Spec PyProof.Rows
structure Mod (K : PySem.W.Frag) (mg : Str → Option Value) (base : Heap) : Prop where
  kin : K.In base
  glob : base.Ns mainGlobals mg
  blt : ∃ mb, base.Ns builtinsNs mb ∧ ∀ x : Str, x ≠ "__name__" → mb x = bootBuiltins x
  nolimit : base.NoLimit
structure Cx where
  prog : Program
  w : World
  K : PySem.W.Frag
  mg : Str → Option Value
  base : Heap
  A : Around
  N : List Str
  s₀ : Shared
  H₀ : Hp
  env : Env
  outer : List Env
  stack : List Env
  ex : List Addr
  fn : Str → Bool
  calm : Bool
  pn : List (Addr × Obj)
  xe : Value → Shared → Prop
def frs (l : List Env) : List Addr := l.filterMap (·.frame)
abbrev Cx.fs (X : Cx) : List Addr := frs X.outer
def Vis (sc : Scope) (x : Str) : Prop := sc.names.lookup x = some .local ∨ sc.names.lookup x = some .cell ∨ sc.names.lookup x = some .free
def Loc (sc : Scope) (x : Str) : Prop := sc.names.lookup x = some .local ∨ sc.names.lookup x = some .cell
def Look (env : Env) (h : Heap) (m : Str → Option Value) (x : Str) (u : Value) : Prop :=
  (env.kindOf x = some .local ∧ m x = some u) ∨ ((env.kindOf x = some .cell ∨ env.kindOf x = some .free) ∧ ∃ c, env.cells.lookup x = some c ∧ h.IsCell c (some u))
structure Cx.Ok (X : Cx) : Prop where
  mod : Mod X.K X.mg X.base
  kind : X.env.scope.kind = .function
  glob : X.env.globals = mainGlobals
  blt : X.env.builtins = builtinsNs
  above : X.s₀.heap.objs.size ≤ X.env.locals
  inj : ∀ x y c, X.env.cells.lookup x = some c → X.env.cells.lookup y = some c → x = y
  has : ∀ x, (X.env.kindOf x = some .cell ∨ X.env.kindOf x = some .free) → ∃ c, X.env.cells.lookup x = some c
  cab : ∀ x c, X.fn x = true → X.env.cells.lookup x = some c → X.s₀.heap.objs.size ≤ c
  hd : X.calm = true → X.A.handled = none
  frames : X.A.frames = some X.stack
  stk : X.stack = X.outer ∨ (X.stack = X.env :: X.outer ∧ X.env.frame = some X.env.locals)
  exf : ∀ b ∈ X.ex, b ≠ X.env.locals ∧ ∀ x c, X.env.cells.lookup x = some c → c ≠ b
  bs : ∀ b o, X.base.get? b = some o → X.s₀.heap.get? b = some o ∧ X.H₀ b = none
  bsz : X.base.objs.size ≤ X.s₀.heap.objs.size
  noex : ∀ b o, X.base.get? b = some o → b ∉ X.ex
  exfs : ∀ b ∈ X.ex, b ∉ X.fs
  funs : X.s₀.heap.FunFrames X.base X.outer
  frf : ∀ b ∈ X.fs, X.H₀ b = none
structure Inv (X : Cx) (pins : List (Addr × Obj)) (σ : List (Option V)) (H : Hp) (s : Shared) : Prop where
  ok : X.Ok
  os : s.os = X.s₀.os
  bare : AllBare s.gens
  base : Un X.fs X.ex X.H₀ H X.s₀.heap s.heap
  loc : ∃ m, s.heap.Ns X.env.locals m ∧ ∀ (i : Nat) (x : Str) (v : V), X.N[i]? = some x → σ[i]? = some (some v) → Vis X.env.scope x → ∃ u, RelV v u ∧ Look X.env s.heap m x u
  cell : ∀ x c, X.env.cells.lookup x = some c → ∃ v, s.heap.IsCell c v
  free : H X.env.locals = none
  freeC : ∀ x c, X.env.cells.lookup x = some c → H c = none
  pin : ∀ p ∈ X.pn ++ pins, s.heap.get? p.1 = some p.2 ∧ H p.1 = none ∧ p.1 ≠ X.env.locals ∧ p.1 ∉ X.fs ∧ ∀ v, p.2.data ≠ .cell v
  hok : HOk X.prog X.w H s.heap
  len : σ.length = X.N.length
section
variable {X : Cx} {pins : List (Addr × Obj)} {σ : List (Option V)} {H H' : Hp} {s : Shared} {h' : Heap}
theorem Cx.Ok.nofr (ok : X.Ok) {b : Addr} {o : Obj} (e : X.base.get? b = some o) : b ∉ X.fs := fun hb => by
  have := (ok.funs.mem hb).1
  rw [e] at this; cases this
theorem Inv.bs (I : Inv X pins σ H s) : ∀ b o, X.base.get? b = some o → s.heap.get? b = some o ∧ H b = none := fun b o e =>
  ⟨I.base.keep b o (I.ok.bs b o e).1 (I.ok.bs b o e).2 (I.ok.nofr e) (I.ok.noex b o e), I.base.free b o (I.ok.bs b o e).1 (I.ok.bs b o e).2 (I.ok.noex b o e)⟩
theorem Inv.bk (I : Inv X pins σ H s) : ∀ b o, X.base.get? b = some o → s.heap.get? b = some o := fun b o e => (I.bs b o e).1
theorem Inv.mod (I : Inv X pins σ H s) : Mod X.K X.mg X.base := I.ok.mod
theorem Inv.kIn (I : Inv X pins σ H s) : X.K.In s.heap := I.ok.mod.kin.keeps I.bk
theorem Inv.lt (I : Inv X pins σ H s) : X.env.locals < s.heap.objs.size := let ⟨_, hn, _⟩ := I.loc; hn.lt
theorem Inv.sz (I : Inv X pins σ H s) : X.s₀.heap.objs.size ≤ s.heap.objs.size := Nat.le_trans I.ok.above (Nat.le_of_lt I.lt)
theorem Inv.nofs (I : Inv X pins σ H s) {a : Addr} (h : s.heap.objs.size ≤ a) : a ∉ X.fs := fun hb => by
  obtain ⟨_, o, ho, _⟩ := I.ok.funs.mem hb
  exact absurd (Nat.lt_of_lt_of_le (Heap.lt_size ho) (Nat.le_trans I.sz h)) (Nat.lt_irrefl _)
theorem Inv.cne (I : Inv X pins σ H s) : ∀ x c, X.env.cells.lookup x = some c → c ≠ X.env.locals := fun x c e z => by
  obtain ⟨v, o, ho, hd⟩ := I.cell x c e
  obtain ⟨m, ⟨o', es, ep, ho', hd', _⟩, _⟩ := I.loc
  rw [z, ho'] at ho; cases ho; rw [hd'] at hd; cases hd
theorem Inv.funs (I : Inv X pins σ H s) : s.heap.FunFrames X.base X.outer := by
  have all : ∀ (l : List Env), (∀ b ∈ frs l, b ∈ X.fs) → X.s₀.heap.FunFrames X.base l → s.heap.FunFrames X.base l := by
    intro l
    induction l with
    | nil => intro _ _; trivial
    | cons env r ih =>
      intro hs hl
      obtain ⟨hk, ⟨L, o, hf, hn, ho, hd⟩, hr⟩ := hl
      have hL : L ∈ X.fs := hs L (by unfold frs; rw [List.filterMap_cons, hf]; exact List.mem_cons_self)
      obtain ⟨sl, e⟩ := I.base.slot L o ho (I.ok.frf L hL) hL fun z => I.ok.exfs L z hL
      exact ⟨hk, ⟨L, _, hf, hn, e, hd⟩, ih (fun b hb => hs b (by unfold frs; rw [List.filterMap_cons, hf]; exact List.mem_cons_of_mem _ hb)) hr⟩
  exact all X.outer (fun _ hb => hb) I.ok.funs
theorem Inv.stack (I : Inv X pins σ H s) : s.heap.FunFrames X.base X.stack := by
  rcases I.ok.stk with e | ⟨e, hf⟩
  · rw [e]; exact I.funs
  · rw [e]
    obtain ⟨m, hn, _⟩ := I.loc
    refine .cons (by rw [I.ok.kind]; decide) hf hn ?_ I.funs
    exact Heap.get?_none_of_le (Nat.le_trans I.ok.bsz I.ok.above)
theorem Inv.stkSub (I : Inv X pins σ H s) : ∀ b ∈ frs X.stack, b ∈ X.env.locals :: X.fs := fun b hb => by
  rcases I.ok.stk with e | ⟨e, hf⟩
  · rw [e] at hb; exact List.mem_cons_of_mem _ hb
  · rw [e] at hb
    unfold frs at hb
    rw [List.filterMap_cons, hf] at hb
    exact hb
theorem Inv.stkFree (I : Inv X pins σ H s) : ∀ b ∈ frs X.stack, H b = none := fun b hb => by
  rcases List.mem_cons.mp (I.stkSub b hb) with e | hb
  · rw [e]; exact I.free
  · obtain ⟨_, o, ho, _⟩ := I.ok.funs.mem hb
    exact I.base.free b o ho (I.ok.frf b hb) fun z => I.ok.exfs b z hb
theorem Inv.step {g' : Array GenState} {t' : Nat} {d' : Drawn} {ch : List Addr} (I : Inv X pins σ H s)
    (hch : ∀ b ∈ ch, (b ∈ X.ex ∨ X.s₀.heap.objs.size ≤ b) ∧ b ≠ X.env.locals ∧ (∀ x c, X.env.cells.lookup x = some c → c ≠ b) ∧ ∀ p ∈ X.pn ++ pins, p.1 ≠ b)
    (keep : ∀ b o, b ≠ X.env.locals → b ∉ X.fs → b ∉ ch → s.heap.get? b = some o → H b = none → h'.get? b = some o)
    (slot : ∀ b o, b ≠ X.env.locals → b ∈ X.fs → b ∉ ch → s.heap.get? b = some o → H b = none → ∃ sl, h'.get? b = some { o with slots := sl }) (free : ∀ b o, b ∉ ch → s.heap.get? b = some o → H b = none → H' b = none)
    (there : ∀ b o, b ∉ ch → s.heap.get? b = some o → ∃ o', h'.get? b = some o')
    (tups : ∀ b xs, H b = some (.tup xs) → H' b = some (.tup xs)) (frzs : ∀ b o u, H b = some (.frz o u) → H' b = some (.frz o u)) (tbls : ∀ b ps, H b = some (.tbl ps) → ∃ more, H' b = some (.tbl (ps ++ more)))
    (ns : ∀ m, s.heap.Ns X.env.locals m → h'.Ns X.env.locals m) (hok : HOk X.prog X.w H' h') (hg : AllBare g') :
    Inv X pins σ H' { s with heap := h', gens := g', drawn := d', toks := t' } := by
  have neL : ∀ b o, X.s₀.heap.get? b = some o → b ≠ X.env.locals := fun b o e => Nat.ne_of_lt (Nat.lt_of_lt_of_le (Heap.lt_size e) I.ok.above)
  have neC : ∀ b o, X.s₀.heap.get? b = some o → b ∉ X.ex → b ∉ ch := fun b o e hx hb => by
    rcases (hch b hb).1 with z | z
    · exact hx z
    · exact absurd (Nat.lt_of_lt_of_le (Heap.lt_size e) z) (Nat.lt_irrefl _)
  have cellK : ∀ x c, X.env.cells.lookup x = some c → ∀ v, s.heap.IsCell c v → h'.IsCell c v := fun x c e v ⟨o, ho, hd⟩ => by
    have nch : c ∉ ch := fun z => (hch c z).2.2.1 x c e rfl
    by_cases hc : c ∈ X.fs
    · obtain ⟨sl, q⟩ := slot c o (I.cne x c e) hc nch ho (I.freeC x c e)
      exact ⟨_, q, hd⟩
    · exact ⟨o, keep c o (I.cne x c e) hc nch ho (I.freeC x c e), hd⟩
  refine ⟨I.ok, I.os, hg, ⟨fun b o e n hb hx => ?_, fun b o e n hb hx => ?_, fun b o e n hx => ?_, fun b o e hx => ?_, fun b xs e => tups b xs (I.base.tups b xs e), fun b o xs e => frzs b o xs (I.base.frzs b o xs e), fun b ps e => ?_⟩, ?_, fun x c e => ?_, ?_, fun x c e => ?_, fun p hp => ?_, hok, I.len⟩
  · exact keep b o (neL b o e) hb (neC b o e hx) (I.base.keep b o e n hb hx) (I.base.free b o e n hx)
  · obtain ⟨sl, e1⟩ := I.base.slot b o e n hb hx
    obtain ⟨sl', e2⟩ := slot b _ (neL b o e) hb (neC b o e hx) e1 (I.base.free b o e n hx)
    exact ⟨sl', e2⟩
  · obtain ⟨o', e1⟩ := I.base.there b o e hx
    exact free b o' (neC b o e hx) e1 (I.base.free b o e n hx)
  · obtain ⟨o', e1⟩ := I.base.there b o e hx
    exact there b o' (neC b o e hx) e1
  · obtain ⟨m1, e1⟩ := I.base.tbls b ps e
    obtain ⟨m2, e2⟩ := tbls b _ e1
    exact ⟨m1 ++ m2, by rw [e2, Array.append_assoc]⟩
  · obtain ⟨m, hn, hl⟩ := I.loc
    refine ⟨m, ns m hn, fun i x v e1 e2 e3 => ?_⟩
    obtain ⟨u, r, l⟩ := hl i x v e1 e2 e3
    refine ⟨u, r, ?_⟩
    rcases l with l | ⟨k, c, e, z⟩
    · exact .inl l
    · exact .inr ⟨k, c, e, cellK x c e _ z⟩
  · obtain ⟨v, z⟩ := I.cell x c e
    exact ⟨v, cellK x c e v z⟩
  · obtain ⟨m, ⟨o, _, _, ho, _⟩, _⟩ := I.loc
    exact free _ o (fun z => (hch _ z).2.1 rfl) ho I.free
  · obtain ⟨v, o, ho, hd⟩ := I.cell x c e
    exact free c o (fun z => (hch c z).2.2.1 x c e rfl) ho (I.freeC x c e)
  · obtain ⟨e, n, ne, nf, d⟩ := I.pin p hp
    have nch : p.1 ∉ ch := fun z => (hch p.1 z).2.2.2 p hp rfl
    exact ⟨keep p.1 p.2 ne nf nch e n, free p.1 p.2 nch e n, ne, nf, d⟩
theorem Inv.un {t' : Nat} (I : Inv X pins σ H s) (u : Un X.fs [] H H' s.heap h') (hok : HOk X.prog X.w H' h') : Inv X pins σ H' { s with heap := h', toks := t' } := by
  obtain ⟨m, ⟨o, es, ep, ho, r⟩, _⟩ := id I.loc
  obtain ⟨sl, hL⟩ := u.any ho I.free (by simp)
  exact I.step (g' := s.gens) (d' := s.drawn) (ch := []) (fun _ z => nomatch z) (fun b o _ hb _ e n => u.keep b o e n hb (by simp)) (fun b o _ hb _ e n => u.slot b o e n hb (by simp)) (fun b o _ e n => u.free b o e n (by simp)) (fun b o _ e => u.there b o e (by simp)) u.tups u.frzs u.tbls (fun m' hm => by
    obtain ⟨o', es', ep', ho', r'⟩ := hm
    rw [ho] at ho'; cases ho'
    exact ⟨_, es', ep', hL, r'⟩) hok I.bare
theorem Inv.call {g' : Array GenState} {t' : Nat} {d' : Drawn} {ch : List Addr} (I : Inv X pins σ H s) (u : Un (frs X.stack) ch H H' s.heap h') (hok : HOk X.prog X.w H' h') (hg : AllBare g')
    (hch : ∀ b ∈ ch, (b ∈ X.ex ∨ X.s₀.heap.objs.size ≤ b) ∧ b ≠ X.env.locals ∧ (∀ x c, X.env.cells.lookup x = some c → c ≠ b) ∧ ∀ p ∈ X.pn ++ pins, p.1 ≠ b) :
    Inv X pins σ H' { s with heap := h', gens := g', drawn := d', toks := t' } := by
  obtain ⟨m, ⟨o, es, ep, ho, r⟩, _⟩ := id I.loc
  obtain ⟨sl, hL⟩ := u.any ho I.free fun z => (hch _ z).2.1 rfl
  exact I.step (ch := ch) hch (fun b o hL hb hc e n => u.keep b o e n (fun z => (List.mem_cons.mp (I.stkSub b z)).elim hL hb) hc) (fun b o _ _ hc e n => u.any e n hc) (fun b o hc e n => u.free b o e n hc) (fun b o hc e => u.there b o e hc) u.tups u.frzs u.tbls (fun m' hm => by
    obtain ⟨o', es', ep', ho', r'⟩ := hm
    rw [ho] at ho'; cases ho'
    exact ⟨_, es', ep', hL, r'⟩) hok hg
theorem Inv.turned {t' : Nat} {it : Addr} (I : Inv X pins σ H s) (k : ∀ b o, b ≠ it → s.heap.get? b = some o → h'.get? b = some o) (hn : H it = none) (hL : it ≠ X.env.locals)
    (h1 : it ∈ X.ex ∨ X.s₀.heap.objs.size ≤ it) (h2 : ∀ x c, X.env.cells.lookup x = some c → c ≠ it) (h3 : ∀ p ∈ X.pn ++ pins, p.1 ≠ it) : Inv X pins σ H { s with heap := h', toks := t' } := by
  have nit : ∀ b u, H b = some u → b ≠ it := fun b u e z => by rw [z, hn] at e; cases e
  refine I.step (g' := s.gens) (d' := s.drawn) (ch := [it]) (fun b hb => ?_) (fun b o _ _ hc e _ => k b o (fun z => hc (by simp [z])) e) (fun b o _ _ hc e _ => ⟨o.slots, k b o (fun z => hc (by simp [z])) e⟩) (fun _ _ _ _ n => n)
    (fun b o hc e => ⟨o, k b o (fun z => hc (by simp [z])) e⟩) (fun _ _ e => e) (fun _ _ _ e => e) (fun b ps e => ⟨#[], by rw [e]; simp⟩) (fun m hm => ?_) (fun b u e => ?_) I.bare
  · have e : b = it := by simpa using hb
    subst e
    exact ⟨h1, hL, h2, h3⟩
  · obtain ⟨o, es, ep, ho, r⟩ := hm
    exact ⟨o, es, ep, k _ o (Ne.symm hL) ho, r⟩
  · refine (I.hok b u e).stay (fun c v hc q => k c v ?_ q) (fun _ q => q) fun _ _ q => q
    rcases hc with z | z
    · rw [z]; exact nit b u e
    · exact nit c _ z
theorem Inv.tok (I : Inv X pins σ H s) (t : Nat) : Inv X pins σ H { s with toks := t } := I.un (h' := s.heap) (t' := t) Un.refl I.hok
theorem Inv.kept {t' : Nat} (I : Inv X pins σ H s) (k : ∀ b u, s.heap.get? b = some u → h'.get? b = some u) : Inv X pins σ H { s with heap := h', toks := t' } := I.un (Un.kept k) (I.hok.kept k)
theorem Inv.laid {a : Addr} {o : HO} {t' : Nat} (I : Inv X pins σ H s) (k : ∀ b u, s.heap.get? b = some u → h'.get? b = some u) (hp : s.heap.objs.size ≤ a) (new : ObjOk X.prog X.w (upd H a o) h' a o) :
    Inv X pins σ (upd H a o) { s with heap := h', toks := t' } := I.un (Un.laid k hp (I.hok.fresh hp)) (I.hok.laid k hp new)
theorem Inv.write {x e : Addr} {o : HO} {t' : Nat} (I : Inv X pins σ H s) (mu : Mut (H x)) (he : e = x ∨ H e = some (.own x)) (k : ∀ b u, b ≠ e → s.heap.get? b = some u → h'.get? b = some u) (heo : ∃ u, h'.get? e = some u)
    (new : ObjOk X.prog X.w (upd H x o) h' x o) : Inv X pins σ (upd H x o) { s with heap := h', toks := t' } := I.un (Un.write mu he k heo) (I.hok.write mu he k heo new)
theorem Inv.pins_of {pins' : List (Addr × Obj)} (I : Inv X pins σ H s) (h : ∀ p ∈ pins', s.heap.get? p.1 = some p.2 ∧ H p.1 = none ∧ p.1 ≠ X.env.locals ∧ p.1 ∉ X.fs ∧ ∀ v, p.2.data ≠ .cell v) : Inv X pins' σ H s :=
  ⟨I.ok, I.os, I.bare, I.base, I.loc, I.cell, I.free, I.freeC, fun p hp => (List.mem_append.mp hp).elim (fun z => I.pin p (List.mem_append_left _ z)) (h p), I.hok, I.len⟩
theorem nodup_ix {N : List Str} (hN : N.Nodup) {i j : Nat} {x : Str} (a : N[i]? = some x) (b : N[j]? = some x) : i = j := by
  obtain ⟨h1, e1⟩ := List.getElem?_eq_some_iff.mp a
  obtain ⟨h2, e2⟩ := List.getElem?_eq_some_iff.mp b
  exact (List.getElem_inj hN).mp (e1.trans e2.symm)
theorem store_ok2 {M : Model} {A : Around} {E : Value → Shared → Prop} {i : Nat} {x : Str} {v : V} {u : Value} {Q : Unit → Shared → Prop} (I : Inv X pins σ H s) (hN : X.N.Nodup) (hi : X.N[i]? = some x) (hx : Loc X.env.scope x) (r : RelV v u)
    (h : ∀ s', Inv X pins (σ.set i (some v)) H s' → (∃ a, Heap.SameBut a s.heap s'.heap ∧ (a = X.env.locals ∨ X.env.cells.lookup x = some a)) → Q () s') (hf : X.fn x = true ∨ X.env.scope.names.lookup x = some .local := by first | exact .inl rfl | exact .inr rfl | assumption) : wpAny M A (storeName X.env x u) Q E s := by
  obtain ⟨m, hn, hl⟩ := id I.loc
  have hcls : (X.env.scope.kind == .class || (X.env.scope.kind == .module && X.env.locals != X.env.globals)) = false := by rw [I.ok.kind]; rfl
  have hiσ : i < σ.length := by rw [I.len]; exact (List.getElem?_eq_some_iff.mp hi).1
  have cne := I.cne
  have tracked : ∀ {a : Addr} {h' : Heap}, (∃ o, s.heap.get? a = some o ∧ H a = none) → Heap.SameBut a s.heap h' → HOk X.prog X.w H h' := fun {a h'} ha hs b ob e => by
    obtain ⟨_, _, hfree⟩ := ha
    refine (I.hok b ob e).stay (fun c w' hc q => (hs.2 c ?_).trans q) (fun _ q => q) fun _ _ q => q
    rintro rfl
    rcases hc with rfl | hc
    · rw [hfree] at e; cases e
    · rw [hfree] at hc; cases hc
  rcases hx with hk | hk
  · refine wpAny_storeName_local hk hn (fun h' hn' hs => ?_) hcls
    obtain ⟨oL, _, _, hoL, _⟩ := id hn
    refine h _ ⟨I.ok, I.os, I.bare, ⟨fun b o e n hb hx => ?_, fun b o e n hb hx => ?_, I.base.free, fun b o e hx => ?_, I.base.tups, I.base.frzs, I.base.tbls⟩, ⟨_, hn', fun j y v' e1 e2 e3 => ?_⟩, fun y c e => ?_, I.free, I.freeC, fun p hp => ?_, tracked ⟨oL, hoL, I.free⟩ hs, by simpa using I.len⟩ ⟨_, hs, .inl rfl⟩
    · exact (hs.2 b (Nat.ne_of_lt (Nat.lt_of_lt_of_le (Heap.lt_size e) I.ok.above))).trans (I.base.keep b o e n hb hx)
    · obtain ⟨sl, e1⟩ := I.base.slot b o e n hb hx
      exact ⟨sl, (hs.2 b (Nat.ne_of_lt (Nat.lt_of_lt_of_le (Heap.lt_size e) I.ok.above))).trans e1⟩
    · obtain ⟨o', e1⟩ := I.base.there b o e hx
      exact ⟨o', (hs.2 b (Nat.ne_of_lt (Nat.lt_of_lt_of_le (Heap.lt_size e) I.ok.above))).trans e1⟩
    · by_cases hj : j = i
      · subst hj
        rw [hi] at e1; cases e1
        rw [List.getElem?_set_self hiσ] at e2
        cases e2
        exact ⟨u, r, .inl ⟨hk, by simp⟩⟩
      · rw [List.getElem?_set_ne (Ne.symm hj)] at e2
        obtain ⟨u', r', q⟩ := hl j y v' e1 e2 e3
        refine ⟨u', r', ?_⟩
        rcases q with ⟨k, e⟩ | ⟨k, c, e, z⟩
        · refine .inl ⟨k, ?_⟩
          have : y ≠ x := fun e => hj (nodup_ix hN e1 (e ▸ hi))
          simp [this, e]
        · exact .inr ⟨k, c, e, z.sameBut hs (cne y c e)⟩
    · obtain ⟨w', z⟩ := I.cell y c e
      exact ⟨w', z.sameBut hs (cne y c e)⟩
    · obtain ⟨e, n, ne, nf, d⟩ := I.pin p hp
      exact ⟨(hs.2 p.1 ne).trans e, n, ne, nf, d⟩
  · have hfn : X.fn x = true := by
      rcases hf with z | z
      · exact z
      · rw [z] at hk; cases hk
    obtain ⟨c, hc⟩ := I.ok.has x (.inl hk)
    obtain ⟨w', z⟩ := I.cell x c hc
    refine wpAny_storeName_cell I.ok.kind hk hc z (fun h' hc' hs => ?_)
    obtain ⟨oc, hoc, hocd⟩ := id z
    refine h { s with heap := h' } ⟨I.ok, I.os, I.bare, ⟨fun b o e n hb hx => ?_, fun b o e n hb hx => ?_, I.base.free, fun b o e hx => ?_, I.base.tups, I.base.frzs, I.base.tbls⟩, ⟨m, hn.sameBut hs (Ne.symm (cne x c hc)), fun j y v' e1 e2 e3 => ?_⟩, fun y c' e => ?_, I.free, I.freeC, fun p hp => ?_, tracked ⟨oc, hoc, I.freeC x c hc⟩ hs, by simpa using I.len⟩ ⟨c, hs, .inr hc⟩
    · exact (hs.2 b (Nat.ne_of_lt (Nat.lt_of_lt_of_le (Heap.lt_size e) (I.ok.cab x c hfn hc)))).trans (I.base.keep b o e n hb hx)
    · obtain ⟨sl, e1⟩ := I.base.slot b o e n hb hx
      exact ⟨sl, (hs.2 b (Nat.ne_of_lt (Nat.lt_of_lt_of_le (Heap.lt_size e) (I.ok.cab x c hfn hc)))).trans e1⟩
    · obtain ⟨o', e1⟩ := I.base.there b o e hx
      exact ⟨o', (hs.2 b (Nat.ne_of_lt (Nat.lt_of_lt_of_le (Heap.lt_size e) (I.ok.cab x c hfn hc)))).trans e1⟩
    · by_cases hj : j = i
      · subst hj
        rw [hi] at e1; cases e1
        rw [List.getElem?_set_self hiσ] at e2
        cases e2
        exact ⟨u, r, .inr ⟨.inl hk, c, hc, hc'⟩⟩
      · rw [List.getElem?_set_ne (Ne.symm hj)] at e2
        obtain ⟨u', r', q⟩ := hl j y v' e1 e2 e3
        refine ⟨u', r', ?_⟩
        rcases q with q | ⟨k, c', e, z'⟩
        · exact .inl q
        · refine .inr ⟨k, c', e, z'.sameBut hs ?_⟩
          rintro rfl
          exact hj (nodup_ix hN e1 (I.ok.inj _ _ _ e hc ▸ hi))
    · by_cases hcc : c' = c
      · subst hcc; exact ⟨_, hc'⟩
      · obtain ⟨w2, z2⟩ := I.cell y c' e
        exact ⟨w2, z2.sameBut hs hcc⟩
    · obtain ⟨e, n, ne, nf, d⟩ := I.pin p hp
      refine ⟨(hs.2 p.1 ?_).trans e, n, ne, nf, d⟩
      intro q
      rw [q, hoc] at e
      have q' : oc = p.2 := Option.some.inj e
      exact d w' (by rw [← q']; exact hocd)
theorem store_ok {M : Model} {A : Around} {E : Value → Shared → Prop} {i : Nat} {x : Str} {v : V} {u : Value} {Q : Unit → Shared → Prop} (I : Inv X pins σ H s) (hN : X.N.Nodup) (hi : X.N[i]? = some x) (hx : Loc X.env.scope x) (r : RelV v u)
    (h : ∀ s', Inv X pins (σ.set i (some v)) H s' → Q () s') (hf : X.fn x = true ∨ X.env.scope.names.lookup x = some .local := by first | exact .inl rfl | exact .inr rfl | assumption) : wpAny M A (storeName X.env x u) Q E s :=
  store_ok2 I hN hi hx r (fun s' I' _ => h s' I') hf
theorem Inv.call' {s' : Shared} {ch : List Addr} (I : Inv X pins σ H s) (ho : s'.os = s.os) (u : Un (frs X.stack) ch H H' s.heap s'.heap) (hok : HOk X.prog X.w H' s'.heap) (hg : AllBare s'.gens)
    (hch : ∀ b ∈ ch, (b ∈ X.ex ∨ X.s₀.heap.objs.size ≤ b) ∧ b ≠ X.env.locals ∧ (∀ x c, X.env.cells.lookup x = some c → c ≠ b) ∧ ∀ p ∈ X.pn ++ pins, p.1 ≠ b) : Inv X pins σ H' s' := by
  obtain ⟨h', g', d', t', o'⟩ := s'
  have e : o' = s.os := ho
  subst e
  exact I.call (g' := g') (t' := t') (d' := d') u hok hg hch
end
abbrev XK := Value → Option Addr → Hp → Prop
abbrev St := List (Option V)
abbrev VK := V → Hp → Prop
abbrev TE := St → Hp → VK → Prop
abbrev TT := St → Hp → (Bool → Hp → Prop) → Prop
abbrev TA := St → Hp → (List V → Hp → Prop) → Prop
structure Ends where
  nx : St → Hp → Prop
  rt : VK
  bk : St → Hp → Prop := fun _ _ => False
  ct : St → Hp → Prop := fun _ _ => False
abbrev TS := Ends → St → Hp → Prop
def EP (X : Cx) (pins : List (Addr × Obj)) (σ : St) (Q : VK) (u : Value) (s' : Shared) : Prop := ∃ v H', Inv X pins σ H' s' ∧ RelV v u ∧ Q v H'
def TP (X : Cx) (pins : List (Addr × Obj)) (σ : St) (Q : Bool → Hp → Prop) (b : Bool) (s' : Shared) : Prop := ∃ H', Inv X pins σ H' s' ∧ Q b H'
def AP (X : Cx) (pins : List (Addr × Obj)) (σ : St) (Q : List V → Hp → Prop) (us : List Value) (s' : Shared) : Prop := ∃ vs H', Inv X pins σ H' s' ∧ Vals vs us ∧ Q vs H'
def SP (X : Cx) (pins : List (Addr × Obj)) (D : Ends) (f : Flow) (s' : Shared) : Prop :=
  match f with
  | .next => ∃ σ' H', Inv X pins σ' H' s' ∧ D.nx σ' H'
  | .brk => ∃ σ' H', Inv X pins σ' H' s' ∧ D.bk σ' H'
  | .cont => ∃ σ' H', Inv X pins σ' H' s' ∧ D.ct σ' H'
  | .ret u => ∃ v σ' H', Inv X pins σ' H' s' ∧ RelV v u ∧ D.rt v H'
def PE (X : Cx) (e : Expr) (t : TE) : Prop :=
  ∀ (pins : List (Addr × Obj)) (s : Shared) (σ : St) (H : Hp) (Q : VK), Inv X pins σ H s → t σ H Q → wpAny (model X.prog X.w) X.A (eval e X.env) (EP X pins σ Q) X.xe s
def PT (X : Cx) (e : Expr) (t : TT) : Prop :=
  ∀ (pins : List (Addr × Obj)) (s : Shared) (σ : St) (H : Hp) (Q : Bool → Hp → Prop), Inv X pins σ H s → t σ H Q → wpAny (model X.prog X.w) X.A (isTrue e X.env (eval e X.env)) (TP X pins σ Q) X.xe s
def PW (X : Cx) (e : Expr) (t : TT) : Prop :=
  ∀ (whole : Sem Value) (pins : List (Addr × Obj)) (s : Shared) (σ : St) (H : Hp) (Q : Bool → Hp → Prop), Inv X pins σ H s → t σ H Q → wpAny (model X.prog X.w) X.A (isTrue e X.env whole) (TP X pins σ Q) X.xe s
theorem PW.pt {X : Cx} {e : Expr} {t : TT} (h : PW X e t) : PT X e t := h _
def PA (X : Cx) (es : List Expr) (t : TA) : Prop :=
  ∀ (pos : Pos) (pins : List (Addr × Obj)) (s : Shared) (σ : St) (H : Hp) (Q : List V → Hp → Prop), Inv X pins σ H s → t σ H Q → wpAny (model X.prog X.w) X.A (spliced (backTo pos (starEach es X.env))) (AP X pins σ Q) X.xe s
def PS (X : Cx) (st : Stmt) (t : TS) : Prop :=
  ∀ (pins : List (Addr × Obj)) (s : Shared) (σ : St) (H : Hp) (D : Ends), Inv X pins σ H s → t D σ H → wpAny (model X.prog X.w) X.A (exec st X.env) (SP X pins D) X.xe s
def PSs (X : Cx) (st : List Stmt) (t : TS) : Prop :=
  ∀ (pins : List (Addr × Obj)) (s : Shared) (σ : St) (H : Hp) (D : Ends), Inv X pins σ H s → t D σ H → wpAny (model X.prog X.w) X.A (execs st X.env) (SP X pins D) X.xe s
theorem thn {α : Type} {t : Sem α} {Q Q' : α → Shared → Prop} {M : Model} {A : Around} {E : Value → Shared → Prop} {s : Shared} (h : wpAny M A t Q E s) (hQ : ∀ a s, Q a s → Q' a s) : wpAny M A t Q' E s := wpAny_mono h hQ fun _ _ x => x
end L2
namespace L2
open PySem PySem.Spec PyProof.Rows
section
variable {X : Cx}
def tVar (i : Nat) : TE := fun σ H Q => ∃ v, σ[i]? = some (some v) ∧ Q v H
def tC (v : V) : TE := fun _ H Q => Q v H
theorem pe_var {i : Nat} {x : Str} {pos : Pos} (hN : X.N[i]? = some x) (hv : Vis X.env.scope x) (hd : (x == ("__debug__" : Str)) = false := by decide) (hcd : (x == ("__classdict__" : Str)) = false := by decide) : PE X (.Name x pos) (tVar i) := by
  intro pins s σ H Q I h
  obtain ⟨v, e, h⟩ := h
  obtain ⟨m, hn, hl⟩ := I.loc
  obtain ⟨u, r, l⟩ := hl i x v hN e hv
  have fin : EP X pins σ Q u s := ⟨v, H, I, r, h⟩
  rcases l with ⟨hk, hm⟩ | ⟨hk, c, hc, hcell⟩
  · exact wpAny_Name (wpAny_loadName_local I.ok.kind hk hn hm fin) hd
  · rcases hk with hk | hk
    · exact wpAny_Name (wpAny_loadName_cell I.ok.kind hk hc hcell fin) hd
    · exact wpAny_Name (wpAny_loadName_free I.ok.kind hk hc hcell fin hcd) hd
theorem pe_int {i j pos} : PE X (.Constant (.int i) j pos) (tC (.int i)) := fun _ _ _ H _ I h => wpAny_Constant_int ⟨.int i, H, I.tok _, ⟨_, rfl⟩, h⟩
theorem pe_bl {b j pos} : PE X (.Constant (.bool b) j pos) (tC (.bl b)) := fun _ _ _ H _ I h => Constant_bool ⟨.bl b, H, I, rfl, h⟩
theorem pe_non {j pos} : PE X (.Constant .none j pos) (tC .non) := fun _ _ _ H _ I h => Constant_none ⟨.non, H, I, rfl, h⟩
theorem pe_str {x j pos} : PE X (.Constant (.str x) j pos) (tC (.str x)) := fun _ _ _ H _ I h => Calls.Constant_str ⟨.str x, H, I.tok _, ⟨_, rfl⟩, h⟩
def Gl (X : Cx) (x : Str) : Prop := X.env.kindOf x = some .globalImplicit
theorem ld_glob {E : Value → Shared → Prop} {pins : List (Addr × Obj)} {s : Shared} {σ : St} {H : Hp} {x : Str} {u : Value} {pos : Pos} {Q : Value → Shared → Prop} (I : Inv X pins σ H s) (hg : Gl X x) (hm : X.mg x = some u) (h : Q u s)
    (hd : (x == ("__debug__" : Str)) = false := by decide) : wpAny (model X.prog X.w) X.A (eval (.Name x pos) X.env) Q E s :=
  Calls.Name_function_global I.ok.kind hg (Calls.loadGlobal_global (by rw [I.ok.glob]; exact I.mod.glob.keeps I.bk) hm h) hd
theorem ld_blt {E : Value → Shared → Prop} {pins : List (Addr × Obj)} {s : Shared} {σ : St} {H : Hp} {x : Str} {u : Value} {pos : Pos} {Q : Value → Shared → Prop} (I : Inv X pins σ H s) (hg : Gl X x) (hm : X.mg x = none) (hv : bootBuiltins x = some u) (h : Q u s)
    (hn : x ≠ "__name__" := by decide) (hd : (x == ("__debug__" : Str)) = false := by decide) : wpAny (model X.prog X.w) X.A (eval (.Name x pos) X.env) Q E s := by
  obtain ⟨mb, h1, h2⟩ := I.mod.blt
  exact Calls.Name_function_global I.ok.kind hg (Calls.loadGlobal_builtin (by rw [I.ok.glob]; exact I.mod.glob.keeps I.bk) hm (by rw [I.ok.blt]; exact h1.keeps I.bk) ((h2 x hn).trans hv) h) hd
theorem pe_glob {x : Str} {v : V} {u : Value} {pos : Pos} (hg : Gl X x) (hm : X.mg x = some u) (r : RelV v u) (hd : (x == ("__debug__" : Str)) = false := by decide) : PE X (.Name x pos) (tC v) :=
  fun _ _ _ H _ I h => ld_glob I hg hm ⟨v, H, I, r, h⟩ hd
theorem pe_bltn {x : Str} {v : V} {u : Value} {pos : Pos} (hg : Gl X x) (hm : X.mg x = none) (hv : bootBuiltins x = some u) (r : RelV v u) (hn : x ≠ "__name__" := by decide) (hd : (x == ("__debug__" : Str)) = false := by decide) : PE X (.Name x pos) (tC v) :=
  fun _ _ _ H _ I h => ld_blt I hg hm hv ⟨v, H, I, r, h⟩ hn hd
variable {a b : Expr} {ta tb : TE} {pos : Pos}
def PC (X : Cx) (op : CmpOp) (a b : Expr) (t : TE) : Prop :=
  ∀ (pins : List (Addr × Obj)) (s : Shared) (σ : St) (H : Hp) (Q : VK), Inv X pins σ H s → t σ H Q →
    wpAny (model X.prog X.w) X.A (eval a X.env) (fun v s₁ => wpAny (model X.prog X.w) X.A (eval b X.env) (fun u s₂ => wpAny (model X.prog X.w) X.A (compareOp op v u) (EP X pins σ Q) X.xe s₂) X.xe s₁) X.xe s
theorem nobehind (b : Expr) {op : CmpOp} (h : op ≠ .In) (h2 : op ≠ .NotIn) : behindInMarks op b = false := by
  have e1 : (op == CmpOp.In) = false := by cases op <;> first | rfl | exact absurd rfl h
  have e2 : (op == CmpOp.NotIn) = false := by cases op <;> first | rfl | exact absurd rfl h2
  cases b <;> simp [behindInMarks, e1, e2]
def tIsN (ta : TE) : TE := fun σ H Q => ta σ H fun x H1 => Q (.bl (decide (x = .non))) H1
def tNotN (ta : TE) : TE := fun σ H Q => ta σ H fun x H1 => Q (.bl (!decide (x = .non))) H1
theorem RelV.none_iff {x : V} {v : Value} (r : RelV x v) : (v == Value.none) = decide (x = .non) := by
  cases x with
  | non => cases r; rfl
  | bl _ => cases r; rfl
  | int _ => obtain ⟨t, rfl⟩ := r; rfl
  | str _ => obtain ⟨t, rfl⟩ := r; rfl
  | byt _ => obtain ⟨t, rfl⟩ := r; rfl
  | flt _ => obtain ⟨t, rfl⟩ := r; rfl
  | ref _ => cases r; rfl
  | ty _ => cases r; rfl
theorem pc_notN {j pos'} (ha : PE X a ta) : PC X .IsNot a (.Constant .none j pos') (tNotN ta) := by
  intro pins s σ H Q I h
  refine thn (ha pins s σ H _ I h) fun v s1 ⟨x, H1, I1, r1, q1⟩ => ?_
  exact Constant_none (isnot_none_gen ⟨.bl _, H1, I1, by rw [r1.none_iff]; rfl, q1⟩)
def tB (t : TE) : TT := fun σ H Q => t σ H fun x H1 => ∃ c, x = .bl c ∧ Q c H1
theorem pe_cmp {op : CmpOp} {t : TE} (h : PC X op a b t) (h1 : behindInMarks op b = false := by first | exact nobehind _ (by decide) (by decide) | rfl) : PE X (.Compare a [op] [b] pos) t := fun pins s σ H Q I hw => wpAny_Compare1 (h pins s σ H Q I hw) h1
theorem pt_val {e : Expr} {t : TE} (h : PE X e t) (he : ∀ whole, isTrue e X.env whole = (do let v ← whole; standAt e.pos; holding [v] (truthy v)) := by intro _; rfl) : PT X e (tB t) := by
  intro pins s σ H Q I hw
  refine isTrue_plain (thn (h pins s σ H _ I hw) fun v s1 ⟨x, H1, I1, r1, q1⟩ => ?_) (he _)
  obtain ⟨d, rfl, q⟩ := q1
  cases r1
  exact wpAny_truthy_bool ⟨H1, I1, q⟩
variable {tA tB' : TT} {rest : List Expr}
def tAnd (t u : TT) : TT := fun σ H Q => t σ H fun c H1 => if c = true then u σ H1 Q else Q false H1
def tOr (t u : TT) : TT := fun σ H Q => t σ H fun c H1 => if c = true then Q true H1 else u σ H1 Q
def tNot (t : TT) : TT := fun σ H Q => t σ H fun c H1 => Q (!c) H1
theorem pw_and1 (ha : PT X a tA) : PW X (.BoolOp .And [a] pos) tA := by
  intro wh pins s σ H Q I h
  refine isTrue_and (thn (ha pins s σ H Q I h) fun c s1 e => ?_)
  cases c with
  | true => exact isTrue_and_nil e
  | false => exact e
theorem pw_or1 (ha : PT X a tA) : PW X (.BoolOp .Or [a] pos) tA := by
  intro wh pins s σ H Q I h
  refine isTrue_or (thn (ha pins s σ H Q I h) fun c s1 e => ?_)
  cases c with
  | false => exact isTrue_or_nil e
  | true => exact e
theorem pw_and (ha : PT X a tA) (hb : PW X (.BoolOp .And (b :: rest) pos) tB') : PW X (.BoolOp .And (a :: b :: rest) pos) (tAnd tA tB') := by
  intro wh pins s σ H Q I h
  refine isTrue_and (thn (ha pins s σ H _ I h) fun c s1 ⟨H1, I1, q1⟩ => ?_)
  cases c with
  | true => exact hb wh pins s1 σ H1 Q I1 q1
  | false => exact ⟨H1, I1, q1⟩
theorem pw_or (ha : PT X a tA) (hb : PW X (.BoolOp .Or (b :: rest) pos) tB') : PW X (.BoolOp .Or (a :: b :: rest) pos) (tOr tA tB') := by
  intro wh pins s σ H Q I h
  refine isTrue_or (thn (ha pins s σ H _ I h) fun c s1 ⟨H1, I1, q1⟩ => ?_)
  cases c with
  | true => exact ⟨H1, I1, q1⟩
  | false => exact hb wh pins s1 σ H1 Q I1 q1
theorem pt_not (ha : PT X a tA) : PT X (.UnaryOp .Not a pos) (tNot tA) := by
  intro pins s σ H Q I h
  exact isTrue_not (ha pins s σ H (fun c H1 => Q (!c) H1) I h)
def tAndV (ta tb : TE) : TE := fun σ H Q => ta σ H fun x H1 => ∃ c, x = .bl c ∧ if c = true then tb σ H1 Q else Q (.bl false) H1
def tOrV (ta tb : TE) : TE := fun σ H Q => ta σ H fun x H1 => ∃ c, x = .bl c ∧ if c = true then Q (.bl true) H1 else tb σ H1 Q
def tNotV (ta : TE) : TE := fun σ H Q => ta σ H fun x H1 => ∃ c, x = .bl c ∧ Q (.bl (!c)) H1
theorem pe_one {op} {t : TE} (h : PE X a t) : PE X (.BoolOp op [a] pos) t := fun pins s σ H Q I hw => BoolOp_one (h pins s σ H Q I hw)
theorem pe_and (ha : PE X a ta) (hb : PE X (.BoolOp .And (b :: rest) pos) tb) : PE X (.BoolOp .And (a :: b :: rest) pos) (tAndV ta tb) := by
  intro pins s σ H Q I h
  refine BoolOp_and (thn (ha pins s σ H _ I h) fun v s1 ⟨x, H1, I1, r1, q1⟩ => ?_)
  obtain ⟨c, rfl, q1⟩ := q1
  cases r1
  refine wpAny_truthy_bool ?_
  cases c with
  | true => exact hb pins s1 σ H1 Q I1 q1
  | false => exact ⟨.bl false, H1, I1, rfl, q1⟩
theorem pe_not (ha : PE X a ta) : PE X (.UnaryOp .Not a pos) (tNotV ta) := by
  intro pins s σ H Q I h
  refine UnaryOp_ (thn (ha pins s σ H _ I h) fun v s1 ⟨x, H1, I1, r1, q1⟩ => ?_)
  obtain ⟨c, rfl, q1⟩ := q1
  cases r1
  exact not_of (wpAny_truthy_bool ⟨.bl (!c), H1, I1, rfl, q1⟩)
def tIf (t : TT) (ta tb : TE) : TE := fun σ H Q => t σ H fun c H1 => if c = true then ta σ H1 Q else tb σ H1 Q
theorem pe_ifExp {c : Expr} (hc : PT X c tA) (ha : PE X a ta) (hb : PE X b tb) : PE X (.IfExp c a b pos) (tIf tA ta tb) := by
  intro pins s σ H Q I h
  refine wpAny_IfExp (thn (hc pins s σ H _ I h) fun d s1 ⟨H1, I1, q1⟩ => ?_)
  cases d with
  | true => exact ha pins s1 σ H1 Q I1 q1
  | false => exact hb pins s1 σ H1 Q I1 q1
end
end L2
namespace L2
open PySem PySem.Spec PyProof.Rows
def SqL (K : PySem.W.Frag) (H : Hp) (a : Addr) (xs : List V) : Prop :=
  Rd H a (.lst xs) ∨
    ∃ (o : Obj) (its : Array Value) (n : Nat), K.lookup a = some o ∧ o.cls = .type "list" ∧ o.dict = none ∧ o.data = .seq its n ∧ its.size ≤ sizeLine ∧ Vals xs its.toList
def SqT (K : PySem.W.Frag) (H : Hp) (a : Addr) (xs : List V) : Prop :=
  Rd H a (.tup xs) ∨
    ∃ (o : Obj) (its : Array Value) (n : Nat), K.lookup a = some o ∧ o.cls = .type "tuple" ∧ o.data = .seq its n ∧ its.size ≤ sizeLine ∧ Vals xs its.toList
def absV : Value → Option V
  | .none => some .non
  | .bool b => some (.bl b)
  | .int i _ => some (.int i)
  | .str x _ => some (.str x)
  | .bytes b _ => some (.byt b)
  | .float b _ => some (.flt b)
  | .ref a => some (.ref a)
  | .type n => some (.ty n)
  | _ => none
theorem RelV.abs {x : V} {u : Value} (r : RelV x u) : absV u = some x := by
  cases x with
  | non => cases r; rfl
  | bl _ => cases r; rfl
  | int _ => obtain ⟨t, rfl⟩ := r; rfl
  | str _ => obtain ⟨t, rfl⟩ := r; rfl
  | byt _ => obtain ⟨t, rfl⟩ := r; rfl
  | flt _ => obtain ⟨t, rfl⟩ := r; rfl
  | ref _ => cases r; rfl
  | ty _ => cases r; rfl
theorem RelV.inj {x y : V} {u : Value} (r : RelV x u) (q : RelV y u) : x = y := Option.some.inj (r.abs.symm.trans q.abs)
theorem Vals.inj : ∀ {xs ys : List V} {us : List Value}, Vals xs us → Vals ys us → xs = ys
  | _, _, _, .nil, .nil => rfl
  | _, _, _, .cons r t, .cons r' t' => by rw [r.inj r', Vals.inj t t']
section
variable {X : Cx} {pins : List (Addr × Obj)} {σ : St} {H : Hp} {s : Shared} {a : Addr} {xs ys : List V}
theorem SqL.of {K : PySem.W.Frag} (h : H a = some (.lst xs)) : SqL K H a xs := .inl (.inl h)
theorem SqT.of {K : PySem.W.Frag} (h : H a = some (.tup xs)) : SqT K H a xs := .inl (.inl h)
theorem Inv.list (I : Inv X pins σ H s) (h : SqL X.K H a xs) : ∃ its : List Value, Vals xs its ∧ PlainL s.heap a its.toArray ∧ xs.length ≤ sizeLine := by
  rcases h with h | ⟨o, its, n, hk, hc, hd, hs, hz, r⟩
  · obtain ⟨z, its, n, r, e⟩ := h.ok I.hok
    exact ⟨its, r, ⟨_, n, e, rfl, rfl, rfl⟩, z⟩
  · refine ⟨its.toList, r, ⟨o, n, I.kIn a o hk, hc, hd, by simpa using hs⟩, ?_⟩
    have e := r.length
    simp only [Array.length_toList] at e
    omega
theorem Inv.tuple (I : Inv X pins σ H s) (h : SqT X.K H a xs) : ∃ its : List Value, Vals xs its ∧ IsTup s.heap a its.toArray ∧ xs.length ≤ sizeLine := by
  rcases h with h | ⟨o, its, n, hk, hc, hs, hz, r⟩
  · obtain ⟨z, its, r, p⟩ := h.ok I.hok
    exact ⟨its, r, p, z⟩
  · refine ⟨its.toList, r, ⟨o, I.kIn a o hk, hc, n, by simpa using hs⟩, ?_⟩
    have e := r.length
    simp only [Array.length_toList] at e
    omega
theorem Inv.list_inj (I : Inv X pins σ H s) (h : SqL X.K H a xs) (h' : SqL X.K H a ys) : xs = ys := by
  obtain ⟨its, r, ⟨o, n, e, _, _, d⟩, _⟩ := I.list h
  obtain ⟨its', r', ⟨o', n', e', _, _, d'⟩, _⟩ := I.list h'
  rw [e] at e'; cases e'
  rw [d] at d'
  injection d' with d1 _
  have : its = its' := by simpa using congrArg Array.toList d1
  subst this
  exact r.inj r'
theorem Inv.tuple_inj (I : Inv X pins σ H s) (h : SqT X.K H a xs) (h' : SqT X.K H a ys) : xs = ys := by
  obtain ⟨its, r, ⟨o, e, _, n, d⟩, _⟩ := I.tuple h
  obtain ⟨its', r', ⟨o', e', _, n', d'⟩, _⟩ := I.tuple h'
  rw [e] at e'; cases e'
  rw [d] at d'
  injection d' with d1 _
  have : its = its' := by simpa using congrArg Array.toList d1
  subst this
  exact r.inj r'
end
abbrev Cx.wish (X : Cx) (E : Value → Shared → Prop) : Cx := { X with xe := E }
abbrev Cx.nox (X : Cx) : Cx := X.wish fun _ _ => False
theorem Cx.Ok.wish {X : Cx} (ok : X.Ok) (E : Value → Shared → Prop) : (X.wish E).Ok :=
  ⟨ok.mod, ok.kind, ok.glob, ok.blt, ok.above, ok.inj, ok.has, ok.cab, ok.hd, ok.frames, ok.stk, ok.exf, ok.bs, ok.bsz, ok.noex, ok.exfs, ok.funs, ok.frf⟩
theorem Cx.Ok.unwish {X : Cx} {E : Value → Shared → Prop} (ok : (X.wish E).Ok) : X.Ok :=
  ⟨ok.mod, ok.kind, ok.glob, ok.blt, ok.above, ok.inj, ok.has, ok.cab, ok.hd, ok.frames, ok.stk, ok.exf, ok.bs, ok.bsz, ok.noex, ok.exfs, ok.funs, ok.frf⟩
section
variable {X : Cx} {pins : List (Addr × Obj)} {σ : St} {H : Hp} {s : Shared} {E : Value → Shared → Prop}
theorem Inv.wish (I : Inv X pins σ H s) (E : Value → Shared → Prop) : Inv (X.wish E) pins σ H s := ⟨I.ok.wish E, I.os, I.bare, I.base, I.loc, I.cell, I.free, I.freeC, I.pin, I.hok, I.len⟩
theorem Inv.unwish (I : Inv (X.wish E) pins σ H s) : Inv X pins σ H s := ⟨I.ok.unwish, I.os, I.bare, I.base, I.loc, I.cell, I.free, I.freeC, I.pin, I.hok, I.len⟩
theorem SP.unwish {D : Ends} {f : Flow} {s' : Shared} (h : SP (X.wish E) pins D f s') : SP X pins D f s' := by
  cases f with
  | next => obtain ⟨σ', H', I, q⟩ := h; exact ⟨σ', H', I.unwish, q⟩
  | brk => obtain ⟨σ', H', I, q⟩ := h; exact ⟨σ', H', I.unwish, q⟩
  | cont => obtain ⟨σ', H', I, q⟩ := h; exact ⟨σ', H', I.unwish, q⟩
  | ret u => obtain ⟨v, σ', H', I, r, q⟩ := h; exact ⟨v, σ', H', I.unwish, r, q⟩
theorem PSs.nox {st : List Stmt} {t : TS} (h : PSs X.nox st t) : PSs X st t := fun pins s σ H D I hw =>
  wpAny_mono (h pins s σ H D (I.wish _) hw) (fun _ _ q => q.unwish) fun _ _ z => False.elim z
end
section
variable {X : Cx} {st : Stmt} {rest : List Stmt} {t u : TS} {e : Expr} {te : TE} {pos : Pos}
def tNext : TS := fun D σ H => D.nx σ H
def tSeq (t u : TS) : TS := fun D σ H => t { D with nx := u D } σ H
theorem pss_nil : PSs X [] tNext := fun _ _ σ H _ I h => wpAny_execs_nil ⟨σ, H, I, h⟩
theorem pss_cons (h1 : PS X st t) (h2 : PSs X rest u) : PSs X (st :: rest) (tSeq t u) := by
  intro pins s σ H D I h
  refine wpAny_execs_cons (thn (h1 pins s σ H { D with nx := u D } I h) fun f s1 q => ?_)
  cases f with
  | next =>
    obtain ⟨σ', H', I', q⟩ := q
    exact h2 pins s1 σ' H' D I' q
  | ret v => exact q
  | brk => exact q
  | cont => exact q
theorem pss_one (h1 : PS X st t) : PSs X [st] t := by
  intro pins s σ H D I h
  refine wpAny_execs_cons (thn (h1 pins s σ H D I h) fun f s1 q => ?_)
  cases f with
  | next => exact wpAny_execs_nil q
  | ret v => exact q
  | brk => exact q
  | cont => exact q
def tBreak : TS := fun D σ H => D.bk σ H
def tCont : TS := fun D σ H => D.ct σ H
theorem Inv.quiet {pins : List (Addr × Obj)} {σ : St} {H : Hp} {s : Shared} (I : Inv X pins σ H s) : interactive X.env = false := by simp [interactive, I.ok.kind]
def tDrop (te : TE) : TS := fun D σ H => te σ H fun _ H1 => D.nx σ H1
theorem ps_expr (he : PE X e te) (hs : swapsWith e none pos.line X.env = pure false := by rfl) : PS X (.Expr e pos) (tDrop te) := by
  intro pins s σ H D I h
  exact wpAny_Expr_any (thn (he pins s σ H _ I h) fun v s1 ⟨x, H1, I1, r1, q1⟩ => ⟨σ, H1, I1, q1⟩) I.quiet hs
def tRet (te : TE) : TS := fun D σ H => te σ H D.rt
theorem ps_ret (he : PE X e te) : PS X (.Return (some e) pos) (tRet te) := by
  intro pins s σ H D I h
  exact wpAny_Return_some (thn (he pins s σ H _ I h) fun v s1 ⟨x, H1, I1, r1, q1⟩ => ⟨x, σ, H1, I1, r1, q1⟩)
def tRetN : TS := fun D _ H => D.rt .non H
def tIfS (c : TT) (t u : TS) : TS := fun D σ H => c σ H fun b H1 => if b = true then t D σ H1 else u D σ H1
theorem ps_if {c : Expr} {a b : List Stmt} {tc : TT} (hc : PT X c tc) (ha : PSs X a t) (hb : PSs X b u) : PS X (.If c a b pos) (tIfS tc t u) := by
  intro pins s σ H D I h
  refine wpAny_If (thn (hc pins s σ H _ I h) fun d s1 ⟨H1, I1, q1⟩ => ?_)
  cases d with
  | true => exact ha pins s1 σ H1 D I1 q1
  | false => exact hb pins s1 σ H1 D I1 q1
end
abbrev TG := V → St → Hp → (St → Hp → Prop) → Prop
abbrev TGs := List V → St → Hp → (St → Hp → Prop) → Prop
def PG (X : Cx) (target : Expr) (t : TG) : Prop :=
  ∀ (pins : List (Addr × Obj)) (s : Shared) (σ : St) (H : Hp) (v : V) (u : Value) (Q : St → Hp → Prop), Inv X pins σ H s → RelV v u → t v σ H Q →
    wpAny (model X.prog X.w) X.A (assign target X.env u) (fun _ s' => ∃ σ' H', Inv X pins σ' H' s' ∧ Q σ' H') X.xe s
def PGs (X : Cx) (ts : List Expr) (t : TGs) : Prop :=
  ∀ (pins : List (Addr × Obj)) (s : Shared) (σ : St) (H : Hp) (vs : List V) (us : List Value) (Q : St → Hp → Prop), Inv X pins σ H s → Vals vs us → t vs σ H Q →
    wpAny (model X.prog X.w) X.A (assignInOrder ((assignEach ts X.env).map (·.2)) us) (fun _ s' => ∃ σ' H', Inv X pins σ' H' s' ∧ Q σ' H') X.xe s
abbrev TSet := V → V → V → Hp → (Hp → Prop) → Prop
def PSet (X : Cx) (t : TSet) : Prop :=
  ∀ (pins : List (Addr × Obj)) (s : Shared) (σ : St) (H : Hp) (o i v : V) (ov iv u : Value) (Q : Hp → Prop), Inv X pins σ H s → RelV o ov → RelV i iv → RelV v u → t o i v H Q →
    wpAny (model X.prog X.w) X.A (setItem ov iv u) (fun _ s' => ∃ H', Inv X pins σ H' s' ∧ Q H') X.xe s
abbrev TIp := V → V → Hp → VK → Prop
def PIp (X : Cx) (op : Operator) (t : TIp) : Prop :=
  ∀ (pins : List (Addr × Obj)) (s : Shared) (σ : St) (H : Hp) (x y : V) (v u : Value) (Q : VK), Inv X pins σ H s → RelV x v → RelV y u → t x y H Q →
    wpAny (model X.prog X.w) X.A (inplaceOp op v u) (EP X pins σ Q) X.xe s
section
variable {X : Cx} {pos : Pos}
def gName (i : Nat) : TG := fun v σ H Q => Q (σ.set i (some v)) H
theorem pg_name {i : Nat} {x : Str} (hN : X.N.Nodup) (hi : X.N[i]? = some x) (hx : Loc X.env.scope x) (hf : X.fn x = true ∨ X.env.scope.names.lookup x = some .local := by first | exact .inl rfl | exact .inr rfl | assumption) : PG X (.Name x pos) (gName i) := by
  intro pins s σ H v u Q I r h
  exact wpAny_assign_Name (store_ok I hN hi hx r (fun s' I' => ⟨_, H, I', h⟩) hf)
def gNil : TGs := fun vs σ H Q => vs = [] ∧ Q σ H
def gCons (t : TG) (u : TGs) : TGs := fun vs σ H Q => ∃ v r, vs = v :: r ∧ t v σ H fun σ' H' => u r σ' H' Q
theorem pgs_nil : PGs X [] gNil := by
  intro pins s σ H vs us Q I r h
  obtain ⟨e, h⟩ := h
  subst e
  cases r
  exact assignInOrder_nil ⟨σ, H, I, h⟩
theorem pgs_cons {e : Expr} {es : List Expr} {t : TG} {u : TGs} (h1 : PG X e t) (h2 : PGs X es u)
    (hs : (assignEach (e :: es) X.env).map (·.2) = assign e X.env :: (assignEach es X.env).map (·.2) := by rfl) : PGs X (e :: es) (gCons t u) := by
  intro pins s σ H vs us Q I r h
  obtain ⟨v, vr, e1, h⟩ := h
  subst e1
  cases r with
  | cons r rr =>
    rw [hs]
    refine assignInOrder_cons (thn (h1 pins s σ H _ _ _ I r h) fun _ s1 ⟨σ1, H1, I1, q1⟩ => ?_)
    exact h2 pins s1 σ1 H1 _ _ Q I1 rr q1
def gTup (K : PySem.W.Frag) (n : Nat) (t : TGs) : TG := fun v σ H Q => ∃ a xs, v = .ref a ∧ SqT K H a xs ∧ xs.length = n ∧ t xs σ H Q
theorem pg_tup {es : List Expr} {k : Nat} {t : TGs} {n : Nat} (hc : X.calm = true) (h : PGs X es t)
    (hn : (assignEach es X.env).length = n := by rfl) (hst : (assignEach es X.env).findIdx? (·.1) = none := by rfl) : PG X (.Tuple es k pos) (gTup X.K n t) := by
  intro pins s σ H v u Q I r hw
  obtain ⟨a, xs, e1, hq, hl, hw⟩ := hw
  subst e1
  cases r
  obtain ⟨its, rv, ht, hz⟩ := I.tuple hq
  refine assign_Tuple_tuple (I.ok.hd hc) ht (by simp [hn, ← hl, rv.length]) hst fun h' hx => ?_
  have I1 : Inv X pins σ H { s with heap := h' } := I.kept (t' := s.toks) fun b o e => hx b o (Nat.ne_of_lt (Heap.lt_size e)) e
  exact h pins _ σ H xs _ Q I1 (by simpa using rv) hw
def gSub (to ti : TE) (t : TSet) : TG := fun v σ H Q => to σ H fun o H1 => ti σ H1 fun i H2 => t o i v H2 fun H3 => Q σ H3
theorem pg_sub {o i : Expr} {to ti : TE} {t : TSet} (ho : PE X o to) (hi : PE X i ti) (hs : PSet X t)
    (ha : ∀ v, assign (.Subscript o i pos) X.env v = (do
      let ov ← holding [v] (eval o X.env)
      let iv ← holding [v, ov] (eval i X.env)
      standAt pos
      holding [v, ov, iv] (setItem ov iv v)
      release [v, ov, iv] []) := by intro _; rfl) : PG X (.Subscript o i pos) (gSub to ti t) := by
  intro pins s σ H v u Q I r h
  rw [ha]
  refine wpAny_bind (wpAny_holding (thn (ho pins s σ H _ I h) fun ov s1 ⟨x, H1, I1, r1, q1⟩ => ?_))
  refine wpAny_bind (wpAny_holding (thn (hi pins s1 σ H1 _ I1 q1) fun iv s2 ⟨y, H2, I2, r2, q2⟩ => ?_))
  refine wpAny_bind (wpAny_standAt (wpAny_bind (wpAny_holding (thn (hs pins s2 σ H2 x y v ov iv u _ I2 r1 r2 r q2) fun _ s3 ⟨H3, I3, q3⟩ => ?_))))
  exact wpAny_release ⟨σ, H3, I3, q3⟩
def tAsg (te : TE) (g : TG) : TS := fun D σ H => te σ H fun x H1 => g x σ H1 D.nx
theorem ps_asg {tg e : Expr} {te : TE} {g : TG} (he : PE X e te) (hg : PG X tg g) (hs : swapsWithSole [tg] e pos.line X.env = pure false := by rfl) (hw : swappedStores [tg] e X.env = pure none := by rfl)
    (h1 : (assignEach [tg] X.env).map (·.2) = [assign tg X.env] := by rfl) : PS X (.Assign [tg] e pos) (tAsg te g) := by
  intro pins s σ H D I h
  refine wpAny_Assign_stores (thn (he pins s σ H _ I h) fun v s1 ⟨x, H1, I1, r1, q1⟩ => ?_) hs hw
  rw [h1]
  exact thn (hg pins s1 σ H1 x v _ I1 r1 q1) fun _ s2 q => q
theorem ps_set {i : Nat} {x : Str} {e : Expr} {te : TE} {pos' : Pos} (hN : X.N.Nodup) (hi : X.N[i]? = some x) (hx : Loc X.env.scope x) (he : PE X e te) (hs : swapsWith e (some (.Name x pos')) pos.line X.env = pure false := by rfl) (hf : X.fn x = true ∨ X.env.scope.names.lookup x = some .local := by first | exact .inl rfl | exact .inr rfl | assumption) :
    PS X (.Assign [.Name x pos'] e pos) (tAsg te (gName i)) := by
  intro pins s σ H D I h
  refine wpAny_Assign_Name (thn (he pins s σ H _ I h) fun v s1 ⟨y, H1, I1, r1, q1⟩ => ?_) hs
  exact store_ok I1 hN hi hx r1 (fun s2 I2 => ⟨_, H1, I2, q1⟩) hf
def tPar (i j : Nat) (ta : TA) : TS := fun D σ H => ta σ H fun vs H1 => ∃ v w, vs = [v, w] ∧ D.nx ((σ.set i (some v)).set j (some w)) H1
theorem ps_par {i j : Nat} {x y : Str} {a b : Expr} {ta : TA} {px py pt : Pos} {kt k2 pt2} (hc : X.calm = true) (hN : X.N.Nodup) (hi : X.N[i]? = some x) (hj : X.N[j]? = some y) (hij : i ≠ j)
    (hx : X.env.scope.names.lookup x = some .local) (hy : X.env.scope.names.lookup y = some .local) (ha : PA X [a, b] ta)
    (hw : swappedStores [.Tuple [.Name x px, .Name y py] kt pt] (.Tuple [a, b] k2 pt2) X.env = pure (some [x, y]))
    (hs : swapsWithSole [.Tuple [.Name x px, .Name y py] kt pt] (.Tuple [a, b] k2 pt2) pos.line X.env = pure false := by rfl) :
    PS X (.Assign [.Tuple [.Name x px, .Name y py] kt pt] (.Tuple [a, b] k2 pt2) pos) (tPar i j ta) := by
  intro pins s σ H D I h
  rw [exec_Assign_arm]
  refine wpAny_bind (wpAny_standAt ?_)
  rw [hs]
  refine wpAny_bind (wpAny_pure ?_)
  rw [if_neg (by decide)]
  refine wpAny_bind (Tuple_ (thn (ha _ pins s σ H _ I h) fun us s1 ⟨vs, H1, I1, r1, q1⟩ => ?_))
  obtain ⟨v, w, e1, q1⟩ := q1
  subst e1
  obtain ⟨u1, u2, rfl, rv, rw'⟩ : ∃ u1 u2, us = [u1, u2] ∧ RelV v u1 ∧ RelV w u2 := by
    cases r1 with
    | cons p q =>
      cases q with
      | cons p' q' =>
        cases q'
        exact ⟨_, _, rfl, p, p'⟩
  refine wpAny_newObj_type ?_ (by show 2 ≤ sizeLine; decide)
  have I2 : Inv X pins σ H1 { s1 with heap := s1.heap.push { cls := .type "tuple", data := .seq [u1, u2].toArray } } := I1.kept (t' := s1.toks) fun b o e => Heap.get?_push_of_some _ e
  rw [hw]
  refine wpAny_bind (wpAny_pure ?_)
  show wpAny (model X.prog X.w) X.A (do rule "assign.swapped-stores"; let items ← unpackItems (.ref s1.heap.objs.size) 2 none; assignInOrder [fun v => bindName X.env y v, fun v => bindName X.env x v] items.reverse; pure Flow.next) _ _ _
  refine wpAny_bind (wpAny_rule (wpAny_bind (unpackItems_tuple (items := #[u1, u2]) (I.ok.hd hc) (IsTup.new s1.heap _) fun h' hx' => ?_)))
  have I3 := I2.kept (h' := h') (t' := s1.toks) fun b o e => hx' b o (Nat.ne_of_lt (Heap.lt_size e)) e
  show wpAny _ _ (assignInOrder [fun v => bindName X.env y v, fun v => bindName X.env x v] [u2, u1] >>= fun _ => pure Flow.next) _ _ _
  refine wpAny_bind (assignInOrder_cons (wpAny_bindName (store_ok I3 hN hj (.inl hy) rw' (fun s2 I4 => ?_) (.inr hy))))
  refine assignInOrder_cons (wpAny_bindName (store_ok I4 hN hi (.inl hx) rv (fun s3 I5 => assignInOrder_nil (wpAny_pure ?_)) (.inr hx)))
  rw [List.set_comm _ _ (Ne.symm hij)] at I5
  exact ⟨_, H1, I5, q1⟩
def tAug (i : Nat) (te : TE) (ti : TIp) : TS := fun D σ H => ∃ x, σ[i]? = some (some x) ∧ te σ H fun y H1 => ti x y H1 fun z H2 => D.nx (σ.set i (some z)) H2
theorem ps_aug {i : Nat} {x : Str} {e : Expr} {te : TE} {op : Operator} {ti : TIp} {pos' : Pos} (hN : X.N.Nodup) (hi : X.N[i]? = some x) (hx : Loc X.env.scope x) (he : PE X e te) (ho : PIp X op ti) (hf : X.fn x = true ∨ X.env.scope.names.lookup x = some .local := by first | exact .inl rfl | exact .inr rfl | assumption) :
    PS X (.AugAssign (.Name x pos') op e pos) (tAug i te ti) := by
  intro pins s σ H D I h
  obtain ⟨v, e1, h⟩ := h
  obtain ⟨m, hn, hl⟩ := I.loc
  have vis : Vis X.env.scope x := by rcases hx with k | k; exact .inl k; exact .inr (.inl k)
  obtain ⟨u, r, l⟩ := hl i x v hi e1 vis
  refine wpAny_AugAssign_Name ?_
  have go : wpAny (model X.prog X.w) X.A (eval e X.env) (fun w s₂ => wpAny (model X.prog X.w) X.A (inplaceOp op u w) (fun r s₃ => wpAny (model X.prog X.w) X.A (storeName X.env x r) (fun _ => SP X pins D .next) X.xe s₃) X.xe s₂) X.xe s := by
    refine thn (he pins s σ H _ I h) fun w s1 ⟨y, H1, I1, r1, q1⟩ => ?_
    refine thn (ho pins s1 σ H1 v y u w _ I1 r r1 q1) fun z s2 ⟨zv, H2, I2, r2, q2⟩ => ?_
    exact store_ok I2 hN hi hx r2 (fun s3 I3 => ⟨_, H2, I3, q2⟩) hf
  rcases l with ⟨hk, hm⟩ | ⟨hk, c, hc, hcell⟩
  · exact wpAny_loadName_local I.ok.kind hk hn hm go
  · rcases hk with hk | hk
    · exact wpAny_loadName_cell I.ok.kind hk hc hcell go
    · rcases hx with k | k
      · have : X.env.scope.names.lookup x = some .free := hk
        rw [k] at this; cases this
      · have : X.env.scope.names.lookup x = some .free := hk
        rw [k] at this; cases this
def ipI (f : Int → Int → Int) : TIp := fun x y H Q => ∃ i j, x = .int i ∧ y = .int j ∧ Q (.int (f i j)) H
theorem ip_add : PIp X .Add (ipI fun i j => i + j) := by
  intro pins s σ H x y v u Q I r1 r2 h
  obtain ⟨i, j, e1, e2, q⟩ := h
  subst e1; subst e2
  obtain ⟨t, rfl⟩ := r1
  obtain ⟨t', rfl⟩ := r2
  exact iadd_int ⟨.int _, H, I.tok _, ⟨_, rfl⟩, q⟩
theorem ip_sub : PIp X .Sub (ipI fun i j => i - j) := by
  intro pins s σ H x y v u Q I r1 r2 h
  obtain ⟨i, j, e1, e2, q⟩ := h
  subst e1; subst e2
  obtain ⟨t, rfl⟩ := r1
  obtain ⟨t', rfl⟩ := r2
  exact isub_int ⟨.int _, H, I.tok _, ⟨_, rfl⟩, q⟩
end
section
variable {X : Cx} {pos : Pos}
def tWhile (c : TT) (tb : TS) : TS := fun D σ H => ∃ W : Nat → St → Hp → Prop, (∃ m, W m σ H) ∧ ∀ m σ H, W m σ H →
  c σ H fun b H1 => if b = true then ∃ N : St → Hp → Prop, (∀ σ' H', N σ' H' → ∃ m', m' < m ∧ W m' σ' H') ∧ tb { D with nx := N, ct := N, bk := D.nx } σ H1 else D.nx σ H1
theorem ps_while {c : Expr} {body : List Stmt} {tc : TT} {tb : TS} (hp : PassesOwn (model X.prog X.w) X.A X.env X.xe) (hc : PT X c tc) (hb : PSs X body tb) : PS X (.While c body [] pos) (tWhile tc tb) := by
  intro pins s σ H D I h
  obtain ⟨W, ⟨m0, w0⟩, turn⟩ := h
  refine wpAny_While (codeAny_whileLoop (fun n s' => ∃ σ' H', Inv X pins σ' H' s' ∧ W n σ' H') ?_ m0 ⟨σ, H, I, w0⟩)
  rintro n s1 ⟨σ1, H1, I1, w1⟩
  refine wpAny_passesOwn hp (thn (hc pins s1 σ1 H1 _ I1 (turn n σ1 H1 w1)) fun b s2 ⟨H2, I2, q2⟩ => ?_)
  cases b with
  | true =>
    obtain ⟨N, hN, q2⟩ := q2
    rw [if_pos rfl]
    refine wpAny_passesOwn hp (thn (hb pins s2 σ1 H2 _ I2 q2) fun f s3 q3 => ?_)
    cases f with
    | next =>
      obtain ⟨σ3, H3, I3, n3⟩ := q3
      obtain ⟨m', hm, w3⟩ := hN σ3 H3 n3
      exact ⟨m', hm, σ3, H3, I3, w3⟩
    | cont =>
      obtain ⟨σ3, H3, I3, n3⟩ := q3
      obtain ⟨m', hm, w3⟩ := hN σ3 H3 n3
      exact ⟨m', hm, σ3, H3, I3, w3⟩
    | brk => exact q3
    | ret v => exact q3
  | false =>
    rw [if_neg Bool.false_ne_true]
    exact wpAny_execs_nil ⟨σ1, H2, I2, q2⟩
end
structure It where
  go : Nat → Hp → Prop
  yld : Nat → Hp → V → Hp → Prop
  stop : Nat → Hp → Prop
def FpOk (X : Cx) (pins : List (Addr × Obj)) (H : Hp) (b : Addr) : Prop :=
  H b = none ∧ b ≠ X.env.locals ∧ b ∉ X.fs ∧ (b ∈ X.ex ∨ X.s₀.heap.objs.size ≤ b) ∧ (∀ x c, X.env.cells.lookup x = some c → c ≠ b) ∧ ∀ p ∈ X.pn ++ pins, p.1 ≠ b
theorem Inv.fpOk {X : Cx} {pins : List (Addr × Obj)} {σ : St} {H H' : Hp} {s : Shared} {b : Addr} (I : Inv X pins σ H s) (hb : s.heap.objs.size ≤ b) (hn : H' b = none) : FpOk X pins H' b := by
  refine ⟨hn, Nat.ne_of_gt (Nat.lt_of_lt_of_le I.lt hb), I.nofs hb, .inr (Nat.le_trans I.sz hb), fun x c e z => ?_, fun p hp z => ?_⟩
  · obtain ⟨v, q⟩ := I.cell x c e
    exact absurd (Nat.lt_of_lt_of_le q.lt (by rw [z]; exact hb)) (Nat.lt_irrefl _)
  · exact absurd (Nat.lt_of_lt_of_le (Heap.lt_size (I.pin p hp).1) (by rw [z]; exact hb)) (Nat.lt_irrefl _)
structure Turn (P : Program) (w : World) (K : PySem.W.Frag) (tg : Expr) (J : It) (fp : List Addr) (it : Addr) (tn : Nat → Heap → Prop) : Prop where
  mem : it ∈ fp
  obj : ∀ i h, tn i h → ∀ b ∈ fp, ∃ o, h.get? b = some o ∧ ∀ v, o.data ≠ .cell v
  keep : ∀ i h h', tn i h → (∀ b ∈ fp, ∀ o, h.get? b = some o → h'.get? b = some o) → tn i h'
  item : ∀ (X : Cx), X.prog = P → X.w = w → X.K = K → X.calm = true → ∀ (i : Nat) (pins : List (Addr × Obj)) (s : Shared) (σ : St) (H : Hp) (E : Value → Shared → Prop), Inv X pins σ H s → (∀ b ∈ fp, FpOk X pins H b) → tn i s.heap → J.go i H →
    wpAny (model P w) X.A (pyNext (.ref it)) (fun r s1 => ∃ u, r = some u ∧
      wpAny (model P w) X.A (letOwnedTupleGo tg (.ref it) u) (fun _ s2 => ∃ x H', Inv X pins σ H' s2 ∧ RelV x u ∧ J.yld i H x H' ∧ tn (i + 1) s2.heap ∧ ∀ b ∈ fp, H' b = none) E s1) E s
  done : ∀ (X : Cx), X.prog = P → X.w = w → X.K = K → X.calm = true → ∀ (i : Nat) (pins : List (Addr × Obj)) (s : Shared) (σ : St) (H : Hp) (E : Value → Shared → Prop), Inv X pins σ H s → (∀ b ∈ fp, FpOk X pins H b) → tn i s.heap → J.stop i H →
    wpAny (model P w) X.A (pyNext (.ref it)) (fun r s1 => r = none ∧ Inv X pins σ H s1) E s
  self : ∀ (A : Around) (i : Nat) (s : Shared) (Q : Value → Shared → Prop) (E : Value → Shared → Prop), tn i s.heap → Q (.ref it) s → wpAny (model P w) A (pyIter (.ref it)) Q E s
abbrev TI := St → Hp → (It → Hp → Prop) → Prop
def PIE (X : Cx) (pins : List (Addr × Obj)) (σ : St) (tg : Expr) (R : It → Hp → Prop) (itv : Value) (s2 : Shared) : Prop :=
  ∃ (it : Addr) (fp : List Addr) (tn : Nat → Heap → Prop) (J : It) (H' : Hp), itv = .ref it ∧ Inv X pins σ H' s2 ∧ Turn X.prog X.w X.K tg J fp it tn ∧ tn 0 s2.heap ∧ (∀ b ∈ fp, FpOk X pins H' b) ∧ R J H'
def PI (X : Cx) (tg iter : Expr) (wi : TI) : Prop :=
  ∀ (pins : List (Addr × Obj)) (s : Shared) (σ : St) (H : Hp) (R : It → Hp → Prop), Inv X pins σ H s → wi σ H R →
    wpAny (model X.prog X.w) X.A (eval iter X.env) (fun v s1 => wpAny (model X.prog X.w) X.A (pyIter v) (PIE X pins σ tg R) X.xe s1) X.xe s
theorem go_of {M : Model} {A : Around} {E : Value → Shared → Prop} {s : Shared} {tg : Expr} {it : Addr} {u : Value} {o : Obj} {n : String} {vs : Array Value} {Q : Unit → Shared → Prop} (ho : s.heap.get? it = some o) (hc : o.cls = .type n) (hd : o.data = .fields vs)
    (hn : ["enumerate", "zip", "dict_itemiterator", "dict_reverseitemiterator", "odict_iterator", "itertools.zip_longest", "itertools.pairwise"].contains n = false) (hQ : Q () s) : wpAny M A (letOwnedTupleGo tg (.ref it) u) Q E s := by
  unfold letOwnedTupleGo
  cases tg <;> first
    | exact wpAny_pure hQ
    | (cases u <;> first
        | exact wpAny_pure hQ
        | (refine wpAny_bind (wpAny_load ho ?_)
           rw [hc, hd]
           show wpAny M A (if (["enumerate", "zip", "dict_itemiterator", "dict_reverseitemiterator", "odict_iterator", "itertools.zip_longest", "itertools.pairwise"].contains n && vs[0]? == some (rawInt _)) = true then _ else _) Q E s
           rw [if_neg (by intro h; rw [hn, Bool.false_and] at h; cases h)]
           exact wpAny_pure hQ))
def Itl (K : PySem.W.Frag) (a : Addr) : It :=
  ⟨fun i H => ∃ xs x, SqL K H a xs ∧ xs[i]? = some x, fun i H x H' => H' = H ∧ ∀ xs, SqL K H a xs → xs[i]? = some x, fun i H => ∃ xs, SqL K H a xs ∧ xs.length ≤ i⟩
def Itt (K : PySem.W.Frag) (a : Addr) : It :=
  ⟨fun i H => ∃ xs x, SqT K H a xs ∧ xs[i]? = some x, fun i H x H' => H' = H ∧ ∀ xs, SqT K H a xs → xs[i]? = some x, fun i H => ∃ xs, SqT K H a xs ∧ xs.length ≤ i⟩
def Itr (lo : Int) (n : Nat) : It := ⟨fun i _ => i < n, fun i H x H' => H' = H ∧ x = .int (lo + i), fun i _ => n ≤ i⟩
theorem turn_list {P : Program} {w : World} {K : PySem.W.Frag} {tg : Expr} (a it : Addr) : Turn P w K tg (Itl K a) [it] it (fun i h => h.IsListIter it a i) where
  mem := by simp
  obj := fun i h st b hb => by
    have e : b = it := by simpa using hb
    subst e
    obtain ⟨o, e, c, d⟩ := st
    exact ⟨o, e, fun v z => by rw [d] at z; cases z⟩
  keep := fun i h h' st k => st.at fun o e => k it (by simp) o e
  item := by
    intro X hP hw hK hc i pins s σ H E I hf st hg
    subst hP hw hK
    obtain ⟨xs, x, hq, hx⟩ := hg
    obtain ⟨its, rv, p, hz⟩ := I.list hq
    obtain ⟨u, hu, ru⟩ := rv.get hx
    obtain ⟨f0, f1, f2, f3, f4, f5⟩ := hf it (by simp)
    refine wpAny_pyNext_list_item st p.isList (x := u) (by simpa using hu) fun h' st' sb => ?_
    have I1 : Inv X pins σ H { s with heap := h' } := I.turned (t' := s.toks) (fun b o hb e => (sb.2 b hb).trans e) f0 f1 f3 f4 f5
    obtain ⟨o, e, c, d⟩ := id st'
    exact ⟨u, rfl, go_of (s := { s with heap := h' }) e c d (by decide) ⟨x, H, I1, ru, ⟨rfl, fun ys hy => by rw [I.list_inj hy hq]; exact hx⟩, st', fun b hb => (hf b hb).1⟩⟩
  done := by
    intro X hP hw hK hc i pins s σ H E I hf st hg
    subst hP hw hK
    obtain ⟨xs, hq, hx⟩ := hg
    obtain ⟨its, rv, p, hz⟩ := I.list hq
    obtain ⟨f0, f1, f2, f3, f4, f5⟩ := hf it (by simp)
    have hl := rv.length
    exact wpAny_pyNext_list_end (I.ok.hd hc) st p.isList (by simp; omega) fun h' eb => ⟨rfl, I.turned (t' := s.toks) (fun b o hb e => eb b o hb e) f0 f1 f3 f4 f5⟩
  self := fun _ _ _ _ _ st h => wpAny_pyIter_listiter st h
theorem turn_tuple {P : Program} {w : World} {K : PySem.W.Frag} {tg : Expr} (a it : Addr) : Turn P w K tg (Itt K a) [it] it (fun i h => h.IsTupleIter it a i) where
  mem := by simp
  obj := fun i h st b hb => by
    have e : b = it := by simpa using hb
    subst e
    obtain ⟨o, e, c, d⟩ := st
    exact ⟨o, e, fun v z => by rw [d] at z; cases z⟩
  keep := fun i h h' st k => st.at fun o e => k it (by simp) o e
  item := by
    intro X hP hw hK hc i pins s σ H E I hf st hg
    subst hP hw hK
    obtain ⟨xs, x, hq, hx⟩ := hg
    obtain ⟨its, rv, p, hz⟩ := I.tuple hq
    obtain ⟨u, hu, ru⟩ := rv.get hx
    obtain ⟨f0, f1, f2, f3, f4, f5⟩ := hf it (by simp)
    refine wpAny_pyNext_tuple_item st (show s.heap.IsTuple a its.toArray from p) (x := u) (by simpa using hu) fun h' st' sb => ?_
    have I1 : Inv X pins σ H { s with heap := h' } := I.turned (t' := s.toks) (fun b o hb e => (sb.2 b hb).trans e) f0 f1 f3 f4 f5
    obtain ⟨o, e, c, d⟩ := id st'
    exact ⟨u, rfl, go_of (s := { s with heap := h' }) e c d (by decide) ⟨x, H, I1, ru, ⟨rfl, fun ys hy => by rw [I.tuple_inj hy hq]; exact hx⟩, st', fun b hb => (hf b hb).1⟩⟩
  done := by
    intro X hP hw hK hc i pins s σ H E I hf st hg
    subst hP hw hK
    obtain ⟨xs, hq, hx⟩ := hg
    obtain ⟨its, rv, p, hz⟩ := I.tuple hq
    obtain ⟨f0, f1, f2, f3, f4, f5⟩ := hf it (by simp)
    have hl := rv.length
    exact wpAny_pyNext_tuple_end (I.ok.hd hc) st (show s.heap.IsTuple a its.toArray from p) (by simp; omega) fun h' eb => ⟨rfl, I.turned (t' := s.toks) (fun b o hb e => eb b o hb e) f0 f1 f3 f4 f5⟩
  self := fun _ _ _ _ _ st h => wpAny_pyIter_tupleiter st h
theorem turn_range {P : Program} {w : World} {K : PySem.W.Frag} {tg : Expr} (it : Addr) (lo : Int) (n : Nat) : Turn P w K tg (Itr lo n) [it] it (fun i h => IsRangeIter h it (lo + (i : Nat) * 1) ((n : Int) - (i : Nat)) 1) where
  mem := by simp
  obj := fun i h st b hb => by
    have e : b = it := by simpa using hb
    subst e
    exact ⟨_, st, fun v z => by
      have z' : Data.fields _ = Data.cell v := z
      cases z'⟩
  keep := fun i h h' st k => k it (by simp) _ st
  item := by
    intro X hP hw hK hc i pins s σ H E I hf st hg
    subst hP hw hK
    obtain ⟨f0, f1, f2, f3, f4, f5⟩ := hf it (by simp)
    have W := Walks.range (prog := X.prog) (w := X.w) (I.ok.hd hc) it lo 1 n
    refine W.item i s _ _ hg st fun v h' tk hv st' kk => ?_
    obtain ⟨t, rfl⟩ := hv
    have I1 : Inv X pins σ H { s with heap := h', toks := tk } := I.turned (fun b o hb e => kk b o (by simpa using hb) e) f0 f1 f3 f4 f5
    refine ⟨_, rfl, go_of (s := { s with heap := h', toks := tk }) (n := "range_iterator") st' rfl rfl (by decide) ⟨.int (lo + i), H, I1, ⟨t, ?_⟩, ⟨rfl, rfl⟩, st', fun b hb => (hf b hb).1⟩⟩
    rw [Int.mul_one]
  done := by
    intro X hP hw hK hc i pins s σ H E I hf st hg
    subst hP hw hK
    obtain ⟨f0, f1, f2, f3, f4, f5⟩ := hf it (by simp)
    exact wpAny_pyNext_range_end (I.ok.hd hc) st (by have : n ≤ i := hg; omega) fun h' eb => ⟨rfl, I.turned (t' := s.toks) (fun b o hb e => eb b o hb e) f0 f1 f3 f4 f5⟩
  self := fun _ _ _ _ _ st h => wpAny_pyIter_rangeiter st h
end L2
namespace L2
open PySem PySem.Spec PyProof.Rows
section
variable {X : Cx} {tg : Expr}
def iList (K : PySem.W.Frag) (tl : TE) : TI := fun σ H R => tl σ H fun x H1 => ∃ a, x = .ref a ∧ (∃ xs, SqL K H1 a xs) ∧ R (Itl K a) H1
def iTup (K : PySem.W.Frag) (tl : TE) : TI := fun σ H R => tl σ H fun x H1 => ∃ a, x = .ref a ∧ (∃ xs, SqT K H1 a xs) ∧ R (Itt K a) H1
theorem pi_list {l : Expr} {tl : TE} (hl : PE X l tl) : PI X tg l (iList X.K tl) := by
  intro pins s σ H R I h
  refine thn (hl pins s σ H _ I h) fun v s1 ⟨x, H1, I1, r1, q1⟩ => ?_
  obtain ⟨a, e, ⟨xs, hq⟩, q⟩ := q1
  subst e
  cases r1
  obtain ⟨its, rv, p, hz⟩ := I1.list hq
  refine wpAny_pyIter_list p.isList ?_
  refine ⟨s1.heap.objs.size, [s1.heap.objs.size], _, _, H1, rfl, I1.kept (t' := s1.toks) fun b o e => Heap.get?_push_of_some _ e, turn_list a _, ⟨_, Heap.get?_push_size _ rfl, rfl, rfl⟩, fun b hb => ?_, q⟩
  have e : b = s1.heap.objs.size := by simpa using hb
  subst e
  exact I1.fpOk (Nat.le_refl _) (I1.hok.fresh (Nat.le_refl _))
theorem pi_tup {l : Expr} {tl : TE} (hl : PE X l tl) : PI X tg l (iTup X.K tl) := by
  intro pins s σ H R I h
  refine thn (hl pins s σ H _ I h) fun v s1 ⟨x, H1, I1, r1, q1⟩ => ?_
  obtain ⟨a, e, ⟨xs, hq⟩, q⟩ := q1
  subst e
  cases r1
  obtain ⟨its, rv, p, hz⟩ := I1.tuple hq
  refine wpAny_pyIter_tuple (show s1.heap.IsTuple a its.toArray from p) ?_
  refine ⟨s1.heap.objs.size, [s1.heap.objs.size], _, _, H1, rfl, I1.kept (t' := s1.toks) fun b o e => Heap.get?_push_of_some _ e, turn_tuple a _, ⟨_, Heap.get?_push_size _ rfl, rfl, rfl⟩, fun b hb => ?_, q⟩
  have e : b = s1.heap.objs.size := by simpa using hb
  subst e
  exact I1.fpOk (Nat.le_refl _) (I1.hok.fresh (Nat.le_refl _))
theorem range_it {pins : List (Addr × Obj)} {σ : St} {H : Hp} {s : Shared} {R : It → Hp → Prop} {E : Value → Shared → Prop} {lo hi : Int} {t u v : Tok} {tk : Nat} (I : Inv X pins σ H s) (h1 : -(2 ^ 62) ≤ lo) (h2 : lo < 2 ^ 62) (h3 : -(2 ^ 62) ≤ hi) (h4 : hi < 2 ^ 62)
    (q : R (Itr lo (hi - lo).toNat) H) : wpAny (model X.prog X.w) X.A (pyIter (.ref s.heap.objs.size)) (PIE X pins σ tg R) E { s with heap := s.heap.push { cls := .type "range", data := .fields #[.int lo t, .int hi u, .int 1 v] }, toks := tk } := by
  refine wpAny_pyIter_range (IsRange.new ..) (small_one h1 h2 h3 h4) ?_
  have I1 : Inv X pins σ H { s with heap := s.heap.push { cls := .type "range", data := .fields #[.int lo t, .int hi u, .int 1 v] }, toks := tk } := I.kept fun b o e => Heap.get?_push_of_some _ e
  refine ⟨(s.heap.push { cls := .type "range", data := .fields #[.int lo t, .int hi u, .int 1 v] }).objs.size, [(s.heap.push { cls := .type "range", data := .fields #[.int lo t, .int hi u, .int 1 v] }).objs.size], _, _, H, rfl,
    I1.kept (t' := tk) fun b o e => Heap.get?_push_of_some _ e, turn_range _ lo (hi - lo).toNat, ?_, fun b hb => ?_, q⟩
  · have e1 : lo + ((0 : Nat) : Int) * 1 = lo := by simp
    have e2 : (((hi - lo).toNat : Nat) : Int) - ((0 : Nat) : Int) = Builtin.Range.rangeSize lo hi 1 := by rw [rangeSize_one]; split <;> omega
    show IsRangeIter _ _ (lo + ((0 : Nat) : Int) * 1) ((((hi - lo).toNat : Nat) : Int) - ((0 : Nat) : Int)) 1
    rw [e1, e2]
    exact Heap.get?_push_size _ rfl
  · have e : b = (s.heap.push { cls := .type "range", data := .fields #[.int lo t, .int hi u, .int 1 v] }).objs.size := by simpa using hb
    subst e
    exact I1.fpOk (Nat.le_refl _) (I1.hok.fresh (Nat.le_refl _))
def iRng1 (ta : TA) : TI := fun σ H R => ta σ H fun vs H1 => ∃ j : Int, vs = [.int j] ∧ -(2 ^ 62) ≤ j ∧ j < 2 ^ 62 ∧ R (Itr 0 j.toNat) H1
theorem pi_range1 {a : Expr} {ta : TA} {p pos : Pos} (hg : Gl X "range") (hm : X.mg "range" = none) (ha : PA X [a] ta) (hs : starEach [a] X.env = [(false, eval a X.env)] := by rfl) : PI X tg (.Call (.Name "range" p) [a] [] pos) (iRng1 ta) := by
  intro pins s σ H R I h
  refine Call_ (ld_blt I hg hm boot_range (PyProof.Rows.callWith_type1 (thn (ha pos pins s σ H _ I h) fun us s1 ⟨vs, H1, I1, r1, q1⟩ => ?_) hs rfl))
  obtain ⟨j, e, q1, q2, q⟩ := q1
  subst e
  cases r1 with
  | cons r rr =>
    cases rr
    obtain ⟨t, rfl⟩ := r
    exact call_range_1 (range_it I1 (by omega) (by omega) q1 q2 (by simpa using q))
def tFor (wi : TI) (g : TG) (tb : TS) : TS := fun D σ H => wi σ H fun J H1 => ∃ W : Nat → Nat → St → Hp → Prop, (∃ m, W 0 m σ H1) ∧ ∀ i m σ H, W i m σ H →
  (J.stop i H ∧ D.nx σ H) ∨ (J.go i H ∧ ∃ N : St → Hp → Prop, (∀ σ' H', N σ' H' → ∃ m', m' < m ∧ W (i + 1) m' σ' H') ∧ ∀ x H', J.yld i H x H' → g x σ H' fun σ2 H2 => tb { D with nx := N, ct := N, bk := D.nx } σ2 H2)
def pinsAt (fp : List Addr) (h : Heap) : List (Addr × Obj) := fp.filterMap fun b => (h.get? b).map fun o => (b, o)
theorem mem_pinsAt {fp : List Addr} {h : Heap} {b : Addr} {o : Obj} (hb : b ∈ fp) (e : h.get? b = some o) : (b, o) ∈ pinsAt fp h := List.mem_filterMap.mpr ⟨b, hb, by rw [e]; rfl⟩
theorem of_pinsAt {fp : List Addr} {h : Heap} {p : Addr × Obj} (hp : p ∈ pinsAt fp h) : p.1 ∈ fp ∧ h.get? p.1 = some p.2 := by
  obtain ⟨b, hb, e⟩ := List.mem_filterMap.mp hp
  cases q : h.get? b with
  | none => rw [q] at e; cases e
  | some o =>
    rw [q] at e
    have e' : (b, o) = p := Option.some.inj e
    subst e'
    exact ⟨hb, q⟩
theorem Inv.pinned {pins : List (Addr × Obj)} {σ : St} {H : Hp} {s : Shared} {fp : List Addr} (I : Inv X pins σ H s) (hf : ∀ b ∈ fp, FpOk X pins H b) (ho : ∀ b ∈ fp, ∃ o, s.heap.get? b = some o ∧ ∀ v, o.data ≠ .cell v) : Inv X (pins ++ pinsAt fp s.heap) σ H s :=
  I.pins_of fun p hp => (List.mem_append.mp hp).elim (fun z => I.pin p (List.mem_append_right _ z)) fun z => by
    obtain ⟨hb, e⟩ := of_pinsAt z
    obtain ⟨f0, f1, f2, _⟩ := hf p.1 hb
    obtain ⟨o, e', d⟩ := ho p.1 hb
    rw [e] at e'; cases e'
    exact ⟨e, f0, f1, f2, d⟩
theorem Inv.unpinned {pins pl : List (Addr × Obj)} {σ : St} {H : Hp} {s : Shared} (I : Inv X (pins ++ pl) σ H s) : Inv X pins σ H s := I.pins_of fun p hp => I.pin p (List.mem_append_right _ (List.mem_append_left _ hp))
theorem ps_for {iter : Expr} {body : List Stmt} {wi : TI} {g : TG} {tb : TS} {pos : Pos} (hp : PassesOwn (model X.prog X.w) X.A X.env X.xe) (hc : X.calm = true) (hi : PI X tg iter wi) (hg : PG X tg g) (hb : PSs X body tb)
    (hs : ∀ x, foldedSetIterable iter X.env x = pure x := by intro _; rfl) : PS X (.For tg iter body [] pos) (tFor wi g tb) := by
  intro pins s σ H D I h
  refine wpAny_For (thn (hi pins s σ H _ I h) fun v s1 h1 => thn h1 fun itv s2 h2 => ?_) hs
  obtain ⟨it, fp, tn, J, H2, e, I2, T, st2, f2, W, ⟨m0, w0⟩, turn⟩ := h2
  subst e
  have stat : ∀ {H' : Hp}, (∀ b ∈ fp, H' b = none) → ∀ b ∈ fp, FpOk X pins H' b := fun hn b hb => ⟨hn b hb, (f2 b hb).2⟩
  refine codeAny_forLoop_any (fun n s' => ∃ i σ' H', Inv X pins σ' H' s' ∧ tn i s'.heap ∧ (∀ b ∈ fp, H' b = none) ∧ W i n σ' H') ?_ m0 ⟨0, σ, H2, I2, st2, fun b hb => (f2 b hb).1, w0⟩
  rintro n s3 ⟨i, σ3, H3, I3, st3, fr3, w3⟩
  rcases turn i n σ3 H3 w3 with ⟨stop, qn⟩ | ⟨go, N, hN, step⟩
  · refine wpAny_passesOwn hp (thn (T.done X rfl rfl rfl hc i pins s3 σ3 H3 X.xe I3 (stat fr3) st3 stop) fun r s4 ⟨hr, I4⟩ => ?_)
    subst hr
    exact wpAny_execs_nil ⟨σ3, H3, I4, qn⟩
  · refine wpAny_passesOwn hp (thn (T.item X rfl rfl rfl hc i pins s3 σ3 H3 X.xe I3 (stat fr3) st3 go) fun r s4 ⟨u, hr, h4⟩ => ?_)
    subst hr
    refine wpAny_passesOwn hp (thn h4 fun _ s5 ⟨x, H5, I5, r5, y5, st5, fr5⟩ => ?_)
    have I5' := I5.pinned (stat fr5) (T.obj _ _ st5)
    refine wpAny_passesOwn hp (thn (hg _ s5 σ3 H5 x u _ I5' r5 (step x H5 y5)) fun _ s6 ⟨σ6, H6, I6, q6⟩ => ?_)
    refine wpAny_passesOwn hp (thn (hb _ s6 σ6 H6 _ I6 q6) fun f s7 q7 => ?_)
    have again : ∀ {σ7 : St} {H7 : Hp}, Inv X (pins ++ pinsAt fp s5.heap) σ7 H7 s7 → N σ7 H7 → ∃ m, m < n ∧ ∃ i σ' H', Inv X pins σ' H' s7 ∧ tn i s7.heap ∧ (∀ b ∈ fp, H' b = none) ∧ W i m σ' H' := fun {σ7 H7} I7 n7 => by
      obtain ⟨m', hm, w7⟩ := hN σ7 H7 n7
      refine ⟨m', hm, i + 1, σ7, H7, I7.unpinned, T.keep _ _ _ st5 fun b hb o e => (I7.pin (b, o) (List.mem_append_right _ (List.mem_append_right _ (mem_pinsAt hb e)))).1, fun b hb => ?_, w7⟩
      obtain ⟨o, e, d⟩ := T.obj _ _ st5 b hb
      exact (I7.pin (b, o) (List.mem_append_right _ (List.mem_append_right _ (mem_pinsAt hb e)))).2.1
    cases f with
    | next => obtain ⟨σ7, H7, I7, n7⟩ := q7; exact again I7 n7
    | cont => obtain ⟨σ7, H7, I7, n7⟩ := q7; exact again I7 n7
    | brk => obtain ⟨σ7, H7, I7, q7⟩ := q7; exact ⟨σ7, H7, I7.unpinned, q7⟩
    | ret v => obtain ⟨x7, σ7, H7, I7, r7, q7⟩ := q7; exact ⟨x7, σ7, H7, I7.unpinned, r7, q7⟩
end
theorem for_list {K : PySem.W.Frag} {a : Addr} {xs : List V} {g : TG} {tb : TS} {D : Ends} {σ : St} {H : Hp} (Pv : Nat → St → Hp → Prop) (h0 : Pv 0 σ H) (hl : ∀ i σ H, i ≤ xs.length → Pv i σ H → SqL K H a xs)
    (hs : ∀ i x σ H, xs[i]? = some x → Pv i σ H → g x σ H fun σ2 H2 => tb { D with nx := Pv (i + 1), ct := Pv (i + 1), bk := D.nx } σ2 H2) (hd : ∀ σ H, Pv xs.length σ H → D.nx σ H) :
    ∃ W : Nat → Nat → St → Hp → Prop, (∃ m, W 0 m σ H) ∧ ∀ i m σ H, W i m σ H →
      ((Itl K a).stop i H ∧ D.nx σ H) ∨ ((Itl K a).go i H ∧ ∃ N : St → Hp → Prop, (∀ σ' H', N σ' H' → ∃ m', m' < m ∧ W (i + 1) m' σ' H') ∧ ∀ x H', (Itl K a).yld i H x H' → g x σ H' fun σ2 H2 => tb { D with nx := N, ct := N, bk := D.nx } σ2 H2) := by
  refine ⟨fun i m σ H => m = xs.length - i ∧ i ≤ xs.length ∧ Pv i σ H, ⟨xs.length, by simp, Nat.zero_le _, h0⟩, ?_⟩
  rintro i m σ H ⟨rfl, hi, p⟩
  have q := hl i σ H hi p
  by_cases hlt : i < xs.length
  · refine .inr ⟨⟨xs, xs[i], q, by simp [hlt]⟩, Pv (i + 1), fun σ' H' p' => ⟨xs.length - (i + 1), by omega, rfl, hlt, p'⟩, fun x H' y => ?_⟩
    obtain ⟨e, y⟩ := y
    subst e
    exact hs i x σ _ (y xs q) p
  · have e : i = xs.length := by omega
    subst e
    exact .inl ⟨⟨xs, q, Nat.le_refl _⟩, hd σ H p⟩
theorem for_tup {K : PySem.W.Frag} {a : Addr} {xs : List V} {g : TG} {tb : TS} {D : Ends} {σ : St} {H : Hp} (Pv : Nat → St → Hp → Prop) (h0 : Pv 0 σ H) (hl : ∀ i σ H, i ≤ xs.length → Pv i σ H → SqT K H a xs)
    (hs : ∀ i x σ H, xs[i]? = some x → Pv i σ H → g x σ H fun σ2 H2 => tb { D with nx := Pv (i + 1), ct := Pv (i + 1), bk := D.nx } σ2 H2) (hd : ∀ σ H, Pv xs.length σ H → D.nx σ H) :
    ∃ W : Nat → Nat → St → Hp → Prop, (∃ m, W 0 m σ H) ∧ ∀ i m σ H, W i m σ H →
      ((Itt K a).stop i H ∧ D.nx σ H) ∨ ((Itt K a).go i H ∧ ∃ N : St → Hp → Prop, (∀ σ' H', N σ' H' → ∃ m', m' < m ∧ W (i + 1) m' σ' H') ∧ ∀ x H', (Itt K a).yld i H x H' → g x σ H' fun σ2 H2 => tb { D with nx := N, ct := N, bk := D.nx } σ2 H2) := by
  refine ⟨fun i m σ H => m = xs.length - i ∧ i ≤ xs.length ∧ Pv i σ H, ⟨xs.length, by simp, Nat.zero_le _, h0⟩, ?_⟩
  rintro i m σ H ⟨rfl, hi, p⟩
  have q := hl i σ H hi p
  by_cases hlt : i < xs.length
  · refine .inr ⟨⟨xs, xs[i], q, by simp [hlt]⟩, Pv (i + 1), fun σ' H' p' => ⟨xs.length - (i + 1), by omega, rfl, hlt, p'⟩, fun x H' y => ?_⟩
    obtain ⟨e, y⟩ := y
    subst e
    exact hs i x σ _ (y xs q) p
  · have e : i = xs.length := by omega
    subst e
    exact .inl ⟨⟨xs, q, Nat.le_refl _⟩, hd σ H p⟩
theorem for_range {lo : Int} {n : Nat} {g : TG} {tb : TS} {D : Ends} {σ : St} {H : Hp} (Pv : Nat → St → Hp → Prop) (h0 : Pv 0 σ H)
    (hs : ∀ i σ H, i < n → Pv i σ H → g (.int (lo + i)) σ H fun σ2 H2 => tb { D with nx := Pv (i + 1), ct := Pv (i + 1), bk := D.nx } σ2 H2) (hd : ∀ σ H, Pv n σ H → D.nx σ H) :
    ∃ W : Nat → Nat → St → Hp → Prop, (∃ m, W 0 m σ H) ∧ ∀ i m σ H, W i m σ H →
      ((Itr lo n).stop i H ∧ D.nx σ H) ∨ ((Itr lo n).go i H ∧ ∃ N : St → Hp → Prop, (∀ σ' H', N σ' H' → ∃ m', m' < m ∧ W (i + 1) m' σ' H') ∧ ∀ x H', (Itr lo n).yld i H x H' → g x σ H' fun σ2 H2 => tb { D with nx := N, ct := N, bk := D.nx } σ2 H2) := by
  refine ⟨fun i m σ H => m = n - i ∧ i ≤ n ∧ Pv i σ H, ⟨n, by simp, Nat.zero_le _, h0⟩, ?_⟩
  rintro i m σ H ⟨rfl, hi, p⟩
  by_cases hlt : i < n
  · refine .inr ⟨hlt, Pv (i + 1), fun σ' H' p' => ⟨n - (i + 1), by omega, rfl, hlt, p'⟩, fun x H' y => ?_⟩
    obtain ⟨e, y⟩ := y
    subst e y
    exact hs i σ _ hlt p
  · have e : i = n := by omega
    subst e
    exact .inl ⟨Nat.le_refl _, hd σ H p⟩
end L2
namespace L2
open PySem PySem.Spec PyProof.Rows
abbrev R2 := V → V → Hp → VK → Prop
def OpR (X : Cx) (f : Value → Value → Sem Value) (r : R2) : Prop :=
  ∀ (pins : List (Addr × Obj)) (s : Shared) (σ : St) (H : Hp) (x y : V) (v u : Value) (Q : VK), Inv X pins σ H s → RelV x v → RelV y u → r x y H Q →
    wpAny (model X.prog X.w) X.A (f v u) (EP X pins σ Q) X.xe s
def UnR (X : Cx) (f : Value → Sem Value) (r : V → Hp → VK → Prop) : Prop :=
  ∀ (pins : List (Addr × Obj)) (s : Shared) (σ : St) (H : Hp) (x : V) (v : Value) (Q : VK), Inv X pins σ H s → RelV x v → r x H Q →
    wpAny (model X.prog X.w) X.A (f v) (EP X pins σ Q) X.xe s
def CallR (X : Cx) (f : Value) (r : List V → Hp → VK → Prop) : Prop :=
  ∀ (pins : List (Addr × Obj)) (s : Shared) (σ : St) (H : Hp) (xs : List V) (us : List Value) (Q : VK), Inv X pins σ H s → Vals xs us → r xs H Q →
    wpAny (model X.prog X.w) X.A (call f us) (EP X pins σ Q) X.xe s
def tOp (r : R2) (ta tb : TE) : TE := fun σ H Q => ta σ H fun x H1 => tb σ H1 fun y H2 => r x y H2 Q
def tUn (r : V → Hp → VK → Prop) (ta : TE) : TE := fun σ H Q => ta σ H fun x H1 => r x H1 Q
def rI (C : Int → Int → Prop) (g : Int → Int → V) : R2 := fun x y H Q => ∃ i j, x = .int i ∧ y = .int j ∧ C i j ∧ Q (g i j) H
def rI0 (g : Int → Int → V) : R2 := fun x y H Q => ∃ i j, x = .int i ∧ y = .int j ∧ Q (g i j) H
def rU (g : Int → V) : V → Hp → VK → Prop := fun x H Q => ∃ i, x = .int i ∧ Q (g i) H
section
variable {X : Cx} {a b c : Expr} {ta tb tc : TE} {pos : Pos}
theorem binT (ha : PE X a ta) (hb : PE X b tb) {pins : List (Addr × Obj)} {s : Shared} {σ : St} {H : Hp} {R : V → V → Hp → Prop} (I : Inv X pins σ H s)
    (h : ta σ H fun x H1 => tb σ H1 fun y H2 => R x y H2) {Q : Value → Shared → Prop} {f : Value → Value → Sem Value}
    (hf : ∀ v u s2 x y H2, Inv X pins σ H2 s2 → RelV x v → RelV y u → R x y H2 → wpAny (model X.prog X.w) X.A (f v u) Q X.xe s2) :
    wpAny (model X.prog X.w) X.A (eval a X.env) (fun v s₁ => wpAny (model X.prog X.w) X.A (eval b X.env) (fun u s₂ => wpAny (model X.prog X.w) X.A (f v u) Q X.xe s₂) X.xe s₁) X.xe s := by
  refine thn (ha pins s σ H _ I h) fun v s1 ⟨x, H1, I1, r1, q1⟩ => ?_
  refine thn (hb pins s1 σ H1 _ I1 q1) fun u s2 ⟨y, H2, I2, r2, q2⟩ => ?_
  exact hf v u s2 x y H2 I2 r1 r2 q2
theorem pe_op {op : Operator} {r : R2} (ho : OpR X (binaryOp op) r) (ha : PE X a ta) (hb : PE X b tb) : PE X (.BinOp a op b pos) (tOp r ta tb) := by
  intro pins s σ H Q I h
  exact wpAny_BinOp (binT ha hb I h fun v u s2 x y H2 I2 rx ry q => ho pins s2 σ H2 x y v u Q I2 rx ry q)
theorem pe_un {op : UnaryOp} {r : V → Hp → VK → Prop} (ho : UnR X (unaryOp op) r) (ha : PE X a ta) : PE X (.UnaryOp op a pos) (tUn r ta) := by
  intro pins s σ H Q I h
  exact UnaryOp_ (thn (ha pins s σ H _ I h) fun v s1 ⟨x, H1, I1, r1, q1⟩ => ho pins s1 σ H1 x v Q I1 r1 q1)
theorem opI {f : Value → Value → Sem Value} {C : Int → Int → Prop} {g : Int → Int → Int}
    (rule : ∀ (i j : Int) (t u : Tok) (s : Shared) (Q : Value → Shared → Prop) (E : Value → Shared → Prop), C i j → Q (.int (g i j) s.toks) { s with toks := s.toks + 1 } → wpAny (model X.prog X.w) X.A (f (.int i t) (.int j u)) Q E s) :
    OpR X f (rI C fun i j => .int (g i j)) := by
  intro pins s σ H x y v u Q I rx ry h
  obtain ⟨i, j, rfl, rfl, hc, q⟩ := h
  obtain ⟨t, rfl⟩ := rx
  obtain ⟨t', rfl⟩ := ry
  exact rule i j t t' s _ _ hc ⟨.int (g i j), H, I.tok _, ⟨_, rfl⟩, q⟩
theorem opI0 {f : Value → Value → Sem Value} {g : Int → Int → Int}
    (rule : ∀ (i j : Int) (t u : Tok) (s : Shared) (Q : Value → Shared → Prop) (E : Value → Shared → Prop), Q (.int (g i j) s.toks) { s with toks := s.toks + 1 } → wpAny (model X.prog X.w) X.A (f (.int i t) (.int j u)) Q E s) :
    OpR X f (rI0 fun i j => .int (g i j)) := by
  intro pins s σ H x y v u Q I rx ry h
  obtain ⟨i, j, rfl, rfl, q⟩ := h
  obtain ⟨t, rfl⟩ := rx
  obtain ⟨t', rfl⟩ := ry
  exact rule i j t t' s _ _ ⟨.int (g i j), H, I.tok _, ⟨_, rfl⟩, q⟩
theorem opB0 {f : Value → Value → Sem Value} {g : Int → Int → Bool}
    (rule : ∀ (i j : Int) (t u : Tok) (s : Shared) (Q : Value → Shared → Prop) (E : Value → Shared → Prop), Q (.bool (g i j)) s → wpAny (model X.prog X.w) X.A (f (.int i t) (.int j u)) Q E s) :
    OpR X f (rI0 fun i j => .bl (g i j)) := by
  intro pins s σ H x y v u Q I rx ry h
  obtain ⟨i, j, rfl, rfl, q⟩ := h
  obtain ⟨t, rfl⟩ := rx
  obtain ⟨t', rfl⟩ := ry
  exact rule i j t t' s _ _ ⟨.bl (g i j), H, I, rfl, q⟩
def CPow (i j : Int) : Prop := 0 ≤ j ∧ j ≤ 1000000 ∧ i.natAbs < 2 ^ 64
def CMul (i j : Int) : Prop := (-(2 ^ 64) < i ∧ i < 2 ^ 64) ∨ (-(2 ^ 64) < j ∧ j < 2 ^ 64)
theorem CMul.ok {i j : Int} (h : CMul i j) : IntMulOk i j := by
  rcases h with ⟨h1, h2⟩ | ⟨h1, h2⟩
  · exact .of_left (intBits_le_64 h1 h2)
  · exact .of_right (intBits_le_64 h1 h2)
theorem op_add : OpR X (binaryOp .Add) (rI0 fun i j => .int (i + j)) := opI0 fun _ _ _ _ _ _ _ q => add_int q
theorem op_sub : OpR X (binaryOp .Sub) (rI0 fun i j => .int (i - j)) := opI0 fun _ _ _ _ _ _ _ q => sub_int q
theorem op_mod : OpR X (binaryOp .Mod) (rI (fun _ j => 0 < j) fun i j => .int (i % j)) := opI fun i j _ _ _ _ _ hc q => by
  have h1 : (0 : Int) < j := hc
  exact mod_int' (by omega) (by rw [Int.fmod_eq_emod_of_nonneg i (by omega)]; exact q)
theorem op_pow : OpR X (binaryOp .Pow) (rI CPow fun i j => .int (i ^ j.toNat)) := opI fun _ _ _ _ _ _ _ hc q => pow_int_small hc.1 hc.2.1 hc.2.2 q
theorem unI {f : Value → Sem Value} {g : Int → Int}
    (rule : ∀ (i : Int) (t : Tok) (s : Shared) (Q : Value → Shared → Prop) (E : Value → Shared → Prop), Q (.int (g i) s.toks) { s with toks := s.toks + 1 } → wpAny (model X.prog X.w) X.A (f (.int i t)) Q E s) :
    UnR X f (rU fun i => .int (g i)) := by
  intro pins s σ H x v Q I rx h
  obtain ⟨i, rfl, q⟩ := h
  obtain ⟨t, rfl⟩ := rx
  exact rule i t s _ _ ⟨.int (g i), H, I.tok _, ⟨_, rfl⟩, q⟩
theorem un_neg : UnR X (unaryOp .USub) (rU fun i => .int (-i)) := unI fun _ _ _ _ _ q => neg_int q
end
def scal : V → V → Bool
  | .non, .non => true | .non, .int _ => true | .int _, .non => true | .non, .bl _ => true | .bl _, .non => true | .non, .str _ => true | .str _, .non => true
  | .int _, .int _ => true | .bl _, .bl _ => true | .str _, .str _ => true | .byt _, .byt _ => true
  | .int _, .str _ => true | .str _, .int _ => true | .bl _, .str _ => true | .str _, .bl _ => true
  | _, _ => false
def rEq : R2 := fun x y H Q => scal x y = true ∧ Q (.bl (decide (x = y))) H
def rNe : R2 := fun x y H Q => scal x y = true ∧ Q (.bl (!decide (x = y))) H
theorem dec_int {i j : Int} : decide (V.int i = V.int j) = (i == j) := by
  rw [Bool.eq_iff_iff]
  simp
theorem dec_bl {i j : Bool} : decide (V.bl i = V.bl j) = (i == j) := by
  rw [Bool.eq_iff_iff]
  simp
theorem dec_str {i j : Str} : decide (V.str i = V.str j) = (i == j) := by
  rw [Bool.eq_iff_iff]
  simp
theorem dec_byt {i j : Array UInt8} : decide (V.byt i = V.byt j) = (i.toList == j.toList) := by
  rw [Bool.eq_iff_iff]
  cases i
  cases j
  simp
section
variable {X : Cx} {a b c : Expr} {ta tb tc : TE} {pos : Pos}
theorem fin_bl {pins : List (Addr × Obj)} {σ : St} {H : Hp} {s : Shared} {Q : VK} {k k' : Bool} (I : Inv X pins σ H s) (q : Q (.bl k) H) (e : k = k') : EP X pins σ Q (.bool k') s := by
  subst e
  exact ⟨.bl k, H, I, rfl, q⟩
theorem op_eq : OpR X (compareOp .Eq) rEq := by
  intro pins s σ H x y v u Q I rx ry h
  obtain ⟨hs, q⟩ := h
  cases x with
  | non =>
    cases rx
    cases y with
    | non => cases ry; exact PySem.EqNone.eq_none_none (fin_bl I q (by simp))
    | bl j => cases ry; exact PySem.EqNone.eq_none_bool (fin_bl I q (by simp))
    | int j => obtain ⟨t', rfl⟩ := ry; exact PySem.EqNone.eq_none_int (fin_bl I q (by simp))
    | str j => obtain ⟨t', rfl⟩ := ry; exact PySem.EqNone.eq_none_str (fin_bl I q (by simp))
    | _ => exact absurd (show false = true from hs) Bool.false_ne_true
  | bl i =>
    cases rx
    cases y with
    | non => cases ry; exact PySem.EqNone.eq_bool_none (fin_bl I q (by simp))
    | bl j => cases ry; exact eq_bool (fin_bl I q dec_bl)
    | str j => obtain ⟨t', rfl⟩ := ry; exact PySem.EqMixed.eq_bool_str (fin_bl I q (by simp))
    | _ => exact absurd (show false = true from hs) Bool.false_ne_true
  | int i =>
    obtain ⟨t, rfl⟩ := rx
    cases y with
    | non => cases ry; exact PySem.EqNone.eq_int_none (fin_bl I q (by simp))
    | int j => obtain ⟨t', rfl⟩ := ry; exact eq_int (fin_bl I q dec_int)
    | str j => obtain ⟨t', rfl⟩ := ry; exact PySem.EqMixed.eq_int_str (fin_bl I q (by simp))
    | _ => exact absurd (show false = true from hs) Bool.false_ne_true
  | str i =>
    obtain ⟨t, rfl⟩ := rx
    cases y with
    | non => cases ry; exact PySem.EqNone.eq_str_none (fin_bl I q (by simp))
    | bl j => cases ry; exact PySem.EqMixed.eq_str_bool (fin_bl I q (by simp))
    | int j => obtain ⟨t', rfl⟩ := ry; exact PySem.EqMixed.eq_str_int (fin_bl I q (by simp))
    | str j => obtain ⟨t', rfl⟩ := ry; exact eq_str (fin_bl I q dec_str)
    | _ => exact absurd (show false = true from hs) Bool.false_ne_true
  | byt i =>
    obtain ⟨t, rfl⟩ := rx
    cases y with
    | byt j => obtain ⟨t', rfl⟩ := ry; exact PySem.W.eq_bytes (fin_bl I q dec_byt)
    | _ => exact absurd (show false = true from hs) Bool.false_ne_true
  | _ => cases y <;> exact absurd (show false = true from hs) Bool.false_ne_true
theorem op_ne : OpR X (compareOp .NotEq) rNe := by
  intro pins s σ H x y v u Q I rx ry h
  obtain ⟨hs, q⟩ := h
  cases x with
  | non =>
    cases rx
    cases y with
    | non => cases ry; exact PySem.EqNone.ne_none_none (fin_bl I q (by simp))
    | bl j => cases ry; exact PySem.EqNone.ne_none_bool (fin_bl I q (by simp))
    | int j => obtain ⟨t', rfl⟩ := ry; exact PySem.EqNone.ne_none_int (fin_bl I q (by simp))
    | str j => obtain ⟨t', rfl⟩ := ry; exact PySem.EqNone.ne_none_str (fin_bl I q (by simp))
    | _ => exact absurd (show false = true from hs) Bool.false_ne_true
  | bl i =>
    cases rx
    cases y with
    | non => cases ry; exact PySem.EqNone.ne_bool_none (fin_bl I q (by simp))
    | bl j => cases ry; exact ne_bool (fin_bl I q (congrArg not dec_bl))
    | str j => obtain ⟨t', rfl⟩ := ry; exact PySem.EqMixed.ne_bool_str (fin_bl I q (by simp))
    | _ => exact absurd (show false = true from hs) Bool.false_ne_true
  | int i =>
    obtain ⟨t, rfl⟩ := rx
    cases y with
    | non => cases ry; exact PySem.EqNone.ne_int_none (fin_bl I q (by simp))
    | int j => obtain ⟨t', rfl⟩ := ry; exact ne_int (fin_bl I q (congrArg not dec_int))
    | str j => obtain ⟨t', rfl⟩ := ry; exact PySem.EqMixed.ne_int_str (fin_bl I q (by simp))
    | _ => exact absurd (show false = true from hs) Bool.false_ne_true
  | str i =>
    obtain ⟨t, rfl⟩ := rx
    cases y with
    | non => cases ry; exact PySem.EqNone.ne_str_none (fin_bl I q (by simp))
    | bl j => cases ry; exact PySem.EqMixed.ne_str_bool (fin_bl I q (by simp))
    | int j => obtain ⟨t', rfl⟩ := ry; exact PySem.EqMixed.ne_str_int (fin_bl I q (by simp))
    | str j => obtain ⟨t', rfl⟩ := ry; exact ne_str (fin_bl I q (congrArg not dec_str))
    | _ => exact absurd (show false = true from hs) Bool.false_ne_true
  | byt i =>
    obtain ⟨t, rfl⟩ := rx
    cases y with
    | byt j => obtain ⟨t', rfl⟩ := ry; exact PySem.W.ne_bytes (fin_bl I q (congrArg not dec_byt))
    | _ => exact absurd (show false = true from hs) Bool.false_ne_true
  | _ => cases y <;> exact absurd (show false = true from hs) Bool.false_ne_true
theorem op_lt : OpR X (compareOp .Lt) (rI0 fun i j => .bl (decide (i < j))) := opB0 fun _ _ _ _ _ _ _ q => lt_int q
theorem op_le : OpR X (compareOp .LtE) (rI0 fun i j => .bl (decide (i ≤ j))) := opB0 fun _ _ _ _ _ _ _ q => le_int q
theorem op_gt : OpR X (compareOp .Gt) (rI0 fun i j => .bl (decide (j < i))) := opB0 fun _ _ _ _ _ _ _ q => gt_int q
theorem op_ge : OpR X (compareOp .GtE) (rI0 fun i j => .bl (decide (j ≤ i))) := opB0 fun _ _ _ _ _ _ _ q => ge_int q
theorem nomark (b : Expr) {op : CmpOp} (h : op ≠ .In := by decide) (h2 : op ≠ .NotIn := by decide) : behindInMarks op b = false := by
  have e1 : (op == CmpOp.In) = false := by cases op <;> first | rfl | exact absurd rfl h
  have e2 : (op == CmpOp.NotIn) = false := by cases op <;> first | rfl | exact absurd rfl h2
  cases b <;> simp [behindInMarks, e1, e2]
theorem pe_cmpR {op : CmpOp} {r : R2} (ho : OpR X (compareOp op) r) (ha : PE X a ta) (hb : PE X b tb) (hm : behindInMarks op b = false) : PE X (.Compare a [op] [b] pos) (tOp r ta tb) := by
  intro pins s σ H Q I h
  exact wpAny_Compare1 (binT ha hb I h fun v u s2 x y H2 I2 rx ry q => ho pins s2 σ H2 x y v u Q I2 rx ry q) hm
def tTest (t : TE) : TT := fun σ H Q => t σ H fun x H' => ∃ k, x = .bl k ∧ Q k H'
theorem pt_cmpR {op : CmpOp} {r : R2} (ho : OpR X (compareOp op) r) (ha : PE X a ta) (hb : PE X b tb) (hm : behindInMarks op b = false) : PT X (.Compare a [op] [b] pos) (tTest (tOp r ta tb)) := by
  intro pins s σ H Q I h
  refine wpAny_isTrue_Compare1 (thn (ha pins s σ H _ I h) fun v s1 ⟨x, H1, I1, r1, q1⟩ => thn (hb pins s1 σ H1 _ I1 q1) fun u s2 ⟨y, H2, I2, r2, q2⟩ =>
    thn (ho pins s2 σ H2 x y v u _ I2 r1 r2 q2) fun c s3 ⟨z, H3, I3, r3, k, e, q3⟩ => ?_) hm
  subst e
  cases r3
  exact wpAny_truthy_bool ⟨H3, I3, q3⟩
def tChain (r r' : R2) (ta tb tc : TE) : TE := fun σ H Q => ta σ H fun x H1 => tb σ H1 fun y H2 => r x y H2 fun z H3 => ∃ k, z = .bl k ∧
  (if k = true then tc σ H3 fun w' H4 => r' y w' H4 Q else Q (.bl false) H3)
theorem pe_chain {op op' : CmpOp} {r r' : R2} (ho : OpR X (compareOp op) r) (ho' : OpR X (compareOp op') r') (ha : PE X a ta) (hb : PE X b tb) (hc : PE X c tc)
    (hm : lastMarks [op, op'] [b, c] = false := by with_unfolding_all rfl) : PE X (.Compare a [op, op'] [b, c] pos) (tChain r r' ta tb tc) := by
  intro pins s σ H Q I h
  refine Compare_chain (thn (ha pins s σ H _ I h) fun v s1 ⟨x, H1, I1, r1, q1⟩ => chain_link (thn (hb pins s1 σ H1 _ I1 q1) fun u s2 ⟨y, H2, I2, r2, q2⟩ =>
    thn (ho pins s2 σ H2 x y v u _ I2 r1 r2 q2) fun d s3 ⟨z, H3, I3, r3, k, e, q3⟩ => ?_)) hm
  subst e
  cases r3
  refine wpAny_truthy_bool ?_
  cases k with
  | false => exact ite_ff ⟨.bl false, H3, I3, rfl, q3⟩
  | true => exact ite_tt (chain_last (thn (hc pins s3 σ H3 _ I3 q3) fun w' s4 ⟨z', H4, I4, r4, q4⟩ => ho' pins s4 σ H4 y z' u w' Q I4 r2 r4 q4))
theorem line63 : (sizeLine : Nat) < 2 ^ 63 := by rw [sizeLine_eq]; decide
theorem vals1 {x : V} {us : List Value} (r : Vals [x] us) : ∃ u, us = [u] ∧ RelV x u := by
  cases r with
  | cons r1 r2 => cases r2; exact ⟨_, rfl, r1⟩
theorem vals2 {x y : V} {us : List Value} (r : Vals [x, y] us) : ∃ u w', us = [u, w'] ∧ RelV x u ∧ RelV y w' := by
  cases r with
  | cons r1 r2 =>
    cases r2 with
    | cons r3 r4 => cases r4; exact ⟨_, _, rfl, r1, r3⟩
theorem call_abs : CallR X (.builtin "abs") (fun xs H Q => ∃ i, xs = [.int i] ∧ Q (.int (if i < 0 then -i else i)) H) := by
  intro pins s σ H xs us Q I r h
  obtain ⟨i, rfl, q⟩ := h
  obtain ⟨u, rfl, t, rfl⟩ := vals1 r
  exact call_abs_int fun u tk => ⟨.int (if i < 0 then -i else i), H, I.tok _, ⟨_, rfl⟩, q⟩
theorem call_max2 (hc : X.calm = true) : CallR X (.builtin "max") (fun xs H Q => ∃ i j, xs = [.int i, .int j] ∧ Q (.int (if j > i then j else i)) H) := by
  intro pins s σ H xs us Q I r h
  obtain ⟨i, j, rfl, q⟩ := h
  obtain ⟨u, w', rfl, ⟨t, rfl⟩, ⟨t', rfl⟩⟩ := vals2 r
  refine max_two_ints (I.ok.hd hc) fun h' tk k => ⟨_, H, I.kept k, ?_, q⟩
  by_cases hj : j > i
  · rw [if_pos hj, if_pos hj]; exact ⟨_, rfl⟩
  · rw [if_neg hj, if_neg hj]; exact ⟨_, rfl⟩
theorem call_min2 (hc : X.calm = true) : CallR X (.builtin "min") (fun xs H Q => ∃ i j, xs = [.int i, .int j] ∧ Q (.int (if j < i then j else i)) H) := by
  intro pins s σ H xs us Q I r h
  obtain ⟨i, j, rfl, q⟩ := h
  obtain ⟨u, w', rfl, ⟨t, rfl⟩, ⟨t', rfl⟩⟩ := vals2 r
  refine min_two_ints (I.ok.hd hc) fun h' tk k => ⟨_, H, I.kept k, ?_, q⟩
  by_cases hj : j < i
  · rw [if_pos hj, if_pos hj]; exact ⟨_, rfl⟩
  · rw [if_neg hj, if_neg hj]; exact ⟨_, rfl⟩
end
end L2
namespace L2
open PySem PySem.Spec PyProof.Rows
structure ObjM (h : Heap) (x dx C : Addr) (mA : Str → Option Value) : Prop where
  obj : h.get? x = some (PySem.W.instObj C dx)
  ns : h.Ns1 dx mA
  ne : dx ≠ x
theorem lookIn_ns {h : Heap} {dx : Addr} {mA : Str → Option Value} (n : h.Ns1 dx mA) : ∃ od, h.get? dx = some od ∧ ∀ name, PySem.W.lookIn name od = some (mA name) := by
  obtain ⟨o, es, ep, ho, hd, hk, _, hm⟩ := n
  refine ⟨o, ho, fun name => ?_⟩
  have e := hm name
  unfold nsFind findBy at e
  rw [← Array.find?_toList] at e
  unfold PySem.W.lookIn
  rw [hd]
  dsimp only
  split
  · rename_i y q
    rw [q] at e
    exact congrArg some e
  · rename_i q
    rw [q] at e
    have a : es.toList.any (·.refKey) = false := by
      rw [List.any_eq_false]
      intro y hy
      obtain ⟨z, t, hkey⟩ := hk y (Array.mem_toList_iff.mp hy)
      simp [DictEntry.refKey, hkey]
    have a' : ¬ es.toList.any (·.refKey) = true := by rw [a]; exact Bool.false_ne_true
    rw [if_neg a']
    exact congrArg some e
theorem ObjM.look {h : Heap} {x dx C : Addr} {mA : Str → Option Value} (I : ObjM h x dx C mA) : ∃ od, PySem.W.InstAt h x (PySem.W.instObj C dx) C (some od) ∧ ∀ name, PySem.W.lookIn name od = some (mA name) :=
  let ⟨od, ho, hl⟩ := lookIn_ns I.ns
  ⟨od, ⟨I.obj, rfl, rfl, ho⟩, hl⟩
section
variable {prog : Program} {w : World} {A : Around} {E : Value → Shared → Prop} {s : Shared} {K : PySem.W.Frag} {x dx C f : Addr} {mA : Str → Option Value} {name : Str} {v : Value}
end
theorem RelO.some_of {v : V} {o : Option Value} (r : RelO (some v) o) : ∃ u, o = some u ∧ RelV v u := by
  cases o with
  | none => exact (show False from r).elim
  | some u => exact ⟨u, rfl, r⟩
theorem handed_of {v : V} {u : Value} (r : RelV v u) : PySem.W.handedIn u = true := by
  cases v with
  | non => cases (show u = Value.none from r); rfl
  | bl b => cases (show u = Value.bool b from r); rfl
  | int i => obtain ⟨t, e⟩ := (show ∃ t, u = Value.int i t from r); cases e; rfl
  | str x => obtain ⟨t, e⟩ := (show ∃ t, u = Value.str x t from r); cases e; rfl
  | byt b => obtain ⟨t, e⟩ := (show ∃ t, u = Value.bytes b t from r); cases e; rfl
  | flt b => obtain ⟨t, e⟩ := (show ∃ t, u = Value.float b t from r); cases e; rfl
  | ref a => cases (show u = Value.ref a from r); rfl
  | ty n => cases (show u = Value.type n from r); rfl
section
variable {P : Program} {w : World} {H H' : Hp} {h h' : Heap} {a C dx : Addr} {fs fs' : List (Str × V)}
theorem ins_get (hok : HOk P w H h) (e : H a = some (.ins C dx fs)) : ∃ mA, ObjM h a dx C mA ∧ (∀ f, RelO (fs.lookup f) (mA f)) ∧ PySem.Within mA (fs.map (·.1)) ∧ fs.length ≤ 1000 ∧ H dx = some (.own a) := by
  obtain ⟨d, z, ne, ob, mA, n, r, q⟩ := (show ObjOk P w H h a (.ins C dx fs) from hok a _ e)
  exact ⟨mA, ⟨ob, n, ne⟩, r, q, z, d⟩
end
structure Cls (K : PySem.W.Frag) (C : Addr) : Prop where
  pg : PySem.W.plainGet K C Str.empty = true
  hd : PySem.W.hasDictIn K C = true
  po : PySem.W.plainOver K C = true
  sa : PySem.W.findIn K (.ref C) "__setattr__" = some (some (.builtin "object.__setattr__"))
theorem Cls.get {K : PySem.W.Frag} {C : Addr} (c : Cls K C) (f : Str) : PySem.W.plainGet K C f = true := c.pg
structure Con (K : PySem.W.Frag) (C : Addr) (f : Str) (v : V) (u : Value) : Prop where
  at_ : PySem.W.findIn K (.ref C) f = some (some u)
  rel : RelV v u
  get : PySem.W.specialIn K u "__get__" = some none
  cp : PySem.W.copiedNames.contains f = false
structure Meth (K : PySem.W.Frag) (C : Addr) (m : Str) (f : Addr) : Prop where
  at_ : PySem.W.findIn K (.ref C) m = some (some (.ref f))
  fn : PySem.W.isFn K (.ref f) = true
  kp : PySem.W.keepIn K (.ref f) = true
section
variable {X : Cx} {pins : List (Addr × Obj)} {σ : St} {H : Hp} {s : Shared} {a C dx : Addr} {fs : List (Str × V)} {f : Str} {v : V} {A : Around} {E : Value → Shared → Prop}
theorem attr_of {prog : Program} {w : World} {env : Env} {e : Expr} {f : Str} {pos : Pos} {s : Shared} {Q : Value → Shared → Prop} (hb : attributeBase e f env (eval e env) = eval e env)
    (h : wpAny (model prog w) A (eval e env) (fun o s₁ => wpAny (model prog w) A (getAttr o f true) Q E s₁) E s) : wpAny (model prog w) A (eval (.Attribute e f pos) env) Q E s :=
  Attribute_any_ h (by rw [arm_eval_Attribute, hb])
end
section
variable {X : Cx} {o e value : Expr} {f : Str} {pos pos' tpos : Pos} {ta tv : TE}
end
section
variable {X : Cx} {pins : List (Addr × Obj)} {σ : St} {H : Hp} {s : Shared} {A : Around} {E : Value → Shared → Prop} {Q : Value → Shared → Prop} {c : Value} {b : Bool}
inductive TyOf (K : PySem.W.Frag) (H : Hp) : V → Value → Prop where
  | non : TyOf K H .non (.type "NoneType")
  | bl (x : Bool) : TyOf K H (.bl x) (.type "bool")
  | int (i : Int) : TyOf K H (.int i) (.type "int")
  | str (x : Str) : TyOf K H (.str x) (.type "str")
  | flt (x : UInt64) : TyOf K H (.flt x) (.type "float")
  | lst {a : Addr} {xs : List V} (e : H a = some (.lst xs)) : TyOf K H (.ref a) (.type "list")
  | frz {a : Addr} {o : Obj} {xs : List V} (e : H a = some (.frz o (.lst xs))) : TyOf K H (.ref a) (.type "list")
  | tup {a : Addr} {xs : List V} (e : H a = some (.tup xs)) : TyOf K H (.ref a) (.type "tuple")
  | dK {a : Addr} {kvs : List (Key × V)} (e : H a = some (.dK kvs)) : TyOf K H (.ref a) (.type "dict")
  | dT {a : Addr} {kvs : List (List Key × V)} (e : H a = some (.dT kvs)) : TyOf K H (.ref a) (.type "dict")
  | ins {a C dx : Addr} {fs : List (Str × V)} (e : H a = some (.ins C dx fs)) (cl : Cls K C) (ha : PySem.W.findIn K (.ref C) "__class__" = some (some (.builtin "object.__class__")))
      (hn : PySem.W.specialIn K (.builtin "object.__class__") "__get__" = some (some (.builtin "getset_descriptor.__get__"))) (htk : PySem.W.takesIn K (.builtin "object.__class__") = some true)
      (hm : PySem.W.mroIn K C (.type "object") = some true) : TyOf K H (.ref a) (.ref C)
end
end L2
namespace L2
open PySem PySem.Spec PyProof.Rows
structure Room (k : Nat) (A : Around) : Prop where
  hd : A.handled = none
  dp : A.depth + 3 * k + 5 < recursionLimit
  un : A.units + 16 * k + 200 < cLine
  gd : A.guards = some []
theorem Room.mono {j k : Nat} {A : Around} (r : Room k A) (h : j ≤ k) : Room j A := ⟨r.hd, by have := r.dp; omega, by have := r.un; omega, r.gd⟩
theorem Room.deeper {k : Nat} {A : Around} (r : Room (k + 1) A) (env : Env) : Room k (A.deeper env) :=
  ⟨r.hd, by have := r.dp; show A.depth + 1 + 3 * k + 5 < _; omega, by have := r.un; show A.units + 3 + 16 * k + 200 < _; omega, r.gd⟩
theorem Room.depth {k : Nat} {A : Around} (r : Room k A) : A.depth < recursionLimit := by have := r.dp; omega
def tNil : TA := fun _ H Q => Q [] H
def tCons (ta : TE) (tr : TA) : TA := fun σ H Q => ta σ H fun x H1 => tr σ H1 fun xs H2 => Q (x :: xs) H2
section
variable {X : Cx} {e : Expr} {es : List Expr} {te : TE} {t : TA} {pos : Pos}
theorem pa_nil : PA X [] tNil := fun _ _ _ _ H Q I h => Calls.spliced_nil ⟨[], H, I, .nil, h⟩
theorem pa_cons (ha : PE X e te) (hr : PA X es t) (hs : starEach (e :: es) X.env = (false, eval e X.env) :: starEach es X.env := by rfl) : PA X (e :: es) (tCons te t) := by
  intro pos pins s σ H Q I h
  rw [hs]
  show wpAny _ _ (spliced ((false, eval e X.env) :: backTo pos (starEach es X.env))) _ _ s
  refine Calls.spliced_cons (thn (ha pins s σ H _ I h) fun u s1 ⟨x, H1, I1, r1, q1⟩ => ?_)
  exact thn (hr pos pins s1 σ H1 _ I1 q1) fun us s2 ⟨xs, H2, I2, r2, q2⟩ => ⟨x :: xs, H2, I2, .cons r1 r2, q2⟩
def tTup (t : TA) : TE := fun σ H Q => t σ H fun xs H1 => xs.length ≤ sizeLine ∧ ∀ p, H1 p = none → Q (.ref p) (upd H1 p (.tup xs))
def tLst (t : TA) : TE := fun σ H Q => t σ H fun xs H1 => xs.length ≤ sizeLine ∧ ∀ p, H1 p = none → Q (.ref p) (upd H1 p (.lst xs))
theorem pe_tup {x1} (h : PA X es t) : PE X (.Tuple es x1 pos) (tTup t) := by
  intro pins s σ H Q I hq
  refine wpAny_Tuple_spliced (thn (h pos pins s σ H _ I hq) fun us s1 ⟨xs, H1, I1, r, z, q⟩ => ⟨by rw [← r.length]; exact z, ?_⟩)
  have hf : H1 s1.heap.objs.size = none := I1.hok.fresh (Nat.le_refl _)
  refine ⟨.ref s1.heap.objs.size, upd H1 s1.heap.objs.size (.tup xs), I1.laid (t' := s1.toks) (fun b u e => Heap.get?_push_of_some _ e) (Nat.le_refl _) ?_, rfl, q _ hf⟩
  exact ⟨z, us, r, ⟨_, Heap.get?_push_size _ rfl, rfl, _, rfl⟩⟩
theorem pe_lst (h : PA X es t) : PE X (.List es pos) (tLst t) := by
  intro pins s σ H Q I hq
  refine wpAny_List_spliced (thn (h pos pins s σ H _ I hq) fun us s1 ⟨xs, H1, I1, r, z, q⟩ => ⟨by rw [← r.length]; exact z, ?_⟩)
  have hf : H1 s1.heap.objs.size = none := I1.hok.fresh (Nat.le_refl _)
  refine ⟨.ref s1.heap.objs.size, upd H1 s1.heap.objs.size (.lst xs), I1.laid (t' := s1.toks) (fun b u e => Heap.get?_push_of_some _ e) (Nat.le_refl _) ?_, rfl, q _ hf⟩
  exact ⟨z, us, 0, r, Heap.get?_push_size _ rfl⟩
end
abbrev Sp := List V → Hp → VK → XK → Prop
abbrev CXT := List Env → Hp → Shared → XK → Value → Shared → Prop
structure Env0 (P : Program) (w : World) (K : PySem.W.Frag) (mg : Str → Option Value) (base : Heap) (A : Around) (outer : List Env) (s : Shared) (H : Hp) : Prop where
  frames : A.frames = some outer
  mod : Mod K mg base
  bs : ∀ b o, base.get? b = some o → s.heap.get? b = some o ∧ H b = none
  bsz : base.objs.size ≤ s.heap.objs.size
  funs : s.heap.FunFrames base outer
  frf : ∀ b ∈ frs outer, H b = none
  hok : HOk P w H s.heap
  bare : AllBare s.gens
def CE (outer : List Env) (P : Program) (w : World) (H : Hp) (s : Shared) (Q : VK) (u : Value) (s' : Shared) : Prop :=
  ∃ v H', s'.os = s.os ∧ AllBare s'.gens ∧ Un (frs outer) [] H H' s.heap s'.heap ∧ HOk P w H' s'.heap ∧ RelV v u ∧ Q v H'
def CR (CX : CXT) (outer : List Env) (P : Program) (w : World) (H : Hp) (s : Shared) (Q : VK) (E : XK) (r : Result) (s' : Shared) : Prop :=
  match r with
  | .ok (.ret u) => CE outer P w H s Q u s'
  | .ok _ => False
  | .error e => CX outer H s E e s'
structure FnOk (P : Program) (w : World) (K : PySem.W.Frag) (mg : Str → Option Value) (base : Heap) (CX : CXT) (k : Nat) (f : Addr) (fd : FuncData) (ps : List Str) (sp : Sp) : Prop where
  len : ∀ vs H Q E, sp vs H Q E → vs.length = ps.length
  run : ∀ (A : Around) (outer : List Env) (s : Shared) (H : Hp) (args : Args) (us : List Value) (vs : List V) (Q : VK) (E : XK), Room k A → Env0 P w K mg base A outer s H → BindsTo s fd args (ps.zip us) → Vals vs us → sp vs H Q E →
    codeAny (model P w) A (.call (.ref f) args) (CR CX outer P w H s Q E) s
theorem FnOk.mono {P : Program} {w : World} {K : PySem.W.Frag} {mg : Str → Option Value} {base : Heap} {CX : CXT} {j k : Nat} {f : Addr} {fd : FuncData} {ps : List Str} {sp : Sp} (F : FnOk P w K mg base CX j f fd ps sp) (h : j ≤ k) :
    FnOk P w K mg base CX k f fd ps sp := ⟨F.len, fun A outer s H args us vs Q E hr => F.run A outer s H args us vs Q E (hr.mono h)⟩
section
variable {X : Cx} {pins : List (Addr × Obj)} {σ : St} {H : Hp} {s s' : Shared}
theorem Inv.env0 (I : Inv X pins σ H s) : Env0 X.prog X.w X.K X.mg X.base X.A X.stack s H :=
  ⟨I.ok.frames, I.ok.mod, I.bs, Nat.le_trans I.ok.bsz I.sz, I.stack, I.stkFree, I.hok, I.bare⟩
theorem Inv.after {Q : VK} {u : Value} (I : Inv X pins σ H s) (h : CE X.stack X.prog X.w H s Q u s') : EP X pins σ Q u s' := by
  obtain ⟨v, H', os, bare, un, hok, r, q⟩ := h
  obtain ⟨hh, g, d, t, os'⟩ := s'
  obtain rfl : os' = s.os := os
  exact ⟨v, H', I.call (h' := hh) (g' := g) (d' := d) (t' := t) (ch := []) un hok bare (fun b z => absurd z (by simp)), r, q⟩
end
def tCall (sp : Sp) (dvs : List V) (E : XK) (t : TA) : TE := fun σ H Q => t σ H fun vs H1 => sp (vs ++ dvs) H1 Q E
def Binds (K : PySem.W.Frag) (fd : FuncData) (ps : List Str) (ds : List Value) : Prop :=
  ∀ (s : Shared) (us : List Value), K.In s.heap → (us ++ ds).length = ps.length → BindsTo s fd ⟨us, []⟩ (ps.zip (us ++ ds))
theorem Binds.all {K : PySem.W.Frag} {fd : FuncData} {ps : List Str} (h : ∀ us : List Value, us.length = ps.length → bindArgs fd ⟨us, []⟩ = pure (ps.zip us)) : Binds K fd ps [] := fun s us _ hl => by
  rw [List.append_nil] at hl ⊢
  exact .of_eq (h us hl)
def Passes (CX : CXT) (X : Cx) (E : XK) : Prop := ∀ (pins : List (Addr × Obj)) (σ : St) (H : Hp) (s : Shared) (e : Value) (s' : Shared), Inv X pins σ H s → CX X.stack H s E e s' → X.xe e s'
section
variable {X : Cx} {CX : CXT} {k : Nat} {f C : Addr} {fd : FuncData} {ps : List Str} {sp : Sp} {dvs : List V} {ds : List Value} {E : XK} {x m : Str} {p pos apos : Pos} {e o : Expr} {es : List Expr} {ta : TE} {t : TA}
theorem run_fn {pins : List (Addr × Obj)} {σ : St} {H : Hp} {s : Shared} {Q : VK} {us : List Value} {vs : List V} (F : FnOk X.prog X.w X.K X.mg X.base CX k f fd ps sp) (hr : Room k X.A) (hb : Binds X.K fd ps ds) (hd : Vals dvs ds) (hx : Passes CX X E)
    (I : Inv X pins σ H s) (r : Vals vs us) (h : sp (vs ++ dvs) H Q E) : wpAny (model X.prog X.w) X.A (call (.ref f) us) (EP X pins σ Q) X.xe s := by
  have r2 : Vals (vs ++ dvs) (us ++ ds) := r.append hd
  have hl : (us ++ ds).length = ps.length := by rw [← r2.length]; exact F.len _ _ _ _ h
  refine wpAny_call (codeAny_mono (F.run X.A X.stack s H ⟨us, []⟩ (us ++ ds) (vs ++ dvs) Q E hr I.env0 (hb s us I.kIn hl) r2 h) fun r s' hq => ?_)
  cases r with
  | error e => exact hx pins σ H s e s' I hq
  | ok fl =>
    cases fl with
    | ret u => exact I.after hq
    | next => exact False.elim hq
    | brk => exact False.elim hq
    | cont => exact False.elim hq
theorem pe_call (F : FnOk X.prog X.w X.K X.mg X.base CX k f fd ps sp) (hr : Room k X.A) (hg : Gl X x) (hm : X.mg x = some (.ref f)) (hk : PySem.W.keepIn X.K (.ref f) = true) (hb : Binds X.K fd ps ds) (hd : Vals dvs ds) (hx : Passes CX X E)
    (ha : PA X (e :: es) t) (hdb : (x == ("__debug__" : Str)) = false := by decide) (he : starEach (e :: es) X.env = (false, eval e X.env) :: starEach es X.env := by rfl) (hpl : (backTo pos (starEach es X.env)).any (·.1) = false := by rfl) :
    PE X (.Call (.Name x p) (e :: es) [] pos) (tCall sp dvs E t) := by
  intro pins s σ H Q I h
  refine wpAny_Call_Name_kw (ld_glob I hg hm ?_ hdb)
  refine PySem.W.callWith_K (h₀ := X.base) I.ok.mod.kin hk (thn (ha pos pins s σ H _ I h) fun us s1 ⟨vs, H1, I1, r, q⟩ => ⟨I1.kIn, ?_⟩) he hpl
  exact run_fn F hr hb hd hx I1 r q
structure Mk (K : PySem.W.Frag) (C f : Addr) : Prop where
  makes : PySem.W.makesIn K C = true
  init : PySem.W.findIn K (.ref C) "__init__" = some (some (.ref f))
  fn : PySem.W.isFn K (.ref f) = true
  kp : PySem.W.keepIn K (.ref C) = true
end
section
variable {X : Cx} {CX : CXT} {k : Nat} {f C : Addr} {fd : FuncData} {ps ks : List Str} {sp : Sp} {E : XK} {x m : Str} {p pos apos kpos : Pos} {e o : Expr} {es : List Expr} {kws : List Keyword} {te ta : TE} {t tk : TA} {nm : Option Str}
structure KBinds (K : PySem.W.Frag) (fd : FuncData) (ps ks : List Str) (g : List Value → List Value → List Value) (gV : List V → List V → List V) : Prop where
  to : ∀ (s : Shared) (us ws : List Value), K.In s.heap → (g us ws).length = ps.length → BindsTo s fd ⟨us, ks.zip ws⟩ (ps.zip (g us ws))
  rel : ∀ {vs : List V} {us : List Value} {zs : List V} {ws : List Value}, Vals vs us → Vals zs ws → Vals (gV vs zs) (g us ws)
variable {g : List Value → List Value → List Value} {gV : List V → List V → List V}
end
structure FnScope (N P : List Str) (sc : Scope) : Prop where
  kind : sc.kind = .function
  co : sc.isCoroutine = false
  gen : sc.isGenerator = false
  nd : N.Nodup
  pre : N.take P.length = P
  par : ∀ x ∈ P, sc.names.lookup x = some .local ∨ sc.names.lookup x = some .cell
  nofree : ∀ y ∈ sc.names, y.2 ≠ .free
theorem bindL_out {kindOf : Str → Option NameKind} {x : Str} : ∀ {binds : List (Str × Value)} {m : Str → Option Value}, (∀ v, (x, v) ∉ binds) → bindL kindOf binds m x = m x
  | [], _, _ => rfl
  | (n, v) :: r, m, h => by
    unfold bindL
    rw [bindL_out fun w hw => h w (List.mem_cons_of_mem _ hw)]
    split
    · have : x ≠ n := by rintro rfl; exact h v List.mem_cons_self
      simp [this]
    · rfl
theorem bindC_out {kindOf : Str → Option NameKind} {x : Str} : ∀ {binds : List (Str × Value)} {m : Str → Option Value}, (∀ v, (x, v) ∉ binds) → bindC kindOf binds m x = m x
  | [], _, _ => rfl
  | (n, v) :: r, m, h => by
    unfold bindC
    rw [bindC_out fun w hw => h w (List.mem_cons_of_mem _ hw)]
    split
    · rfl
    · have : x ≠ n := by rintro rfl; exact h v List.mem_cons_self
      simp [this]
theorem bindL_get {kindOf : Str → Option NameKind} {x : Str} {v : Value} : ∀ {P : List Str} {vs : List Value} {i : Nat} {m : Str → Option Value}, P.Nodup → P[i]? = some x → vs[i]? = some v → kindOf x = some .local →
    bindL kindOf (P.zip vs) m x = some v
  | [], _, _, _, _, h, _, _ => by simp at h
  | _ :: _, [], _, _, _, _, h, _ => by simp at h
  | p :: P, w :: vs, 0, m, nd, h1, h2, hk => by
    simp at h1 h2; subst h1; subst h2
    show bindL kindOf ((p, w) :: P.zip vs) m p = _
    unfold bindL
    rw [bindL_out fun v hv => (List.nodup_cons.mp nd).1 (List.of_mem_zip hv).1, if_pos hk]
    simp
  | p :: P, w :: vs, i + 1, m, nd, h1, h2, hk => by
    show bindL kindOf ((p, w) :: P.zip vs) m x = _
    unfold bindL
    exact bindL_get (i := i) (List.nodup_cons.mp nd).2 (by simpa using h1) (by simpa using h2) hk
theorem bindC_get {kindOf : Str → Option NameKind} {x : Str} {v : Value} : ∀ {P : List Str} {vs : List Value} {i : Nat} {m : Str → Option Value}, P.Nodup → P[i]? = some x → vs[i]? = some v → kindOf x ≠ some .local →
    bindC kindOf (P.zip vs) m x = some v
  | [], _, _, _, _, h, _, _ => by simp at h
  | _ :: _, [], _, _, _, _, h, _ => by simp at h
  | p :: P, w :: vs, 0, m, nd, h1, h2, hk => by
    simp at h1 h2; subst h1; subst h2
    show bindC kindOf ((p, w) :: P.zip vs) m p = _
    unfold bindC
    rw [bindC_out fun v hv => (List.nodup_cons.mp nd).1 (List.of_mem_zip hv).1, if_neg hk]
    simp
  | p :: P, w :: vs, i + 1, m, nd, h1, h2, hk => by
    show bindC kindOf ((p, w) :: P.zip vs) m x = _
    unfold bindC
    exact bindC_get (i := i) (List.nodup_cons.mp nd).2 (by simpa using h1) (by simpa using h2) hk
def start (N : List Str) (vs : List V) : St := vs.map some ++ List.replicate (N.length - vs.length) none
def cxOf (CX : CXT) (P : Program) (w : World) (K : PySem.W.Frag) (mg : Str → Option Value) (base : Heap) (N : List Str) (qual : Str) (scope : Scope) (f : Addr) (cd : Value) (A : Around) (outer : List Env) (s : Shared) (H : Hp) (E : XK) : Cx where
  prog := P
  w := w
  K := K
  mg := mg
  base := base
  A := A.deeper (envOfC qual scope s.heap.objs.size f cd)
  N := N
  s₀ := s
  H₀ := H
  env := envOfC qual scope s.heap.objs.size f cd
  outer := outer
  stack := envOfC qual scope s.heap.objs.size f cd :: outer
  ex := []
  calm := true
  fn := fun _ => true
  pn := []
  xe := fun e s' => wpAny (model P w) (A.deeper (envOfC qual scope s.heap.objs.size f cd)) (leaving (envOfC qual scope s.heap.objs.size f cd) e) (fun _ s'' => CX outer H s E e s'') (fun e' s'' => CX outer H s E e' s'') s'
theorem cell_has {sc : Scope} {n : Nat} {x : Str} (h : sc.names.lookup x = some .cell) : ∃ c, (cellsFrom n sc.names []).lookup x = some c := by
  have q := PySem.W.cellsFrom_some sc.names n [] (.inl h)
  exact Option.isSome_iff_exists.mp q
theorem inv_start {CX : CXT} {P : Program} {w : World} {K : PySem.W.Frag} {mg : Str → Option Value} {base : Heap} {N ps : List Str} {qual : Str} {scope : Scope} {f : Addr} {cd : Value} {A : Around} {outer : List Env} {s s1 : Shared} {H : Hp} {E : XK} {us : List Value} {vs : List V}
    (S : FnScope N ps scope) (hd : A.handled = none) (e0 : Env0 P w K mg base A outer s H) (hl : vs.length = ps.length) (r : Vals vs us)
    (x : InCallC s s.heap.objs.size (bindL (envOfC qual scope s.heap.objs.size f cd).kindOf (ps.zip us) fun _ => none) (cellsFrom (s.heap.objs.size + 1) scope.names []) (bindC (envOfC qual scope s.heap.objs.size f cd).kindOf (ps.zip us) fun _ => none) s1) :
    Inv (cxOf CX P w K mg base N qual scope f cd A outer s H E) [] (start N vs) H s1 := by
  have hpl : ps.length ≤ N.length := by have := congrArg List.length S.pre; rw [List.length_take] at this; omega
  obtain ⟨h1, tk, rfl, hk⟩ := x.done
  have noA : ∀ b : Addr, b ∉ (cxOf CX P w K mg base N qual scope f cd A outer s H E).ex := fun b z => absurd (show b ∈ ([] : List Addr) from z) (by simp)
  refine ⟨⟨e0.mod, S.kind, rfl, rfl, Nat.le_refl _, fun y z c h1 h2 => ?_, fun y hy => ?_, fun y c _ h => ?_, fun _ => hd, Around.frames_deeper e0.frames, .inr ⟨rfl, rfl⟩, fun b z => absurd z (noA b), e0.bs, e0.bsz, fun b _ _ => noA b, fun b z => absurd z (noA b), e0.funs, e0.frf⟩,
    rfl, e0.bare, Un.kept hk, ⟨_, x.toInCall.ns, fun i y v h1 h2 h3 => ?_⟩, fun y c h => ⟨_, x.cell y c h⟩, e0.hok.fresh (Nat.le_refl _), fun y c h => ?_, fun p hp => absurd (show p ∈ ([] : List (Addr × Obj)) from hp) (by simp), e0.hok.kept hk, ?_⟩
  · exact name_of_addr x.apart (PySem.mem_of_lookup h1) (PySem.mem_of_lookup h2)
  · have hy : scope.names.lookup y = some .cell ∨ scope.names.lookup y = some .free := hy
    rcases hy with hy | hy
    · exact cell_has hy
    · exact absurd rfl (S.nofree _ (PySem.mem_of_lookup hy))
  · exact Nat.le_of_lt (x.above y c (PySem.mem_of_lookup h))
  · have hi : i < vs.length := by
      unfold start at h2
      by_cases hi : i < vs.length
      · exact hi
      · rw [List.getElem?_append_right (by simpa using hi)] at h2
        rw [List.getElem?_replicate] at h2
        split at h2 <;> cases h2
    have ha : vs[i]? = some v := by
      unfold start at h2
      rw [List.getElem?_append_left (by simpa using hi), List.getElem?_map] at h2
      cases e : vs[i]? with
      | none => rw [e] at h2; cases h2
      | some a => rw [e] at h2; cases h2; rfl
    obtain ⟨u, hu, rv⟩ := r.get ha
    have hp : ps[i]? = some y := by
      rw [← S.pre, List.getElem?_take_of_lt (by omega)]; exact h1
    have ndP : ps.Nodup := by rw [← S.pre]; exact S.nd.sublist (List.take_sublist _ _)
    refine ⟨u, rv, ?_⟩
    rcases S.par y (List.mem_of_getElem? hp) with k | k
    · exact .inl ⟨k, bindL_get ndP hp hu k⟩
    · obtain ⟨c, e⟩ := cell_has (n := s.heap.objs.size + 1) k
      refine .inr ⟨.inl k, c, e, ?_⟩
      have q := x.cell y c e
      rw [bindC_get ndP hp hu (by show scope.names.lookup y ≠ _; rw [k]; decide)] at q
      exact q
  · exact e0.hok.fresh (Nat.le_of_lt (x.above y c (PySem.mem_of_lookup h)))
  · unfold start
    show _ = N.length
    rw [List.length_append, List.length_map, List.length_replicate]
    omega
theorem fn_of {CX : CXT} {P : Program} {w : World} {K : PySem.W.Frag} {mg : Str → Option Value} {base : Heap} {k : Nat} {f : Addr} {name qual : Str} {params : Arguments} {body : List Stmt} {scope : Scope} {dV kV doc pm cdv ct oc : Value} {an od : Option Addr}
    {osl : Array (Option Value)} {N ps : List Str} {sp : Sp} (lk : K.lookup f = some ⟨oc, od, .func (PySem.W.fnOf name qual params body scope dV kV doc pm an cdv ct), osl⟩) (hcd : PySem.W.codeIn K cdv qual = true) (S : FnScope N ps scope)
    (len : ∀ vs H Q E, sp vs H Q E → vs.length = ps.length)
    (hbody : ∀ (A : Around) (outer : List Env) (s : Shared) (H : Hp) (vs : List V) (Q : VK) (E : XK), Room k (A.deeper (envOfC qual scope s.heap.objs.size f cdv)) → sp vs H Q E →
      ∃ t, PSs (cxOf CX P w K mg base N qual scope f cdv A outer s H E) body t ∧ t { nx := fun _ H' => Q .non H', rt := Q } (start N vs) H) :
    FnOk P w K mg base CX (k + 1) f (PySem.W.fnOf name qual params body scope dV kV doc pm an cdv ct) ps sp := by
  refine ⟨len, fun A outer s H args us vs Q E hr e0 hb r hsp => ?_⟩
  have hl := len _ _ _ _ hsp
  have KX : K.In s.heap := e0.mod.kin.keeps fun b o e => (e0.bs b o e).1
  have lim : s.heap.NoLimit := e0.mod.nolimit.keeps fun b o e => (e0.bs b o e).1
  have hkind : ∀ y ∈ ps.zip us, scope.names.lookup y.1 = some .local ∨ (scope.names.lookup y.1 = some .cell ∧ ((cellsFrom (s.heap.objs.size + 1) scope.names []).lookup y.1).isSome = true) := fun ⟨n, v⟩ hy => by
    rcases S.par n (List.of_mem_zip hy).1 with q | q
    · exact .inl q
    · exact .inr ⟨q, PySem.W.cellsFrom_some _ _ _ (.inl q)⟩
  refine codeAny_call_function hr.depth (KX _ _ lk) rfl S.co S.gen rfl (PySem.W.codeRec_of KX hcd) (hb _ _ _ _ ?_)
  refine wpAny_newFunctionEnv_cells S.kind hkind fun env he s1 x => ?_
  subst he
  refine ⟨lim.keeps x.toInCall.keep, codeAny_func ?_⟩
  obtain ⟨t, ht, hq⟩ := hbody A outer s H vs Q E (hr.deeper _) hsp
  have I : Inv (cxOf CX P w K mg base N qual scope f cdv A outer s H E) [] (start N vs) H s1 := inv_start S hr.hd e0 hl r x
  refine wpAny_mono (ht [] s1 (start N vs) H _ I hq) (fun fl s' hs => ?_) fun e s' hs => hs
  have fin : ∀ {σ' : St} {H' : Hp} {v : V} {u : Value}, Inv (cxOf CX P w K mg base N qual scope f cdv A outer s H E) [] σ' H' s' → RelV v u → Q v H' → CE outer P w H s Q u s' :=
    fun {σ' H' v u} J rv q => ⟨v, H', J.os, J.bare, J.base, J.hok, rv, q⟩
  cases fl with
  | ret u =>
    obtain ⟨v, σ', H', J, rv, q⟩ := hs
    exact fin J rv q
  | next =>
    obtain ⟨σ', H', J, q⟩ := hs
    exact fin (v := V.non) (u := Value.none) J rfl q
  | brk =>
    obtain ⟨_, _, _, q⟩ := hs
    exact False.elim q
  | cont =>
    obtain ⟨_, _, _, q⟩ := hs
    exact False.elim q
end L2
namespace L2
open PySem PySem.Spec PyProof.Rows
section
variable {X : Cx} {x : Str} {p pos : Pos} {e : Expr} {es : List Expr} {t : TA} {id T : String} {r : List V → Hp → VK → Prop}
def tCB (r : List V → Hp → VK → Prop) (t : TA) : TE := fun σ H Q => t σ H fun vs H1 => r vs H1 Q
theorem pe_callB (hc : CallR X (.builtin id) r) (hg : Gl X x) (hm : X.mg x = none) (hv : bootBuiltins x = some (.builtin id)) (ha : PA X (e :: es) t) (hn : x ≠ "__name__" := by decide) (hdb : (x == ("__debug__" : Str)) = false := by decide)
    (he : starEach (e :: es) X.env = (false, eval e X.env) :: starEach es X.env := by rfl) (hpl : (backTo pos (starEach es X.env)).any (·.1) = false := by rfl) : PE X (.Call (.Name x p) (e :: es) [] pos) (tCB r t) := by
  intro pins s σ H Q I h
  refine wpAny_Call_Name_kw (ld_blt I hg hm hv ?_ hn hdb)
  exact PyProof.Rows.callWith_builtin1 (thn (ha pos pins s σ H _ I h) fun us s1 ⟨vs, H1, I1, r1, q1⟩ => hc pins s1 σ H1 vs us Q I1 r1 q1) he hpl
theorem pe_callTy (hc : CallR X (.type T) r) (hg : Gl X x) (hm : X.mg x = none) (hv : bootBuiltins x = some (.type T)) (ha : PA X (e :: es) t) (hn : x ≠ "__name__" := by decide) (hdb : (x == ("__debug__" : Str)) = false := by decide)
    (he : starEach (e :: es) X.env = (false, eval e X.env) :: starEach es X.env := by rfl) (hpl : (backTo pos (starEach es X.env)).any (·.1) = false := by rfl) : PE X (.Call (.Name x p) (e :: es) [] pos) (tCB r t) := by
  intro pins s σ H Q I h
  refine wpAny_Call_Name_kw (ld_blt I hg hm hv ?_ hn hdb)
  exact PyProof.Rows.callWith_type1 (thn (ha pos pins s σ H _ I h) fun us s1 ⟨vs, H1, I1, r1, q1⟩ => hc pins s1 σ H1 vs us Q I1 r1 q1) he hpl
end
end L2
namespace HT
open PySem PyProof.Rows
section
open PySem.SeqAt
open PySem.AutoSeq1 (wpAny_loadPart')
open PySem.MeetsSeq PySem.MeetsSeq2 PySem.MeetsSeq3
end
section
variable {prog : Program} {w : World} {A : Around} {E : Value → Shared → Prop} {s : Shared}
def sIx (n d : Nat) : Option Int → Nat
  | none => d
  | some v => if v < 0 then (v + (n : Int)).toNat else min v.toNat n
theorem sIx_le (n d : Nat) (hd : d ≤ n) (o : Option Int) : sIx n d o ≤ n := by
  cases o with
  | none => exact hd
  | some v =>
    show (if v < 0 then (v + (n : Int)).toNat else min v.toNat n) ≤ n
    by_cases hv : v < 0
    · rw [if_pos hv]; omega
    · rw [if_neg hv]; exact Nat.min_le_right _ _
theorem clip_eq (v : Int) (n d : Nat) : (if v < 0 then max (v + (n : Int)) 0 else min v (n : Int)) = ((sIx n d (some v) : Nat) : Int) := by
  show (if v < 0 then max (v + (n : Int)) 0 else min v (n : Int)) = (((if v < 0 then (v + (n : Int)).toNat else min v.toNat n) : Nat) : Int)
  by_cases hv : v < 0
  · simp only [if_pos hv]; omega
  · simp only [if_neg hv]; omega
theorem adjust_gen (lo hi : Option Int) (n : Nat) : Builtin.Slice.sliceAdjust lo hi 1 (n : Int) = (((sIx n 0 lo : Nat) : Int), ((sIx n n hi : Nat) : Int)) := by
  have h1 : ¬ ((1 : Int) < 0) := by omega
  unfold Builtin.Slice.sliceAdjust
  simp only [h1, if_false]
  refine Prod.ext ?_ ?_
  · cases lo with
    | none => rfl
    | some v => exact clip_eq v n 0
  · cases hi with
    | none => rfl
    | some v => exact clip_eq v n n
theorem places_gen (i j : Nat) : Builtin.Slice.slicePlaces (i : Int) (j : Int) 1 = j - i := by
  unfold Builtin.Slice.slicePlaces
  have h1 : (1 : Int) > 0 := by omega
  simp only [h1, if_true, Int.ediv_one]
  split <;> omega
theorem slicePart_ {v : Value} {o : Option Int} {Q : Option Int → Shared → Prop} (p : IsPart v o) (h : Q o s) : wpAny (model prog w) A (Builtin.Slice.slicePartIndex v) Q E s := by
  cases p with
  | none => exact slicePart_none h
  | int i t => exact slicePart_int h
theorem sliceApplied_gen {sl : Addr} {vl vu : Value} {lo hi : Option Int} {n : Nat} {Q : Int × Int × Nat → Shared → Prop} (hs : s.heap.IsSliceOf sl vl vu .none) (pl : IsPart vl lo) (pu : IsPart vu hi)
    (h : Q (((sIx n 0 lo : Nat) : Int), 1, sIx n n hi - sIx n 0 lo) s) : wpAny (model prog w) A (Builtin.Slice.sliceApplied (.ref sl) (pure (n : Int))) Q E s := by
  obtain ⟨os, hos, hcs, hds⟩ := id hs
  unfold Builtin.Slice.sliceApplied Builtin.Slice.sliceFields
  refine wpAny_bind (wpAny_bind (wpAny_field hos hds (x := vl) rfl (wpAny_bind (wpAny_field hos hds (x := vu) rfl (wpAny_bind (wpAny_field hos hds (x := .none) rfl (wpAny_pure ?_)))))))
  refine wpAny_bind (slicePart_none ?_)
  show wpAny _ _ (if ((1 : Int) == 0) = true then _ else _) _ _ s
  rw [if_neg (by decide)]
  refine wpAny_bind (slicePart_ pl (wpAny_bind (slicePart_ pu (wpAny_bind (wpAny_pure ?_)))))
  show wpAny _ _ (match Builtin.Slice.sliceAdjust lo hi 1 (n : Int) with | (lo, hi) => pure (lo, (1 : Int), Builtin.Slice.slicePlaces lo hi 1)) _ _ s
  rw [adjust_gen lo hi n]
  show wpAny _ _ (pure (((sIx n 0 lo : Nat) : Int), (1 : Int), Builtin.Slice.slicePlaces ((sIx n 0 lo : Nat) : Int) ((sIx n n hi : Nat) : Int) 1)) _ _ s
  rw [places_gen]
  exact wpAny_pure h
theorem pick_gen (xs : Array Value) (i k : Nat) : ((List.range k).filterMap fun (m : Nat) => xs[((i : Int) + (m : Int) * 1).toNat]?).toArray = ((xs.toList.drop i).take k).toArray := by
  have e : (fun (m : Nat) => xs[((i : Int) + (m : Int) * 1).toNat]?) = fun m => xs[i + m]? := by
    funext m
    have : ((i : Int) + (m : Int) * 1).toNat = i + m := by omega
    rw [this]
  rw [e]
  have := pick_run xs i k
  rw [List.filterMap_map] at this
  have e2 : ((fun x => xs[x]?) ∘ fun x => i + x) = fun m => xs[i + m]? := rfl
  rw [e2] at this
  rw [this]
theorem getItem_tuple_cut {t sl : Addr} {items : Array Value} {vl vu : Value} {lo hi : Option Int} {Q : Value → Shared → Prop} (ht : IsTup s.heap t items) (hs : s.heap.IsSliceOf sl vl vu .none) (pl : IsPart vl lo) (pu : IsPart vu hi)
    (hw : ¬ (sIx items.size 0 lo = 0 ∧ sIx items.size items.size hi = items.size))
    (h : Q (.ref s.heap.objs.size) { s with heap := s.heap.push { cls := .type "tuple", data := .seq ((items.toList.drop (sIx items.size 0 lo)).take (sIx items.size items.size hi - sIx items.size 0 lo)).toArray } })
    (hsz : items.size ≤ sizeLine) : wpAny (model prog w) A (getItem (.ref t) (.ref sl)) Q E s := by
  have htake : sizeOk (.seq ((items.toList.drop (sIx items.size 0 lo)).take (sIx items.size items.size hi - sIx items.size 0 lo)).toArray) := by
    show ((items.toList.drop (sIx items.size 0 lo)).take (sIx items.size items.size hi - sIx items.size 0 lo)).toArray.size ≤ sizeLine
    rw [List.size_toArray, List.length_take, List.length_drop, Array.length_toList]
    omega
  have hj : sIx items.size items.size hi ≤ items.size := sIx_le _ _ (Nat.le_refl _) hi
  obtain ⟨os, hos, hcs, hds⟩ := id hs
  have hTs : s.TypeIs (.ref sl) "slice" := ⟨os, hos, hcs⟩
  unfold getItem
  try with_reducible refine wpAny_holding ?_
  first | refine wpAny_bind (wpAny_pure ?_) | skip
  refine wpAny_bind (wpAny_sequenceKey ht.typeIs (by decide) ?_)
  refine wpAny_bind (wpAny_callSpecial?_slot (name := Str.ofString "__getitem__") ht.typeIs PyProof.Rows.slot_tuple_getitem
    (wpAny_call_entry PyProof.Rows.slot_tuple_getitem ht.typeIs entry_tuple_getitem ?_ (args_tuple_getitem _ _)))
  show wpAny _ _ (Builtin.Tuple.tupleItemsOf (.ref t) >>= _) _ _ s
  refine wpAny_bind (tupleItemsOf_ ht ?_)
  refine wpAny_bind (wpAny_typeOf hTs ?_)
  rw [if_pos (by decide)]
  refine wpAny_bind (sliceApplied_gen hs pl pu ?_)
  have hno : ¬ ((((sIx items.size 0 lo : Nat) : Int) == 0 && (1 : Int) == 1 && (sIx items.size items.size hi - sIx items.size 0 lo) == items.size) = true) := by
    intro q
    rw [Bool.and_eq_true, Bool.and_eq_true] at q
    have q1 : ((sIx items.size 0 lo : Nat) : Int) = 0 := eq_of_beq q.1.1
    have q2 : sIx items.size items.size hi - sIx items.size 0 lo = items.size := eq_of_beq q.2
    exact hw ⟨by omega, by omega⟩
  show wpAny _ _ (if (((sIx items.size 0 lo : Nat) : Int) == 0 && (1 : Int) == 1 && (sIx items.size items.size hi - sIx items.size 0 lo) == items.size) = true then _ else _) _ _ s
  rw [if_neg hno, pick_gen]
  first
    | exact wpAny_bind (m := Builtin.Tuple.tupleExact _) (wpAny_newObj_type (wpAny_pure ⟨_, rfl, wpAny_pure h⟩) htake)
    | exact wpAny_bind (m := Builtin.Tuple.tupleExact _) (wpAny_newObj_type (wpAny_bind (wpAny_pure (wpAny_pure ⟨_, rfl, wpAny_pure h⟩))) htake)
    | exact wpAny_bind (wpAny_bind (m := Builtin.Tuple.tupleExact _) (wpAny_newObj_type (wpAny_pure (wpAny_pure ⟨_, rfl, wpAny_pure h⟩)) htake))
    | exact wpAny_bind (wpAny_bind (m := Builtin.Tuple.tupleExact _) (wpAny_newObj_type (wpAny_pure ⟨_, rfl, wpAny_pure h⟩) htake))
end
end HT
namespace L2
open PySem PySem.Spec PyProof.Rows
abbrev TO := St → Hp → (Option Int → Hp → Prop) → Prop
def PO (X : Cx) (e : Option Expr) (t : TO) : Prop :=
  ∀ (pins : List (Addr × Obj)) (s : Shared) (σ : St) (H : Hp) (Q : Option Int → Hp → Prop), Inv X pins σ H s → t σ H Q →
    wpAny (model X.prog X.w) X.A (evalPart e X.env) (fun u s' => ∃ o H', Inv X pins σ H' s' ∧ IsPart u o ∧ Q o H') X.xe s
def tNoPart : TO := fun _ H Q => Q none H
def tPart (t : TE) : TO := fun σ H Q => t σ H fun x H1 => ∃ i, x = .int i ∧ Q (some i) H1
section
variable {X : Cx} {e : Expr} {te : TE} {lo hi : Option Expr} {tl th : TO} {pos p2 : Pos}
theorem po_none : PO X none tNoPart := by
  intro pins s σ H Q I h
  rw [evalPart_none]
  exact wpAny_pure ⟨none, H, I, .none, h⟩
theorem po_some (h : PE X e te) : PO X (some e) (tPart te) := by
  intro pins s σ H Q I hw
  rw [evalPart_some]
  refine thn (h pins s σ H _ I hw) fun u s1 ⟨x, H1, I1, r1, q1⟩ => ?_
  obtain ⟨i, rfl, q⟩ := q1
  obtain ⟨t, rfl⟩ := r1
  exact ⟨some i, H1, I1, .int i t, q⟩
def SlR (X : Cx) (r : V → Option Int → Option Int → Hp → VK → Prop) : Prop :=
  ∀ (pins : List (Addr × Obj)) (s : Shared) (σ : St) (H : Hp) (x : V) (v vl vu : Value) (lo hi : Option Int) (sl : Addr) (Q : VK), Inv X pins σ H s → RelV x v → s.heap.IsSliceOf sl vl vu .none → IsPart vl lo → IsPart vu hi → r x lo hi H Q →
    ∃ T id, typeLookup (.type T) "__getitem__" = pure (some (.builtin id)) ∧ s.TypeIs v T ∧ wpAny (model X.prog X.w) X.A (getItem v (.ref sl)) (EP X pins σ Q) X.xe s
def tSl (r : V → Option Int → Option Int → Hp → VK → Prop) (te : TE) (tl th : TO) : TE := fun σ H Q => te σ H fun x H1 => tl σ H1 fun l H2 => th σ H2 fun u H3 => r x l u H3 Q
theorem pe_slice {r : V → Option Int → Option Int → Hp → VK → Prop} (hr : SlR X r) (he : PE X e te) (hl : PO X lo tl) (hu : PO X hi th) : PE X (.Subscript e (.Slice lo hi none p2) pos) (tSl r te tl th) := by
  intro pins s σ H Q I h
  refine Subscript_ (thn (he pins s σ H _ I h) fun v s1 ⟨x, H1, I1, r1, q1⟩ => ?_)
  refine wpAny_Slice (thn (hl pins s1 σ H1 _ I1 q1) fun vl s2 ⟨l, H2, I2, pl, q2⟩ => thn (hu pins s2 σ H2 _ I2 q2) fun vu s3 ⟨u, H3, I3, pu, q3⟩ => ?_)
  rw [evalPart_none]
  refine wpAny_pure ?_
  have I4 : Inv X pins σ H3 { s3 with heap := s3.heap.push { cls := .type "slice", data := .fields #[vl, vu, .none] } } := I3.kept (t' := s3.toks) fun b ob q => Heap.get?_push_of_some _ q
  obtain ⟨T, id, hT, ht, hg⟩ := hr pins { s3 with heap := s3.heap.push { cls := .type "slice", data := .fields #[vl, vu, .none] } } σ H3 x v vl vu l u s3.heap.objs.size Q I4 r1 (Heap.IsSliceOf.new ..) pl pu q3
  show wpAny (model X.prog X.w) X.A (subscriptTail e (.Slice lo hi none p2) v (.ref s3.heap.objs.size)) (EP X pins σ Q) X.xe { s3 with heap := s3.heap.push { cls := .type "slice", data := .fields #[vl, vu, .none] } }
  exact tail_any (ops := [.ref s3.heap.objs.size, v]) ht hT hg (by with_unfolding_all rfl)
def cutV (xs : List V) (lo hi : Option Int) : List V := (xs.drop (HT.sIx xs.length 0 lo)).take (HT.sIx xs.length xs.length hi - HT.sIx xs.length 0 lo)
theorem cutV_length (xs : List V) (lo hi : Option Int) : (cutV xs lo hi).length ≤ xs.length := by
  unfold cutV
  rw [List.length_take, List.length_drop]
  omega
def rSlT (K : PySem.W.Frag) : V → Option Int → Option Int → Hp → VK → Prop := fun x lo hi H Q => ∃ a xs, x = .ref a ∧ SqT K H a xs ∧
  ¬ (HT.sIx xs.length 0 lo = 0 ∧ HT.sIx xs.length xs.length hi = xs.length) ∧ ∀ p, H p = none → Q (.ref p) (upd H p (.tup (cutV xs lo hi)))
theorem sl_tup : SlR X (rSlT X.K) := by
  intro pins s σ H x v vl vu lo hi sl Q I rx hs pl pu h
  obtain ⟨a, xs, rfl, hx, hw, q⟩ := h
  cases rx
  obtain ⟨its, r, ht, hz⟩ := I.tuple hx
  have hlen : its.toArray.size = xs.length := by rw [List.size_toArray]; exact r.length.symm
  refine ⟨"tuple", _, PyProof.Rows.slot_tuple_getitem.lookup, ht.typeIs, ?_⟩
  refine HT.getItem_tuple_cut ht hs pl pu (by rw [hlen]; exact hw) ?_ (by rw [hlen]; exact hz)
  rw [hlen]
  refine ⟨.ref s.heap.objs.size, _, I.laid (t' := s.toks) (o := .tup (cutV xs lo hi)) (fun b ob q => Heap.get?_push_of_some _ q) (Nat.le_refl _) ?_, rfl, q _ (I.hok.fresh (Nat.le_refl _))⟩
  exact ⟨Nat.le_trans (cutV_length xs lo hi) hz, _, (r.drop (HT.sIx xs.length 0 lo)).take (HT.sIx xs.length xs.length hi - HT.sIx xs.length 0 lo), IsTup.new _ _⟩
end
end L2
namespace L2
open PySem PySem.Spec PyProof.Rows
def ixN (n : Nat) (i : Int) : Option Nat := if 0 ≤ i then (if i < n then some i.toNat else none) else if -(n : Int) ≤ i then some (i + n).toNat else none
def atI {α : Type} (xs : List α) (i : Int) : Option α := (ixN xs.length i).bind fun j => xs[j]?
theorem ixN_seq {n : Nat} {i : Int} {j : Nat} (h : ixN n i = some j) : seqIndex? i n = some j ∧ j < n ∧ -(n : Int) ≤ i ∧ i < n := by
  unfold ixN at h
  by_cases h0 : 0 ≤ i
  · rw [if_pos h0] at h
    by_cases h1 : i < n
    · rw [if_pos h1] at h
      have e : i.toNat = j := Option.some.inj h
      exact ⟨by rw [seqIndex_of h0 h1, e], by omega, by omega, h1⟩
    · rw [if_neg h1] at h; cases h
  · rw [if_neg h0] at h
    by_cases h1 : -(n : Int) ≤ i
    · rw [if_pos h1] at h
      have e : (i + n).toNat = j := Option.some.inj h
      exact ⟨by rw [seqIndex_neg (by omega) h1, e], by omega, h1, by omega⟩
    · rw [if_neg h1] at h; cases h
theorem atI_get {α : Type} {xs : List α} {i : Int} {v : α} (h : atI xs i = some v) : ∃ j, seqIndex? i xs.length = some j ∧ xs[j]? = some v ∧ j < xs.length ∧ -(xs.length : Int) ≤ i ∧ i < xs.length := by
  unfold atI at h
  cases e : ixN xs.length i with
  | none => rw [e] at h; cases h
  | some j =>
    rw [e] at h
    obtain ⟨h1, h2, h3, h4⟩ := ixN_seq e
    exact ⟨j, h1, h, h2, h3, h4⟩
theorem atI_nat {α : Type} {xs : List α} {j : Nat} {v : α} (h : xs[j]? = some v) : atI xs (j : Int) = some v := by
  have hj : j < xs.length := (List.getElem?_eq_some_iff.mp h).1
  have e : ixN xs.length (j : Int) = some j := by
    unfold ixN
    rw [if_pos (by omega), if_pos (by omega)]; simp
  unfold atI; rw [e]; exact h
theorem atI_last {α : Type} (xs : List α) (v : α) : atI (xs ++ [v]) (-1) = some v := by
  have hl : (xs ++ [v]).length = xs.length + 1 := by simp
  have e : ixN (xs ++ [v]).length (-1) = some xs.length := by
    unfold ixN
    rw [hl, if_neg (by decide), if_pos (by omega)]
    congr 1
    omega
  unfold atI
  rw [e]
  show (xs ++ [v])[xs.length]? = some v
  simp
def PlainIx (b : Expr) : Prop := ∀ o i, subscripted b false o i = operate [o, i] (getItem o i)
def IxR (X : Cx) (r : R2) : Prop :=
  ∀ (value slice : Expr) (pins : List (Addr × Obj)) (s : Shared) (σ : St) (H : Hp) (x y : V) (v u : Value) (Q : VK), Inv X pins σ H s → RelV x v → RelV y u → r x y H Q →
    subscripted slice false v u = operate [v, u] (getItem v u) → wpAny (model X.prog X.w) X.A (subscriptTail value slice v u) (EP X pins σ Q) X.xe s
def MtR (X : Cx) (id : String) (r : V → List V → Hp → VK → Prop) : Prop :=
  ∀ (pins : List (Addr × Obj)) (s : Shared) (σ : St) (H : Hp) (x : V) (xs : List V) (v : Value) (us : List Value) (Q : VK), Inv X pins σ H s → RelV x v → Vals xs us → r x xs H Q →
    wpAny (model X.prog X.w) X.A (call (.builtin id) (v :: us)) (EP X pins σ Q) X.xe s
section
variable {X : Cx} {a b : Expr} {ta tb : TE} {pos : Pos}
theorem pe_ix {r : R2} (hr : IxR X r) (ha : PE X a ta) (hb : PE X b tb) (hs : PlainIx b) : PE X (.Subscript a b pos) (tOp r ta tb) := by
  intro pins s σ H Q I h
  exact Subscript_ (binT ha hb I h fun v u s2 x y H2 I2 rx ry q => hr a b pins s2 σ H2 x y v u Q I2 rx ry q (hs _ _))
def rIxL (K : PySem.W.Frag) : R2 := fun x y H Q => ∃ p xs i v, x = .ref p ∧ y = .int i ∧ SqL K H p xs ∧ atI xs i = some v ∧ Q v H
def rIxT (K : PySem.W.Frag) : R2 := fun x y H Q => ∃ p xs i v, x = .ref p ∧ y = .int i ∧ SqT K H p xs ∧ atI xs i = some v ∧ Q v H
theorem ix_list : IxR X (rIxL X.K) := by
  intro value slice pins s σ H x y v u Q I rx ry h hs
  obtain ⟨p, xs, i, z, rfl, rfl, hq, he, q⟩ := h
  cases rx
  obtain ⟨t, rfl⟩ := ry
  obtain ⟨its, r, pl, hz⟩ := I.list hq
  obtain ⟨j, h1, h2, h3, h4, h5⟩ := atI_get he
  obtain ⟨w, ew, rw'⟩ := r.get h2
  have hl := r.length
  have hn := line63
  have fin : EP X pins σ Q w s := ⟨z, H, I, rw', q⟩
  by_cases h0 : 0 ≤ i
  · have hj : i.toNat = j := by
      rw [seqIndex_of h0 h5] at h1
      exact Option.some.inj h1
    exact item_listR pl.isList h0 (by omega) (by rw [hj]; simpa using ew) fin hs
  · have hj : (i + (its.toArray.size : Int)).toNat = j := by
      rw [seqIndex_neg (by omega) h4] at h1
      rw [List.size_toArray, ← hl]
      exact Option.some.inj h1
    exact subscriptTail_builtinR (x := w) pl.isList.typeIs slot_list_getitem.lookup
      (wpAny_getItem_list_neg (Q := fun r s' => r = w ∧ EP X pins σ Q r s') pl.isList (by omega) (by rw [List.size_toArray] <;> omega) (by omega) (by rw [hj]; simpa using ew) ⟨rfl, fin⟩) hs
theorem ix_tup : IxR X (rIxT X.K) := by
  intro value slice pins s σ H x y v u Q I rx ry h hs
  obtain ⟨p, xs, i, z, rfl, rfl, hq, he, q⟩ := h
  cases rx
  obtain ⟨t, rfl⟩ := ry
  obtain ⟨its, r, pl, hz⟩ := I.tuple hq
  obtain ⟨j, h1, h2, h3, h4, h5⟩ := atI_get he
  obtain ⟨w, ew, rw'⟩ := r.get h2
  have hl := r.length
  have hn := line63
  have fin : EP X pins σ Q w s := ⟨z, H, I, rw', q⟩
  exact subscriptTail_builtinR (x := w) pl.typeIs slot_tuple_getitem.lookup
    (getItem_tuple (j := j) (Q := fun r s' => r = w ∧ EP X pins σ Q r s') pl (by omega) (by omega) (by rw [List.size_toArray, ← hl]; exact h1) (by simpa using ew) ⟨rfl, fin⟩) hs
theorem mapSeq_set (its : List Value) (n j : Nat) (u : Value) : Obj.mapSeq (·.setIfInBounds j u) { cls := .type "list", data := .seq its.toArray n } = { cls := .type "list", data := .seq (its.set j u).toArray n } := by
  simp [Obj.mapSeq]
theorem Inv.lst {pins : List (Addr × Obj)} {σ : St} {H : Hp} {s : Shared} {p : Addr} {xs : List V} (I : Inv X pins σ H s) (h : H p = some (.lst xs)) :
    ∃ (its : List Value) (n : Nat), Vals xs its ∧ s.heap.get? p = some { cls := .type "list", data := .seq its.toArray n } ∧ xs.length ≤ sizeLine := by
  obtain ⟨z, its, n, r, e⟩ := I.hok p _ h
  exact ⟨its, n, r, e, z⟩
theorem Inv.lstUpd {pins : List (Addr × Obj)} {σ : St} {H : Hp} {s : Shared} {p : Addr} {xs ys : List V} {its its' : List Value} {n n' : Nat} {f : Obj → Obj} (I : Inv X pins σ H s) (h : H p = some (.lst xs))
    (ho : s.heap.get? p = some { cls := .type "list", data := .seq its.toArray n }) (hf : f { cls := .type "list", data := .seq its.toArray n } = { cls := .type "list", data := .seq its'.toArray n' }) (r : Vals ys its') (hz : ys.length ≤ sizeLine) (t : Nat) :
    Inv X pins σ (upd H p (.lst ys)) { s with heap := s.heap.update p f, toks := t } := by
  have e : (s.heap.update p f).get? p = some { cls := .type "list", data := .seq its'.toArray n' } := by
    rw [Heap.get?_update_self f ho (by rw [hf] <;> rfl), hf]
  refine I.write (x := p) (e := p) (by rw [h]; trivial) (.inl rfl) (fun b u hb q => (Heap.get?_update_other _ _ (Ne.symm hb)).trans q) ⟨_, e⟩ ?_
  exact ⟨hz, its', n', r, e⟩
def rSetL : V → V → V → Hp → (Hp → Prop) → Prop := fun o i v H Q => ∃ p xs k j, o = .ref p ∧ i = .int k ∧ H p = some (.lst xs) ∧ ixN xs.length k = some j ∧ Q (upd H p (.lst (xs.set j v)))
theorem set_list : PSet X rSetL := by
  intro pins s σ H o i v ov iv u Q I ro ri rv h
  obtain ⟨p, xs, k, j, rfl, rfl, hp, hj, q⟩ := h
  cases ro
  obtain ⟨t, rfl⟩ := ri
  obtain ⟨its, n, r, ho, hz⟩ := I.lst hp
  obtain ⟨h1, h2, h3, h4⟩ := ixN_seq hj
  have hl := r.length
  have hn := line63
  have I' : Inv X pins σ (upd H p (.lst (xs.set j v))) { s with heap := s.heap.update p (Obj.mapSeq (·.setIfInBounds j u)) } :=
    I.lstUpd hp ho (mapSeq_set its n j u) (r.set rv j) (by rw [List.length_set]; exact hz) s.toks
  by_cases h0 : 0 ≤ k
  · have hk : k.toNat = j := by
      rw [seqIndex_of h0 h4] at h1
      exact Option.some.inj h1
    exact PySem.W.ki_setAt ho h0 (by omega) (by rw [List.size_toArray, ← hl]; exact h4) (by rw [hk]; exact ⟨_, I', q⟩)
  · have hk : (k + (its.toArray.size : Int)).toNat = j := by
      rw [seqIndex_neg (by omega) h3] at h1
      rw [List.size_toArray, ← hl]
      exact Option.some.inj h1
    exact PySem.W.ki_setBack ho (by omega) (by rw [List.size_toArray, ← hl]; exact h3) (by omega) (by rw [hk]; exact ⟨_, I', q⟩)
def flatV : V → Bool
  | .non => true
  | .bl _ => true
  | .int _ => true
  | .str _ => true
  | _ => false
def eqV : V → V → Bool
  | .non, .non => true
  | .bl a, .bl b => a == b
  | .bl a, .int b => (if a then 1 else 0) == b
  | .int a, .bl b => a == (if b then 1 else 0)
  | .int a, .int b => a == b
  | .str a, .str b => a == b
  | _, _ => false
theorem eqAt_V {A : Around} {s : Shared} {y x : V} {u v : Value} (ry : RelV y u) (rx : RelV x v) (fy : flatV y = true) (fx : flatV x = true) : SeqAt.EqAt A s u v (eqV y x) := by
  cases y with
  | non =>
    cases ry
    cases x with
    | non => cases rx; exact SeqAt.EqAt.same _
    | bl b => cases rx; exact SeqAt.EqAt.none_bool b
    | int b => obtain ⟨t, rfl⟩ := rx; exact SeqAt.EqAt.none_int b t
    | str b => obtain ⟨t, rfl⟩ := rx; exact SeqAt.EqAt.none_str b t
    | _ => exact absurd (show false = true from fx) Bool.false_ne_true
  | bl a =>
    cases ry
    cases x with
    | non => cases rx; exact SeqAt.EqAt.bool_none a
    | bl b => cases rx; exact SeqAt.EqAt.bool_bool a b
    | int b => obtain ⟨t, rfl⟩ := rx; exact SeqAt.EqAt.bool_int a b t
    | str b => obtain ⟨t, rfl⟩ := rx; exact SeqAt.EqAt.bool_str a b t
    | _ => exact absurd (show false = true from fx) Bool.false_ne_true
  | int a =>
    obtain ⟨t', rfl⟩ := ry
    cases x with
    | non => cases rx; exact SeqAt.EqAt.int_none a t'
    | bl b => cases rx; exact SeqAt.EqAt.int_bool a t' b
    | int b => obtain ⟨t, rfl⟩ := rx; exact SeqAt.EqAt.int_int a t' b t
    | str b => obtain ⟨t, rfl⟩ := rx; exact SeqAt.EqAt.int_str a t' b t
    | _ => exact absurd (show false = true from fx) Bool.false_ne_true
  | str a =>
    obtain ⟨t', rfl⟩ := ry
    cases x with
    | non => cases rx; exact SeqAt.EqAt.str_none a t'
    | bl b => cases rx; exact SeqAt.EqAt.str_bool a t' b
    | int b => obtain ⟨t, rfl⟩ := rx; exact SeqAt.EqAt.str_int a t' b t
    | str b => obtain ⟨t, rfl⟩ := rx; exact SeqAt.EqAt.str_str a t' b t
    | _ => exact absurd (show false = true from fx) Bool.false_ne_true
  | _ => exact absurd (show false = true from fy) Bool.false_ne_true
def eqU (x : V) (u : Value) : Bool := match u with
  | .none => eqV .non x
  | .bool b => eqV (.bl b) x
  | .int i _ => eqV (.int i) x
  | .str z _ => eqV (.str z) x
  | _ => false
theorem eqU_of {x y : V} {u : Value} (r : RelV y u) (f : flatV y = true) : eqU x u = eqV y x := by
  cases y with
  | non => cases r; rfl
  | bl b => cases r; rfl
  | int i => obtain ⟨t, rfl⟩ := r; rfl
  | str z => obtain ⟨t, rfl⟩ := r; rfl
  | _ => exact absurd (show false = true from f) Bool.false_ne_true
theorem any_eqU {x : V} : ∀ {xs : List V} {us : List Value}, Vals xs us → xs.all flatV = true → us.any (eqU x) = xs.any fun y => eqV y x
  | _, _, .nil, _ => rfl
  | y :: xs, u :: us, .cons r t, f => by
    rw [List.all_cons, Bool.and_eq_true] at f
    rw [List.any_cons, List.any_cons, eqU_of r f.1, any_eqU t f.2]
theorem mem_eqAt {A : Around} {s : Shared} {x : V} {v : Value} (rx : RelV x v) (fx : flatV x = true) : ∀ {xs : List V} {us : List Value}, Vals xs us → xs.all flatV = true → ∀ u ∈ us, SeqAt.EqAt A s u v (eqU x u)
  | _, _, .nil, _ => fun u hu => by cases hu
  | y :: xs, u :: us, .cons r t, f => fun u' hu => by
    rw [List.all_cons, Bool.and_eq_true] at f
    rcases List.mem_cons.mp hu with rfl | hu
    · rw [eqU_of r f.1]; exact eqAt_V r rx f.1 fx
    · exact mem_eqAt rx fx t f.2 u' hu
def inV (x : V) (xs : List V) : Bool := xs.any fun y => eqV y x
def rIn (K : PySem.W.Frag) (neg : Bool) : R2 := fun x y H Q => ∃ p xs, y = .ref p ∧ (SqL K H p xs ∨ SqT K H p xs) ∧ flatV x = true ∧ xs.all flatV = true ∧ Q (.bl (if neg then !inV x xs else inV x xs)) H
theorem op_in_seq : OpR X (compareOp .In) (rIn X.K false) := by
  intro pins s σ H x y v u Q I rx ry h
  obtain ⟨p, xs, rfl, hq, fx, fs, q⟩ := h
  cases ry
  rcases hq with hq | hq
  · obtain ⟨its, r, pl, hz⟩ := I.list hq
    refine SeqAt.in_listAt (eqU x) pl.isList (fun w hw => mem_eqAt rx fx r fs w (by simpa using hw)) ⟨.bl _, H, I, rfl, ?_⟩
    rw [show its.toArray.any (eqU x) = its.any (eqU x) by simp, any_eqU r fs]
    exact q
  · obtain ⟨its, r, pl, hz⟩ := I.tuple hq
    refine SeqAt.in_tupleAt (eqU x) pl (fun w hw => mem_eqAt rx fx r fs w (by simpa using hw)) ⟨.bl _, H, I, rfl, ?_⟩
    rw [show its.toArray.any (eqU x) = its.any (eqU x) by simp, any_eqU r fs]
    exact q
theorem op_notIn_seq : OpR X (compareOp .NotIn) (rIn X.K true) := by
  intro pins s σ H x y v u Q I rx ry h
  obtain ⟨p, xs, rfl, hq, fx, fs, q⟩ := h
  cases ry
  rcases hq with hq | hq
  · obtain ⟨its, r, pl, hz⟩ := I.list hq
    refine SeqAt.notIn_listAt (eqU x) pl.isList (fun w hw => mem_eqAt rx fx r fs w (by simpa using hw)) ⟨.bl _, H, I, rfl, ?_⟩
    rw [show its.toArray.any (eqU x) = its.any (eqU x) by simp, any_eqU r fs]
    exact q
  · obtain ⟨its, r, pl, hz⟩ := I.tuple hq
    refine SeqAt.notIn_tupleAt (eqU x) pl (fun w hw => mem_eqAt rx fx r fs w (by simpa using hw)) ⟨.bl _, H, I, rfl, ?_⟩
    rw [show its.toArray.any (eqU x) = its.any (eqU x) by simp, any_eqU r fs]
    exact q
theorem call_len_seq : CallR X (.builtin "len") (fun xs H Q => ∃ p ys, xs = [.ref p] ∧ (SqL X.K H p ys ∨ SqT X.K H p ys) ∧ Q (.int ys.length) H) := by
  intro pins s σ H xs us Q I r h
  obtain ⟨p, ys, rfl, hq, q⟩ := h
  obtain ⟨u, rfl, rx⟩ := vals1 r
  cases rx
  have hn := line63
  rcases hq with hq | hq
  · obtain ⟨its, r', pl, hz⟩ := I.list hq
    have hlen := r'.length
    exact Calls.call_len_list pl.isList (by simp only [List.size_toArray] <;> omega) ⟨.int ys.length, H, I.tok _, ⟨s.toks + 1, by rw [List.size_toArray, hlen]⟩, q⟩
  · obtain ⟨its, r', pl, hz⟩ := I.tuple hq
    have hlen := r'.length
    exact len_tuple pl (by simp only [List.size_toArray] <;> omega) ⟨.int ys.length, H, I.tok _, ⟨s.toks + 1, by rw [List.size_toArray, hlen]⟩, q⟩
theorem call_tuple_of : CallR X (.type "tuple") (fun xs H Q => ∃ p ys, xs = [.ref p] ∧ ((SqL X.K H p ys ∧ ∀ l, H l = none → Q (.ref l) (upd H l (.tup ys))) ∨ (SqT X.K H p ys ∧ Q (.ref p) H))) := by
  intro pins s σ H xs us Q I r h
  obtain ⟨p, ys, rfl, h⟩ := h
  obtain ⟨u, rfl, rx⟩ := vals1 r
  cases rx
  rcases h with ⟨hq, q⟩ | ⟨hq, q⟩
  · obtain ⟨its, r', pl, hz⟩ := I.list hq
    have hlen := r'.length
    refine call_tuple_list pl.isList (fun h' kp => ?_) (by simp only [List.size_toArray] <;> omega)
    have I1 : Inv X pins σ H { s with heap := h' } := I.kept (t' := s.toks) kp
    have I2 : Inv X pins σ (upd H h'.objs.size (.tup ys)) { s with heap := h'.push { cls := .type "tuple", data := .seq its.toArray } } :=
      I1.laid (t' := s.toks) (fun b o e => Heap.get?_push_of_some _ e) (Nat.le_refl _) (show ObjOk X.prog X.w _ _ _ (.tup ys) from ⟨hz, its, r', IsTup.new _ _⟩)
    exact ⟨.ref h'.objs.size, _, I2, rfl, q _ (I1.hok.fresh (Nat.le_refl _))⟩
  · obtain ⟨its, r', pl, hz⟩ := I.tuple hq
    exact call_tuple_same pl ⟨.ref p, H, I, rfl, q⟩
def tyV (K : PySem.W.Frag) (T : String) (x : V) (H : Hp) : Prop := match x with
  | .str _ => T = "str"
  | .int _ => T = "int"
  | .ref p => (T = "list" ∧ ∃ xs, SqL K H p xs) ∨ (T = "tuple" ∧ ∃ o, K.lookup p = some o ∧ o.cls = .type "tuple" ∧ o.dict = none) ∨
      (T = "dict" ∧ ((∃ kvs, H p = some (.dK kvs)) ∨ ∃ kvs, H p = some (.dT kvs))) ∨ (T = "set" ∧ ∃ S n, H p = some (.set S n))
  | _ => False
theorem tyV_is {pins : List (Addr × Obj)} {σ : St} {H : Hp} {s : Shared} {T : String} {x : V} {v : Value} (I : Inv X pins σ H s) (r : RelV x v) (ty : tyV X.K T x H) :
    s.TypeIs v T ∧ ∀ a, v = .ref a → ∃ ob, s.heap.get? a = some ob ∧ ob.dict = none := by
  cases x with
  | str z =>
    obtain ⟨t, rfl⟩ := r
    cases (show T = "str" from ty)
    exact ⟨typeIs_str s z t, fun _ e => nomatch e⟩
  | int i =>
    obtain ⟨t, rfl⟩ := r
    cases (show T = "int" from ty)
    exact ⟨typeIs_int s i t, fun _ e => nomatch e⟩
  | ref p =>
    cases r
    rcases ty with ⟨rfl, xs, hq⟩ | ⟨rfl, o, hk, hc, hd⟩ | ⟨rfl, hk⟩ | ⟨rfl, S, n, hk⟩
    · obtain ⟨its, _, pl, _⟩ := I.list hq
      refine ⟨pl.isList.typeIs, fun a e => ?_⟩
      cases e
      obtain ⟨o, n, e, c, hd, _⟩ := pl
      exact ⟨o, e, hd⟩
    · refine ⟨⟨o, I.kIn p o hk, hc⟩, fun a e => ?_⟩
      cases e
      exact ⟨o, I.kIn _ o hk, hd⟩
    · have z : ∃ o, s.heap.get? p = some o ∧ o.ExactDict := by
        rcases hk with ⟨kvs, hk⟩ | ⟨kvs, hk⟩
        · obtain ⟨_, _, _, _, o, _, _, e, ex, _⟩ := I.hok p _ hk
          exact ⟨o, e, ex⟩
        · obtain ⟨_, _, _, _, o, _, _, e, ex, _⟩ := I.hok p _ hk
          exact ⟨o, e, ex⟩
      obtain ⟨o, e, ex⟩ := z
      refine ⟨⟨o, e, ex.1⟩, fun a e2 => ?_⟩
      cases e2
      exact ⟨o, e, ex.2.1⟩
    · obtain ⟨o, _, _, _, e, ex, _⟩ := I.hok p _ hk
      refine ⟨⟨o, e, ex.1⟩, fun a e2 => ?_⟩
      cases e2
      exact ⟨o, e, ex.2.1⟩
  | _ => exact False.elim ty
def tBM0 (K : PySem.W.Frag) (T : String) (r : V → List V → Hp → VK → Prop) (to : TE) : TE := fun σ H Q => to σ H fun x H1 => tyV K T x H1 ∧ r x [] H1 Q
def tBM (K : PySem.W.Frag) (T : String) (r : V → List V → Hp → VK → Prop) (to : TE) (t : TA) : TE := fun σ H Q => to σ H fun x H1 => tyV K T x H1 ∧ t σ H1 fun xs H2 => r x xs H2 Q
variable {o e : Expr} {es : List Expr} {to : TE} {t : TA} {name : Str} {apos cpos : Pos} {T id : String} {r : V → List V → Hp → VK → Prop}
theorem pe_bm0 (pa : PlainAttrs T) (slot : Slot T name id) (hty : typeOf (.builtin id) = pure (.type "method_descriptor")) (hm : MtR X id r) (ho : PE X o to)
    (hbase : attributeBase o name X.env (eval o X.env) = eval o X.env := by rfl) (hline : (apos.endLine == cpos.line) = true := by rfl) : PE X (.Call (.Attribute o name apos) [] [] cpos) (tBM0 X.K T r to) := by
  intro pins s σ H Q I h
  refine wpAny_Call_method0_late hbase hline (thn (ho pins s σ H _ I h) fun v s1 ⟨x, H1, I1, r1, ty, q1⟩ => ?_)
  obtain ⟨h1, h2⟩ := tyV_is I1 r1 ty
  exact ⟨T, id, pa, slot, hty, h1, h2, Calls.callWith_builtin rfl (PySem.evalArgs_none (hm pins s1 σ H1 x [] v [] Q I1 r1 .nil q1))⟩
theorem pe_bm (pa : PlainAttrs T) (slot : Slot T name id) (hty : typeOf (.builtin id) = pure (.type "method_descriptor")) (hm : MtR X id r) (ho : PE X o to) (ha : PA X (e :: es) t)
    (hbase : attributeBase o name X.env (eval o X.env) = eval o X.env := by rfl)
    (hfew : ((backTo cpos (starEach (e :: es) X.env)).all (fun x => !x.1) && (backToKw cpos (keywordEach [] X.env)).all (fun x => x.1.isSome)
      && decide ((e :: es).length + ([] : List Keyword).length + (if ([] : List Keyword).isEmpty then 0 else 1) < 30)) = true := by rfl)
    (hline : (apos.endLine == cpos.line) = true := by rfl) (hs : starEach (e :: es) X.env = (false, eval e X.env) :: starEach es X.env := by rfl) (hplain : (backTo cpos (starEach es X.env)).any (·.1) = false := by rfl) :
    PE X (.Call (.Attribute o name apos) (e :: es) [] cpos) (tBM X.K T r to t) := by
  intro pins s σ H Q I h
  refine wpAny_Call_method_late hbase hfew hline rfl (thn (ho pins s σ H _ I h) fun v s1 ⟨x, H1, I1, r1, ty, q1⟩ => ?_)
  obtain ⟨h1, h2⟩ := tyV_is I1 r1 ty
  refine ⟨T, id, pa, slot, hty, h1, h2, ?_⟩
  have hA := ha cpos pins s1 σ H1 _ I1 q1
  rw [hs] at hA ⊢
  refine Calls.callWith_builtin (by show (false || (backTo cpos (starEach es X.env)).any (·.1)) = false; rw [hplain] <;> rfl) (Calls.evalArgs_plain ?_)
  exact thn hA fun us s2 ⟨vs, H2, I2, r2, q2⟩ => hm pins s2 σ H2 x vs v us Q I2 r1 r2 q2
end
end L2
namespace L2
open PySem PySem.Spec PyProof.Rows
def MtM (X : Cx) (id : String) (r : V → List V → Hp → VK → Prop) : Prop :=
  ∀ (pins : List (Addr × Obj)) (s : Shared) (σ : St) (H : Hp) (x : V) (xs : List V) (v : Value) (us : List Value) (Q : VK), Inv X pins σ H s → RelV x v → Vals xs us → r x xs H Q →
    wpAny (model X.prog X.w) X.A (call (.builtin id) (v :: us)) (EP X pins σ Q) X.xe s
theorem Vals.one {x : V} {us : List Value} (h : Vals [x] us) : ∃ u, us = [u] ∧ RelV x u := by
  cases h with
  | cons r t => cases t; exact ⟨_, rfl, r⟩
theorem Vals.zero : ∀ {us : List Value}, Vals [] us → us = []
  | _, .nil => rfl
theorem Vals.dropLast {xs : List V} {us : List Value} (h : Vals xs us) : Vals xs.dropLast us.dropLast := by
  induction h with
  | nil => exact .nil
  | cons r t ih =>
    cases t with
    | nil => exact .nil
    | cons q t' => exact .cons r ih
theorem erase_last {α : Type} (l : List α) : l.eraseIdx (l.length - 1) = l.dropLast := by
  induction l with
  | nil => rfl
  | cons a r ih =>
    cases r with
    | nil => rfl
    | cons b r =>
      have e : (a :: b :: r).length - 1 = ((b :: r).length - 1) + 1 := by
        have h1 : (a :: b :: r).length = r.length + 2 := rfl
        have h2 : (b :: r).length = r.length + 1 := rfl
        omega
      rw [e, List.eraseIdx_cons_succ, ih]
      all_goals rfl
section
variable {X : Cx} {pins : List (Addr × Obj)} {σ : St} {H : Hp} {s : Shared} {l b : Addr} {xs ys zs : List V}
theorem Inv.lset {its its' : List Value} {n : Nat} {f : Array Value → Array Value} {t' : Nat} (I : Inv X pins σ H s) (hH : H l = some (.lst xs))
    (e : s.heap.get? l = some { cls := .type "list", data := .seq its.toArray n }) (hf : f its.toArray = its'.toArray) (hv : Vals ys its') (hz : ys.length ≤ sizeLine) :
    Inv X pins σ (upd H l (.lst ys)) { s with heap := s.heap.update l (Obj.mapSeq f), toks := t' } := by
  have q := PySem.IsL.update e f
  rw [hf] at q
  refine I.write (x := l) (e := l) (by rw [hH]; exact trivial) (.inl rfl) (fun b' u hb hu => (Heap.get?_update_other s.heap (Obj.mapSeq f) (Ne.symm hb)).trans hu) ⟨_, q⟩ ?_
  exact ⟨hz, its', _, hv, q⟩
theorem Inv.lnew {its : List Value} {t' : Nat} (I : Inv X pins σ H s) (hv : Vals ys its) (hz : ys.length ≤ sizeLine) :
    Inv X pins σ (upd H s.heap.objs.size (.lst ys)) { s with heap := s.heap.push { cls := .type "list", data := .seq its.toArray }, toks := t' } :=
  I.laid (fun _ _ q => Heap.get?_push_of_some _ q) (Nat.le_refl _) ⟨hz, its, 0, hv, Heap.get?_push_size _ rfl⟩
theorem Inv.fresh (I : Inv X pins σ H s) : H s.heap.objs.size = none := I.hok.fresh (Nat.le_refl _)
theorem Inv.lstM (I : Inv X pins σ H s) (hH : H l = some (.lst xs)) : xs.length ≤ sizeLine ∧ ∃ (its : List Value) (n : Nat), Vals xs its ∧ xs.length = its.length ∧ s.heap.get? l = some { cls := .type "list", data := .seq its.toArray n } := by
  obtain ⟨z, its, n, r, e⟩ := I.hok l _ hH
  exact ⟨z, its, n, r, r.length, e⟩
end
section
variable {X : Cx}
def rAppend : V → List V → Hp → VK → Prop := fun x vs H Q => ∃ l xs y, x = .ref l ∧ vs = [y] ∧ H l = some (.lst xs) ∧ xs.length < sizeLine ∧ Q .non (upd H l (.lst (xs ++ [y])))
theorem mt_append : MtM X "list.append" rAppend := by
  intro pins s σ H x vs v us Q I rx rv h
  obtain ⟨l, xs, y, rfl, rfl, hH, hz, q⟩ := h
  cases rx
  obtain ⟨u, rfl, ru⟩ := rv.one
  obtain ⟨z, its, n, r, hl, e⟩ := I.lstM hH
  refine call_meets F.slot_list_append ⟨_, e, rfl⟩ F.entry_list_append (F.args_list_append_2 _ _) (PySem.list_append l its.toArray n u (by rw [List.size_toArray]; omega)) ⟨e, ?_⟩
  refine ⟨.non, _, I.lset (its' := its ++ [u]) hH e (by simp) (r.append (.cons ru .nil)) ?_, rfl, q⟩
  rw [List.length_append, List.length_singleton]
  omega
def rPop : V → List V → Hp → VK → Prop := fun x vs H Q => ∃ l xs y, x = .ref l ∧ vs = [] ∧ H l = some (.lst xs) ∧ xs[xs.length - 1]? = some y ∧ Q y (upd H l (.lst xs.dropLast))
theorem mt_pop : MtM X "list.pop" rPop := by
  intro pins s σ H x vs v us Q I rx rv h
  obtain ⟨l, xs, y, rfl, rfl, hH, hy, q⟩ := h
  cases rx
  have hus := rv.zero
  subst hus
  obtain ⟨z, its, n, r, hl, e⟩ := I.lstM hH
  obtain ⟨u, hu, ru⟩ := r.get hy
  have hy' : its.toArray[its.toArray.size - 1]? = some u := by
    show its.toArray[its.length - 1]? = some u
    rw [← Array.getElem?_toList, ← hl]
    exact hu
  refine call_meets F.slot_list_pop ⟨_, e, rfl⟩ F.entry_list_pop (F.args_list_pop_1 _) (MeetsSeq.list_pop_last l its.toArray n u hy' (by rw [List.size_toArray]; omega)) ⟨e, ?_⟩
  refine ⟨y, _, I.lset (its' := its.dropLast) hH e ?_ r.dropLast ?_, ru, q⟩
  · show its.toArray.eraseIdxIfInBounds (its.toArray.size - 1) = its.dropLast.toArray
    rw [List.size_toArray, List.eraseIdxIfInBounds_toArray, erase_last]
  · rw [List.length_dropLast]
    omega
def rCat : R2 := fun x y H Q => ∃ l b xs zs, x = .ref l ∧ y = .ref b ∧ H l = some (.lst xs) ∧ H b = some (.lst zs) ∧ xs.length + zs.length ≤ sizeLine ∧ ∀ p, H p = none → Q (.ref p) (upd H p (.lst (xs ++ zs)))
theorem op_cat : OpR X (binaryOp .Add) rCat := by
  intro pins s σ H x y v u Q I rx ry h
  obtain ⟨l, b, xs, zs, rfl, rfl, hH, hB, hz, q⟩ := h
  cases rx
  cases ry
  obtain ⟨z, its, n, r, hl, e⟩ := I.lstM hH
  obtain ⟨z2, its2, n2, r2, hl2, e2⟩ := I.lstM hB
  refine PySem.P.add_list e e2 ?_ (by rw [List.size_toArray, List.size_toArray]; omega)
  have ea : its.toArray ++ its2.toArray = (its ++ its2).toArray := by simp
  rw [ea]
  exact ⟨.ref _, _, I.lnew (t' := s.toks) (r.append r2) (by rw [List.length_append]; omega), rfl, q _ I.fresh⟩
end
section
variable {prog : Program} {w : World} {A : Around} {E : Value → Shared → Prop} {s : Shared}
set_option maxRecDepth 100000 in
end
section
variable {X : Cx}
end
end L2
namespace Att
open PySem PySem.W PySem.Calls PyProof.Rows
theorem ints_of_wellAll {P : Params} {h : Heap} : ∀ (ns : List Int) (vs : List Value), WellAll P h vs (ns.map WData.int) → IntsAre vs ns := by
  intro ns
  induction ns with
  | nil =>
    intro vs w
    rw [List.map_nil] at w
    cases w
    exact .nil
  | cons n ns ih =>
    intro vs w
    rw [List.map_cons] at w
    cases w with
    | cons a b =>
      cases a
      exact .cons _ _ (ih _ b)
theorem script_of {l : OpenLaw} {n : Nat} (hn : l.most = some n) {P : Params} {h : Heap} {args : List WData} {vals : List Value}
    (hpre : l.row.toRowW.claim.pre args = true) (hwl : WellAll P h vals args) :
    ∃ a vs ns, vals = [Value.ref a] ∧ args = [WData.list (ns.map WData.int)] ∧ h.get? a = some { cls := .type "list", data := .seq vs.toArray } ∧ IntsAre vs ns ∧ ns.length ≤ n := by
  have hsh : WShape.hasAll [] args [.list .int] = true := (pre_splitW hpre).1
  have hc : l.pre.holds [] { args := args } = true := (pre_splitW hpre).2
  obtain ⟨d, r, rfl, h1, h2⟩ := hasAllW_cons hsh
  obtain rfl := hasAllW_nil h2
  obtain ⟨xs, rfl, h3⟩ := hasW_list h1
  obtain ⟨ns, rfl⟩ := items_int h3
  have hlen : ns.length ≤ n := by
    unfold OpenLaw.pre at hc
    have h4 : (WTm.not (.lt (.lit (.int (n : Int))) (.len (.arg 0)))).holds [] { args := [.list (ns.map .int)] } = true := by
      have h4 := (holds_andW hc).1
      rw [hn] at h4
      exact h4
    have h5 := condW_of h4 (w_not (w_lt w_lit (w_len_list (w_arg rfl))))
    rw [List.length_map] at h5
    refine Nat.le_of_not_lt fun q => ?_
    have q' : (n : Int) < ((ns.length : Nat) : Int) := by omega
    first
      | (rw [decide_eq_true q'] at h5; exact absurd h5 (by decide))
      | (simp at h5; omega)
  cases hwl with
  | cons w1 w2 =>
    cases w2
    cases w1 with
    | list ho hall => exact ⟨_, _, ns, rfl, rfl, ho, ints_of_wellAll ns _ hall, hlen⟩
theorem post_true (l : OpenLaw) (args : List WData) : l.row.toRowW.claim.post args (.bool true) args = true :=
  postW_of (r := l.row.toRowW) (X := (true == true))
    (show WShape.has [] (.bool true) .bool = true by first | rfl | decide | simp [WShape.has, WShape.arms, WShape.armsAll])
    (show (WTm.eq .res (.lit (.bool true))).value [] { args := args, res := some (.bool true), after := args } = some (.bool (true == true)) from w_eq_bool (w_res rfl) w_lit) rfl
theorem attach_call {l : OpenLaw} {n : Nat} {q : Program} {loose : List Str} {XP : (Str → Option Value) → Heap → Prop} {YP : World → Heap → Prop} {d : DefRec}
    (hn : l.most = some n) (hdf : d.params.defaults = [])
    (call : ∀ (w : World) (s₀ s₁ : Shared) (mg mb : Str → Option Value) (fa : Addr) (o : Obj) (pm cd doc : Value) (a : Addr) (vs : List Value) (ns : List Int),
      Ground q loose [] XP w s₀ mg mb s₁.heap → YP w s₁.heap →
      s₁.heap.get? fa = some o → o.data = .func (docDef d.name d.params d.body d.scope pm cd doc) → s₁.heap.CodeRec cd d.name → mg d.name = some (.ref fa) →
      s₁.heap.get? a = some { cls := .type "list", data := .seq vs.toArray } → IntsAre vs ns → ns.length ≤ n → s₁.gens = #[] →
      codeAny (model l.prog w) callerA (.call (.ref fa) ⟨[.ref a], []⟩) (fun r s' => r = .ok (.ret (.bool true)) ∧ OldK s₁.heap s'.heap ∧ s'.os = s₁.os ∧ AllBare s'.gens) s₁) :
    WalkO q loose XP YP l.row.toRowW d [] (fun f vs => PySem.call f vs) := by
  intro w s₀ s₁ mg mb G Y fa o pm cd doc dV kV ho hd hcd hD hmg hg args vals as hpre hlay hrd hwl hlo
  obtain rfl : dV = .none := Dflts.none hD hdf
  obtain rfl : kV = .none := Dflts.noKw hD
  obtain ⟨a, vs, ns, rfl, rfl, hobj, hints, hlen⟩ := script_of hn hpre hwl
  refine enter_call (codeAny_mono (call w s₀ s₁ mg mb fa o pm cd doc a vs ns G Y ho (fd_plain hd) hcd hmg hobj hints hlen hg) fun r s' hq => ?_)
  obtain ⟨rfl, h2, h3, h4⟩ := hq
  exact ⟨.inl ⟨.bool true, .bool true, [], rfl, fun _ => rfl, .bool true, post_true l _, fun _ => ⟨List.Pairwise.nil, fun _ hm => (nomatch hm)⟩⟩, h2, h3, h4⟩
section
variable {prog : Program} {w : World} {A : Around} {E : Value → Shared → Prop} {s : Shared} {K : Frag}
end
end Att
namespace L2
open PySem PySem.Spec PyProof.Rows
theorem vals_ints : ∀ {vs : List Value} {ns : List Int}, IntsAre vs ns → Vals (ns.map V.int) vs
  | _, _, .nil => .nil
  | _, _, .cons n t h => .cons ⟨t, rfl⟩ (vals_ints h)
end L2
namespace L2
open PySem PySem.Spec PyProof.Rows
abbrev KOf {K : PySem.W.Frag} {h : Heap} (_ : K.In h) : PySem.W.Frag := K
end L2
namespace L2
open PySem PySem.Spec PyProof.Rows
def defArgs (s : Stmt) : Arguments := match s with
  | .FunctionDef _ a _ _ _ _ _ _ _ _ => a
  | _ => { posonlyargs := [], args := [], vararg := none, kwonlyargs := [], kw_defaults := [], kwarg := none, defaults := [] }
def defBody (s : Stmt) : List Stmt := match s with
  | .FunctionDef _ _ b _ _ _ _ _ _ _ => b
  | _ => []
def defScope (s : Stmt) : Scope := match s with
  | .FunctionDef _ _ _ _ _ _ sc _ _ _ => sc
  | _ => { kind := .function, names := [], isGenerator := false, isCoroutine := false }
abbrev CX0 : CXT := fun _ _ _ _ _ _ => False
abbrev E0 : XK := fun _ _ _ => False
theorem pass0 {X : Cx} : Passes CX0 X E0 := fun _ _ _ _ _ _ _ h => h.elim
structure Fun (K : PySem.W.Frag) (x qual : Str) (st : Stmt) (f : Addr) (fd : FuncData) : Prop where
  ex : ∃ (oc : Value) (od : Option Addr) (kV doc pm : Value) (an : Option Addr) (cdv ct : Value) (osl : Array (Option Value)),
    fd = PySem.W.fnOf x qual (defArgs st) (defBody st) (defScope st) .none kV doc pm an cdv ct ∧ K.lookup f = some ⟨oc, od, .func fd, osl⟩ ∧ PySem.W.codeIn K cdv qual = true
  kp : PySem.W.keepIn K (.ref f) = true
section
variable {P : Program} {w : World} {K : PySem.W.Frag} {mg : Str → Option Value} {base : Heap}
theorem Fun.ok {x qual : Str} {st : Stmt} {f : Addr} {fd : FuncData} {N ps : List Str} {k : Nat} {sp : Sp} (F : Fun K x qual st f fd) (S : FnScope N ps (defScope st)) (len : ∀ vs H Q E, sp vs H Q E → vs.length = ps.length)
    (hbody : ∀ (cdv : Value) (A : Around) (outer : List Env) (s : Shared) (H : Hp) (vs : List V) (Q : VK) (E : XK), Room k (A.deeper (envOfC qual (defScope st) s.heap.objs.size f cdv)) → sp vs H Q E →
      ∃ t, PSs (cxOf CX0 P w K mg base N qual (defScope st) f cdv A outer s H E).nox (defBody st) t ∧ t { nx := fun _ H' => Q .non H', rt := Q } (start N vs) H) : FnOk P w K mg base CX0 (k + 1) f fd ps sp := by
  obtain ⟨oc, od, kV, doc, pm, an, cdv, ct, osl, rfl, lk, hcd⟩ := F.ex
  refine fn_of lk hcd S len fun A outer s H vs Q E hr hsp => ?_
  obtain ⟨t, h, q⟩ := hbody cdv A outer s H vs Q E hr hsp
  exact ⟨t, h.nox, q⟩
theorem Fun.binds {x qual : Str} {st : Stmt} {f : Addr} {fd : FuncData} {ps : List Str} (F : Fun K x qual st f fd)
    (h : ∀ (kV doc pm : Value) (an : Option Addr) (cdv ct : Value) (us : List Value), us.length = ps.length → bindArgs (PySem.W.fnOf x qual (defArgs st) (defBody st) (defScope st) .none kV doc pm an cdv ct) ⟨us, []⟩ = pure (ps.zip us)) : Binds K fd ps [] := by
  obtain ⟨oc, od, kV, doc, pm, an, cdv, ct, osl, rfl, lk, hcd⟩ := F.ex
  exact .all (h kV doc pm an cdv ct)
theorem fun_mk {x qual : Str} {st : Stmt} {f : Addr} {oc : Value} {od an : Option Addr} {osl : Array (Option Value)} {kV doc pm cdv ct : Value} (l : K.lookup f = some ⟨oc, od, .func (PySem.W.fnOf x qual (defArgs st) (defBody st) (defScope st) .none kV doc pm an cdv ct), osl⟩)
    (c : PySem.W.codeIn K cdv qual = true) (k : PySem.W.keepIn K (.ref f) = true) : Fun K x qual st f (PySem.W.fnOf x qual (defArgs st) (defBody st) (defScope st) .none kV doc pm an cdv ct) := ⟨⟨oc, od, kV, doc, pm, an, cdv, ct, osl, rfl, l, c⟩, k⟩
end
theorem small1000 {n : Nat} (h : n ≤ 1000) : n < sizeLine := Nat.lt_of_le_of_lt h (by decide)
section
variable {X : Cx}
theorem pv (i : Nat) {x : Str} {pos : Pos} (hN : X.N[i]? = some x := by rfl) (hv : Vis X.env.scope x := by first | exact Or.inl rfl | exact Or.inr (Or.inl rfl) | exact Or.inr (Or.inr rfl)) (hd : (x == ("__debug__" : Str)) = false := by decide)
    (hcd : (x == ("__classdict__" : Str)) = false := by decide) : PE X (.Name x pos) (tVar i) := pe_var hN hv hd hcd
end
theorem iteF {A B : Prop} (h : B) : if false = true then A else B := by
  rw [if_neg Bool.false_ne_true]
  exact h
theorem iteT {A B : Prop} (h : A) : if true = true then A else B := by
  rw [if_pos rfl]
  exact h
theorem ite2 {c A B : Prop} [Decidable c] (h1 : c → A) (h2 : ¬ c → B) : if c then A else B := by
  by_cases h : c
  · rw [if_pos h]
    exact h1 h
  · rw [if_neg h]
    exact h2 h
def Same (H H' : Hp) : Prop := ∀ b o, H b = some o → H' b = some o
theorem Same.refl (H : Hp) : Same H H := fun _ _ h => h
theorem Same.trans {H H1 H2 : Hp} (a : Same H H1) (b : Same H1 H2) : Same H H2 := fun c o h => b c o (a c o h)
end L2
namespace L2
open PySem PySem.Spec PyProof.Rows
theorem scal_ii (i j : Int) : scal (.int i) (.int j) = true := rfl
theorem scal_bb (i j : Bool) : scal (.bl i) (.bl j) = true := rfl
theorem scal_ss (i j : Str) : scal (.str i) (.str j) = true := rfl
theorem scal_ni (i : Int) : scal .non (.int i) = true := rfl
theorem scal_in (i : Int) : scal (.int i) .non = true := rfl
theorem log2_small {i : Int} (h : i.natAbs < 10 ^ 100) : i.natAbs.log2 < 400 := by
  by_cases h0 : i.natAbs = 0
  · rw [h0]; decide
  · exact (Nat.log2_lt h0).mpr (Nat.lt_of_lt_of_le h (by decide +kernel))
theorem bits_small {i : Int} (h : i.natAbs < 10 ^ 100) : Builtin.Int.intBits i ≤ 2 ^ 20 := by
  unfold Builtin.Int.intBits
  split
  · exact Nat.zero_le _
  · have := log2_small h
    have e : (2 : Nat) ^ 20 = 1048576 := by decide
    omega
def CMulB (i j : Int) : Prop := CMul i j ∨ (i.natAbs < 10 ^ 100 ∧ j.natAbs < 10 ^ 100)
theorem CMulB.ok {i j : Int} (h : CMulB i j) : IntMulOk i j := by
  rcases h with h | h
  · exact h.ok
  · exact .of_bits (bits_small h.1) (bits_small h.2)
def CDivB (i j : Int) : Prop := 0 < j ∧ j.natAbs < 10 ^ 100
section
variable {X : Cx}
theorem op_mulB : OpR X (binaryOp .Mult) (rI CMulB fun i j => .int (i * j)) := opI fun _ _ _ _ _ _ _ hc q => mul_int q hc.ok
theorem op_fdivB : OpR X (binaryOp .FloorDiv) (rI CDivB fun i j => .int (i / j)) := opI fun i j _ _ _ _ _ hc q => by
  have e : i.fdiv j = i / j := Int.fdiv_eq_ediv_of_nonneg i (Int.le_of_lt hc.1)
  refine floordiv_int (by have := hc.1; omega) ?_ (.inl (PyProof.noPylong_of_log2 (Nat.lt_trans (log2_small hc.2) (by decide))))
  rw [e]
  exact q
def KitV (X : Cx) (pins : List (Addr × Obj)) (σ : St) (H : Hp) (s : Shared) (u t : Value) : Prop := ∃ Hh : Heap → Prop, PySem.W.KitX X.K u t Hh ∧ Hh s.heap ∧ u ≠ .builtin "__main__.__loader__#opaque"
theorem TyOf.kit {pins : List (Addr × Obj)} {σ : St} {H : Hp} {s : Shared} {x : V} {u t : Value} (ty : TyOf X.K H x t) (I : Inv X pins σ H s) (rx : RelV x u) : KitV X pins σ H s u t := by
  cases ty with
  | non => cases (show u = Value.none from rx); exact ⟨_, PySem.W.kitx_none, True.intro, fun z => nomatch z⟩
  | bl y => cases (show u = Value.bool y from rx); exact ⟨_, PySem.W.kitx_bool, True.intro, fun z => nomatch z⟩
  | int i => obtain ⟨t, q⟩ := (show ∃ t, u = Value.int i t from rx); cases q; exact ⟨_, PySem.W.kitx_int, True.intro, fun z => nomatch z⟩
  | str y => obtain ⟨t, q⟩ := (show ∃ t, u = Value.str y t from rx); cases q; exact ⟨_, PySem.W.kitx_str, True.intro, fun z => nomatch z⟩
  | flt y => obtain ⟨t, q⟩ := (show ∃ t, u = Value.float y t from rx); cases q; exact ⟨_, PySem.W.kitx_float, True.intro, fun z => nomatch z⟩
  | @lst a xs ea =>
    cases (show u = Value.ref a from rx)
    obtain ⟨_, _, n, _, h1⟩ := (show ObjOk X.prog X.w H s.heap a (.lst xs) from I.hok a _ ea)
    exact ⟨_, PySem.W.kitx_list, ⟨_, h1, rfl⟩, fun z => nomatch z⟩
  | @frz a ob xs ea =>
    cases (show u = Value.ref a from rx)
    obtain ⟨_, _, _, n, _, h1⟩ := (show ObjOk X.prog X.w H s.heap a (.frz ob (.lst xs)) from I.hok a _ ea)
    exact ⟨_, PySem.W.kitx_list, ⟨_, h1, rfl⟩, fun z => nomatch z⟩
  | @tup a xs ea =>
    cases (show u = Value.ref a from rx)
    obtain ⟨_, _, _, p⟩ := (show ObjOk X.prog X.w H s.heap a (.tup xs) from I.hok a _ ea)
    obtain ⟨o, h1, h2, _⟩ := p
    exact ⟨_, PySem.W.kitx_tuple, ⟨o, h1, h2⟩, fun z => nomatch z⟩
  | @dK a kvs ea =>
    cases (show u = Value.ref a from rx)
    obtain ⟨_, _, vs, _, p⟩ := (show ObjOk X.prog X.w H s.heap a (.dK kvs) from I.hok a _ ea)
    obtain ⟨o, es, ep, h1, h2, _⟩ := p
    exact ⟨_, PySem.W.kitx_dict, ⟨o, h1, h2.1⟩, fun z => nomatch z⟩
  | @dT a kvs ea =>
    cases (show u = Value.ref a from rx)
    obtain ⟨_, _, xs, _, o, es, ep, h1, h2, _⟩ := (show ObjOk X.prog X.w H s.heap a (.dT kvs) from I.hok a _ ea)
    exact ⟨_, PySem.W.kitx_dict, ⟨o, h1, h2.1⟩, fun z => nomatch z⟩
  | @ins a C dx fs ea cl ha hn htk hm =>
    cases (show u = Value.ref a from rx)
    obtain ⟨mA, O, _⟩ := ins_get I.hok ea
    obtain ⟨od, J, _⟩ := O.look
    exact ⟨_, PySem.W.kitx_own (cl.get _) cl.hd ha hn htk hm, J, fun z => nomatch z⟩
def clsV : V → Option Value
  | .ty n => some (.type n)
  | .ref a => some (.ref a)
  | _ => none
theorem clsV_rel {c : V} {u u' : Value} (h : clsV c = some u) (r : RelV c u') : u' = u := by
  cases c with
  | ty n => cases h; exact r
  | ref a => cases h; exact r
  | _ => cases h
def rIsi (K : PySem.W.Frag) : List V → Hp → VK → Prop := fun xs H Q => ∃ x t c u b, xs = [x, c] ∧ TyOf K H x t ∧ clsV c = some u ∧ PySem.W.kitOne K t u = some b ∧ Q (.bl b) H
theorem call_isinst : CallR X (.builtin "isinstance") (rIsi X.K) := by
  intro pins s σ H xs us Q I r h
  obtain ⟨x, t, c, u', b, rfl, ty, ec, e, q⟩ := h
  obtain ⟨u, w', rfl, rx, rc⟩ := vals2 r
  obtain rfl := clsV_rel ec rc
  obtain ⟨Hh, Z, p, hx⟩ := ty.kit I rx
  exact PySem.W.kia_one Z I.kIn p e hx fun tk => ⟨.bl b, H, I.tok tk, rfl, q⟩
theorem kit_NoneType_int (K : PySem.W.Frag) : PySem.W.kitOne K (.type "NoneType") (.type "int") = some false := by kernel_rfl
theorem kit_NoneType_bool (K : PySem.W.Frag) : PySem.W.kitOne K (.type "NoneType") (.type "bool") = some false := by kernel_rfl
theorem kit_NoneType_tuple (K : PySem.W.Frag) : PySem.W.kitOne K (.type "NoneType") (.type "tuple") = some false := by kernel_rfl
theorem kit_NoneType_list (K : PySem.W.Frag) : PySem.W.kitOne K (.type "NoneType") (.type "list") = some false := by kernel_rfl
theorem kit_NoneType_str (K : PySem.W.Frag) : PySem.W.kitOne K (.type "NoneType") (.type "str") = some false := by kernel_rfl
theorem kit_NoneType_dict (K : PySem.W.Frag) : PySem.W.kitOne K (.type "NoneType") (.type "dict") = some false := by kernel_rfl
theorem kit_bool_int (K : PySem.W.Frag) : PySem.W.kitOne K (.type "bool") (.type "int") = some true := by kernel_rfl
theorem kit_bool_bool (K : PySem.W.Frag) : PySem.W.kitOne K (.type "bool") (.type "bool") = some true := by kernel_rfl
theorem kit_bool_tuple (K : PySem.W.Frag) : PySem.W.kitOne K (.type "bool") (.type "tuple") = some false := by kernel_rfl
theorem kit_bool_list (K : PySem.W.Frag) : PySem.W.kitOne K (.type "bool") (.type "list") = some false := by kernel_rfl
theorem kit_bool_str (K : PySem.W.Frag) : PySem.W.kitOne K (.type "bool") (.type "str") = some false := by kernel_rfl
theorem kit_bool_dict (K : PySem.W.Frag) : PySem.W.kitOne K (.type "bool") (.type "dict") = some false := by kernel_rfl
theorem kit_int_int (K : PySem.W.Frag) : PySem.W.kitOne K (.type "int") (.type "int") = some true := by kernel_rfl
theorem kit_int_bool (K : PySem.W.Frag) : PySem.W.kitOne K (.type "int") (.type "bool") = some false := by kernel_rfl
theorem kit_int_tuple (K : PySem.W.Frag) : PySem.W.kitOne K (.type "int") (.type "tuple") = some false := by kernel_rfl
theorem kit_int_list (K : PySem.W.Frag) : PySem.W.kitOne K (.type "int") (.type "list") = some false := by kernel_rfl
theorem kit_int_str (K : PySem.W.Frag) : PySem.W.kitOne K (.type "int") (.type "str") = some false := by kernel_rfl
theorem kit_int_dict (K : PySem.W.Frag) : PySem.W.kitOne K (.type "int") (.type "dict") = some false := by kernel_rfl
theorem kit_str_int (K : PySem.W.Frag) : PySem.W.kitOne K (.type "str") (.type "int") = some false := by kernel_rfl
theorem kit_str_bool (K : PySem.W.Frag) : PySem.W.kitOne K (.type "str") (.type "bool") = some false := by kernel_rfl
theorem kit_str_tuple (K : PySem.W.Frag) : PySem.W.kitOne K (.type "str") (.type "tuple") = some false := by kernel_rfl
theorem kit_str_list (K : PySem.W.Frag) : PySem.W.kitOne K (.type "str") (.type "list") = some false := by kernel_rfl
theorem kit_str_str (K : PySem.W.Frag) : PySem.W.kitOne K (.type "str") (.type "str") = some true := by kernel_rfl
theorem kit_str_dict (K : PySem.W.Frag) : PySem.W.kitOne K (.type "str") (.type "dict") = some false := by kernel_rfl
theorem kit_float_int (K : PySem.W.Frag) : PySem.W.kitOne K (.type "float") (.type "int") = some false := by kernel_rfl
theorem kit_float_bool (K : PySem.W.Frag) : PySem.W.kitOne K (.type "float") (.type "bool") = some false := by kernel_rfl
theorem kit_float_tuple (K : PySem.W.Frag) : PySem.W.kitOne K (.type "float") (.type "tuple") = some false := by kernel_rfl
theorem kit_float_list (K : PySem.W.Frag) : PySem.W.kitOne K (.type "float") (.type "list") = some false := by kernel_rfl
theorem kit_float_str (K : PySem.W.Frag) : PySem.W.kitOne K (.type "float") (.type "str") = some false := by kernel_rfl
theorem kit_float_dict (K : PySem.W.Frag) : PySem.W.kitOne K (.type "float") (.type "dict") = some false := by kernel_rfl
theorem kit_list_int (K : PySem.W.Frag) : PySem.W.kitOne K (.type "list") (.type "int") = some false := by kernel_rfl
theorem kit_list_bool (K : PySem.W.Frag) : PySem.W.kitOne K (.type "list") (.type "bool") = some false := by kernel_rfl
theorem kit_list_tuple (K : PySem.W.Frag) : PySem.W.kitOne K (.type "list") (.type "tuple") = some false := by kernel_rfl
theorem kit_list_list (K : PySem.W.Frag) : PySem.W.kitOne K (.type "list") (.type "list") = some true := by kernel_rfl
theorem kit_list_str (K : PySem.W.Frag) : PySem.W.kitOne K (.type "list") (.type "str") = some false := by kernel_rfl
theorem kit_list_dict (K : PySem.W.Frag) : PySem.W.kitOne K (.type "list") (.type "dict") = some false := by kernel_rfl
theorem kit_tuple_int (K : PySem.W.Frag) : PySem.W.kitOne K (.type "tuple") (.type "int") = some false := by kernel_rfl
theorem kit_tuple_bool (K : PySem.W.Frag) : PySem.W.kitOne K (.type "tuple") (.type "bool") = some false := by kernel_rfl
theorem kit_tuple_tuple (K : PySem.W.Frag) : PySem.W.kitOne K (.type "tuple") (.type "tuple") = some true := by kernel_rfl
theorem kit_tuple_list (K : PySem.W.Frag) : PySem.W.kitOne K (.type "tuple") (.type "list") = some false := by kernel_rfl
theorem kit_tuple_str (K : PySem.W.Frag) : PySem.W.kitOne K (.type "tuple") (.type "str") = some false := by kernel_rfl
theorem kit_tuple_dict (K : PySem.W.Frag) : PySem.W.kitOne K (.type "tuple") (.type "dict") = some false := by kernel_rfl
theorem kit_dict_int (K : PySem.W.Frag) : PySem.W.kitOne K (.type "dict") (.type "int") = some false := by kernel_rfl
theorem kit_dict_bool (K : PySem.W.Frag) : PySem.W.kitOne K (.type "dict") (.type "bool") = some false := by kernel_rfl
theorem kit_dict_tuple (K : PySem.W.Frag) : PySem.W.kitOne K (.type "dict") (.type "tuple") = some false := by kernel_rfl
theorem kit_dict_list (K : PySem.W.Frag) : PySem.W.kitOne K (.type "dict") (.type "list") = some false := by kernel_rfl
theorem kit_dict_str (K : PySem.W.Frag) : PySem.W.kitOne K (.type "dict") (.type "str") = some false := by kernel_rfl
theorem kit_dict_dict (K : PySem.W.Frag) : PySem.W.kitOne K (.type "dict") (.type "dict") = some true := by kernel_rfl
def isaB (n c : String) : Bool := n == c || (n == "bool" && c == "int")
theorem TyOf.name {K : PySem.W.Frag} {H : Hp} {x : V} {n : String} (ty : TyOf K H x (.type n)) : n = "NoneType" ∨ n = "bool" ∨ n = "int" ∨ n = "str" ∨ n = "float" ∨ n = "list" ∨ n = "tuple" ∨ n = "dict" := by
  cases ty <;> simp
theorem kit_ty {K : PySem.W.Frag} {n c : String} (hn : n = "NoneType" ∨ n = "bool" ∨ n = "int" ∨ n = "str" ∨ n = "float" ∨ n = "list" ∨ n = "tuple" ∨ n = "dict") (hc : c = "int" ∨ c = "bool" ∨ c = "tuple" ∨ c = "list" ∨ c = "str" ∨ c = "dict") :
    PySem.W.kitOne K (.type n) (.type c) = some (isaB n c) := by
  rcases hn with rfl | rfl | rfl | rfl | rfl | rfl | rfl | rfl <;> rcases hc with rfl | rfl | rfl | rfl | rfl | rfl
  · exact kit_NoneType_int K
  · exact kit_NoneType_bool K
  · exact kit_NoneType_tuple K
  · exact kit_NoneType_list K
  · exact kit_NoneType_str K
  · exact kit_NoneType_dict K
  · exact kit_bool_int K
  · exact kit_bool_bool K
  · exact kit_bool_tuple K
  · exact kit_bool_list K
  · exact kit_bool_str K
  · exact kit_bool_dict K
  · exact kit_int_int K
  · exact kit_int_bool K
  · exact kit_int_tuple K
  · exact kit_int_list K
  · exact kit_int_str K
  · exact kit_int_dict K
  · exact kit_str_int K
  · exact kit_str_bool K
  · exact kit_str_tuple K
  · exact kit_str_list K
  · exact kit_str_str K
  · exact kit_str_dict K
  · exact kit_float_int K
  · exact kit_float_bool K
  · exact kit_float_tuple K
  · exact kit_float_list K
  · exact kit_float_str K
  · exact kit_float_dict K
  · exact kit_list_int K
  · exact kit_list_bool K
  · exact kit_list_tuple K
  · exact kit_list_list K
  · exact kit_list_str K
  · exact kit_list_dict K
  · exact kit_tuple_int K
  · exact kit_tuple_bool K
  · exact kit_tuple_tuple K
  · exact kit_tuple_list K
  · exact kit_tuple_str K
  · exact kit_tuple_dict K
  · exact kit_dict_int K
  · exact kit_dict_bool K
  · exact kit_dict_tuple K
  · exact kit_dict_list K
  · exact kit_dict_str K
  · exact kit_dict_dict K
theorem isi {K : PySem.W.Frag} {H : Hp} {x : V} {n c : String} {Q : VK} (ty : TyOf K H x (.type n)) (q : Q (.bl (isaB n c)) H) (hc : c = "int" ∨ c = "bool" ∨ c = "tuple" ∨ c = "list" ∨ c = "str" ∨ c = "dict" := by decide) : rIsi K [x, .ty c] H Q :=
  ⟨x, _, _, _, _, rfl, ty, rfl, kit_ty ty.name hc, q⟩
end
def tPar3 (i j l : Nat) (ta : TA) : TS := fun D σ H => ta σ H fun vs H1 => ∃ v w u, vs = [v, w, u] ∧ D.nx (((σ.set i (some v)).set j (some w)).set l (some u)) H1
theorem vals3 {x y z : V} {us : List Value} (r : Vals [x, y, z] us) : ∃ u v w, us = [u, v, w] ∧ RelV x u ∧ RelV y v ∧ RelV z w := by
  cases r with
  | cons p q =>
    cases q with
    | cons p' q' =>
      cases q' with
      | cons p2 q2 =>
        cases q2
        exact ⟨_, _, _, rfl, p, p', p2⟩
section
variable {X : Cx} {pos : Pos}
theorem ps_par3 {i j l : Nat} {x y z : Str} {a b c : Expr} {ta : TA} {px py pz pt : Pos} {kt k2 pt2} (hc : X.calm = true) (hN : X.N.Nodup) (hi : X.N[i]? = some x) (hj : X.N[j]? = some y) (hl : X.N[l]? = some z) (hij : i ≠ j) (hil : i ≠ l) (hjl : j ≠ l)
    (hx : X.env.scope.names.lookup x = some .local) (hy : X.env.scope.names.lookup y = some .local) (hz : X.env.scope.names.lookup z = some .local) (ha : PA X [a, b, c] ta)
    (hw : swappedStores [.Tuple [.Name x px, .Name y py, .Name z pz] kt pt] (.Tuple [a, b, c] k2 pt2) X.env = pure (some [x, y, z]))
    (hs : swapsWithSole [.Tuple [.Name x px, .Name y py, .Name z pz] kt pt] (.Tuple [a, b, c] k2 pt2) pos.line X.env = pure false := by rfl) :
    PS X (.Assign [.Tuple [.Name x px, .Name y py, .Name z pz] kt pt] (.Tuple [a, b, c] k2 pt2) pos) (tPar3 i j l ta) := by
  intro pins s σ H D I h
  rw [exec_Assign_arm]
  refine wpAny_bind (wpAny_standAt ?_)
  rw [hs]
  refine wpAny_bind (wpAny_pure ?_)
  rw [if_neg (by decide)]
  refine wpAny_bind (Tuple_ (thn (ha _ pins s σ H _ I h) fun us s1 ⟨vs, H1, I1, r1, q1⟩ => ?_))
  obtain ⟨v, w, m, e1, q1⟩ := q1
  subst e1
  obtain ⟨u1, u2, u3, rfl, rv, rw', rm⟩ := vals3 r1
  refine wpAny_newObj_type ?_ (by show 3 ≤ sizeLine; decide)
  have I2 : Inv X pins σ H1 { s1 with heap := s1.heap.push { cls := .type "tuple", data := .seq [u1, u2, u3].toArray } } := I1.kept (t' := s1.toks) fun b o e => Heap.get?_push_of_some _ e
  rw [hw]
  refine wpAny_bind (wpAny_pure ?_)
  show wpAny (model X.prog X.w) X.A (do rule "assign.swapped-stores"; let items ← unpackItems (.ref s1.heap.objs.size) 3 none; assignInOrder [fun v => bindName X.env z v, fun v => bindName X.env y v, fun v => bindName X.env x v] items.reverse; pure Flow.next) _ _ _
  refine wpAny_bind (wpAny_rule (wpAny_bind (unpackItems_tuple (items := #[u1, u2, u3]) (I.ok.hd hc) (IsTup.new s1.heap _) fun h' hx' => ?_)))
  have I3 := I2.kept (h' := h') (t' := s1.toks) fun b o e => hx' b o (Nat.ne_of_lt (Heap.lt_size e)) e
  show wpAny _ _ (assignInOrder [fun v => bindName X.env z v, fun v => bindName X.env y v, fun v => bindName X.env x v] [u3, u2, u1] >>= fun _ => pure Flow.next) _ _ _
  refine wpAny_bind (assignInOrder_cons (wpAny_bindName (store_ok I3 hN hl (.inl hz) rm (fun s2 I4 => ?_) (.inr hz))))
  refine assignInOrder_cons (wpAny_bindName (store_ok I4 hN hj (.inl hy) rw' (fun s2 I4 => ?_) (.inr hy)))
  refine assignInOrder_cons (wpAny_bindName (store_ok I4 hN hi (.inl hx) rv (fun s3 I5 => assignInOrder_nil (wpAny_pure ?_)) (.inr hx)))
  rw [List.set_comm _ _ hjl.symm, List.set_comm _ _ hil.symm, List.set_comm _ _ hij.symm] at I5
  exact ⟨_, H1, I5, q1⟩
end
section
variable {X : Cx}
theorem op_isnotB : OpR X (compareOp .IsNot) (fun x y H Q => ∃ a b, x = .bl a ∧ y = .bl b ∧ Q (.bl (a != b)) H) := by
  intro pins s σ H x y v u Q I rx ry h
  obtain ⟨a, b, rfl, rfl, q⟩ := h
  cases rx; cases ry
  exact isnot_bool ⟨.bl _, H, I, rfl, q⟩
end
structure Def (K : PySem.W.Frag) (mg : Str → Option Value) (x : Str) (st : Stmt) (ps : List Str) (f : Addr) (fd : FuncData) : Prop where
  fn : Fun K x x st f fd
  bd : Binds K fd ps []
  mgx : mg x = some (.ref f)
end L2
namespace L2
open PySem PySem.Spec PyProof.Rows
def EO (dx : Option Addr) (C : Value) (vs : Array Value) (sl : Array (Option Value)) : Obj := { cls := C, dict := dx, data := .fields vs, slots := sl }
structure Flying (dx : Option Addr) (h : Heap) (e T : Addr) (C fl : Value) : Prop where
  ex : ∃ vs sl, h.get? e = some (EO dx C vs sl) ∧ vs[1]? = some (.ref T)
  tr : ∃ oT ts, h.get? T = some oT ∧ oT.data = .fields ts ∧ ts[3]? = some fl
  ne : T ≠ e
section
variable {M : Model} {A : Around} {E : Value → Shared → Prop} {s : Shared} {base : Heap} {env : Env} {outer : List Env} {L e : Addr} {C : Value} {dx : Option Addr} {vs : Array Value} {sl : Array (Option Value)} {Q : Unit → Shared → Prop}
theorem nofr_of (hl : s.heap.FunFrames base (env :: outer)) (he : s.heap.get? e = some (EO dx C vs sl)) : e ∉ frs (env :: outer) := fun hm => by
  obtain ⟨_, o, ho, hnf⟩ := hl.mem hm
  rw [he] at ho
  cases ho
  exact hnf vs rfl
theorem entry_ {head : Value} {hn : Bool} (hfr : A.frames = some (env :: outer)) (hl : s.heap.FunFrames base (env :: outer)) (hf : env.frame = some L) (he : s.heap.get? e = some (EO dx C vs sl)) (hsz : 1 < vs.size)
    (h : ∀ h' T, s.heap.objs.size ≤ T → Flying dx h' e T C (rawInt L) → (∀ b o, b ∉ frs (env :: outer) → b ≠ e → s.heap.get? b = some o → h'.get? b = some o) →
      (∀ b o, b ∈ frs (env :: outer) → s.heap.get? b = some o → ∃ sl, h'.get? b = some { o with slots := sl }) → Q () { s with heap := h' }) :
    wpAny M A (do let a ← frameOf env; let pl ← entryPlaceOf L hn; let b ← EntryCells.newEntry head a .none (rawInt L) .none pl; setField (.ref e) 1 b) Q E s := by
  have hef := nofr_of hl he
  refine wpAny_bind (wpAny_frameOf_fun hfr hl hf fun h1 S => ?_)
  refine wpAny_bind (wpAny_entryPlaceOf fun pl hpl => ?_)
  unfold EntryCells.newEntry newFields
  refine wpAny_bind (wpAny_newObj_type ?_ (hpl.sizeOk5 _ _ _ _ _))
  generalize hO : ({ cls := .type "traceback", dict := none, data := .fields ([head, .ref L, .none, rawInt L, .none] ++ (if pl.isEmpty then List.replicate 6 Value.none else pl)).toArray } : Obj) = O
  have he1 : h1.get? e = some (EO dx C vs sl) := (S.2.1 e hef).trans he
  have hTe : h1.objs.size ≠ e := Nat.ne_of_gt (Heap.lt_size he1)
  have he2 : (h1.push O).get? e = some (EO dx C vs sl) := Heap.get?_push_of_some O he1
  have hT2 : (h1.push O).get? h1.objs.size = some O := Heap.get?_push_size h1 (by rw [← hO]; rfl)
  refine wpAny_setField he2 rfl hsz (h _ h1.objs.size (Nat.le_of_eq S.1.symm) ⟨⟨vs.setIfInBounds 1 (.ref h1.objs.size), sl, ?_, by simp [hsz]⟩, ⟨O, _, (Heap.get?_update_other _ _ (Ne.symm hTe)).trans hT2, by rw [← hO], ?_⟩, hTe⟩ (fun b o hb hbe q => ?_) fun b o hb q => ?_)
  · exact Heap.get?_update_self _ he2 rfl
  · rcases hpl with rfl | ⟨_, _, _, _, _, _, _, rfl⟩ <;> simp
  · rw [Heap.get?_update_other _ _ (Ne.symm hbe)]
    exact Heap.get?_push_of_some _ ((S.2.1 b hb).trans q)
  · obtain ⟨sl', z⟩ := S.2.2 b o q
    have hbe : b ≠ e := fun w => hef (w ▸ hb)
    exact ⟨sl', by rw [Heap.get?_update_other _ _ (Ne.symm hbe)]; exact Heap.get?_push_of_some _ z⟩
structure Noted (fs : List Addr) (h h' : Heap) (e : Addr) (T0 : Option Addr) : Prop where
  keep : ∀ b o, b ∉ fs → b ≠ e → some b ≠ T0 → h.get? b = some o → h'.get? b = some o
  slot : ∀ b o, b ∈ fs → h.get? b = some o → ∃ sl, h'.get? b = some { o with slots := sl }
theorem note_made (hfr : A.frames = some (env :: outer)) (hl : s.heap.FunFrames base (env :: outer)) (hf : env.frame = some L) (he : s.heap.get? e = some (EO dx C vs sl)) (h1 : vs[1]? = some .none)
    (h : ∀ h' T, s.heap.objs.size ≤ T → Flying dx h' e T C (rawInt L) → Noted (frs (env :: outer)) s.heap h' e none → Q () { s with heap := h' }) : wpAny M A (noteFrame (.ref e) env) Q E s := by
  unfold noteFrame
  simp only [hf]
  refine wpAny_bind (wpAny_field he rfl h1 ?_)
  rw [if_neg (by decide)]
  exact entry_ hfr hl hf he (Array.getElem?_eq_some_iff.mp h1).1 fun h' T a b c d => h h' T a b ⟨fun b' o x y _ z => c b' o x y z, d⟩
theorem note_on {T0 : Addr} (hfr : A.frames = some (env :: outer)) (hl : s.heap.FunFrames base (env :: outer)) (hf : env.frame = some L) (F : Flying dx s.heap e T0 C .none)
    (h : ∀ h' T, s.heap.objs.size ≤ T → Flying dx h' e T C (rawInt L) → Noted (frs (env :: outer)) s.heap h' e (some T0) → Q () { s with heap := h' }) : wpAny M A (noteFrame (.ref e) env) Q E s := by
  obtain ⟨⟨vs, sl, he, h1⟩, ⟨oT, ts, hT, hdT, h3⟩, ne⟩ := F
  have hTf : T0 ∉ frs (env :: outer) := fun hm => by
    obtain ⟨_, o, ho, hnf⟩ := hl.mem hm
    rw [hT] at ho
    cases ho
    exact hnf ts hdT
  unfold noteFrame
  simp only [hf]
  refine wpAny_bind (wpAny_field he rfl h1 ?_)
  rw [if_pos (show (Value.ref T0 != Value.none) = true by simp)]
  refine wpAny_bind (wpAny_field hT hdT h3 ?_)
  rw [if_neg (show ¬ ((Value.none == rawInt L) = true) by simp [rawInt])]
  refine wpAny_bind (wpAny_setField hT hdT (Array.getElem?_eq_some_iff.mp h3).1 ?_)
  have other : ∀ b, b ≠ T0 → (s.heap.update T0 (Obj.mapFields (·.setIfInBounds 3 Value.none))).get? b = s.heap.get? b := fun b hb => Heap.get?_update_other _ _ (Ne.symm hb)
  have hl' : (s.heap.update T0 (Obj.mapFields (·.setIfInBounds 3 Value.none))).FunFrames base (env :: outer) := hl.of_keeps fun b o hb hnf => ⟨o, (other b fun q => by rw [q, hT] at hb; cases hb; exact hnf ts hdT).trans hb, rfl⟩
  refine entry_ hfr hl' hf ((other e (Ne.symm ne)).trans he) (Array.getElem?_eq_some_iff.mp h1).1 fun h' T a b c d => h h' T ?_ b ⟨fun b' o x y w z => c b' o x y ((other b' fun q => w (by rw [q])).trans z), fun b' o x z => d b' o x ((other b' fun q => hTf (q ▸ x)).trans z)⟩
  rwa [Heap.size_update] at a
theorem flight_none {T : Addr} {fl : Value} (F : Flying dx s.heap e T C fl) (h : ∀ h', Flying dx h' e T C .none → (∀ b o, b ≠ T → s.heap.get? b = some o → h'.get? b = some o) → h'.objs.size = s.heap.objs.size → Q () { s with heap := h' }) :
    wpAny M A (setFlight (.ref e) none) Q E s := by
  obtain ⟨⟨vs, sl, he, h1⟩, ⟨oT, ts, hT, hdT, h3⟩, ne⟩ := F
  have h3s : 3 < ts.size := (Array.getElem?_eq_some_iff.mp h3).1
  unfold setFlight
  refine wpAny_bind (wpAny_field he rfl h1 ?_)
  rw [if_pos (show (Value.ref T != Value.none) = true by simp)]
  refine wpAny_setField hT hdT h3s (h _ ⟨⟨vs, sl, (Heap.get?_update_other _ _ ne).trans he, h1⟩, ⟨_, _, Heap.get?_update_self _ hT (Obj.isFreed_of_fields (Obj.data_mapFields hdT _)), Obj.data_mapFields hdT _, by simp [h3s]⟩, ne⟩ (fun b o hb z => (Heap.get?_update_other _ _ (Ne.symm hb)).trans z) (Heap.size_update ..))
theorem leave_made (hfr : A.frames = some (env :: outer)) (hl : s.heap.FunFrames base (env :: outer)) (hf : env.frame = some L) (he : s.heap.get? e = some (EO dx C vs sl)) (h1 : vs[1]? = some .none)
    (h : ∀ h' T, s.heap.objs.size ≤ T → Flying dx h' e T C .none → Noted (frs (env :: outer)) s.heap h' e none → Q () { s with heap := h' }) : wpAny M A (leaving env (.ref e)) Q E s := by
  have hef := nofr_of hl he
  refine wpAny_bind (note_made hfr hl hf he h1 fun h' T a F N => flight_none F fun h2 F2 k _ => h h2 T a F2 ⟨fun b o x y w z => k b o (fun q => ?_) (N.keep b o x y w z), fun b o x z => ?_⟩)
  · exact absurd (Heap.lt_size z) (by rw [q]; exact Nat.not_lt.mpr a)
  · obtain ⟨sl', z'⟩ := N.slot b o x z
    exact ⟨sl', k b _ (fun q => absurd (Heap.lt_size z) (by rw [q]; exact Nat.not_lt.mpr a)) z'⟩
theorem leave_on {T0 : Addr} (hfr : A.frames = some (env :: outer)) (hl : s.heap.FunFrames base (env :: outer)) (hf : env.frame = some L) (F : Flying dx s.heap e T0 C .none)
    (h : ∀ h' T, s.heap.objs.size ≤ T → Flying dx h' e T C .none → Noted (frs (env :: outer)) s.heap h' e (some T0) → Q () { s with heap := h' }) : wpAny M A (leaving env (.ref e)) Q E s := by
  refine wpAny_bind (note_on hfr hl hf F fun h' T a F N => flight_none F fun h2 F2 k _ => h h2 T a F2 ⟨fun b o x y w z => k b o (fun q => ?_) (N.keep b o x y w z), fun b o x z => ?_⟩)
  · exact absurd (Heap.lt_size z) (by rw [q]; exact Nat.not_lt.mpr a)
  · obtain ⟨sl', z'⟩ := N.slot b o x z
    exact ⟨sl', k b _ (fun q => absurd (Heap.lt_size z) (by rw [q]; exact Nat.not_lt.mpr a)) z'⟩
end
def Fly (dx : Option Addr) (g : Heap) (H : Hp) (a : Addr) (C : Value) (h : Heap) : Prop := ∃ T, Flying dx h a T C .none ∧ g.get? a = none ∧ g.get? T = none ∧ H a = none ∧ H T = none
theorem HOk.there {P : Program} {w : World} {H : Hp} {h : Heap} (x : HOk P w H h) {e : Addr} {u : HO} (q : H e = some u) : ∃ o, h.get? e = some o := by
  have ok := x e u q
  cases u with
  | lst xs => obtain ⟨_, _, _, _, z⟩ := ok; exact ⟨_, z⟩
  | tup xs => obtain ⟨_, _, _, o, z, _⟩ := ok; exact ⟨_, z⟩
  | dK kvs => obtain ⟨_, _, _, _, o, _, _, z, _⟩ := ok; exact ⟨_, z⟩
  | dT kvs => obtain ⟨_, _, _, _, o, _, _, z, _⟩ := ok; exact ⟨_, z⟩
  | set S n => obtain ⟨o, _, _, _, z, _⟩ := ok; exact ⟨_, z⟩
  | ins C dx fs => obtain ⟨_, _, _, z, _⟩ := ok; exact ⟨_, z⟩
  | own x => exact ok
  | xd fs => obtain ⟨_, ⟨o, _, _, z, _⟩, _⟩ := ok; exact ⟨_, z⟩
  | rng lo hi => obtain ⟨_, _, _, z⟩ := ok; exact ⟨_, z⟩
  | frz o u => exact ⟨_, ok.1⟩
  | tbl ps => exact ⟨_, ok⟩
  | met f x => exact ⟨_, ok⟩
  | ext φ => exact ok.2.1
theorem HOk.free_of {P : Program} {w : World} {H : Hp} {h : Heap} (x : HOk P w H h) {e : Addr} (q : h.get? e = none) : H e = none := by
  cases z : H e with
  | none => rfl
  | some u =>
    obtain ⟨o, y⟩ := x.there z
    rw [q] at y; cases y
def CXE (P : Program) (w : World) : CXT := fun outer H s E e s' => ∃ a C dx H', e = .ref a ∧ Fly dx s.heap H' a C s'.heap ∧ s'.os = s.os ∧ AllBare s'.gens ∧ Un (frs outer) [] H H' s.heap s'.heap ∧ HOk P w H' s'.heap ∧ E C dx H'
section
variable {X : Cx} {pins : List (Addr × Obj)} {σ : St} {H : Hp} {s : Shared}
theorem Inv.noted (I : Inv X pins σ H s) {h' : Heap} {e : Addr} {T0 : Option Addr} (N : Noted (frs X.stack) s.heap h' e T0) (he : H e = none) (h0 : X.s₀.heap.get? e = none) (hT : ∀ t, T0 = some t → H t = none ∧ X.s₀.heap.get? t = none) (hx : X.ex = []) :
    Un X.fs [] X.H₀ H X.s₀.heap h' ∧ HOk X.prog X.w H h' := by
  have neS : ∀ b o, X.s₀.heap.get? b = some o → b ≠ e ∧ some b ≠ T0 ∧ b ≠ X.env.locals := fun b o q => by
    have l := Heap.lt_size q
    refine ⟨fun z => ?_, fun z => ?_, fun z => ?_⟩
    · rw [z, h0] at q; cases q
    · rw [(hT b z.symm).2] at q; cases q
    · rw [z] at l; exact absurd l (Nat.not_lt.mpr I.ok.above)
  have st : ∀ b, b ∉ X.fs → b ≠ X.env.locals → b ∉ frs X.stack := fun b h1 h2 h3 => by
    rcases List.mem_cons.mp (I.stkSub b h3) with z | z
    · exact h2 z
    · exact h1 z
  have base := I.base
  rw [hx] at base
  refine ⟨⟨fun b o q n hb _ => ?_, fun b o q n hb _ => ?_, fun b o q n _ => base.free b o q n (by simp), fun b o q _ => ?_, base.tups, base.frzs, base.tbls⟩, fun a o q => ?_⟩
  · obtain ⟨z1, z2, z3⟩ := neS b o q
    exact N.keep b o (st b hb z3) z1 z2 (base.keep b o q n hb (by simp))
  · obtain ⟨z1, z2, z3⟩ := neS b o q
    obtain ⟨sl, q1⟩ := base.slot b o q n hb (by simp)
    by_cases hs : b ∈ frs X.stack
    · obtain ⟨sl', q2⟩ := N.slot b _ hs q1
      exact ⟨sl', q2⟩
    · exact ⟨sl, N.keep b _ hs z1 z2 q1⟩
  · obtain ⟨z1, z2, z3⟩ := neS b o q
    obtain ⟨o', q1⟩ := base.there b o q (by simp)
    by_cases hs : b ∈ frs X.stack
    · obtain ⟨sl', q2⟩ := N.slot b _ hs q1
      exact ⟨_, q2⟩
    · exact ⟨o', N.keep b _ hs z1 z2 q1⟩
  · have keep : ∀ b u, H b = some u → ∀ ob, s.heap.get? b = some ob → h'.get? b = some ob := fun b u z ob q' => by
      refine N.keep b ob (fun hm => ?_) (fun w => ?_) (fun w => ?_) q'
      · rw [I.stkFree b hm] at z; cases z
      · rw [w, he] at z; cases z
      · rw [(hT b w.symm).1] at z; cases z
    refine (I.hok a o q).stay (fun b u hb q' => ?_) (fun _ z => z) fun _ _ z => z
    rcases hb with z | z
    · exact keep b o (z ▸ q) u q'
    · exact keep b _ z u q'
theorem there_of (I : Inv X pins σ H s) (hx : X.ex = []) {b : Addr} (h : s.heap.get? b = none) : X.s₀.heap.get? b = none := by
  cases q : X.s₀.heap.get? b with
  | none => rfl
  | some o =>
    obtain ⟨o', z⟩ := I.base.there b o q (by rw [hx]; simp)
    rw [h] at z; cases z
end
section
variable {P : Program} {w : World} {K : PySem.W.Frag} {mg : Str → Option Value} {base : Heap} {N : List Str} {qual : Str} {scope : Scope} {f : Addr} {cd : Value} {A : Around} {outer : List Env} {s₀ : Shared} {H₀ : Hp} {E : XK}
def Raises (X : Cx) (E : XK) : Prop := ∀ (pins : List (Addr × Obj)) (σ : St) (H : Hp) (s : Shared) (C e : Addr) (vs : List Value) (h' : Heap), Inv X pins σ H s → Heap.MadeExcOf s.heap h' e (.ref C) vs → E (.ref C) none H → X.xe (.ref e) { s with heap := h' }
theorem raises_cx : Raises (cxOf (CXE P w) P w K mg base N qual scope f cd A outer s₀ H₀ E) E := by
  intro pins σ H s C e vs h' I hx hE
  have J := I.kept (h' := h') (t' := s.toks) hx.keeps
  obtain ⟨t, he, htn, ht⟩ := hx.there
  have heH : H e = none := I.hok.free_of hx.new
  show wpAny (model P w) (A.deeper (envOfC qual scope s₀.heap.objs.size f cd)) (leaving (envOfC qual scope s₀.heap.objs.size f cd) (.ref e)) _ _ _
  refine leave_made (s := { s with heap := h' }) (base := base) J.ok.frames J.stack rfl he rfl fun h2 T a F Nt => ?_
  have hT : h'.get? T = none := Heap.get?_none_of_le a
  obtain ⟨U, ok⟩ := J.noted Nt heH (there_of I rfl hx.new) (fun _ z => nomatch z) rfl
  exact ⟨e, .ref C, none, H, rfl, ⟨T, F, there_of I rfl hx.new, there_of J rfl hT, heH, J.hok.free_of hT⟩, J.os, J.bare, U, ok, hE⟩
theorem passes_cx {E' : XK} (hE : ∀ C d H, E' C d H → E C d H) : Passes (CXE P w) (cxOf (CXE P w) P w K mg base N qual scope f cd A outer s₀ H₀ E) E' := by
  intro pins σ H s e s' I h
  obtain ⟨a, C, dx, H', rfl, ⟨T, F, a1, a2, a3, a4⟩, ho, hg, U, ok, hE'⟩ := h
  have J := I.call' (s' := s') (ch := []) ho U ok hg (fun _ z => nomatch z)
  show wpAny (model P w) (A.deeper (envOfC qual scope s₀.heap.objs.size f cd)) (leaving (envOfC qual scope s₀.heap.objs.size f cd) (.ref a)) _ _ _
  refine leave_on (base := base) J.ok.frames J.stack rfl F fun h2 T2 b F2 Nt => ?_
  have hT : s'.heap.get? T2 = none := Heap.get?_none_of_le b
  obtain ⟨U2, ok2⟩ := J.noted Nt a3 (there_of I rfl a1) (fun t z => by cases z; exact ⟨a4, there_of I rfl a2⟩) rfl
  exact ⟨a, C, dx, H', rfl, ⟨T2, F2, there_of I rfl a1, there_of J rfl hT, a3, J.hok.free_of hT⟩, J.os, J.bare, U2, ok2, hE _ _ _ hE'⟩
end
end L2
namespace L2
open PySem PySem.Spec PyProof.Rows
section
variable {P : Program} {w : World} {K : PySem.W.Frag} {mg : Str → Option Value} {base : Heap}
theorem Fun.okX {x qual : Str} {st : Stmt} {f : Addr} {fd : FuncData} {N ps : List Str} {k : Nat} {sp : Sp} (F : Fun K x qual st f fd) (S : FnScope N ps (defScope st)) (len : ∀ vs H Q E, sp vs H Q E → vs.length = ps.length)
    (hbody : ∀ (cdv : Value) (A : Around) (outer : List Env) (s : Shared) (H : Hp) (vs : List V) (Q : VK) (E : XK), Room k (A.deeper (envOfC qual (defScope st) s.heap.objs.size f cdv)) → sp vs H Q E →
      ∃ t, PSs (cxOf (CXE P w) P w K mg base N qual (defScope st) f cdv A outer s H E) (defBody st) t ∧ t { nx := fun _ H' => Q .non H', rt := Q } (L2.start N vs) H) : FnOk P w K mg base (CXE P w) (k + 1) f fd ps sp := by
  obtain ⟨oc, od, kV, doc, pm, an, cdv, ct, osl, rfl, lk, hcd⟩ := F.ex
  exact fn_of lk hcd S len fun A outer s H vs Q E hr hsp => hbody cdv A outer s H vs Q E hr hsp
theorem passE0 {X : Cx} : Passes (CXE P w) X E0 := fun _ _ _ _ _ _ _ ⟨_, _, _, _, _, _, _, _, _, _, z⟩ => z.elim
end
section
variable {X : Cx} {st : Stmt} {t : TS}
theorem PS.nox (h : PS X.nox st t) : PS X st t := fun pins s σ H D I hw =>
  wpAny_mono (h pins s σ H D (I.wish _) hw) (fun _ _ q => SP.unwish q) fun _ _ q => q.elim
end
theorem toStr_len {i : Int} (h : i.natAbs < 10 ^ 100) : (toString i : Str).length ≤ 101 := by
  have e := PySem.int_text_length_le10 (k := 100) (by decide) h
  show (Str.ofString (toString i)).length ≤ 101
  rw [PySem.ofString_length]
  omega
section
variable {X : Cx} {e : Expr} {es : List Expr} {te : TE} {pos : Pos}
def tFmt (te : TE) : TE := fun σ H Q => te σ H fun x H1 => (∃ y, x = .str y ∧ y.length ≤ sizeLine ∧ Q (.str y) H1) ∨ (∃ i : Int, x = .int i ∧ i.natAbs < 10 ^ 100 ∧ Q (.str (toString i)) H1)
theorem pe_fmt (he : PE X e te) : PE X (.FormattedValue e (-1) none pos) (tFmt te) := by
  intro pins s σ H Q I h
  refine FormattedValue_plain (thn (he pins s σ H _ I h) fun v s1 ⟨x, H1, I1, r, q⟩ => ?_)
  rcases q with ⟨y, rfl, hy, q⟩ | ⟨i, rfl, hi, q⟩
  · obtain ⟨t, rfl⟩ := r
    exact formatField_str (fun t' tk => ⟨.str y, H1, I1.tok tk, ⟨t', rfl⟩, q⟩) hy
  · obtain ⟨t, rfl⟩ := r
    exact formatField_int_small (Nat.lt_trans (log2_small hi) (by decide)) ⟨.str (toString i), H1, I1.tok _, ⟨_, rfl⟩, q⟩
def PJ (X : Cx) (es : List Expr) (t : Str → TE) : Prop :=
  ∀ (acc : Str) (pins : List (Addr × Obj)) (s : Shared) (σ : St) (H : Hp) (Q : VK), Inv X pins σ H s → t acc σ H Q → wpAny (model X.prog X.w) X.A (joinParts acc (evalEach es X.env)) (EP X pins σ Q) X.xe s
def jNil : Str → TE := fun acc _ H Q => acc.length ≤ sizeLine ∧ Q (.str acc) H
def jCons (te : TE) (t : Str → TE) : Str → TE := fun acc σ H Q => te σ H fun x H1 => ∃ y, x = .str y ∧ (acc ++ y).length ≤ sizeLine ∧ t (acc ++ y) σ H1 Q
theorem pj_nil : PJ X [] jNil := fun acc _ _ _ H Q I h => joinParts_nil ⟨.str acc, H, I.tok _, ⟨_, rfl⟩, h.2⟩ h.1
theorem pj_cons {t : Str → TE} (he : PE X e te) (hr : PJ X es t) (hs : evalEach (e :: es) X.env = eval e X.env :: evalEach es X.env := by rfl) : PJ X (e :: es) (jCons te t) := by
  intro acc pins s σ H Q I h
  rw [hs]
  refine joinParts_cons (thn (he pins s σ H _ I h) fun v s1 ⟨x, H1, I1, r, y, e1, hz, q⟩ => ?_)
  subst e1
  obtain ⟨t', rfl⟩ := r
  exact ⟨hz, hr (acc ++ y) pins s1 σ H1 Q I1 q⟩
theorem pe_joined {e2 : Expr} {t : Str → TE} (h : PJ X (e :: e2 :: es) t) : PE X (.JoinedStr (e :: e2 :: es) pos) (t Str.empty) := fun pins s σ H Q I hw => JoinedStr_many (h Str.empty pins s σ H Q I hw)
end
abbrev veMro : List Value := [.type "ValueError", .type "Exception", .type "BaseException", .type "object"]
abbrev ExcC (K : PySem.W.Frag) (C : Addr) : Prop := PySem.W.excIn K C veMro "ValueError.__new__" = true
theorem exc_obj {K : PySem.W.Frag} {h : Heap} {C : Addr} (X : K.In h) (q : ExcC K C) : ∃ tl M nm qn bs hd sn sub ab col dd k0 k1 k2 k3 k5 mN,
    h.get? C = some (excClassObj nm qn C M bs tl hd sn sub ab col dd k0 k1 k2 k3 k5 "ValueError.__new__") ∧ h.Ns M mN ∧ mN "__init__" = none ∧ OwnTail h veMro tl := by
  unfold ExcC PySem.W.excIn at q
  split at q
  · rename_i dd cd sl ho
    split at q
    · rename_i C' tl k0 k1 k2 k3 nid k5 hm hs
      simp only [Bool.and_eq_true, beq_iff_eq, Bool.not_eq_true'] at q
      obtain ⟨⟨⟨⟨⟨rfl, rfl⟩, q1⟩, q2⟩, q3⟩, q4⟩ := q
      obtain ⟨nm, bs, mr, M, qn, hd, sn, sub, ab, col, dl⟩ := cd
      dsimp only at hm q1 q3 q4
      subst hm q1
      obtain ⟨ls⟩ := sl
      have hs' : ls = [k0, k1, k2, k3, some (.builtin "ValueError.__new__"), k5] := hs
      subst hs'
      exact ⟨tl, M, nm, qn, bs, hd, sn, sub, ab, col, dd, k0, k1, k2, k3, k5, _, X _ _ ho, .of_isNs (PySem.W.isNs_of_in X q3), PySem.W.nsMap_none_of_in X q3 q4, PySem.W.tail_of_in X q2⟩
    · cases q
  · cases q
section
variable {X : Cx} {x : Str} {C : Addr} {e : Expr} {te : TE} {np cpos pos : Pos} {E : XK}
def tRaise (C : Addr) (E : XK) (te : TE) : TS := fun _ σ H => te σ H fun _ H1 => E (.ref C) none H1
theorem ps_raise (hX : Raises X E) (hc : X.calm = true) (hg : Gl X x) (hm : X.mg x = some (.ref C)) (q : ExcC X.K C) (he : PE X e te) (hd : (x == ("__debug__" : Str)) = false := by decide)
    (hs : starEach [e] X.env = [(false, eval e X.env)] := by rfl) : PS X (.Raise (some (.Call (.Name x np) [e] [] cpos)) none pos) (tRaise C E te) := by
  intro pins s σ H D I h
  obtain ⟨tl, M, nm, qn, bs, hd', sn, sub, ab, col, dd, k0, k1, k2, k3, k5, mN, hC, hN, hni, hT⟩ := exc_obj I.mod.kin q
  refine wpAny_Raise_call_subT (C := C) (nm := nm) (q := qn) (N := M) (bs := bs) (bm := tl) (hdct := hd') (sn := sn) (sub := sub) (ab := ab) (col := col) (dd := dd) (k0 := k0) (k1 := k1) (k2 := k2) (k3 := k3) (k5 := k5)
    PySem.F.excBase_ValueError (mN := mN) (hT.hasType (by decide)) (I.ok.hd hc) (by rw [hs]; rfl) hni (ld_glob I hg hm ⟨rfl, ?_⟩ hd)
  rw [hs]
  refine Calls.evalArgs_plain (Calls.spliced_cons (thn (he pins s σ H _ I h) fun u s1 ⟨v, H1, I1, r, z⟩ => Calls.spliced_nil ?_))
  exact ⟨rfl, by show 1 ≤ sizeLine; decide, I1.bk _ _ hC, hN.keeps I1.bk, hT.keeps I1.bk, fun h' a hm => hX pins σ H1 s1 C a _ h' I1 hm z⟩
end
end L2
namespace L2
open PySem PySem.Spec PyProof.Rows
section
variable {X : Cx} {pins : List (Addr × Obj)} {σ σ' : St} {H : Hp} {s : Shared}
theorem Inv.frame {h' : Heap} {m' : Str → Option Value} {t : Nat} (I : Inv X pins σ H s) (sb : ∀ b, b ≠ X.env.locals → h'.get? b = s.heap.get? b) (hn : h'.Ns X.env.locals m')
    (hl : ∀ (i : Nat) (x : Str) (v : V), X.N[i]? = some x → σ'[i]? = some (some v) → Vis X.env.scope x → ∃ u, RelV v u ∧ Look X.env h' m' x u) (len : σ'.length = σ.length) : Inv X pins σ' H { s with heap := h', toks := t } := by
  have neL : ∀ b o, X.s₀.heap.get? b = some o → b ≠ X.env.locals := fun b o e => Nat.ne_of_lt (Nat.lt_of_lt_of_le (Heap.lt_size e) I.ok.above)
  refine ⟨I.ok, I.os, I.bare, ⟨fun b o e n hb hx => ?_, fun b o e n hb hx => ?_, I.base.free, fun b o e hx => ?_, I.base.tups, I.base.frzs, I.base.tbls⟩, ⟨m', hn, hl⟩, fun x c e => ?_, I.free, I.freeC, fun p hp => ?_, fun a o e => ?_, len.trans I.len⟩
  · exact (sb b (neL b o e)).trans (I.base.keep b o e n hb hx)
  · obtain ⟨sl, q⟩ := I.base.slot b o e n hb hx
    exact ⟨sl, (sb b (neL b o e)).trans q⟩
  · obtain ⟨o', q⟩ := I.base.there b o e hx
    exact ⟨o', (sb b (neL b o e)).trans q⟩
  · obtain ⟨v, o, ho, hd⟩ := I.cell x c e
    exact ⟨v, o, (sb c (I.cne x c e)).trans ho, hd⟩
  · obtain ⟨e, n, ne, r⟩ := I.pin p hp
    exact ⟨(sb p.1 ne).trans e, n, ne, r⟩
  · have ne : ∀ b u, H b = some u → b ≠ X.env.locals := fun b u q z => by rw [z, I.free] at q; cases q
    refine (I.hok a o e).stay (fun b u hb q => ?_) (fun _ z => z) fun _ _ z => z
    rcases hb with z | z
    · exact (sb b (ne b o (z ▸ e))).trans q
    · exact (sb b (ne b _ z)).trans q
theorem Inv.after_note {h' : Heap} {e : Addr} {T0 : Option Addr} (I : Inv X pins σ H s) (N : Noted (frs X.stack) s.heap h' e T0) (hx : X.ex = []) (he : H e = none) (h0 : X.s₀.heap.get? e = none) (hT : ∀ t, T0 = some t → H t = none ∧ X.s₀.heap.get? t = none)
    (hp : ∀ p ∈ X.pn ++ pins, p.1 ≠ e ∧ some p.1 ≠ T0) (hc : ∀ x c, X.env.cells.lookup x = some c → c ≠ e ∧ some c ≠ T0) (hcf : ∀ x c, X.env.cells.lookup x = some c → c ∉ frs X.stack) (hL : X.env.locals ≠ e ∧ some X.env.locals ≠ T0) : Inv X pins σ H { s with heap := h' } := by
  obtain ⟨U, ok⟩ := I.noted N he h0 hT hx
  rw [← hx] at U
  obtain ⟨m, hn, hl⟩ := I.loc
  have cellK : ∀ x c, X.env.cells.lookup x = some c → ∀ v, s.heap.IsCell c v → h'.IsCell c v := fun x c e v ⟨o, ho, hd⟩ =>
    ⟨o, N.keep c o (hcf x c e) (hc x c e).1 (hc x c e).2 ho, hd⟩
  refine ⟨I.ok, I.os, I.bare, U, ⟨m, ?_, fun i x v e1 e2 e3 => ?_⟩, fun x c q => ?_, I.free, I.freeC, fun p hpp => ?_, ok, I.len⟩
  · obtain ⟨o, es, ep, ho, r⟩ := hn
    by_cases hs : X.env.locals ∈ frs X.stack
    · obtain ⟨sl, q⟩ := N.slot _ o hs ho
      exact ⟨_, es, ep, q, r⟩
    · exact ⟨o, es, ep, N.keep _ o hs hL.1 hL.2 ho, r⟩
  · obtain ⟨u, r, l⟩ := hl i x v e1 e2 e3
    refine ⟨u, r, ?_⟩
    rcases l with l | ⟨k, c, q, z⟩
    · exact .inl l
    · exact .inr ⟨k, c, q, cellK x c q _ z⟩
  · obtain ⟨v, z⟩ := I.cell x c q
    exact ⟨v, cellK x c q v z⟩
  · obtain ⟨q, n, ne, nf, d⟩ := I.pin p hpp
    refine ⟨N.keep p.1 p.2 (fun hm => ?_) (hp p hpp).1 (hp p hpp).2 q, n, ne, nf, d⟩
    rcases List.mem_cons.mp (I.stkSub p.1 hm) with z | z
    · exact ne z
    · exact nf z
abbrev Cx.marked (X : Cx) (v : Option Value) : Cx := { X with A := X.A.mark v, calm := false, xe := fun _ _ => False }
theorem Inv.mark (I : Inv X pins σ H s) (v : Option Value) : Inv (X.marked v) pins σ H s :=
  ⟨⟨I.ok.mod, I.ok.kind, I.ok.glob, I.ok.blt, I.ok.above, I.ok.inj, I.ok.has, I.ok.cab, (fun z => nomatch z), I.ok.frames, I.ok.stk, I.ok.exf, I.ok.bs, I.ok.bsz, I.ok.noex, I.ok.exfs, I.ok.funs, I.ok.frf⟩, I.os, I.bare, I.base, I.loc, I.cell, I.free, I.freeC, I.pin, I.hok, I.len⟩
theorem Inv.unmark {v : Option Value} (J : X.Ok) (I : Inv (X.marked v) pins σ H s) : Inv X pins σ H s := ⟨J, I.os, I.bare, I.base, I.loc, I.cell, I.free, I.freeC, I.pin, I.hok, I.len⟩
def excHo (dx : Option Addr) (a : Addr) (C : Value) : HO := .ext fun h => ∃ vs sl, h.get? a = some (EO dx C vs sl)
abbrev excH (a : Addr) (C : Value) : HO := excHo none a C
theorem excH_ok {P : Program} {w : World} {h : Heap} {a : Addr} {C : Value} {dx : Option Addr} (e : ∃ vs sl, h.get? a = some (EO dx C vs sl)) : ObjOk P w H h a (excHo dx a C) :=
  ⟨e, let ⟨_, _, q⟩ := e; ⟨_, q⟩, fun h1 h2 ⟨vs, sl, q⟩ k => ⟨vs, sl, k _ q⟩⟩
theorem Inv.track {a : Addr} {o : HO} (I : Inv X pins σ H s) (hf : H a = none) (h0 : X.s₀.heap.get? a = none) (ok : ∀ H', ObjOk X.prog X.w H' s.heap a o) (hL : a ≠ X.env.locals) (hfs : ∀ x c, X.env.cells.lookup x = some c → c ≠ a) (hp : ∀ p ∈ X.pn ++ pins, p.1 ≠ a) (hx : X.ex = []) (ho : ∀ ob u, o ≠ .frz ob u) :
    Inv X pins σ (upd H a o) s := by
  have ne : ∀ b u, H b = some u → b ≠ a := fun b u q z => by rw [z, hf] at q; cases q
  have base := I.base
  refine ⟨I.ok, I.os, I.bare, ⟨base.keep, base.slot, fun b u q n hb => ?_, base.there, fun b xs q => ?_, fun b u v q => ?_, fun b ps q => ?_⟩, I.loc, I.cell, ?_, fun x c q => ?_, fun p hpp => ?_, fun b u q => ?_, I.len⟩
  · rw [upd_ne (fun z => by rw [z, h0] at q; cases q)]; exact base.free b u q n hb
  · have := base.tups b xs q
    rw [upd_ne (ne _ _ this)]; exact this
  · have := base.frzs b u v q
    rw [upd_ne (ne _ _ this)]; exact this
  · obtain ⟨more, this⟩ := base.tbls b ps q
    exact ⟨more, by rw [upd_ne (ne _ _ this)]; exact this⟩
  · rw [upd_ne hL.symm]; exact I.free
  · rw [upd_ne (hfs x c q)]; exact I.freeC x c q
  · obtain ⟨e, n, r⟩ := I.pin p hpp
    exact ⟨e, by rw [upd_ne (hp p hpp)]; exact n, r⟩
  · by_cases z : b = a
    · subst z
      rw [upd_same] at q
      cases q
      exact ok _
    · rw [upd_ne z] at q
      refine (I.hok b u q).stay (fun c v hc q' => q') (fun c hc => ?_) fun c xs hc => ?_
      · rw [upd_ne (ne _ _ hc)]; exact hc
      · rw [upd_ne (ne _ _ hc)]; exact hc
end
theorem eo_type {M : Model} {h : Heap} {a : Addr} {C : Value} {dx : Option Addr} {vs : Array Value} {sl : Array (Option Value)} (e : h.get? a = some (EO dx C vs sl)) : PySem.W.Looks M h (typeOf (.ref a)) C := by
  intro A Q E s k q
  unfold typeOf
  exact wpAny_bind (wpAny_loadPart (k _ _ e) (wpAny_pure q))
section
variable {X : Cx}
abbrev TX := St → Hp → XK → Prop
def PX (X : Cx) (body : List Stmt) (tb : TX) : Prop := ∀ (pins : List (Addr × Obj)) (s : Shared) (σ : St) (H : Hp) (R : XK), Inv X pins σ H s → tb σ H R →
  wpAny (model X.prog X.w) X.A (execs body X.env) (fun _ _ => False) (fun e s' => ∃ a C dx H', e = .ref a ∧ Inv X pins σ H' s' ∧ Fly dx s.heap H' a C s'.heap ∧ R C dx H') s
end
end L2
namespace L2
open PySem PySem.Spec PyProof.Rows
def hidS (h : Heap) (H : Hp) (fs : List Addr) : Heap := PySem.W.hideAll h (trk h H ++ fs)
theorem hidS_get {h : Heap} {H : Hp} {fs : List Addr} {b : Addr} {o : Obj} (e : h.get? b = some o) (n : H b = none) (hf : b ∉ fs) : (hidS h H fs).get? b = some o :=
  PySem.W.hideAll_get _ e fun hm => by
    rcases List.mem_append.mp hm with hm | hm
    · have q : (H b).isSome = true := (List.mem_filter.mp hm).2
      rw [n] at q; simp at q
    · exact hf hm
theorem of_hidS {h : Heap} {H : Hp} {fs : List Addr} {b : Addr} {o : Obj} (e : (hidS h H fs).get? b = some o) : h.get? b = some o ∧ H b = none := by
  have e' : h.get? b = some o := PySem.W.of_hideAll _ e
  refine ⟨e', ?_⟩
  cases q : H b with
  | none => rfl
  | some x =>
    have hm : b ∈ trk h H ++ fs := List.mem_append_left _ (List.mem_filter.mpr ⟨List.mem_range.mpr (Heap.lt_size e'), by simp [q]⟩)
    have z : (hidS h H fs).get? b = none := PySem.W.hideAll_none _ hm
    rw [z] at e; cases e
theorem Mod.keeps {K : PySem.W.Frag} {mg : Str → Option Value} {b b' : Heap} (m : Mod K mg b) (k : ∀ a o, b.get? a = some o → b'.get? a = some o) : Mod K mg b' :=
  ⟨m.kin.keeps k, m.glob.keeps k, let ⟨mb, h1, h2⟩ := m.blt; ⟨mb, h1.keeps k, h2⟩, m.nolimit.keeps k⟩
def CellsIn (X : Cx) (σ : St) (b : Heap) : Prop := ∀ (i : Nat) (x : Str) (v : V) (c : Addr), X.N[i]? = some x → σ[i]? = some (some v) → X.env.scope.names.lookup x = some .cell → X.env.cells.lookup x = some c → ∃ u, RelV v u ∧ b.IsCell c (some u)
section
variable {X : Cx} {pins : List (Addr × Obj)} {σ : St} {H : Hp} {s : Shared}
theorem Inv.cellsIn (I : Inv X pins σ H s) (hfn : ∀ x, X.fn x = true) : CellsIn X σ (hidS s.heap H (frs X.stack)) := fun i x v c e1 e2 e3 e4 => by
  obtain ⟨m, hn, hl⟩ := I.loc
  obtain ⟨u, r, l⟩ := hl i x v e1 e2 (.inr (.inl e3))
  rcases l with ⟨l, _⟩ | ⟨_, c', e5, o, ho, hd⟩
  · rw [show X.env.kindOf x = X.env.scope.names.lookup x from rfl, e3] at l; cases l
  · rw [e4] at e5
    cases e5
    refine ⟨u, r, o, hidS_get ho (I.freeC x c e4) fun hm => ?_, hd⟩
    rcases List.mem_cons.mp (I.stkSub c hm) with z | z
    · exact I.cne x c e4 z
    · obtain ⟨_, o', ho', _⟩ := I.ok.funs.mem z
      exact absurd (Heap.lt_size ho') (Nat.not_lt.mpr (I.ok.cab x c (hfn x) e4))
end
section
variable {X : Cx} {CX : CXT} {k : Nat} {f C : Addr} {fd : FuncData} {ps : List Str} {dvs : List V} {ds : List Value} {E : XK} {x m : Str} {p pos apos : Pos} {e o : Expr} {es : List Expr} {ta : TE} {t : TA}
end
def LamO (a : Addr) (fd : FuncData) : HO := .ext fun h => h.get? a = some { cls := .type "function", data := .func fd }
def CodO (c : Addr) (qual : Str) : HO := .ext fun h => h.CodeRec (.ref c) qual
theorem lamO_ok {P : Program} {w : World} {H : Hp} {h : Heap} {a : Addr} {fd : FuncData} (e : h.get? a = some { cls := .type "function", data := .func fd }) : ObjOk P w H h a (LamO a fd) :=
  ⟨e, ⟨_, e⟩, fun h1 h2 q k => k _ q⟩
theorem codO_ok {P : Program} {w : World} {H : Hp} {h : Heap} {c : Addr} {q : Str} (e : h.CodeRec (.ref c) q) : ObjOk P w H h c (CodO c q) := by
  refine ⟨e, ?_, fun h1 h2 x k => ?_⟩
  · obtain ⟨c', o, vs, t, z, q, _⟩ := e
    cases z
    exact ⟨_, q⟩
  · obtain ⟨c', o, vs, t, z, q, r⟩ := x
    cases z
    exact ⟨c, o, vs, t, rfl, k _ q, r⟩
def cxLam (P : Program) (w : World) (K : PySem.W.Frag) (mg : Str → Option Value) (base : Heap) (N : List Str) (qual : Str) (scope : Scope) (f : Addr) (cd : Value) (cl : List (Str × Addr)) (A : Around) (outer : List Env) (s : Shared) (H : Hp) (E : XK) : Cx where
  prog := P
  w := w
  K := K
  mg := mg
  base := base
  A := A.deeper (PySem.W.envX qual scope s.heap.objs.size f cd cl)
  N := N
  s₀ := s
  H₀ := H
  env := PySem.W.envX qual scope s.heap.objs.size f cd cl
  outer := outer
  stack := PySem.W.envX qual scope s.heap.objs.size f cd cl :: outer
  ex := []
  calm := true
  fn := fun _ => false
  pn := []
  xe := fun e s' => wpAny (model P w) (A.deeper (PySem.W.envX qual scope s.heap.objs.size f cd cl)) (leaving (PySem.W.envX qual scope s.heap.objs.size f cd cl) e) (fun _ s'' => CXE P w outer H s E e s'') (fun e' s'' => CXE P w outer H s E e' s'') s'
structure LamScope (N : List Str) (sc : Scope) (cl : List (Str × Addr)) : Prop where
  kind : sc.kind = .function
  co : sc.isCoroutine = false
  gen : sc.isGenerator = false
  nocell : ∀ y ∈ sc.names, y.2 ≠ .cell
  nm : ∀ x ∈ N, sc.names.lookup x = some .free
  has : ∀ x, sc.names.lookup x = some .free → ∃ c, cl.lookup x = some c
  inj : ∀ x y c, cl.lookup x = some c → cl.lookup y = some c → x = y
section
variable {P : Program} {w : World} {K : PySem.W.Frag} {mg : Str → Option Value} {base : Heap} {N : List Str} {name qual : Str} {params : Arguments} {body : Expr} {scope : Scope} {f c' : Addr} {pm ctv : Value} {cl : List (Str × Addr)} {k : Nat}
theorem inv_lam {A : Around} {outer : List Env} {s : Shared} {H : Hp} {E : XK} {h1 : Heap} {tk : Nat} {vs : List V} (S : LamScope N scope cl) (hd : A.handled = none) (e0 : Env0 P w K mg base A outer s H) (hlen : vs.length = N.length)
    (hcl : ∀ x c, cl.lookup x = some c → ∃ v, base.IsCell c v) (hv : ∀ (i : Nat) x v, N[i]? = some x → vs[i]? = some v → ∃ c u, cl.lookup x = some c ∧ RelV v u ∧ base.IsCell c (some u))
    (hns : h1.Ns s.heap.objs.size (fun _ => none)) (hk : ∀ b o, s.heap.get? b = some o → h1.get? b = some o) :
    Inv (cxLam P w K mg base N qual scope f (.ref c') cl A outer s H E) [] (vs.map some) H { s with heap := h1, toks := tk } := by
  have noA : ∀ b : Addr, b ∉ (cxLam P w K mg base N qual scope f (.ref c') cl A outer s H E).ex := fun b z => absurd (show b ∈ ([] : List Addr) from z) (by simp)
  have bk : ∀ c v, base.IsCell c v → h1.IsCell c v ∧ H c = none := fun c v ⟨o, ho, hd⟩ => ⟨⟨o, hk _ _ (e0.bs c o ho).1, hd⟩, (e0.bs c o ho).2⟩
  refine ⟨⟨e0.mod, S.kind, rfl, rfl, Nat.le_refl _, S.inj, fun y hy => ?_, fun y c z _ => (nomatch z), fun _ => hd, Around.frames_deeper e0.frames, .inr ⟨rfl, rfl⟩, fun b z => absurd z (noA b), e0.bs, e0.bsz, fun b _ _ => noA b, fun b z => absurd z (noA b), e0.funs, e0.frf⟩,
    rfl, e0.bare, Un.kept hk, ⟨_, hns, fun i y v h1 h2 h3 => ?_⟩, fun y c h => ?_, e0.hok.fresh (Nat.le_refl _), fun y c h => ?_, fun p hp => absurd (show p ∈ ([] : List (Addr × Obj)) from hp) (by simp), e0.hok.kept hk, ?_⟩
  · have hy : scope.names.lookup y = some .cell ∨ scope.names.lookup y = some .free := hy
    rcases hy with hy | hy
    · exact absurd rfl (S.nocell _ (PySem.mem_of_lookup hy))
    · exact S.has y hy
  · have ha : vs[i]? = some v := by
      rw [List.getElem?_map] at h2
      cases e : vs[i]? with
      | none => rw [e] at h2; cases h2
      | some a => rw [e] at h2; cases h2; rfl
    obtain ⟨c, u, q, r, z⟩ := hv i y v h1 ha
    exact ⟨u, r, .inr ⟨.inr (S.nm y (List.mem_of_getElem? h1)), c, q, (bk c _ z).1⟩⟩
  · obtain ⟨v, z⟩ := hcl y c h
    exact ⟨v, (bk c v z).1⟩
  · obtain ⟨v, z⟩ := hcl y c h
    exact (bk c v z).2
  · show (vs.map some).length = N.length
    rw [List.length_map, hlen]
theorem lam_ok {vs : List V} {sp : Hp → VK → XK → Prop} (S : LamScope N scope cl) (hlen : vs.length = N.length)
    (hcl : ∀ x c, cl.lookup x = some c → ∃ v, base.IsCell c v) (hv : ∀ (i : Nat) x v, N[i]? = some x → vs[i]? = some v → ∃ c u, cl.lookup x = some c ∧ RelV v u ∧ base.IsCell c (some u))
    (hbody : ∀ (A : Around) (outer : List Env) (s : Shared) (H : Hp) (Q : VK) (E : XK), Room k (A.deeper (PySem.W.envX qual scope s.heap.objs.size f (.ref c') cl)) → sp H Q E →
      ∃ t, PE (cxLam P w K mg base N qual scope f (.ref c') cl A outer s H E) body t ∧ t (vs.map some) H Q) :
    FnOk P w K mg base (CXE P w) (k + 1) f (PySem.W.kla_fn name qual params body scope cl pm (.ref c') ctv) []
      (fun us H Q E => us = [] ∧ H f = some (LamO f (PySem.W.kla_fn name qual params body scope cl pm (.ref c') ctv)) ∧ H c' = some (CodO c' qual) ∧ sp H Q E) := by
  refine ⟨fun vs H Q E h => by rw [h.1]; rfl, fun A outer s H args us vs' Q E hr e0 hb r hsp => ?_⟩
  obtain ⟨rfl, hf, hc, hsp⟩ := hsp
  have lim : s.heap.NoLimit := e0.mod.nolimit.keeps fun b o e => (e0.bs b o e).1
  obtain ⟨ho, _, _⟩ := e0.hok f _ hf
  obtain ⟨hcd, _, _⟩ := e0.hok c' _ hc
  refine PySem.W.kla_callFunE hr.depth ho rfl S.co S.gen rfl hcd (hb _ _ _ _ ?_)
  refine wpAny_newFunctionEnv S.nocell (fun y hy => by simp at hy) (fun h₁ hns hsb => ⟨lim.fresh _ hsb, ?_⟩) S.kind
  have hk₁ : ∀ b o, s.heap.get? b = some o → h₁.get? b = some o := fun b o e => hsb.extBut b o (Nat.ne_of_lt (Heap.lt_size e)) (Heap.get?_push_of_some _ e)
  show codeAny _ _ (.expr body (PySem.W.envX qual scope s.heap.objs.size f (.ref c') cl)) _ _
  obtain ⟨t, ht, hq⟩ := hbody A outer s H Q E (hr.deeper _) hsp
  have I := inv_lam (qual := qual) (f := f) (c' := c') (E := E) (tk := s.toks + (([] : List Str).zip us).length) S hr.hd e0 hlen hcl hv hns hk₁
  exact PySem.W.kla_codeExpr (wpAny_mono (ht [] _ _ H _ I hq) (fun u s' ⟨v, H', J, rv, q⟩ => ⟨v, H', J.os, J.bare, J.base, J.hok, rv, q⟩) fun e s' hs => hs)
theorem passes_lam {cd : Value} {A : Around} {outer : List Env} {s₀ : Shared} {H₀ : Hp} {E E' : XK} (hE : ∀ C d H, E' C d H → E C d H) : Passes (CXE P w) (cxLam P w K mg base N qual scope f cd cl A outer s₀ H₀ E) E' := by
  intro pins σ H s e s' I h
  obtain ⟨a, C, dx, H', rfl, ⟨T, F, a1, a2, a3, a4⟩, ho, hg, U, ok, hE'⟩ := h
  have J := I.call' (s' := s') (ch := []) ho U ok hg (fun _ z => nomatch z)
  show wpAny (model P w) (A.deeper (PySem.W.envX qual scope s₀.heap.objs.size f cd cl)) (leaving (PySem.W.envX qual scope s₀.heap.objs.size f cd cl) (.ref a)) _ _ _
  refine leave_on (base := base) J.ok.frames J.stack rfl F fun h2 T2 b F2 Nt => ?_
  have hT : s'.heap.get? T2 = none := Heap.get?_none_of_le b
  obtain ⟨U2, ok2⟩ := J.noted Nt a3 (there_of I rfl a1) (fun t z => by cases z; exact ⟨a4, there_of I rfl a2⟩) rfl
  exact ⟨a, C, dx, H', rfl, ⟨T2, F2, there_of I rfl a1, there_of J rfl hT, a3, J.hok.free_of hT⟩, J.os, J.bare, U2, ok2, hE _ _ _ hE'⟩
end
end L2
namespace L2
open PySem PySem.Spec PyProof.Rows
section
variable {prog : Program} {w : World} {A : Around} {s : Shared}
def ifsT (prog : Program) (w : World) (A : Around) (env : Env) : List Expr → Shared → (Bool → Shared → Prop) → Prop
  | [], s, Q => Q true s
  | [c], s, Q => wpAny (model prog w) A (PySem.isTrue c env (eval c env)) Q (fun _ _ => False) s
  | _, _, _ => False
theorem wpAny_ifs {env : Env} : ∀ {ifs : List Expr} {s : Shared} {Q : Bool → Shared → Prop}, ifsT prog w A env ifs s Q →
    wpAny (model prog w) A (forIn ifs true fun c r => if r = true then do let ok ← PySem.isTrue c env (eval c env); pure (ForInStep.yield ok) else pure (ForInStep.yield r)) Q (fun _ _ => False) s
  | [], s, Q, h => wpAny_tests_nil h
  | [c], s, Q, h => by
    simp only [List.forIn_cons, List.forIn_nil, if_true]
    refine wpAny_bind (wpAny_bind (wpAny_mono h (fun b s1 q => wpAny_pure (wpAny_pure q)) fun _ _ z => z))
  | _ :: _ :: _, _, _, h => h.elim
theorem compLoop_ifs {elt tg iter : Expr} {ifs : List Expr} {scope : Scope} {pos : Pos} {it acc : Value} {env : Env} {R : Result → Shared → Prop} (I : Nat → Shared → Prop)
    (turn : ∀ n s, I n s → wpAny (model prog w) A (pyNext it) (fun r s₁ => match r with
      | none => R (.ok .next) s₁
      | some v => wpAny (model prog w) A (letOwnedTupleGo tg it v) (fun _ s₁' => wpAny (model prog w) A (assign tg env v) (fun _ s₂ => ifsT prog w A env ifs s₂ fun ok s₃ =>
          if ok = true then wpAny (model prog w) A (eval elt env) (fun x s₄ =>
              wpAny (model prog w) A (call (.builtin "list.append") [acc, x]) (fun _ s₅ => ∃ m, m < n ∧ I m s₅) (fun _ _ => False) s₄) (fun _ _ => False) s₃ else ∃ m, m < n ∧ I m s₃) (fun _ _ => False) s₁') (fun _ _ => False) s₁) (fun _ _ => False) s)
    (n : Nat) (h : I n s) : codeAny (model prog w) A (.compLoop (.ListComp elt [⟨tg, iter, ifs, 0⟩] scope pos) 0 it acc env) R s := by
  refine codeAny_loop rfl I (fun n s hI => ?_) n h
  show wpAny _ A ((compTurn (.ListComp elt [⟨tg, iter, ifs, 0⟩] scope pos) 0 it acc env).onRaise (fun x => do noteFrame x env; theTreesLotGoes x)) _ _ s
  refine wpAny_noted ?_
  rw [compTurn_list]
  refine wpAny_bind (wpAny_standAt (wpAny_bind (wpAny_mono (turn n s hI) (fun r s₁ h₁ => ?_) fun _ _ h' => h'.elim)))
  cases r with
  | none => exact wpAny_pure h₁
  | some v =>
    refine wpAny_bind (wpAny_mono h₁ (fun _ s₁' h₁' => ?_) fun _ _ h' => h'.elim)
    refine wpAny_bind (wpAny_mono h₁' (fun _ s₂ h₂ => wpAny_bind (wpAny_mono (wpAny_ifs h₂) (fun ok s₃ h₃ => ?_) fun _ _ h' => h'.elim)) fun _ _ h' => h'.elim)
    cases ok with
    | true => exact wpAny_bind (wpAny_bind (wpAny_mono h₃ (fun x s₄ h₄ => wpAny_bind (wpAny_mono h₄ (fun _ s₅ h₅ => wpAny_pure (wpAny_pure ⟨rfl, h₅⟩)) fun _ _ h' => h'.elim)) fun _ _ h' => h'.elim))
    | false => exact wpAny_pure ⟨rfl, h₃⟩
end
def cxCompC (X : Cx) (b : Heap) (N : List Str) (scope : Scope) (cl : List (Str × Addr)) (C : Addr) (fp : List Addr) (s : Shared) (H : Hp) : Cx where
  prog := X.prog
  w := X.w
  K := X.K
  mg := X.mg
  base := b
  A := X.A
  N := N
  s₀ := s
  H₀ := H
  env := compEnvC scope cl C X.env
  outer := X.stack
  stack := X.stack
  ex := fp
  calm := true
  fn := fun _ => false
  pn := []
  xe := fun _ _ => False
def outOf (σ : St) (js : List (Option Nat)) : St := js.map fun o => match o with | none => none | some j => (σ[j]?).getD none
structure CompScopeC (X : Cx) (sc : Scope) (N : List Str) (cl : List (Str × Addr)) (js : List (Option Nat)) : Prop where
  kind : sc.kind = .function
  nocell : ∀ y ∈ sc.names, y.2 ≠ .cell
  nm : ∀ y ∈ sc.names, y.2 = .local → sc.names.lookup y.1 = some .local
  has : ∀ y ∈ sc.names, y.2 = .free → ∃ c, cl.lookup y.1 = some c
  sub : ∀ y ∈ cl, X.env.cells.lookup y.1 = some y.2
  len : js.length = N.length
  js : ∀ p ∈ N.zip js, ∀ j, p.2 = some j → X.N[j]? = some p.1 ∧ X.env.scope.names.lookup p.1 = some .cell ∧ ((relabel sc X.env).names.lookup p.1 = some .cell ∨ (relabel sc X.env).names.lookup p.1 = some .free) ∧ ∃ c, cl.lookup p.1 = some c
section
variable {X : Cx} {pins : List (Addr × Obj)} {σ : St} {H : Hp} {s : Shared}
theorem inv_compC {N : List Str} {scope : Scope} {cl : List (Str × Addr)} {js : List (Option Nat)} {fp : List Addr} {h1 : Heap} {tk : Nat} (S : CompScopeC X scope N cl js) (hc : X.calm = true) (hfn : ∀ x, X.fn x = true) (I : Inv X pins σ H s) (hfp : ∀ b ∈ fp, FpOk X pins H b) (hfo : ∀ b ∈ fp, ∃ o, s.heap.get? b = some o)
    (hns : h1.Ns s.heap.objs.size (fun _ => none)) (hk : ∀ b o, s.heap.get? b = some o → h1.get? b = some o) :
    Inv (cxCompC X (hidS s.heap H (frs X.stack ++ fp)) N scope cl s.heap.objs.size fp s H) [] (outOf σ js) H { s with heap := h1, toks := tk } := by
  have sub : ∀ x c, cl.lookup x = some c → X.env.cells.lookup x = some c := fun x c q => S.sub (x, c) (PySem.mem_of_lookup q)
  have rel : ∀ y k, (relabel scope X.env).names.lookup y = some k → (k = .cell ∨ k = .free) → ∃ c, cl.lookup y = some c := fun y k q hk => by
    have m := PySem.mem_of_lookup q
    obtain ⟨⟨n, k'⟩, hm, e⟩ := List.mem_map.mp (show (y, k) ∈ scope.names.map _ from m)
    have := S.nocell _ hm
    dsimp only at e this
    split at e
    · rename_i z
      simp only [Bool.and_eq_true, beq_iff_eq] at z
      cases e
      exact S.has _ hm z.1.1
    · cases e
      rcases hk with hk | hk
      · exact absurd hk this
      · exact S.has _ hm hk
  have e0 := I.env0
  have nfp : ∀ b o, X.base.get? b = some o → b ∉ fp := fun b o q hm => by
    rcases (hfp b hm).2.2.2.1 with z | z
    · exact I.ok.noex b o q z
    · exact absurd (Heap.lt_size (I.ok.bs b o q).1) (Nat.not_lt.mpr z)
  have nst : ∀ b ∈ fp, b ∉ frs X.stack := fun b hb hm => by
    rcases List.mem_cons.mp (I.stkSub b hm) with z | z
    · exact (hfp b hb).2.1 z
    · exact (hfp b hb).2.2.1 z
  have cells : ∀ y c, cl.lookup y = some c → (∃ v, h1.IsCell c v) ∧ H c = none := fun y c q => by
    obtain ⟨v, o, ho, hd⟩ := I.cell y c (sub y c q)
    exact ⟨⟨v, o, hk _ _ ho, hd⟩, I.freeC y c (sub y c q)⟩
  refine ⟨⟨e0.mod.keeps fun b o q => hidS_get (e0.bs b o q).1 (e0.bs b o q).2 fun hm => ?_, S.kind, I.ok.glob, I.ok.blt, Nat.le_refl _, fun y z c q r => I.ok.inj y z c (sub y c q) (sub z c r), fun y hy => ?_, fun y c z => (nomatch z), fun _ => I.ok.hd hc, I.ok.frames, .inl rfl, fun b hb => ⟨?_, fun y c q => ?_⟩, fun b o q => of_hidS q, Nat.le_of_eq (PySem.W.hideAll_size _ _), fun b o q hb => ?_, nst, ?_, I.stkFree⟩,
    rfl, I.bare, Un.kept hk, ⟨_, hns, fun i y v e1 e2 e3 => ?_⟩, fun y c q => (cells y c q).1, I.hok.fresh (Nat.le_refl _), fun y c q => (cells y c q).2, fun p hp => absurd (show p ∈ ([] : List (Addr × Obj)) from hp) (by simp), I.hok.kept hk, ?_⟩
  · rcases List.mem_append.mp hm with hm | hm
    · have z := (e0.funs.mem hm).1
      rw [q] at z; cases z
    · exact nfp b o q hm
  · have hy : (relabel scope X.env).names.lookup y = some .cell ∨ (relabel scope X.env).names.lookup y = some .free := hy
    rcases hy with hy | hy
    · exact rel y _ hy (.inl rfl)
    · exact rel y _ hy (.inr rfl)
  · obtain ⟨o, q⟩ := hfo b hb
    exact Nat.ne_of_lt (Heap.lt_size q)
  · exact (hfp b hb).2.2.2.2.1 y c (sub y c q)
  · have z : (hidS s.heap H (frs X.stack ++ fp)).get? b = none := PySem.W.hideAll_none _ (List.mem_append_right _ (List.mem_append_right _ hb))
    rw [show (cxCompC X (hidS s.heap H (frs X.stack ++ fp)) N scope cl s.heap.objs.size fp s H).base.get? b = none from z] at q; cases q
  · exact PySem.W.funFrames_hide e0.funs fun env he a ha => List.mem_append_right _ (List.mem_append_left _ (List.mem_filterMap.mpr ⟨env, he, ha⟩))
  · have e1 : N[i]? = some y := e1
    obtain ⟨j, hj, hv⟩ : ∃ j, js[i]? = some (some j) ∧ σ[j]? = some (some v) := by
      unfold outOf at e2
      rw [List.getElem?_map] at e2
      cases q : js[i]? with
      | none => rw [q] at e2; cases e2
      | some o =>
        rw [q] at e2
        cases o with
        | none => simp at e2
        | some j =>
          refine ⟨j, rfl, ?_⟩
          have e2 : some ((σ[j]?).getD none) = some (some v) := e2
          cases w : σ[j]? with
          | none => rw [w] at e2; cases e2
          | some u => rw [w] at e2; cases e2; rfl
    have hz : (y, some j) ∈ N.zip js := List.mem_of_getElem? (i := i) (by rw [List.getElem?_zip_eq_some]; exact ⟨e1, hj⟩)
    obtain ⟨f1, f2, f3, c, f4⟩ := S.js _ hz j rfl
    obtain ⟨m, hn, hl⟩ := I.loc
    obtain ⟨u, r, l⟩ := hl j y v f1 hv (.inr (.inl f2))
    rcases l with ⟨l, _⟩ | ⟨_, c', e5, o, ho, hd⟩
    · rw [show X.env.kindOf y = X.env.scope.names.lookup y from rfl, f2] at l; cases l
    · have : c' = c := by
        have := sub y c f4
        rw [e5] at this; cases this; rfl
      subst this
      exact ⟨u, r, .inr ⟨f3, c', f4, o, hk _ _ ho, hd⟩⟩
  · show (js.map _).length = N.length
    rw [List.length_map, S.len]
end
section
variable {X : Cx} {tg iter elt : Expr} {ifs : List Expr} {scope : Scope} {pos : Pos} {wi : TI} {N : List Str} {cl : List (Str × Addr)} {js : List (Option Nat)} {g : TG} {tt : Heap → TT} {te : Heap → TE}
def PIfs (X : Cx) : List Expr → TT → Prop
  | [], t => ∀ σ H Q, t σ H Q → Q true H
  | [c], t => PT X c t
  | _, _ => False
def tYes : TT := fun _ H Q => Q true H
theorem pifs_nil {X : Cx} : PIfs X [] tYes := fun _ _ _ h => h
theorem pifs_one {X : Cx} {c : Expr} {t : TT} (h : PT X c t) : PIfs X [c] t := h
def tCompC (X : Cx) (js : List (Option Nat)) (wi : TI) (g : TG) (tt : Heap → TT) (te : Heap → TE) : TE := fun σ H Q => wi σ H fun J H1 => ∀ b D, CellsIn X σ b → H1 D = none → ∃ W : Nat → Nat → St → Hp → Prop, (∃ m, W 0 m (outOf σ js) (upd H1 D (.lst []))) ∧
  ∀ i m σ' H', W i m σ' H' → (J.stop i H' ∧ Q (.ref D) H') ∨ (J.go i H' ∧ ∃ Nx : St → Hp → Prop, (∀ σ'' H'', Nx σ'' H'' → ∃ m', m' < m ∧ W (i + 1) m' σ'' H'') ∧ ∀ x H2, J.yld i H' x H2 → g x σ' H2 fun σ3 H3 => tt b σ3 H3 fun ok H3' => if ok = true then te b σ3 H3' fun y H4 => ∃ ys, H4 D = some (.lst ys) ∧ ys.length < sizeLine ∧ Nx σ3 (upd H4 D (.lst (ys ++ [y]))) else Nx σ3 H3')
theorem pe_compC (S : CompScopeC X scope N cl js) (hc : X.calm = true) (hfn : ∀ x, X.fn x = true) (hi : PI X tg iter wi) (hclos : closureFor scope X.env = pure cl) (hg : ∀ b C fp s H, PG (cxCompC X b N scope cl C fp s H) tg g) (hif : ∀ b C fp s H, PIfs (cxCompC X b N scope cl C fp s H) ifs (tt b)) (he : ∀ b C fp s H, PE (cxCompC X b N scope cl C fp s H) elt (te b))
    (hs : ∀ x, foldedSetIterable iter X.env x = pure x := by intro _; rfl) : PE X (.ListComp elt [⟨tg, iter, ifs, 0⟩] scope pos) (tCompC X js wi g tt te) := by
  intro pins s σ H Q I h
  rw [eval_ListComp]
  refine wpAny_comprehension_free (use := none) rfl hs hclos S.kind S.nm (thn (hi pins s σ H _ I h) fun v s1 h1 => thn h1 fun itv s2 h2 => ?_)
  obtain ⟨it, fp, tn, J, H2, e, I2, T, st2, f2, R⟩ := h2
  subst e
  have hD : H2 s2.heap.objs.size = none := I2.fresh
  have old : ∀ b o, s2.heap.get? b = some o → (s2.heap.push { cls := .type "list", data := .seq ([] : List Value).toArray }).get? b = some o := fun b o q => Heap.get?_push_of_some _ q
  have I3 : Inv X pins σ (upd H2 s2.heap.objs.size (.lst [])) { s2 with heap := s2.heap.push { cls := .type "list", data := .seq ([] : List Value).toArray } } := I2.lnew (t' := s2.toks) (ys := []) (its := []) .nil (Nat.zero_le _)
  have fo : ∀ b ∈ fp, ∃ o, (s2.heap.push { cls := .type "list", data := .seq ([] : List Value).toArray }).get? b = some o := fun b hb => by
    obtain ⟨o, q, _⟩ := T.obj _ _ st2 b hb
    exact ⟨o, old b o q⟩
  have fne : ∀ b ∈ fp, b ≠ s2.heap.objs.size := fun b hb => by
    obtain ⟨o, q, _⟩ := T.obj _ _ st2 b hb
    exact Nat.ne_of_lt (Heap.lt_size q)
  have f3 : ∀ b ∈ fp, FpOk X pins (upd H2 s2.heap.objs.size (.lst [])) b := fun b hb => ⟨by rw [upd_ne (fne b hb)]; exact (f2 b hb).1, (f2 b hb).2⟩
  have st3 : tn 0 (s2.heap.push { cls := .type "list", data := .seq ([] : List Value).toArray }) := T.keep _ _ _ st2 fun b _ o q => old b o q
  refine wpAny_newObj_type (wpAny_newFunctionEnv S.nocell (fun y hy => by simp at hy) (fun h₁ hns hsb => ?_) S.kind)
  obtain ⟨s3, hs3⟩ : ∃ s3 : Shared, s3 = { s2 with heap := s2.heap.push { cls := .type "list", data := .seq ([] : List Value).toArray } } := ⟨_, rfl⟩
  obtain ⟨H3, hH3⟩ : ∃ H3, H3 = upd H2 s2.heap.objs.size (.lst []) := ⟨_, rfl⟩
  rw [← hs3, ← hH3] at I3
  rw [← hH3] at f3
  have hh3 : s3.heap = s2.heap.push { cls := .type "list", data := .seq ([] : List Value).toArray } := by rw [hs3]
  have hk₁ : ∀ b o, s3.heap.get? b = some o → h₁.get? b = some o := fun b o q => by
    rw [hh3] at q
    exact hsb.extBut b o (Nat.ne_of_lt (Heap.lt_size q)) (Heap.get?_push_of_some _ q)
  have hns' : h₁.Ns s3.heap.objs.size (fun _ => none) := by rw [hh3]; exact hns
  obtain ⟨W, ⟨m0, w0⟩, turn⟩ := R (hidS s3.heap H3 (frs X.stack ++ fp)) s2.heap.objs.size (fun i x v c e1 e2 e3 e4 => by
    obtain ⟨u, r, o, q, d⟩ := I3.cellsIn hfn i x v c e1 e2 e3 e4
    obtain ⟨q1, q2⟩ := of_hidS q
    refine ⟨u, r, o, hidS_get q1 q2 fun hm => ?_, d⟩
    rcases List.mem_append.mp hm with hm | hm
    · have z : (hidS s3.heap H3 (frs X.stack)).get? c = none := PySem.W.hideAll_none _ (List.mem_append_right _ hm)
      rw [z] at q; cases q
    · exact (f3 c hm).2.2.2.2.1 x c e4 rfl) hD
  rw [← hH3] at w0
  have J0 := inv_compC (js := js) (N := N) (scope := scope) (h1 := h₁) (tk := s2.toks + ([] : List (Str × Value)).length) S hc hfn I3 f3 (fun b hb => by rw [hh3]; exact fo b hb) hns' hk₁
  have st4 : tn 0 h₁ := T.keep _ _ _ st3 fun b hb o q => hk₁ b o (by rw [hh3]; exact q)
  have loop : ∀ s4 : Shared, s4 = { s3 with heap := h₁, toks := s2.toks + ([] : List (Str × Value)).length } →
      codeAny (model X.prog X.w) X.A (.compLoop (.ListComp elt [⟨tg, iter, ifs, 0⟩] scope pos) 0 (.ref it) (.ref s2.heap.objs.size) (compEnvC scope cl s3.heap.objs.size X.env))
        (compPost (model X.prog X.w) X.A X.xe none (EP X pins σ Q) (.ref s2.heap.objs.size) s3.heap.objs.size) s4 := by
    rintro s4 rfl
    have stat : ∀ {H' : Hp}, (∀ b ∈ fp, H' b = none) → ∀ b ∈ fp, FpOk (cxCompC X (hidS s3.heap H3 (frs X.stack ++ fp)) N scope cl s3.heap.objs.size fp s3 H3) [] H' b := fun hn b hb =>
      ⟨hn b hb, by
        obtain ⟨o, q⟩ := fo b hb
        exact Nat.ne_of_lt (Heap.lt_size (by rw [hh3]; exact q)), J0.ok.exfs b hb, .inl hb, fun y c q => (J0.ok.exf b hb).2 y c q, fun p hp => absurd (show p ∈ ([] : List (Addr × Obj)) from hp) (by simp)⟩
    refine compLoop_ifs (fun n s' => ∃ i σ' H', Inv (cxCompC X (hidS s3.heap H3 (frs X.stack ++ fp)) N scope cl s3.heap.objs.size fp s3 H3) [] σ' H' s' ∧ tn i s'.heap ∧ (∀ b ∈ fp, H' b = none) ∧ W i n σ' H') ?_ m0 ⟨0, _, H3, J0, st4, fun b hb => (f3 b hb).1, w0⟩
    rintro n s5 ⟨i, σ5, H5, I5, st5, fr5, w5⟩
    rcases turn i n σ5 H5 w5 with ⟨stop, qn⟩ | ⟨go, Nx, hN, step⟩
    · refine wpAny_mono (T.done (cxCompC X (hidS s3.heap H3 (frs X.stack ++ fp)) N scope cl s3.heap.objs.size fp s3 H3) rfl rfl rfl rfl i [] s5 σ5 H5 (fun _ _ => False) I5 (stat fr5) st5 stop) (fun r s6 ⟨hr, I6⟩ => ?_) fun _ _ z => z
      subst hr
      obtain ⟨m6, n6, _⟩ := id I6.loc
      refine ⟨m6, n6, fun h' hs' => ⟨.ref s2.heap.objs.size, H5, ?_, rfl, qn⟩⟩
      have neC : ∀ b o, s3.heap.get? b = some o → b ≠ s3.heap.objs.size := fun b o q => Nat.ne_of_lt (Heap.lt_size q)
      have B := I6.base
      have kp : ∀ b o, b ≠ s3.heap.objs.size → s6.heap.get? b = some o → h'.get? b = some o := fun b o nb q => hs'.extBut b o nb q
      refine I3.call' (s' := { s6 with heap := h' }) (ch := fp) I6.os ⟨fun b o q n hb hx => kp b o (neC b o q) (B.keep b o q n hb hx), fun b o q n hb hx => ?_, B.free, fun b o q hx => ?_, B.tups, B.frzs, B.tbls⟩ (fun a o q => ?_) I6.bare fun b hb => ⟨(f3 b hb).2.2.2.1, (f3 b hb).2.1, (f3 b hb).2.2.2.2.1, (f3 b hb).2.2.2.2.2⟩
      · obtain ⟨sl, z⟩ := B.slot b o q n hb hx
        exact ⟨sl, kp b _ (neC b o q) z⟩
      · obtain ⟨o', z⟩ := B.there b o q hx
        exact ⟨o', kp b _ (neC b o q) z⟩
      · have ne : ∀ b u, H5 b = some u → b ≠ s3.heap.objs.size := fun b u q z => by
          have fr : H5 s3.heap.objs.size = none := I6.free
          rw [z, fr] at q; cases q
        refine (I6.hok a o q).stay (fun b u hb q' => kp b u ?_ q') (fun _ z => z) fun _ _ z => z
        rcases hb with z | z
        · exact ne b o (z ▸ q)
        · exact ne b _ z
    · refine wpAny_mono (T.item (cxCompC X (hidS s3.heap H3 (frs X.stack ++ fp)) N scope cl s3.heap.objs.size fp s3 H3) rfl rfl rfl rfl i [] s5 σ5 H5 (fun _ _ => False) I5 (stat fr5) st5 go) (fun r s6 ⟨u, hr, h6⟩ => ?_) fun _ _ z => z
      subst hr
      refine wpAny_mono h6 (fun _ s7 ⟨x, H7, I7, r7, y7, st7, fr7⟩ => ?_) fun _ _ z => z
      have I7' := I7.pinned (stat fr7) (T.obj _ _ st7)
      refine wpAny_mono (hg _ _ _ _ _ _ s7 σ5 H7 x u _ I7' r7 (step x H7 y7)) (fun _ s8 ⟨σ8, H8, I8, q8⟩ => ?_) fun _ _ z => z
      have fin : ∀ (s8 : Shared) (H8 : Hp), Inv _ _ σ8 H8 s8 → (∃ m', m' < n ∧ W (i + 1) m' σ8 H8) → ∃ m, m < n ∧ (∃ i σ' H', Inv (cxCompC X (hidS s3.heap H3 (frs X.stack ++ fp)) N scope cl s3.heap.objs.size fp s3 H3) [] σ' H' s8 ∧ tn i s8.heap ∧ (∀ b ∈ fp, H' b = none) ∧ W i m σ' H') := fun s8 H8 I10 ⟨m', hm, w9⟩ => by
        refine ⟨m', hm, i + 1, σ8, _, I10.unpinned, T.keep _ _ _ st7 fun b hb o q => (I10.pin (b, o) (List.mem_append_right _ (List.mem_append_right _ (mem_pinsAt hb q)))).1, fun b hb => ?_, w9⟩
        obtain ⟨o, q, d⟩ := T.obj _ _ st7 b hb
        exact (I10.pin (b, o) (List.mem_append_right _ (List.mem_append_right _ (mem_pinsAt hb q)))).2.1
      have rest : ∀ (ok : Bool) (s8 : Shared) (H8 : Hp), Inv _ _ σ8 H8 s8 → (if ok = true then te (hidS s3.heap H3 (frs X.stack ++ fp)) σ8 H8 fun y H4 => ∃ ys, H4 s2.heap.objs.size = some (.lst ys) ∧ ys.length < sizeLine ∧ Nx σ8 (upd H4 s2.heap.objs.size (.lst (ys ++ [y]))) else Nx σ8 H8) →
          (if ok = true then wpAny (model X.prog X.w) X.A (eval elt (compEnvC scope cl s3.heap.objs.size X.env)) (fun x s₄ =>
              wpAny (model X.prog X.w) X.A (call (.builtin "list.append") [.ref s2.heap.objs.size, x]) (fun _ s₅ => ∃ m, m < n ∧ (∃ i σ' H', Inv (cxCompC X (hidS s3.heap H3 (frs X.stack ++ fp)) N scope cl s3.heap.objs.size fp s3 H3) [] σ' H' s₅ ∧ tn i s₅.heap ∧ (∀ b ∈ fp, H' b = none) ∧ W i m σ' H')) (fun _ _ => False) s₄) (fun _ _ => False) s8
            else ∃ m, m < n ∧ (∃ i σ' H', Inv (cxCompC X (hidS s3.heap H3 (frs X.stack ++ fp)) N scope cl s3.heap.objs.size fp s3 H3) [] σ' H' s8 ∧ tn i s8.heap ∧ (∀ b ∈ fp, H' b = none) ∧ W i m σ' H')) := fun ok s8 H8 I8 q8 => by
        cases ok with
        | false => exact fin s8 H8 I8 (hN _ _ q8)
        | true =>
          refine wpAny_mono (he _ _ _ _ _ _ s8 σ8 H8 _ I8 q8) (fun y s9 ⟨vy, H9, I9, ry, ys, hD9, hz, w9⟩ => ?_) fun _ _ z => z
          obtain ⟨z, its, nn, rr, hl, eo⟩ := I9.lstM hD9
          refine append_at (hsz := by rw [List.size_toArray]; omega) eo fun h10 hs10 hD10 => ?_
          have I10 : Inv _ _ σ8 (upd H9 s2.heap.objs.size (.lst (ys ++ [vy]))) { s9 with heap := h10, toks := s9.toks } := I9.write (x := s2.heap.objs.size) (e := s2.heap.objs.size) (o := .lst (ys ++ [vy])) (by rw [hD9]; exact trivial) (.inl rfl) (fun b o hb q => hs10.extBut b o hb q) ⟨_, hD10⟩
            ⟨by rw [List.length_append, List.length_singleton]; omega, its ++ [y], nn + 1, rr.append (.cons ry .nil), by rw [hD10, List.push_toArray]⟩
          exact fin _ _ I10 (hN _ _ w9)
      have hI := hif (hidS s3.heap H3 (frs X.stack ++ fp)) s3.heap.objs.size fp s3 H3
      match ifs, hI with
      | [], hI => exact rest true s8 H8 I8 (hI _ _ _ q8)
      | [c], hI => exact wpAny_mono (hI _ s8 σ8 H8 _ I8 q8) (fun ok s9 ⟨H9, I9, q9⟩ => rest ok s9 H9 I9 q9) fun _ _ z => z
      | _ :: _ :: _, hI => exact hI.elim
  have e4 : ({ ({ s2 with heap := s2.heap.push { cls := .type "list", data := .seq ([] : List Value).toArray } } : Shared) with heap := h₁, toks := s2.toks + ([] : List (Str × Value)).length } : Shared) = { s3 with heap := h₁, toks := s2.toks + ([] : List (Str × Value)).length } := by rw [hs3]
  have lp := loop _ e4
  have eC : s3.heap.objs.size = (s2.heap.push { cls := .type "list", data := .seq ([] : List Value).toArray }).objs.size := by rw [hh3]
  rw [eC] at lp
  exact codeAny_compStart_list lp (T.self _ 0 _ _ _ st4 lp)
end
section
variable {K : PySem.W.Frag} {a : Addr} {xs : List V} {g : TG} {tt : TT} {te : TE} {Q : VK} {D : Addr} {σ : St} {H : Hp} {J : It}
abbrev CT (g : TG) (tt : TT) (te : TE) (D : Addr) (Nx : St → Hp → Prop) (x : V) (σ : St) (H : Hp) : Prop :=
  g x σ H fun σ3 H3 => tt σ3 H3 fun ok H3' => if ok = true then te σ3 H3' fun y H4 => ∃ ys, H4 D = some (.lst ys) ∧ ys.length < sizeLine ∧ Nx σ3 (upd H4 D (.lst (ys ++ [y]))) else Nx σ3 H3'
abbrev CW (J : It) (g : TG) (tt : TT) (te : TE) (D : Addr) (Q : VK) (σ : St) (H : Hp) : Prop := ∃ W : Nat → Nat → St → Hp → Prop, (∃ m, W 0 m σ H) ∧
  ∀ i m σ' H', W i m σ' H' → (J.stop i H' ∧ Q (.ref D) H') ∨ (J.go i H' ∧ ∃ Nx : St → Hp → Prop, (∀ σ'' H'', Nx σ'' H'' → ∃ m', m' < m ∧ W (i + 1) m' σ'' H'') ∧ ∀ x H2, J.yld i H' x H2 → CT g tt te D Nx x σ' H2)
theorem comp_tup (Pv : Nat → St → Hp → Prop) (h0 : Pv 0 σ H) (hl : ∀ i σ H, i ≤ xs.length → Pv i σ H → SqT K H a xs)
    (hs : ∀ i x σ H, xs[i]? = some x → Pv i σ H → CT g tt te D (Pv (i + 1)) x σ H) (hd : ∀ σ H, Pv xs.length σ H → Q (.ref D) H) : CW (Itt K a) g tt te D Q σ H := by
  refine ⟨fun i m σ H => m = xs.length - i ∧ i ≤ xs.length ∧ Pv i σ H, ⟨xs.length, by simp, Nat.zero_le _, h0⟩, ?_⟩
  rintro i m σ H ⟨rfl, hi, p⟩
  have q := hl i σ H hi p
  by_cases hlt : i < xs.length
  · refine .inr ⟨⟨xs, xs[i], q, by simp [hlt]⟩, Pv (i + 1), fun σ' H' p' => ⟨xs.length - (i + 1), by omega, rfl, hlt, p'⟩, fun x H' y => ?_⟩
    obtain ⟨e, y⟩ := y
    subst e
    exact hs i x σ _ (y xs q) p
  · have e : i = xs.length := by omega
    subst e
    exact .inl ⟨⟨xs, q, Nat.le_refl _⟩, hd σ H p⟩
theorem comp_list (Pv : Nat → St → Hp → Prop) (h0 : Pv 0 σ H) (hl : ∀ i σ H, i ≤ xs.length → Pv i σ H → SqL K H a xs)
    (hs : ∀ i x σ H, xs[i]? = some x → Pv i σ H → CT g tt te D (Pv (i + 1)) x σ H) (hd : ∀ σ H, Pv xs.length σ H → Q (.ref D) H) : CW (Itl K a) g tt te D Q σ H := by
  refine ⟨fun i m σ H => m = xs.length - i ∧ i ≤ xs.length ∧ Pv i σ H, ⟨xs.length, by simp, Nat.zero_le _, h0⟩, ?_⟩
  rintro i m σ H ⟨rfl, hi, p⟩
  have q := hl i σ H hi p
  by_cases hlt : i < xs.length
  · refine .inr ⟨⟨xs, xs[i], q, by simp [hlt]⟩, Pv (i + 1), fun σ' H' p' => ⟨xs.length - (i + 1), by omega, rfl, hlt, p'⟩, fun x H' y => ?_⟩
    obtain ⟨e, y⟩ := y
    subst e
    exact hs i x σ _ (y xs q) p
  · have e : i = xs.length := by omega
    subst e
    exact .inl ⟨⟨xs, q, Nat.le_refl _⟩, hd σ H p⟩
end
end L2
namespace L2
open PySem PySem.Spec PyProof.Rows
def clOf (sc : Scope) (env : Env) : List (Str × Addr) := (sc.names.filter (·.2 == .free)).reverse.map fun y => (y.1, (env.cells.lookup y.1).getD 0)
theorem closure_go (env : Env) : ∀ (ns : List (Str × NameKind)) (cs : List (Str × Addr)), (∀ y ∈ ns, y.2 = .free → ∃ c, env.cells.lookup y.1 = some c) →
    (forIn ns cs fun (x : Str × NameKind) __s => match x with
        | (name, kind) => if (kind == NameKind.free) = true then do let __do_lift ← cellOf env name; pure (ForInStep.yield ((name, __do_lift) :: __s)) else pure (ForInStep.yield __s)) =
      (pure ((ns.filter (·.2 == .free)).reverse.map (fun y => (y.1, (env.cells.lookup y.1).getD 0)) ++ cs) : Sem (List (Str × Addr)))
  | [], cs, _ => by simp
  | (n, k) :: ns, cs, h => by
    have ih := fun cs => closure_go env ns cs fun y hy => h y (List.mem_cons_of_mem _ hy)
    rw [List.forIn_cons]
    by_cases e : (k == NameKind.free) = true
    · have ek : k = .free := by simpa using e
      obtain ⟨c, hc⟩ := h (n, k) List.mem_cons_self ek
      have e1 : cellOf env n = pure c := by unfold cellOf; simp only at hc; rw [hc]
      dsimp only
      rw [if_pos e, e1, pure_bind, pure_bind]
      dsimp only
      rw [ih, List.filter_cons_of_pos (by simpa using ek)]
      simp only at hc
      simp [hc]
    · dsimp only
      rw [if_neg e, pure_bind]
      dsimp only
      rw [ih, List.filter_cons_of_neg (by simpa using e)]
theorem closure_of {sc : Scope} {env : Env} (h : ∀ y ∈ sc.names, y.2 = .free → ∃ c, env.cells.lookup y.1 = some c) : closureFor sc env = pure (clOf sc env) := by
  unfold closureFor clOf
  have := closure_go env sc.names [] h
  dsimp only
  rw [this]
  simp
def compOk (sc out : Scope) (N NX : List Str) (js : List (Option Nat)) : Bool :=
  (sc.kind == .function) && (sc.names.all fun y => y.2 != .cell) && (sc.names.all fun y => y.2 != .local || sc.names.lookup y.1 == some .local) && (sc.names.all fun y => y.2 != .free || out.names.lookup y.1 == some .cell) && (js.length == N.length) &&
  ((N.zip js).all fun p => match p.2 with | none => true | some j => (NX[j]? == some p.1) && (out.names.lookup p.1 == some .cell) && (sc.names.lookup p.1 == some .free))
theorem relabel_free {env : Env} {x : Str} : ∀ (ns : List (Str × NameKind)), ns.lookup x = some .free →
    (ns.map (fun x => match x with | (n, k) => if (k == NameKind.free && env.scope.kind == ScopeKind.function && env.kindOf n == some NameKind.cell) = true then (n, NameKind.cell) else (n, k))).lookup x = some .cell ∨
    (ns.map (fun x => match x with | (n, k) => if (k == NameKind.free && env.scope.kind == ScopeKind.function && env.kindOf n == some NameKind.cell) = true then (n, NameKind.cell) else (n, k))).lookup x = some .free
  | [], h => by cases h
  | (n, k) :: ns, h => by
    rw [List.map_cons]
    dsimp only
    by_cases e : x == n
    · have hk : k = .free := by
        rw [List.lookup_cons, e] at h
        simpa using h
      split
      · left; rw [List.lookup_cons, e]
      · right; rw [List.lookup_cons, e, hk]
    · have e' : (x == n) = false := by simpa using e
      rw [List.lookup_cons, e'] at h
      have ih := relabel_free (env := env) ns h
      split <;> (rw [List.lookup_cons, e']; exact ih)
theorem clOf_has {sc : Scope} {env : Env} {x : Str} (h : (x, NameKind.free) ∈ sc.names) : ∃ c, (clOf sc env).lookup x = some c := by
  have hm : (x, (env.cells.lookup x).getD 0) ∈ clOf sc env := List.mem_map.mpr ⟨(x, .free), by rw [List.mem_reverse, List.mem_filter]; exact ⟨h, by simp⟩, rfl⟩
  cases e : (clOf sc env).lookup x with
  | some c => exact ⟨c, rfl⟩
  | none =>
    have := List.lookup_eq_none_iff.mp e _ hm
    simp at this
section
variable {X : Cx} {tg iter elt : Expr} {ifs : List Expr} {scope : Scope} {pos : Pos} {wi : TI} {N : List Str} {js : List (Option Nat)} {g : TG} {tt : Heap → TT} {te : Heap → TE}
theorem pe_compD (hcb : compOk scope X.env.scope N X.N js = true) (hc : X.calm = true) (hfn : ∀ x, X.fn x = true) (hi : PI X tg iter wi)
    (hg : ∀ b C fp s H, PG (cxCompC X b N scope (clOf scope X.env) C fp s H) tg g) (hif : ∀ b C fp s H, PIfs (cxCompC X b N scope (clOf scope X.env) C fp s H) ifs (tt b)) (he : ∀ b C fp s H, PE (cxCompC X b N scope (clOf scope X.env) C fp s H) elt (te b))
    (hs : ∀ x, foldedSetIterable iter X.env x = pure x := by intro _; rfl) : PE X (.ListComp elt [⟨tg, iter, ifs, 0⟩] scope pos) (tCompC X js wi g tt te) := by
  intro pins s σ H Q I h
  simp only [compOk, Bool.and_eq_true, List.all_eq_true, beq_iff_eq, bne_iff_ne, Bool.or_eq_true] at hcb
  obtain ⟨⟨⟨⟨⟨c1, c2⟩, c3⟩, c4⟩, c5⟩, c6⟩ := hcb
  have env : ∀ y ∈ scope.names, y.2 = .free → ∃ c, X.env.cells.lookup y.1 = some c := fun y hy hf => by
    rcases c4 y hy with z | z
    · exact absurd hf z
    · exact I.ok.has y.1 (.inl z)
  have S : CompScopeC X scope N (clOf scope X.env) js := by
    refine ⟨c1, c2, fun y hy hl => ?_, fun y hy hf => ?_, fun y hy => ?_, c5, fun p hp j hj => ?_⟩
    · rcases c3 y hy with z | z
      · exact absurd hl z
      · exact z
    · exact clOf_has (by obtain ⟨a, b⟩ := y; cases hf; exact hy)
    · obtain ⟨z, hz, rfl⟩ := List.mem_map.mp hy
      rw [List.mem_reverse, List.mem_filter] at hz
      obtain ⟨c, hc⟩ := env z hz.1 (by simpa using hz.2)
      simp only [hc, Option.getD_some]
    · have := c6 p hp
      rw [hj] at this
      simp only [Bool.and_eq_true, beq_iff_eq] at this
      obtain ⟨⟨d1, d2⟩, d3⟩ := this
      refine ⟨d1, d2, ?_, clOf_has (PySem.mem_of_lookup d3)⟩
      exact relabel_free _ d3
  exact pe_compC S hc hfn hi (closure_of env) hg hif he hs pins s σ H Q I h
end
section
variable {X : Cx}
def reprV : V → Option Str
  | .int i => some (toString i)
  | .non => some "None"
  | _ => none
theorem call_repr : CallR X (.builtin "repr") (fun xs H Q => ∃ x r, xs = [x] ∧ reprV x = some r ∧ (∀ i, x = .int i → i.natAbs.log2 < 1920) ∧ Q (.str r) H) := by
  intro pins s σ H xs us Q I r h
  obtain ⟨x, y, rfl, hx, hz, q⟩ := h
  obtain ⟨u, rfl, rx⟩ := vals1 r
  cases x with
  | int i =>
    cases hx
    obtain ⟨t, rfl⟩ := rx
    exact PySem.P.repr_of_int (hz i rfl) ⟨.str _, H, I.tok _, ⟨_, rfl⟩, q⟩
  | non =>
    cases hx
    cases rx
    exact PySem.P.repr_of_none ⟨.str _, H, I.tok _, ⟨_, rfl⟩, q⟩
  | _ => cases hx
end
section
variable {X : Cx} {K : PySem.W.Frag} {pos : Pos}
theorem pg_tupK {es : List Expr} {k : Nat} {t : TGs} {n : Nat} (hK : X.K = K) (hc : X.calm = true) (h : PGs X es t)
    (hn : (assignEach es X.env).length = n := by rfl) (hst : (assignEach es X.env).findIdx? (·.1) = none := by rfl) : PG X (.Tuple es k pos) (gTup K n t) := by
  subst hK
  exact pg_tup hc h hn hst
end
section
variable {X : Cx} {pos : Pos}
end
theorem tCompC_of {X : Cx} {js : List (Option Nat)} {wi : TI} {g : TG} {tt : Heap → TT} {te : Heap → TE} {σ : St} {H : Hp} {Q : VK} (h : wi σ H fun J H1 => ∀ b D, CellsIn X σ b → H1 D = none → CW J g (tt b) (te b) D Q (outOf σ js) (upd H1 D (.lst []))) : tCompC X js wi g tt te σ H Q := h
end L2
namespace L2
open PySem PySem.Spec PyProof.Rows
inductive Dt where
  | non | bl (b : Bool) | int (i : Int) | str (x : Str) | tup (ds : List Dt) | lst (ds : List Dt)
mutual
def Rep (K : PySem.W.Frag) (H : Hp) : Dt → V → Prop
  | .non, v => v = .non
  | .bl b, v => v = .bl b
  | .int i, v => v = .int i
  | .str x, v => v = .str x
  | .tup ds, v => ∃ a xs, v = .ref a ∧ SqT K H a xs ∧ RepL K H ds xs
  | .lst ds, v => ∃ a xs, v = .ref a ∧ SqL K H a xs ∧ RepL K H ds xs
def RepL (K : PySem.W.Frag) (H : Hp) : List Dt → List V → Prop
  | [], xs => xs = []
  | d :: ds, xs => ∃ x r, xs = x :: r ∧ Rep K H d x ∧ RepL K H ds r
end
mutual
def eqD : Dt → Dt → Bool
  | .non, .non => true
  | .bl a, .bl b => a == b
  | .bl a, .int b => (if a then 1 else 0) == b
  | .int a, .bl b => a == (if b then 1 else 0)
  | .int a, .int b => a == b
  | .str a, .str b => a == b
  | .tup ds, .tup es => eqDL ds es
  | .lst ds, .lst es => eqDL ds es
  | _, _ => false
def eqDL : List Dt → List Dt → Bool
  | [], [] => true
  | d :: ds, e :: es => eqD d e && eqDL ds es
  | _, _ => false
end
mutual
def dep : Dt → Nat
  | .tup ds => depL ds + 1
  | .lst ds => depL ds + 1
  | _ => 0
def depL : List Dt → Nat
  | [] => 0
  | d :: ds => max (dep d) (depL ds)
end
theorem RepL.length {K : PySem.W.Frag} {H : Hp} : ∀ {ds : List Dt} {xs : List V}, RepL K H ds xs → ds.length = xs.length
  | [], xs, h => by cases (show xs = [] from h); rfl
  | d :: ds, xs, h => by
    obtain ⟨x, r, rfl, _, h2⟩ := (show ∃ x r, xs = x :: r ∧ Rep K H d x ∧ RepL K H ds r from h)
    rw [List.length_cons, List.length_cons, h2.length]
mutual
theorem eqD_self : ∀ d : Dt, eqD d d = true
  | .non => rfl
  | .bl a => by show (a == a) = true; simp
  | .int a => by show (a == a) = true; simp
  | .str a => by show (a == a) = true; simp
  | .tup ds => eqDL_self ds
  | .lst ds => eqDL_self ds
theorem eqDL_self : ∀ ds : List Dt, eqDL ds ds = true
  | [] => rfl
  | d :: ds => by show (eqD d d && eqDL ds ds) = true; rw [eqD_self d, eqDL_self ds]; rfl
end
theorem eqDL_range : ∀ ds es : List Dt, eqDL ds es = ((List.range (min ds.length es.length)).all (fun j => eqD (ds.getD j .non) (es.getD j .non)) && ds.length == es.length)
  | [], [] => rfl
  | [], e :: es => rfl
  | d :: ds, [] => rfl
  | d :: ds, e :: es => by
    show (eqD d e && eqDL ds es) = _
    rw [eqDL_range ds es, List.length_cons, List.length_cons, Nat.succ_min_succ, List.range_succ_eq_map, List.all_cons, List.all_map, Bool.and_assoc]
    congr 1
    congr 1
    by_cases h : ds.length = es.length
    · simp [h]
    · simp [h]
section
variable {X : Cx} {pins : List (Addr × Obj)} {σ : St} {H : Hp} {s : Shared}
mutual
theorem Rep.inj (I : Inv X pins σ H s) : ∀ (d e : Dt) {v : V}, Rep X.K H d v → Rep X.K H e v → d = e
  | .non, e, v, h, g => by
    cases (show v = .non from h)
    cases e with
    | non => rfl
    | tup ds => obtain ⟨_, _, z, _⟩ := (show ∃ a xs, V.non = .ref a ∧ _ from g); cases z
    | lst ds => obtain ⟨_, _, z, _⟩ := (show ∃ a xs, V.non = .ref a ∧ _ from g); cases z
    | _ => cases g
  | .bl b, e, v, h, g => by
    cases (show v = .bl b from h)
    cases e with
    | bl c => cases g; rfl
    | tup ds => obtain ⟨_, _, z, _⟩ := (show ∃ a xs, V.bl b = .ref a ∧ _ from g); cases z
    | lst ds => obtain ⟨_, _, z, _⟩ := (show ∃ a xs, V.bl b = .ref a ∧ _ from g); cases z
    | _ => cases g
  | .int b, e, v, h, g => by
    cases (show v = .int b from h)
    cases e with
    | int c => cases g; rfl
    | tup ds => obtain ⟨_, _, z, _⟩ := (show ∃ a xs, V.int b = .ref a ∧ _ from g); cases z
    | lst ds => obtain ⟨_, _, z, _⟩ := (show ∃ a xs, V.int b = .ref a ∧ _ from g); cases z
    | _ => cases g
  | .str b, e, v, h, g => by
    cases (show v = .str b from h)
    cases e with
    | str c => cases g; rfl
    | tup ds => obtain ⟨_, _, z, _⟩ := (show ∃ a xs, V.str b = .ref a ∧ _ from g); cases z
    | lst ds => obtain ⟨_, _, z, _⟩ := (show ∃ a xs, V.str b = .ref a ∧ _ from g); cases z
    | _ => cases g
  | .tup ds, e, v, h, g => by
    obtain ⟨a, xs, rfl, h1, h2⟩ := (show ∃ a xs, v = .ref a ∧ SqT X.K H a xs ∧ RepL X.K H ds xs from h)
    cases e with
    | tup es =>
      obtain ⟨a', ys, z, g1, g2⟩ := (show ∃ a' xs, V.ref a = .ref a' ∧ SqT X.K H a' xs ∧ RepL X.K H es xs from g)
      cases z
      cases I.tuple_inj h1 g1
      rw [RepL.inj I ds es h2 g2]
    | lst es =>
      obtain ⟨a', ys, z, g1, g2⟩ := (show ∃ a' xs, V.ref a = .ref a' ∧ SqL X.K H a' xs ∧ RepL X.K H es xs from g)
      cases z
      obtain ⟨_, _, p1, _⟩ := I.tuple h1
      obtain ⟨_, _, p2, _⟩ := I.list g1
      exact absurd rfl (SeqAt.ne_of_list_tuple p2.isList p1)
    | _ => cases g
  | .lst ds, e, v, h, g => by
    obtain ⟨a, xs, rfl, h1, h2⟩ := (show ∃ a xs, v = .ref a ∧ SqL X.K H a xs ∧ RepL X.K H ds xs from h)
    cases e with
    | lst es =>
      obtain ⟨a', ys, z, g1, g2⟩ := (show ∃ a' xs, V.ref a = .ref a' ∧ SqL X.K H a' xs ∧ RepL X.K H es xs from g)
      cases z
      cases I.list_inj h1 g1
      rw [RepL.inj I ds es h2 g2]
    | tup es =>
      obtain ⟨a', ys, z, g1, g2⟩ := (show ∃ a' xs, V.ref a = .ref a' ∧ SqT X.K H a' xs ∧ RepL X.K H es xs from g)
      cases z
      obtain ⟨_, _, p1, _⟩ := I.tuple g1
      obtain ⟨_, _, p2, _⟩ := I.list h1
      exact absurd rfl (SeqAt.ne_of_list_tuple p2.isList p1)
    | _ => cases g
theorem RepL.inj (I : Inv X pins σ H s) : ∀ (ds es : List Dt) {xs : List V}, RepL X.K H ds xs → RepL X.K H es xs → ds = es
  | [], es, xs, h, g => by
    cases (show xs = [] from h)
    cases es with
    | nil => rfl
    | cons e es => obtain ⟨_, _, z, _⟩ := (show ∃ x r, [] = x :: r ∧ _ from g); cases z
  | d :: ds, es, xs, h, g => by
    obtain ⟨x, r, rfl, h1, h2⟩ := (show ∃ x r, xs = x :: r ∧ Rep X.K H d x ∧ RepL X.K H ds r from h)
    cases es with
    | nil => cases (show x :: r = [] from g)
    | cons e es =>
      obtain ⟨_, _, z, g1, g2⟩ := (show ∃ y q, x :: r = y :: q ∧ Rep X.K H e y ∧ RepL X.K H es q from g)
      cases z
      rw [Rep.inj I d e h1 g1, RepL.inj I ds es h2 g2]
end
theorem in1_units (A : Around) : A.in1.units = A.units + 1 := rfl
mutual
theorem eqAt_D (I : Inv X pins σ H s) : ∀ (d e : Dt) {v u : V} {vv uu : Value} {A : Around}, Rep X.K H d v → Rep X.K H e u → RelV v vv → RelV u uu → A.units + dep d < cLine → SeqAt.EqAt A s vv uu (eqD d e)
  | .tup ds, e, v, u, vv, uu, A, h, g, rv, ru, hu => by
    obtain ⟨a, xs, rfl, h1, h2⟩ := (show ∃ a xs, v = .ref a ∧ SqT X.K H a xs ∧ RepL X.K H ds xs from h)
    cases rv
    have hu0 : A.units < cLine := Nat.lt_of_le_of_lt (Nat.le_add_right _ _) hu
    obtain ⟨j1, _, p0, _⟩ := I.tuple h1
    cases e with
    | non => cases (show u = .non from g); cases ru; exact .tuple_none p0 hu0
    | bl b => cases (show u = .bl b from g); cases ru; exact .tuple_bool _ p0 hu0
    | int b => cases (show u = .int b from g); obtain ⟨t, rfl⟩ := ru; exact .tuple_int _ _ p0 hu0
    | str b => cases (show u = .str b from g); obtain ⟨t, rfl⟩ := ru; exact .tuple_str _ _ p0 hu0
    | tup es =>
        obtain ⟨b, ys, rfl, g1, g2⟩ := (show ∃ a xs, u = .ref a ∧ SqT X.K H a xs ∧ RepL X.K H es xs from g)
        cases ru
        by_cases e : a = b
        · subst e
          cases I.tuple_inj h1 g1
          rw [RepL.inj I ds es h2 g2, show eqD (.tup es) (.tup es) = true from eqD_self _]
          exact .same _
        · obtain ⟨i1, r1, p1, _⟩ := I.tuple h1
          obtain ⟨i2, r2, p2, _⟩ := I.tuple g1
          have hu' : A.units + (depL ds + 1) < cLine := hu
          have l1 := h2.length.trans r1.length
          have l2 := g2.length.trans r2.length
          refine .of_refs e ?_
          rw [show eqD (.tup ds) (.tup es) = eqDL ds es from rfl, eqDL_range]
          have := SeqAt.RcAt.tuples (A := A) p1 p2 (by omega) (e := fun j => eqD (ds.getD j .non) (es.getD j .non)) fun j a1 a2 => by
            have a1' : j < i1.length := by simpa using a1
            have a2' : j < i2.length := by simpa using a2
            have := eqAt_DL I ds es h2 g2 r1 r2 (A := A.in1) (by rw [in1_units]; omega) j a1' a2'
            simpa using this
          rw [List.size_toArray, List.size_toArray, ← l1, ← l2] at this
          exact this
    | lst es =>
        obtain ⟨b, ys, rfl, g1, g2⟩ := (show ∃ a xs, u = .ref a ∧ SqL X.K H a xs ∧ RepL X.K H es xs from g)
        cases ru
        obtain ⟨i2, r2, p2, _⟩ := I.list g1
        exact .tuple_list p0 p2.isList hu0
  | .lst ds, e, v, u, vv, uu, A, h, g, rv, ru, hu => by
    obtain ⟨a, xs, rfl, h1, h2⟩ := (show ∃ a xs, v = .ref a ∧ SqL X.K H a xs ∧ RepL X.K H ds xs from h)
    cases rv
    have hu0 : A.units < cLine := Nat.lt_of_le_of_lt (Nat.le_add_right _ _) hu
    obtain ⟨j1, _, p0, _⟩ := I.list h1
    cases e with
    | non => cases (show u = .non from g); cases ru; exact .list_none p0.isList hu0
    | bl b => cases (show u = .bl b from g); cases ru; exact .list_bool _ p0.isList hu0
    | int b => cases (show u = .int b from g); obtain ⟨t, rfl⟩ := ru; exact .list_int _ _ p0.isList hu0
    | str b => cases (show u = .str b from g); obtain ⟨t, rfl⟩ := ru; exact .list_str _ _ p0.isList hu0
    | lst es =>
        obtain ⟨b, ys, rfl, g1, g2⟩ := (show ∃ a xs, u = .ref a ∧ SqL X.K H a xs ∧ RepL X.K H es xs from g)
        cases ru
        by_cases e : a = b
        · subst e
          cases I.list_inj h1 g1
          rw [RepL.inj I ds es h2 g2, show eqD (.lst es) (.lst es) = true from eqD_self _]
          exact .same _
        · obtain ⟨i1, r1, p1, _⟩ := I.list h1
          obtain ⟨i2, r2, p2, _⟩ := I.list g1
          have hu' : A.units + (depL ds + 1) < cLine := hu
          have l1 := h2.length.trans r1.length
          have l2 := g2.length.trans r2.length
          refine .of_refs e ?_
          rw [show eqD (.lst ds) (.lst es) = eqDL ds es from rfl, eqDL_range]
          by_cases hz : ds.length = es.length
          · have := SeqAt.RcAt.lists (A := A) p1.isList p2.isList (by simp only [List.size_toArray]; omega) (by omega) (e := fun j => eqD (ds.getD j .non) (es.getD j .non)) fun j a1 a2 => by
              have a1' : j < i1.length := by simpa using a1
              have a2' : j < i2.length := by simpa using a2
              have := eqAt_DL I ds es h2 g2 r1 r2 (A := A.in1) (by rw [in1_units]; omega) j a1' a2'
              simpa using this
            rw [List.size_toArray, ← l1] at this
            rw [← hz, Nat.min_self, beq_self_eq_true, Bool.and_true]
            exact this
          · have := SeqAt.RcAt.lists_lengths (A := A) p1.isList p2.isList (by simp only [List.size_toArray, bne_iff_ne]; omega) (by omega)
            rw [show (ds.length == es.length) = false by simpa using hz, Bool.and_false]
            exact this
    | tup es =>
        obtain ⟨b, ys, rfl, g1, g2⟩ := (show ∃ a xs, u = .ref a ∧ SqT X.K H a xs ∧ RepL X.K H es xs from g)
        cases ru
        obtain ⟨i2, r2, p2, _⟩ := I.tuple g1
        exact .list_tuple p0.isList p2 hu0
  | .non, e, v, u, vv, uu, A, h, g, rv, ru, hu => by
    cases (show v = .non from h); cases rv
    have hu0 : A.units < cLine := Nat.lt_of_le_of_lt (Nat.le_add_right _ _) hu
    cases e with
    | non => cases (show u = .non from g); cases ru; exact .same _
    | bl b => cases (show u = .bl b from g); cases ru; exact .none_bool _
    | int b => cases (show u = .int b from g); obtain ⟨t, rfl⟩ := ru; exact .none_int _ _
    | str b => cases (show u = .str b from g); obtain ⟨t, rfl⟩ := ru; exact .none_str _ _
    | tup es =>
        obtain ⟨b, ys, rfl, g1, g2⟩ := (show ∃ a xs, u = .ref a ∧ SqT X.K H a xs ∧ RepL X.K H es xs from g)
        cases ru
        obtain ⟨i2, r2, p2, _⟩ := I.tuple g1
        exact .none_tuple p2 hu0
    | lst es =>
        obtain ⟨b, ys, rfl, g1, g2⟩ := (show ∃ a xs, u = .ref a ∧ SqL X.K H a xs ∧ RepL X.K H es xs from g)
        cases ru
        obtain ⟨i2, r2, p2, _⟩ := I.list g1
        exact .none_list p2.isList hu0
  | .bl a, e, v, u, vv, uu, A, h, g, rv, ru, hu => by
    cases (show v = .bl a from h); cases rv
    have hu0 : A.units < cLine := Nat.lt_of_le_of_lt (Nat.le_add_right _ _) hu
    cases e with
    | non => cases (show u = .non from g); cases ru; exact .bool_none _
    | bl b => cases (show u = .bl b from g); cases ru; exact .bool_bool _ _
    | int b => cases (show u = .int b from g); obtain ⟨t, rfl⟩ := ru; exact .bool_int _ _ _
    | str b => cases (show u = .str b from g); obtain ⟨t, rfl⟩ := ru; exact .bool_str _ _ _
    | tup es =>
        obtain ⟨b, ys, rfl, g1, g2⟩ := (show ∃ a xs, u = .ref a ∧ SqT X.K H a xs ∧ RepL X.K H es xs from g)
        cases ru
        obtain ⟨i2, r2, p2, _⟩ := I.tuple g1
        exact .bool_tuple _ p2 hu0
    | lst es =>
        obtain ⟨b, ys, rfl, g1, g2⟩ := (show ∃ a xs, u = .ref a ∧ SqL X.K H a xs ∧ RepL X.K H es xs from g)
        cases ru
        obtain ⟨i2, r2, p2, _⟩ := I.list g1
        exact .bool_list _ p2.isList hu0
  | .int a, e, v, u, vv, uu, A, h, g, rv, ru, hu => by
    cases (show v = .int a from h); obtain ⟨t', rfl⟩ := rv
    have hu0 : A.units < cLine := Nat.lt_of_le_of_lt (Nat.le_add_right _ _) hu
    cases e with
    | non => cases (show u = .non from g); cases ru; exact .int_none _ _
    | bl b => cases (show u = .bl b from g); cases ru; exact .int_bool _ _ _
    | int b => cases (show u = .int b from g); obtain ⟨t, rfl⟩ := ru; exact .int_int _ _ _ _
    | str b => cases (show u = .str b from g); obtain ⟨t, rfl⟩ := ru; exact .int_str _ _ _ _
    | tup es =>
        obtain ⟨b, ys, rfl, g1, g2⟩ := (show ∃ a xs, u = .ref a ∧ SqT X.K H a xs ∧ RepL X.K H es xs from g)
        cases ru
        obtain ⟨i2, r2, p2, _⟩ := I.tuple g1
        exact .int_tuple _ _ p2 hu0
    | lst es =>
        obtain ⟨b, ys, rfl, g1, g2⟩ := (show ∃ a xs, u = .ref a ∧ SqL X.K H a xs ∧ RepL X.K H es xs from g)
        cases ru
        obtain ⟨i2, r2, p2, _⟩ := I.list g1
        exact .int_list _ _ p2.isList hu0
  | .str a, e, v, u, vv, uu, A, h, g, rv, ru, hu => by
    cases (show v = .str a from h); obtain ⟨t', rfl⟩ := rv
    have hu0 : A.units < cLine := Nat.lt_of_le_of_lt (Nat.le_add_right _ _) hu
    cases e with
    | non => cases (show u = .non from g); cases ru; exact .str_none _ _
    | bl b => cases (show u = .bl b from g); cases ru; exact .str_bool _ _ _
    | int b => cases (show u = .int b from g); obtain ⟨t, rfl⟩ := ru; exact .str_int _ _ _ _
    | str b => cases (show u = .str b from g); obtain ⟨t, rfl⟩ := ru; exact .str_str _ _ _ _
    | tup es =>
        obtain ⟨b, ys, rfl, g1, g2⟩ := (show ∃ a xs, u = .ref a ∧ SqT X.K H a xs ∧ RepL X.K H es xs from g)
        cases ru
        obtain ⟨i2, r2, p2, _⟩ := I.tuple g1
        exact .str_tuple _ _ p2 hu0
    | lst es =>
        obtain ⟨b, ys, rfl, g1, g2⟩ := (show ∃ a xs, u = .ref a ∧ SqL X.K H a xs ∧ RepL X.K H es xs from g)
        cases ru
        obtain ⟨i2, r2, p2, _⟩ := I.list g1
        exact .str_list _ _ p2.isList hu0
theorem eqAt_DL (I : Inv X pins σ H s) : ∀ (ds es : List Dt) {xs ys : List V} {us ws : List Value} {A : Around}, RepL X.K H ds xs → RepL X.K H es ys → Vals xs us → Vals ys ws → A.units + depL ds < cLine →
    ∀ (j : Nat) (h1 : j < us.length) (h2 : j < ws.length), SeqAt.EqAt A s us[j] ws[j] (eqD (ds.getD j .non) (es.getD j .non))
  | [], es, xs, ys, us, ws, A, h, g, rv, ru, hu => fun j h1 h2 => by
    cases (show xs = [] from h)
    cases rv
    exact absurd h1 (Nat.not_lt_zero _)
  | d :: ds, es, xs, ys, us, ws, A, h, g, rv, ru, hu => fun j h1 h2 => by
    obtain ⟨x, r, rfl, hd, hr⟩ := (show ∃ x r, xs = x :: r ∧ Rep X.K H d x ∧ RepL X.K H ds r from h)
    cases es with
    | nil =>
      cases (show ys = [] from g)
      cases ru
      exact absurd h2 (Nat.not_lt_zero _)
    | cons e es =>
      obtain ⟨y, q, rfl, gd, gr⟩ := (show ∃ x r, ys = x :: r ∧ Rep X.K H e x ∧ RepL X.K H es r from g)
      cases rv with
      | cons rv1 rv2 =>
        cases ru with
        | cons ru1 ru2 =>
          have hu' : A.units + max (dep d) (depL ds) < cLine := hu
          cases j with
          | zero => exact eqAt_D I d e hd gd rv1 ru1 (by omega)
          | succ j => exact eqAt_DL I ds es hr gr rv2 ru2 (by omega) j (by simpa using h1) (by simpa using h2)
end
def rEqS (K : PySem.W.Frag) : R2 := fun x y H Q => ∃ ds es, ((Rep K H (.tup ds) x ∧ Rep K H (.tup es) y) ∨ (Rep K H (.lst ds) x ∧ Rep K H (.lst es) y)) ∧ depL ds ≤ 100 ∧ Q (.bl (eqDL ds es)) H
theorem op_eqS (hu : X.A.units + 150 < cLine) : OpR X (compareOp .Eq) (rEqS X.K) := by
  intro pins s σ H x y v u Q I rv ru h
  obtain ⟨ds, es, h, hd, q⟩ := h
  rcases h with ⟨h, g⟩ | ⟨h, g⟩
  · obtain ⟨a, xs, rfl, h1, h2⟩ := (show ∃ a xs, x = .ref a ∧ SqT X.K H a xs ∧ RepL X.K H ds xs from h)
    obtain ⟨b, ys, rfl, g1, g2⟩ := (show ∃ a xs, y = .ref a ∧ SqT X.K H a xs ∧ RepL X.K H es xs from g)
    cases rv; cases ru
    obtain ⟨i1, r1, p1, _⟩ := I.tuple h1
    obtain ⟨i2, r2, p2, _⟩ := I.tuple g1
    have l1 := h2.length.trans r1.length
    have l2 := g2.length.trans r2.length
    refine SeqAt.eq_tupleAt p1 p2 (by omega) (e := fun j => eqD (ds.getD j .non) (es.getD j .non)) (fun j a1 a2 => ?_) ⟨.bl _, H, I, rfl, ?_⟩
    · have a1' : j < i1.length := by simpa using a1
      have a2' : j < i2.length := by simpa using a2
      have := eqAt_DL I ds es h2 g2 r1 r2 (A := X.A.in1) (by rw [in1_units]; omega) j a1' a2'
      simpa using this
    · rw [List.size_toArray, List.size_toArray, ← l1, ← l2, ← eqDL_range]
      exact q
  · obtain ⟨a, xs, rfl, h1, h2⟩ := (show ∃ a xs, x = .ref a ∧ SqL X.K H a xs ∧ RepL X.K H ds xs from h)
    obtain ⟨b, ys, rfl, g1, g2⟩ := (show ∃ a xs, y = .ref a ∧ SqL X.K H a xs ∧ RepL X.K H es xs from g)
    cases rv; cases ru
    obtain ⟨i1, r1, p1, _⟩ := I.list h1
    obtain ⟨i2, r2, p2, _⟩ := I.list g1
    have l1 := h2.length.trans r1.length
    have l2 := g2.length.trans r2.length
    rw [eqDL_range] at q
    by_cases hz : ds.length = es.length
    · refine SeqAt.eq_listAt p1.isList p2.isList (by simp only [List.size_toArray]; omega) (by omega) (e := fun j => eqD (ds.getD j .non) (es.getD j .non)) (fun j a1 a2 => ?_) ⟨.bl _, H, I, rfl, ?_⟩
      · have a1' : j < i1.length := by simpa using a1
        have a2' : j < i2.length := by simpa using a2
        have := eqAt_DL I ds es h2 g2 r1 r2 (A := X.A.in1) (by rw [in1_units]; omega) j a1' a2'
        simpa using this
      · rw [← hz, Nat.min_self, beq_self_eq_true, Bool.and_true] at q
        rw [List.size_toArray, ← l1]
        exact q
    · refine SeqAt.eq_list_lengthsAt p1.isList p2.isList (by simp only [List.size_toArray, bne_iff_ne]; omega) (by omega) ⟨.bl _, H, I, rfl, ?_⟩
      rw [show (ds.length == es.length) = false by simpa using hz, Bool.and_false] at q
      exact q
theorem hu150 {A : Around} {k : Nat} (hr : Room k A) : A.units + 150 < cLine := by have := hr.un; omega
end
mutual
def noL : Dt → Bool
  | .tup ds => noLL ds
  | .lst _ => false
  | _ => true
def noLL : List Dt → Bool
  | [] => true
  | d :: ds => noL d && noLL ds
end
def TK (H H' : Hp) : Prop := ∀ a xs, Rd H a (.tup xs) → Rd H' a (.tup xs)
theorem TK.sq {K : PySem.W.Frag} {H H' : Hp} (t : TK H H') {a : Addr} {xs : List V} (h : SqT K H a xs) : SqT K H' a xs := by
  rcases h with h | h
  · exact .inl (t a xs h)
  · exact .inr h
theorem TK.refl (H : Hp) : TK H H := fun _ _ h => h
theorem TK.trans {H H1 H2 : Hp} (a : TK H H1) (b : TK H1 H2) : TK H H2 := fun x xs h => b x xs (a x xs h)
theorem Same.tk {H H' : Hp} (s : Same H H') : TK H H' := fun a xs h => by
  rcases h with h | ⟨o, h⟩
  · exact .inl (s a _ h)
  · exact .inr ⟨o, s a _ h⟩
theorem TK.new {H : Hp} {p : Addr} {o : HO} (hp : H p = none) : TK H (upd H p o) := fun a xs h => by
  rcases h with h | ⟨u, h⟩
  · exact .inl (by rw [upd_ne (ne_of_none h hp)]; exact h)
  · exact .inr ⟨u, by rw [upd_ne (ne_of_none h hp)]; exact h⟩
theorem TK.lst {H : Hp} {p : Addr} {xs : List V} {o : HO} (hp : H p = some (.lst xs)) : TK H (upd H p o) := fun a ys h => by
  have ne : ∀ u, H a = some u → u ≠ .lst xs → a ≠ p := fun u e n z => by rw [z, hp] at e; cases e; exact n rfl
  rcases h with h | ⟨u, h⟩
  · exact .inl (by rw [upd_ne (ne _ h (by intro z; cases z))]; exact h)
  · exact .inr ⟨u, by rw [upd_ne (ne _ h (by intro z; cases z))]; exact h⟩
mutual
theorem Rep.mono {K : PySem.W.Frag} {H H' : Hp} (t : TK H H') : ∀ (d : Dt) {v : V}, noL d = true → Rep K H d v → Rep K H' d v
  | .non, v, _, h => h
  | .bl b, v, _, h => h
  | .int i, v, _, h => h
  | .str x, v, _, h => h
  | .lst ds, v, n, h => by cases n
  | .tup ds, v, n, h => by
    obtain ⟨a, xs, e, h1, h2⟩ := (show ∃ a xs, v = .ref a ∧ SqT K H a xs ∧ RepL K H ds xs from h)
    exact ⟨a, xs, e, t.sq h1, RepL.mono t ds n h2⟩
theorem RepL.mono {K : PySem.W.Frag} {H H' : Hp} (t : TK H H') : ∀ (ds : List Dt) {xs : List V}, noLL ds = true → RepL K H ds xs → RepL K H' ds xs
  | [], xs, _, h => h
  | d :: ds, xs, n, h => by
    obtain ⟨x, r, e, h1, h2⟩ := (show ∃ x r, xs = x :: r ∧ Rep K H d x ∧ RepL K H ds r from h)
    have n' : (noL d && noLL ds) = true := n
    rw [Bool.and_eq_true] at n'
    exact ⟨x, r, e, Rep.mono t d n'.1 h1, RepL.mono t ds n'.2 h2⟩
end
theorem RepL.append {K : PySem.W.Frag} {H : Hp} : ∀ {ds es : List Dt} {xs ys : List V}, RepL K H ds xs → RepL K H es ys → RepL K H (ds ++ es) (xs ++ ys)
  | [], es, xs, ys, h, g => by cases (show xs = [] from h); exact g
  | d :: ds, es, xs, ys, h, g => by
    obtain ⟨x, r, rfl, h1, h2⟩ := (show ∃ x r, xs = x :: r ∧ Rep K H d x ∧ RepL K H ds r from h)
    exact ⟨x, r ++ ys, rfl, h1, h2.append g⟩
def pD (q : Int × Int) : Dt := .tup [.int q.1, .int q.2]
theorem noLL_pD : ∀ l : List (Int × Int), noLL (l.map pD) = true
  | [] => rfl
  | q :: l => by show (noL (pD q) && noLL (l.map pD)) = true; rw [noLL_pD l]; rfl
theorem rep_pair {K : PySem.W.Frag} {H : Hp} {a : Addr} {x y : Int} (h : H a = some (.tup [.int x, .int y])) : Rep K H (pD (x, y)) (.ref a) := ⟨a, _, rfl, SqT.of h, _, _, rfl, rfl, _, _, rfl, rfl, rfl⟩
theorem repL_pD_get {K : PySem.W.Frag} {H : Hp} : ∀ {l : List (Int × Int)} {xs : List V} {i : Nat} {x : V}, RepL K H (l.map pD) xs → xs[i]? = some x → ∃ q b, l[i]? = some q ∧ x = .ref b ∧ SqT K H b [.int q.1, .int q.2]
  | [], xs, i, x, h, e => by cases (show xs = [] from h); cases e
  | q :: l, xs, i, x, h, e => by
    obtain ⟨y, r, rfl, h1, h2⟩ := (show ∃ y r, xs = y :: r ∧ Rep K H (pD q) y ∧ RepL K H (l.map pD) r from h)
    cases i with
    | zero =>
      have e' : y = x := by simpa using e
      subst e'
      obtain ⟨b, ys, e1, g1, g2⟩ := (show ∃ a xs, y = .ref a ∧ SqT K H a xs ∧ RepL K H [.int q.1, .int q.2] xs from h1)
      obtain ⟨z, r1, rfl, z1, g3⟩ := (show ∃ z r', ys = z :: r' ∧ z = .int q.1 ∧ RepL K H [.int q.2] r' from g2)
      obtain ⟨z', r2, rfl, z2, g4⟩ := (show ∃ z r', r1 = z :: r' ∧ z = V.int q.2 ∧ r' = [] from g3)
      cases z1; cases z2; cases g4
      exact ⟨q, b, by simp, e1, g1⟩
    | succ i =>
      obtain ⟨q', b, h3, h4, h5⟩ := repL_pD_get (l := l) h2 (by simpa using e)
      exact ⟨q', b, by simpa using h3, h4, h5⟩
end L2
namespace L2
open PySem PySem.Spec PyProof.Rows
section
variable {X : Cx} {pos : Pos}
def rNeL (K : PySem.W.Frag) : R2 := fun x y H Q => ∃ ds es, Rep K H (.lst ds) x ∧ Rep K H (.lst es) y ∧ depL ds ≤ 100 ∧ Q (.bl (!eqDL ds es)) H
theorem op_neS (hu : X.A.units + 150 < cLine) : OpR X (compareOp .NotEq) (rNeL X.K) := by
  intro pins s σ H x y v u Q I rv ru h
  obtain ⟨ds, es, h, g, hd, q⟩ := h
  obtain ⟨a, xs, rfl, h1, h2⟩ := (show ∃ a xs, x = .ref a ∧ SqL X.K H a xs ∧ RepL X.K H ds xs from h)
  obtain ⟨b, ys, rfl, g1, g2⟩ := (show ∃ a xs, y = .ref a ∧ SqL X.K H a xs ∧ RepL X.K H es xs from g)
  cases rv; cases ru
  obtain ⟨i1, r1, p1, _⟩ := I.list h1
  obtain ⟨i2, r2, p2, _⟩ := I.list g1
  have l1 := h2.length.trans r1.length
  have l2 := g2.length.trans r2.length
  rw [eqDL_range] at q
  show wpAny (model X.prog X.w) X.A (richCompare .NotEq (.ref a) (.ref b)) _ _ _
  by_cases hz : ds.length = es.length
  · refine SeqAt.RcNeAt.lists p1.isList p2.isList (by simp only [List.size_toArray]; omega) (by omega) (e := fun j => eqD (ds.getD j .non) (es.getD j .non)) (fun j a1 a2 => ?_) _ _ _ _ ⟨.bl _, H, I, rfl, ?_⟩
    · have a1' : j < i1.length := by simpa using a1
      have a2' : j < i2.length := by simpa using a2
      have := eqAt_DL I ds es h2 g2 r1 r2 (A := X.A.in1) (by rw [in1_units]; omega) j a1' a2'
      simpa using this
    · rw [← hz, Nat.min_self, beq_self_eq_true, Bool.and_true] at q
      rw [List.size_toArray, ← l1]
      exact q
  · refine SeqAt.RcNeAt.lists_lengths p1.isList p2.isList (by simp only [List.size_toArray, bne_iff_ne]; omega) (by omega) _ _ _ _ ⟨.bl _, H, I, rfl, ?_⟩
    rw [show (ds.length == es.length) = false by simpa using hz, Bool.and_false] at q
    exact q
def tDNew : TE := fun _ H Q => ∀ p, H p = none → Q (.ref p) (upd H p (.dK []))
theorem pss_no {b : List Stmt} : PSs X b (fun _ _ _ => False) := fun _ _ _ _ _ _ h => h.elim
def boolOf : Value → Bool
  | .bool b => b
  | _ => false
theorem vals_bl : ∀ {bs : List Bool} {us : List Value}, Vals (bs.map V.bl) us → us = bs.map Value.bool
  | [], _, r => by cases r; rfl
  | b :: bs, _, r => by
    cases r with
    | cons p q => rw [vals_bl q]; cases p; rfl
def rCount : V → List V → Hp → VK → Prop := fun x vs H Q => ∃ (l : Addr) (bs : List Bool), x = .ref l ∧ vs = [.bl true] ∧ H l = some (.lst (bs.map V.bl)) ∧ Q (.int (bs.countP id : Nat)) H
theorem mt_count : MtM X "list.count" rCount := by
  intro pins s σ H x vs v us Q I rx rv h
  obtain ⟨l, bs, rfl, rfl, hH, q⟩ := h
  cases rx
  obtain ⟨u, rfl, ru⟩ := rv.one
  cases ru
  obtain ⟨z, its, n, r, hl, e⟩ := I.lstM hH
  have ei := vals_bl r
  subst ei
  refine call_meets F.slot_list_count ⟨_, e, rfl⟩ F.entry_list_count (F.args_list_count_2 _ _) (SeqAt.list_countAt l _ n none _ (.bool true) boolOf) ⟨e, fun y hy => ?_, ?_⟩
  · have hy : y ∈ (bs.map Value.bool) := by simpa using hy
    obtain ⟨b, _, rfl⟩ := List.mem_map.mp hy
    have := SeqAt.EqAt.bool_bool (A := X.A.in1) (s := s) b true
    rw [show (b == true) = boolOf (.bool b) by cases b <;> rfl] at this
    exact this
  · have ec : List.countP boolOf (bs.map Value.bool).toArray.toList = bs.countP id := by
      rw [List.countP_map]
      congr 1
    rw [ec]
    exact ⟨.int _, H, I.tok _, ⟨_, rfl⟩, q⟩
def rIndex : V → List V → Hp → VK → Prop := fun x vs H Q => ∃ (l : Addr) (bs : List Bool) (j : Nat), x = .ref l ∧ vs = [.bl true] ∧ H l = some (.lst (bs.map V.bl)) ∧ bs[j]? = some true ∧ (∀ m, m < j → bs[m]? = some false) ∧ j < 1000 ∧ Q (.int (j : Nat)) H
theorem mt_index : MtM X "list.index" rIndex := by
  intro pins s σ H x vs v us Q I rx rv h
  obtain ⟨l, bs, j, rfl, rfl, hH, hj, hm, hz, q⟩ := h
  cases rx
  obtain ⟨u, rfl, ru⟩ := rv.one
  cases ru
  obtain ⟨z, its, n, r, hl, e⟩ := I.lstM hH
  have ei := vals_bl r
  subst ei
  have jl : j < bs.length := (List.getElem?_eq_some_iff.mp hj).1
  have gt : ∀ (m : Nat) (h : m < (bs.map Value.bool).toArray.size) b, bs[m]? = some b → boolOf (bs.map Value.bool).toArray[m] = b := fun m h b hb => by
    obtain ⟨h1, h2⟩ := List.getElem?_eq_some_iff.mp hb
    simp [boolOf, h2]
  refine call_meets F.slot_list_index ⟨_, e, rfl⟩ F.entry_list_index (F.args_list_index_2 _ _) (SeqAt.list_indexAt l _ n none _ (.bool true) boolOf j (by simpa using jl) (by omega) (gt j _ _ hj) (fun m h1 h2 => gt m h1 _ (hm m h2))) ⟨e, fun y hy => ?_, ?_⟩
  · have hy : y ∈ (bs.map Value.bool) := by simpa using hy
    obtain ⟨b, _, rfl⟩ := List.mem_map.mp hy
    have := SeqAt.EqAt.bool_bool (A := X.A.in1) (s := s) b true
    rw [show (b == true) = boolOf (.bool b) by cases b <;> rfl] at this
    exact this
  · exact ⟨.int _, H, I.tok _, ⟨_, rfl⟩, q⟩
end
end L2
namespace L2
open PySem PySem.Spec PyProof.Rows
section
variable {X : Cx} {k i : Nat} {x : Str} {p pos pos' : Pos}
def xCall0 (X : Cx) (k i : Nat) : TX := fun σ H R => ∃ f fd sp, σ[i]? = some (some (.ref f)) ∧ H f = some (LamO f fd) ∧ FnOk X.prog X.w X.K X.mg X.base (CXE X.prog X.w) k f fd [] sp ∧ Binds X.K fd [] [] ∧ sp [] H (fun _ _ => False) R
theorem ld_var {E : Value → Shared → Prop} {pins : List (Addr × Obj)} {s : Shared} {σ : St} {H : Hp} {v : V} {Q : Value → Shared → Prop} (I : Inv X pins σ H s) (hN : X.N[i]? = some x) (hv : Vis X.env.scope x) (e : σ[i]? = some (some v)) (h : ∀ u, RelV v u → Q u s)
    (hd : (x == ("__debug__" : Str)) = false) (hcd : (x == ("__classdict__" : Str)) = false) : wpAny (model X.prog X.w) X.A (eval (.Name x p) X.env) Q E s := by
  obtain ⟨m, hn, hl⟩ := I.loc
  obtain ⟨u, r, l⟩ := hl i x v hN e hv
  have fin := h u r
  rcases l with ⟨hk, hm⟩ | ⟨hk, c, hc, hcell⟩
  · exact wpAny_Name (wpAny_loadName_local I.ok.kind hk hn hm fin) hd
  · rcases hk with hk | hk
    · exact wpAny_Name (wpAny_loadName_cell I.ok.kind hk hc hcell fin) hd
    · exact wpAny_Name (wpAny_loadName_free I.ok.kind hk hc hcell fin hcd) hd
end
def TabOk (H : Hp) (P : Addr) (q : Str) : Prop := ∃ ps : Array Value, H P = some (.tbl ps) ∧ TriplesOk ps.toList ∧ ∀ pos cv, codeAmong pos ps.toList = some cv → ∃ c, cv = .ref c ∧ H c = some (CodO c q)
theorem among_snoc {pos : Pos} {a b : Nat} {c cv : Value} (l : List Value) (h : TriplesOk l) (e : codeAmong pos (l ++ [rawInt a, rawInt b, c]) = some cv) : codeAmong pos l = some cv ∨ cv = c := by
  fun_induction TriplesOk l with
  | case1 =>
    simp only [List.nil_append, codeAmong, rawInt] at e
    split at e
    · exact .inr (Option.some.inj e).symm
    · cases e
  | case2 i t j u d rest ih =>
    simp only [List.cons_append, codeAmong] at e ⊢
    split at e
    · rename_i z
      left; rw [if_pos z]; exact e
    · rename_i z
      rw [if_neg z]
      exact ih h e
  | case3 => exact h.elim
theorem triples_snoc {a b : Nat} {c : Value} (l : List Value) (h : TriplesOk l) : TriplesOk (l ++ [rawInt a, rawInt b, c]) := by
  fun_induction TriplesOk l with
  | case1 => simp [TriplesOk, rawInt]
  | case2 i t j u d rest ih => simp only [List.cons_append, TriplesOk]; exact ih h
  | case3 => exact h.elim
def SameX (P : Addr) (H H' : Hp) : Prop := ∀ b o, b ≠ P → H b = some o → H' b = some o
structure LamCx (X : Cx) (c P : Addr) : Prop where
  code : X.env.code = .ref c
  hd : PySem.W.CodeHd X.base c P
  bm : X.base.BuiltinsAt X.mg P
section
variable {X : Cx} {c P : Addr} {params : Arguments} {body : Expr} {scope : Scope} {pos : Pos} {clos : List (Str × Addr)}
def tLam (mg : Str → Option Value) (P : Addr) (q : Str) (params : Arguments) (body : Expr) (scope : Scope) (clos : List (Str × Addr)) : TE := fun _ H Q => TabOk H P q ∧
  ∀ f c' ctv H', H f = none → SameX P H H' → TabOk H' P q → H' f = some (LamO f (PySem.W.kla_fn "<lambda>" q params body scope clos ((mg "__name__").getD .none) (.ref c') ctv)) → H' c' = some (CodO c' q) → Q (.ref f) H'
theorem pe_lam (L : LamCx X c P) (hdef : defaultsOf params X.env = ([], [])) (hcl : closureFor scope X.env = pure clos) : PE X (.Lambda params body scope pos) (tLam X.mg P (X.env.qual ++ "<lambda>") params body scope clos) := by
  intro pins s σ H Q I h
  obtain ⟨⟨ps, hP, ht, hcs⟩, h⟩ := h
  have hPo : s.heap.get? P = some (PySem.W.tabObj ps) := I.hok P _ hP
  have hg : s.heap.Ns mainGlobals X.mg := I.mod.glob.keeps I.bk
  have hgP : mainGlobals ≠ P := fun q => by
    obtain ⟨o, es, ep, e, hd, _⟩ := hg
    rw [q, hPo] at e; cases e; cases hd
  have hb : s.heap.BuiltinsAt X.mg P := by
    obtain ⟨bm, o, b1, b2, b3, b4, b5, b6⟩ := L.bm
    exact ⟨bm, o, b1, b2, b3, b4, I.bk _ _ b5, b6⟩
  have fresh : ∀ b, s.heap.objs.size ≤ b → H b = none := fun b hb => I.hok.fresh hb
  refine PySem.W.kla_eval hdef ?_
  cases hA : codeAmong pos ps.toList with
  | some cv =>
    obtain ⟨c', rfl, hc'⟩ := hcs pos cv hA
    refine PySem.W.kla_makeFunctionHit hcl I.ok.glob hg L.code (L.hd.keeps I.bk) hPo ht hA hb fun ctv h' tk hk hsz => ?_
    have hfn : H h'.objs.size = none := fresh _ hsz
    refine ⟨.ref h'.objs.size, upd H h'.objs.size (LamO h'.objs.size (PySem.W.kla_fn "<lambda>" (X.env.qual ++ "<lambda>") params body scope clos ((X.mg "__name__").getD .none) (.ref c') ctv)), I.laid (fun b u q => Heap.get?_push_of_some _ (hk b u q)) hsz (lamO_ok (Heap.get?_push_size _ rfl)), rfl, ?_⟩
    have ne : ∀ b o, H b = some o → b ≠ h'.objs.size := fun b o q z => by rw [z, hfn] at q; cases q
    refine h _ c' ctv _ hfn (fun b o _ q => by rw [upd_ne (ne b o q)]; exact q) ⟨ps, by rw [upd_ne (ne _ _ hP)]; exact hP, ht, fun pos cv e => ?_⟩ upd_same (by rw [upd_ne (ne _ _ hc')]; exact hc')
    obtain ⟨c2, e1, e2⟩ := hcs pos cv e
    exact ⟨c2, e1, by rw [upd_ne (ne _ _ e2)]; exact e2⟩
  | none =>
    refine PySem.W.kla_makeFunction hcl I.ok.glob hg L.code (L.hd.keeps I.bk) hPo ht hA hgP hb fun c' ctv h' tk hx hge hlt hrec htb => ?_
    have hszP : P < s.heap.objs.size := Heap.lt_size hPo
    have hcn : H c' = none := fresh _ hge
    have hfn : H h'.objs.size = none := fresh _ (Nat.le_of_lt (Nat.lt_of_le_of_lt hge hlt))
    have hcf : c' ≠ h'.objs.size := Nat.ne_of_lt hlt
    have hPc : P ≠ c' := Nat.ne_of_lt (Nat.lt_of_lt_of_le hszP hge)
    have hPf : P ≠ h'.objs.size := Nat.ne_of_lt (Nat.lt_of_lt_of_le hszP (Nat.le_of_lt (Nat.lt_of_le_of_lt hge hlt)))
    generalize hfd : PySem.W.kla_fn "<lambda>" (X.env.qual ++ "<lambda>") params body scope clos ((X.mg "__name__").getD .none) (.ref c') ctv = fd
    obtain ⟨H', hH'⟩ : ∃ H', H' = upd (upd (upd H P (.tbl (ps ++ #[rawInt pos.line, rawInt pos.col, .ref c']))) c' (CodO c' (X.env.qual ++ "<lambda>"))) h'.objs.size (LamO h'.objs.size fd) := ⟨_, rfl⟩
    have gF : H' h'.objs.size = some (LamO h'.objs.size fd) := by rw [hH']; exact upd_same
    have gC : H' c' = some (CodO c' (X.env.qual ++ "<lambda>")) := by rw [hH', upd_ne hcf]; exact upd_same
    have gP : H' P = some (.tbl (ps ++ #[rawInt pos.line, rawInt pos.col, .ref c'])) := by rw [hH', upd_ne hPf, upd_ne hPc]; exact upd_same
    have gO : ∀ b, b ≠ h'.objs.size → b ≠ c' → b ≠ P → H' b = H b := fun b x y z => by rw [hH', upd_ne x, upd_ne y, upd_ne z]
    have gS : ∀ b o, b ≠ P → H b = some o → H' b = some o := fun b o z q => by
      rw [gO b (fun w => by rw [w, hfn] at q; cases q) (fun w => by rw [w, hcn] at q; cases q) z]; exact q
    have neP : ∀ b u, H b = some u → (∀ qs, u ≠ .tbl qs) → b ≠ P := fun b u q d w => by
      rw [w, hP] at q; cases q; exact d _ rfl
    have keep : ∀ b o, b ≠ P → s.heap.get? b = some o → (h'.push (PySem.W.kla_obj "<lambda>" (X.env.qual ++ "<lambda>") params body scope clos ((X.mg "__name__").getD .none) c' ctv)).get? b = some o := fun b o hb q => Heap.get?_push_of_some _ (hx b o hb q)
    have nP : ∀ b, H b = none → b ≠ P := fun b n w => by rw [w, hP] at n; cases n
    have U : Un X.fs [] H H' s.heap (h'.push (PySem.W.kla_obj "<lambda>" (X.env.qual ++ "<lambda>") params body scope clos ((X.mg "__name__").getD .none) c' ctv)) := by
      refine ⟨fun b o q n _ _ => keep b o (nP b n) q, fun b o q n _ _ => ⟨o.slots, keep b o (nP b n) q⟩, fun b o q n _ => ?_, fun b o q _ => ?_, fun b xs q => gS b _ (neP b _ q fun _ z => nomatch z) q, fun b o u q => gS b _ (neP b _ q fun _ z => nomatch z) q, fun b qs q => ?_⟩
      · have l := Heap.lt_size q
        rw [gO b (Nat.ne_of_lt (Nat.lt_of_lt_of_le l (Nat.le_of_lt (Nat.lt_of_le_of_lt hge hlt)))) (Nat.ne_of_lt (Nat.lt_of_lt_of_le l hge)) (nP b n)]
        exact n
      · by_cases w : b = P
        · subst w
          exact ⟨_, Heap.get?_push_of_some _ htb⟩
        · exact ⟨o, keep b o w q⟩
      · by_cases w : b = P
        · subst w
          rw [hP] at q
          cases q
          exact ⟨_, gP⟩
        · exact ⟨#[], by rw [Array.append_empty]; exact gS b _ w q⟩
    have ok : HOk X.prog X.w H' (h'.push (PySem.W.kla_obj "<lambda>" (X.env.qual ++ "<lambda>") params body scope clos ((X.mg "__name__").getD .none) c' ctv)) := fun a o q => by
      by_cases w1 : a = h'.objs.size
      · subst w1
        rw [gF] at q
        cases q
        refine lamO_ok ?_
        rw [← hfd]
        exact Heap.get?_push_size _ rfl
      by_cases w2 : a = c'
      · subst w2
        rw [gC] at q
        cases q
        exact codO_ok (hrec.push _)
      by_cases w3 : a = P
      · subst w3
        rw [gP] at q
        cases q
        exact Heap.get?_push_of_some _ htb
      rw [gO a w1 w2 w3] at q
      refine (I.hok a o q).stay (fun b u hb e => keep b u ?_ e) (fun b e => gS b _ (neP b _ e fun _ z => nomatch z) e) fun b xs e => gS b _ (neP b _ e fun _ z => nomatch z) e
      rcases hb with rfl | hb
      · exact w3
      · exact neP b _ hb fun _ z => nomatch z
    refine ⟨.ref h'.objs.size, H', I.un (t' := tk) U ok, rfl, ?_⟩
    refine h _ c' ctv H' hfn gS ⟨_, gP, ?_, fun pos' cv e => ?_⟩ (by rw [hfd]; exact gF) gC
    · rw [Array.toList_append]; exact triples_snoc _ ht
    · rw [Array.toList_append] at e
      rcases among_snoc _ ht e with e | e
      · obtain ⟨c2, e1, e2⟩ := hcs pos' cv e
        exact ⟨c2, e1, gS _ _ (neP _ _ e2 fun _ z => nomatch z) e2⟩
      · exact ⟨c', e, gC⟩
end
end L2
namespace L2
open PySem PySem.Spec PyProof.Rows
def lamCk (sc out : Scope) (N NX : List Str) (js : List Nat) : Bool :=
  (sc.kind == .function) && (sc.isCoroutine == false) && (sc.isGenerator == false) && (sc.names.all fun y => y.2 != .cell) && (sc.names.all fun y => y.2 != .free || (out.names.lookup y.1 == some .cell && N.contains y.1)) && (js.length == N.length) &&
  ((N.zip js).all fun p => (NX[p.2]? == some p.1) && (out.names.lookup p.1 == some .cell) && (sc.names.lookup p.1 == some .free))
theorem inj_of_nodup : ∀ {l : List (Str × Addr)}, (l.map (·.2)).Nodup → ∀ x y c, l.lookup x = some c → l.lookup y = some c → x = y := by
  intro l
  induction l with
  | nil => intro _ x y c h; cases h
  | cons q l ih =>
    intro h x y c hx hy
    rw [List.map_cons, List.nodup_cons] at h
    have mem : ∀ z, l.lookup z = some c → c ∈ l.map (·.2) := fun z hz => List.mem_map.mpr ⟨(z, c), PySem.mem_of_lookup hz, rfl⟩
    rw [List.lookup_cons] at hx hy
    cases ex : x == q.1 with
    | true =>
      rw [ex] at hx
      cases hx
      cases ey : y == q.1 with
      | true => rw [beq_iff_eq] at ex ey; rw [ex, ey]
      | false => rw [ey] at hy; exact absurd (mem y hy) h.1
    | false =>
      rw [ex] at hx
      cases ey : y == q.1 with
      | true => rw [ey] at hy; cases hy; exact absurd (mem x hx) h.1
      | false => rw [ey] at hy; exact ih h.2 x y c hx hy
section
variable {X : Cx} {sc : Scope} {N : List Str} {js : List Nat} {params : Arguments} {body : Expr} {pos : Pos} {c P : Addr}
theorem clOf_sub {env : Env} (h : ∀ y ∈ sc.names, y.2 = .free → ∃ c, env.cells.lookup y.1 = some c) {x : Str} {a : Addr} (q : (clOf sc env).lookup x = some a) : env.cells.lookup x = some a ∧ (x, NameKind.free) ∈ sc.names := by
  obtain ⟨z, hz, e⟩ := List.mem_map.mp (PySem.mem_of_lookup q)
  rw [List.mem_reverse, List.mem_filter] at hz
  have zf : z.2 = .free := by simpa using hz.2
  obtain ⟨c, hc⟩ := h z hz.1 zf
  have e1 : z.1 = x := congrArg Prod.fst e
  have e2 : (env.cells.lookup z.1).getD 0 = a := congrArg Prod.snd e
  rw [hc] at e2
  have e2 : c = a := e2
  refine ⟨by rw [← e1, hc, e2], ?_⟩
  obtain ⟨z1, z2⟩ := z
  simp only at e1 zf
  rw [← e1, ← zf]
  exact hz.1
theorem pe_lamD (L : LamCx X c P) (hck : lamCk sc X.env.scope N X.N js = true) (hdef : defaultsOf params X.env = ([], [])) : PE X (.Lambda params body sc pos) (tLam X.mg P (X.env.qual ++ "<lambda>") params body sc (clOf sc X.env)) := by
  intro pins s σ H Q I h
  simp only [lamCk, Bool.and_eq_true, List.all_eq_true, beq_iff_eq, bne_iff_ne, Bool.or_eq_true] at hck
  obtain ⟨⟨⟨⟨⟨⟨c1, c2⟩, c3⟩, c4⟩, c5⟩, c6⟩, c7⟩ := hck
  have env : ∀ y ∈ sc.names, y.2 = .free → ∃ c, X.env.cells.lookup y.1 = some c := fun y hy hf => by
    rcases c5 y hy with z | z
    · exact absurd hf z
    · exact I.ok.has y.1 (.inl z.1)
  exact pe_lam L hdef (closure_of env) pins s σ H Q I h
theorem lam_facts {σ : St} {b : Heap} {vs : List V} (hck : lamCk sc X.env.scope N X.N js = true) (hinj : (X.env.cells.map (·.2)).Nodup) (hhas : ∀ x, X.env.scope.names.lookup x = some .cell → ∃ c, X.env.cells.lookup x = some c) (hc : CellsIn X σ b)
    (hv : vs.length = js.length) (hσ : ∀ (i j : Nat) (v : V), js[i]? = some j → vs[i]? = some v → σ[j]? = some (some v)) :
    LamScope N sc (clOf sc X.env) ∧ vs.length = N.length ∧ (∀ x c, (clOf sc X.env).lookup x = some c → ∃ v, b.IsCell c v) ∧ (∀ (i : Nat) x v, N[i]? = some x → vs[i]? = some v → ∃ c u, (clOf sc X.env).lookup x = some c ∧ RelV v u ∧ b.IsCell c (some u)) := by
  simp only [lamCk, Bool.and_eq_true, List.all_eq_true, beq_iff_eq, bne_iff_ne, Bool.or_eq_true] at hck
  obtain ⟨⟨⟨⟨⟨⟨c1, c2⟩, c3⟩, c4⟩, c5⟩, c6⟩, c7⟩ := hck
  have env : ∀ y ∈ sc.names, y.2 = .free → ∃ c, X.env.cells.lookup y.1 = some c := fun y hy hf => by
    rcases c5 y hy with z | z
    · exact absurd hf z
    · exact hhas y.1 z.1
  have key : ∀ (i : Nat) x v, N[i]? = some x → vs[i]? = some v → ∃ c u, (clOf sc X.env).lookup x = some c ∧ RelV v u ∧ b.IsCell c (some u) := fun i x v e1 e2 => by
    have il : i < js.length := by rw [c6]; exact (List.getElem?_eq_some_iff.mp e1).1
    have hz : (x, js[i]) ∈ N.zip js := List.mem_of_getElem? (i := i) (by rw [List.getElem?_zip_eq_some]; exact ⟨e1, List.getElem?_eq_getElem il⟩)
    obtain ⟨⟨d1, d2⟩, d3⟩ := c7 _ hz
    obtain ⟨a, ha⟩ := clOf_has (env := X.env) (PySem.mem_of_lookup d3)
    obtain ⟨u, r, cell⟩ := hc js[i] x v a d1 (hσ i js[i] v (List.getElem?_eq_getElem il) e2) d2 (clOf_sub env ha).1
    exact ⟨a, u, ha, r, cell⟩
  refine ⟨⟨c1, c2, c3, c4, fun x hx => ?_, fun x hx => clOf_has (PySem.mem_of_lookup hx), fun x y a hx hy => inj_of_nodup hinj x y a (clOf_sub env hx).1 (clOf_sub env hy).1⟩, by rw [hv, c6], fun x a hx => ?_, key⟩
  · obtain ⟨i, hi⟩ := List.getElem?_of_mem hx
    have il : i < js.length := by rw [c6]; exact (List.getElem?_eq_some_iff.mp hi).1
    have hz : (x, js[i]) ∈ N.zip js := List.mem_of_getElem? (i := i) (by rw [List.getElem?_zip_eq_some]; exact ⟨hi, List.getElem?_eq_getElem il⟩)
    exact (c7 _ hz).2
  · obtain ⟨_, hm⟩ := clOf_sub env hx
    have hN : x ∈ N := by
      rcases c5 _ hm with z | z
      · exact absurd rfl z
      · simpa using z.2
    obtain ⟨i, hi⟩ := List.getElem?_of_mem hN
    have il : i < vs.length := by rw [hv, c6]; exact (List.getElem?_eq_some_iff.mp hi).1
    obtain ⟨a', u, h1, _, h2⟩ := key i x vs[i] hi (List.getElem?_eq_getElem il)
    rw [hx] at h1
    cases h1
    exact ⟨_, h2⟩
end
theorem fn_okC {Pr : Program} {w : World} {K : PySem.W.Frag} {mg : Str → Option Value} {base : Heap} {x qual : Str} {st : Stmt} {f c : Addr} {oc kV doc pm ct : Value} {od an : Option Addr} {osl : Array (Option Value)} {N ps : List Str} {k : Nat} {sp : Sp}
    (lk : K.lookup f = some ⟨oc, od, .func (PySem.W.fnOf x qual (defArgs st) (defBody st) (defScope st) .none kV doc pm an (.ref c) ct), osl⟩) (hcd : PySem.W.codeIn K (.ref c) qual = true) (S : FnScope N ps (defScope st)) (len : ∀ vs H Q E, sp vs H Q E → vs.length = ps.length)
    (hbody : ∀ (A : Around) (outer : List Env) (s : Shared) (H : Hp) (vs : List V) (Q : VK) (E : XK), Room k (A.deeper (envOfC qual (defScope st) s.heap.objs.size f (.ref c))) → sp vs H Q E →
      ∃ t, PSs (cxOf CX0 Pr w K mg base N qual (defScope st) f (.ref c) A outer s H E).nox (defBody st) t ∧ t { nx := fun _ H' => Q .non H', rt := Q } (start N vs) H) :
    FnOk Pr w K mg base CX0 (k + 1) f (PySem.W.fnOf x qual (defArgs st) (defBody st) (defScope st) .none kV doc pm an (.ref c) ct) ps sp := by
  refine fn_of lk hcd S len fun A outer s H vs Q E hr hsp => ?_
  obtain ⟨t, h, q⟩ := hbody A outer s H vs Q E hr hsp
  exact ⟨t, h.nox, q⟩
theorem lam_binds {K : PySem.W.Frag} {qual : Str} {body : Expr} {scope : Scope} {cl : List (Str × Addr)} {pm cd ctv : Value} {params : Arguments} (hp : ∀ pm cd ctv, bindArgs (PySem.W.kla_fn "<lambda>" qual params body scope cl pm cd ctv) ⟨[], []⟩ = pure []) : Binds K (PySem.W.kla_fn "<lambda>" qual params body scope cl pm cd ctv) [] [] := fun s us _ hl => by
  cases us with
  | nil => exact .of_eq (hp pm cd ctv)
  | cons u us => simp at hl
theorem TabOk.kept {H H' : Hp} {P : Addr} {q : Str} (h : TabOk H P q) (k : ∀ b o, H b = some o → (∀ xs, o ≠ .lst xs) → H' b = some o) : TabOk H' P q := by
  obtain ⟨ps, h1, h2, h3⟩ := h
  refine ⟨ps, k _ _ h1 (fun _ z => nomatch z), h2, fun pos cv e => ?_⟩
  obtain ⟨c, e1, e2⟩ := h3 pos cv e
  exact ⟨c, e1, k _ _ e2 (fun _ z => nomatch z)⟩
theorem TabOk.same {H H' : Hp} {P : Addr} {q : Str} (h : TabOk H P q) (s : Same H H') : TabOk H' P q := h.kept fun b o e _ => s b o e
theorem tabOk_new {H : Hp} {P : Addr} {q : Str} (h : H P = some (.tbl #[])) : TabOk H P q := ⟨#[], h, trivial, fun pos cv e => by simp [codeAmong] at e⟩
theorem SameX.refl (P : Addr) (H : Hp) : SameX P H H := fun _ _ _ e => e
theorem SameX.seq {K : PySem.W.Frag} {P a : Addr} {H H' : Hp} {ps : Array Value} {xs : List V} (hP : H P = some (.tbl ps)) (s : SameX P H H') (h : SqL K H a xs) : SqL K H' a xs := by
  rcases h with (h | ⟨o, h⟩) | h
  · exact .inl (.inl (s _ _ (fun z => by rw [z, hP] at h; cases h) h))
  · exact .inl (.inr ⟨o, s _ _ (fun z => by rw [z, hP] at h; cases h) h⟩)
  · exact .inr h
theorem cells_nodup : ∀ (ns : List (Str × NameKind)) (n : Nat) (acc : List (Str × Addr)), (acc.map (·.2)).Nodup → (∀ y ∈ acc, y.2 < n) → ((cellsFrom n ns acc).map (·.2)).Nodup
  | [], n, acc, h, _ => by rw [cellsFrom.eq_def]; exact h
  | (x, k) :: r, n, acc, h, hb => by
    rw [cellsFrom.eq_def]
    dsimp only
    split
    · refine cells_nodup r (n + 1) _ ?_ fun y hy => ?_
      · rw [List.map_cons, List.nodup_cons]
        refine ⟨fun hm => ?_, h⟩
        obtain ⟨y, hy, e⟩ := List.mem_map.mp hm
        have := hb y hy
        have e : y.2 = n := e
        rw [e] at this
        exact absurd this (Nat.lt_irrefl _)
      · rcases List.mem_cons.mp hy with rfl | hy
        · exact Nat.lt_succ_self _
        · exact Nat.lt_succ_of_lt (hb y hy)
    · exact cells_nodup r n acc h hb
end L2
namespace L2
open PySem PySem.Spec PyProof.Rows
mutual
def toPy : Dt → PyData
  | .non => .none
  | .bl b => .bool b
  | .int i => .int i
  | .str x => .str x
  | .tup ds => .tuple (toPyL ds)
  | .lst ds => .list (toPyL ds)
def toPyL : List Dt → List PyData
  | [] => []
  | d :: ds => toPy d :: toPyL ds
end
mutual
def okD : Dt → Bool
  | .int i => decide (i.natAbs < 10 ^ 100)
  | .str x => x.cps.toList.all fun c => decide (c < 16 ^ 8)
  | .tup ds => okDL ds
  | .lst ds => okDL ds
  | .non => true
  | .bl _ => true
def okDL : List Dt → Bool
  | [] => true
  | d :: ds => okD d && okDL ds
end
mutual
def lenD : Dt → Nat
  | .non => 4
  | .bl _ => 5
  | .int _ => 101
  | .str x => 10 * x.length + 2
  | .tup ds => lenDL ds + 3
  | .lst ds => lenDL ds + 3
def lenDL : List Dt → Nat
  | [] => 0
  | d :: ds => lenD d + 2 + lenDL ds
end
mutual
theorem toPy_show : ∀ d : Dt, okD d = true → (toPy d).showable = true
  | .non, _ => rfl
  | .bl _, _ => rfl
  | .int i, h => by
    have h' : i.natAbs < 10 ^ 100 := of_decide_eq_true (show decide (i.natAbs < 10 ^ 100) = true from h)
    have := log2_small h'
    show decide (i.natAbs.log2 < 1920) = true
    exact decide_eq_true (by omega)
  | .str _, _ => rfl
  | .tup ds, h => toPyL_show ds h
  | .lst ds, h => toPyL_show ds h
theorem toPyL_show : ∀ ds : List Dt, okDL ds = true → PyData.showableAll (toPyL ds) = true
  | [], _ => rfl
  | d :: ds, h => by
    obtain ⟨h1, h2⟩ := Bool.and_eq_true_iff.mp (show (okD d && okDL ds) = true from h)
    show ((toPy d).showable && PyData.showableAll (toPyL ds)) = true
    rw [toPy_show d h1, toPyL_show ds h2]; rfl
end
mutual
theorem toPy_dict : ∀ d : Dt, (toPy d).hasDict = false
  | .non => rfl
  | .bl _ => rfl
  | .int i => rfl
  | .str _ => rfl
  | .tup ds => toPyL_dict ds
  | .lst ds => toPyL_dict ds
theorem toPyL_dict : ∀ ds : List Dt, PyData.hasDictAll (toPyL ds) = false
  | [] => rfl
  | d :: ds => by
    show ((toPy d).hasDict || PyData.hasDictAll (toPyL ds)) = false
    rw [toPy_dict d, toPyL_dict ds]; rfl
end
mutual
theorem toPy_depth : ∀ d : Dt, (toPy d).depth = dep d
  | .non => rfl
  | .bl _ => rfl
  | .int i => rfl
  | .str _ => rfl
  | .tup ds => by show PyData.depthAll (toPyL ds) + 1 = depL ds + 1; rw [toPyL_depth ds]
  | .lst ds => by show PyData.depthAll (toPyL ds) + 1 = depL ds + 1; rw [toPyL_depth ds]
theorem toPyL_depth : ∀ ds : List Dt, PyData.depthAll (toPyL ds) = depL ds
  | [] => rfl
  | d :: ds => by
    show max (toPy d).depth (PyData.depthAll (toPyL ds)) = max (dep d) (depL ds)
    rw [toPy_depth d, toPyL_depth ds]
end
mutual
theorem toPy_len : ∀ d : Dt, okD d = true → (toPy d).shown.length ≤ lenD d
  | .non, _ => by show (PyData.shown .none).length ≤ 4; decide
  | .bl b, _ => by show (PyData.shown (.bool b)).length ≤ 5; cases b <;> decide
  | .int i, h => by
    have h' : i.natAbs < 10 ^ 100 := of_decide_eq_true (show decide (i.natAbs < 10 ^ 100) = true from h)
    exact toStr_len h'
  | .str x, h => by
    have hx : ∀ c ∈ x.cps.toList, c < 16 ^ 8 := by
      have h' : (x.cps.toList.all fun c => decide (c < 16 ^ 8)) = true := h
      simpa only [List.all_eq_true, decide_eq_true_eq] using h'
    exact StrLaws.reprText_len x hx
  | .tup ds, h => by
    have h1 := toPyL_len ds h
    have h2 := tupleText_len_le (PyData.shownAll (toPyL ds))
    have h3 := PyData.shownAll_length (toPyL ds)
    show (tupleText (PyData.shownAll (toPyL ds))).length ≤ lenDL ds + 3
    omega
  | .lst ds, h => by
    have h1 := toPyL_len ds h
    have h2 := listText_len_le (PyData.shownAll (toPyL ds))
    have h3 := PyData.shownAll_length (toPyL ds)
    show (listText (PyData.shownAll (toPyL ds))).length ≤ lenDL ds + 3
    omega
theorem toPyL_len : ∀ ds : List Dt, okDL ds = true → ((PyData.shownAll (toPyL ds)).map (·.length)).sum + 2 * (toPyL ds).length ≤ lenDL ds
  | [], _ => Nat.le_refl _
  | d :: ds, h => by
    obtain ⟨h1, h2⟩ := Bool.and_eq_true_iff.mp (show (okD d && okDL ds) = true from h)
    have e1 := toPy_len d h1
    have e2 := toPyL_len ds h2
    show (((toPy d).shown :: PyData.shownAll (toPyL ds)).map (·.length)).sum + 2 * (toPy d :: toPyL ds).length ≤ lenD d + 2 + lenDL ds
    simp only [List.map_cons, List.sum_cons, List.length_cons]
    omega
end
section
variable {X : Cx} {pins : List (Addr × Obj)} {σ : St} {H : Hp} {s : Shared}
mutual
theorem reads_D (I : Inv X pins σ H s) : ∀ (d : Dt) {v : V} {u : Value}, Rep X.K H d v → RelV v u → ∃ as, Reads s.heap u (toPy d) as
  | .non, v, u, h, r => by cases (show v = .non from h); cases r; exact ⟨_, .none⟩
  | .bl b, v, u, h, r => by cases (show v = .bl b from h); cases r; exact ⟨_, .bool b⟩
  | .int b, v, u, h, r => by cases (show v = .int b from h); obtain ⟨t, rfl⟩ := r; exact ⟨_, .int b t⟩
  | .str b, v, u, h, r => by cases (show v = .str b from h); obtain ⟨t, rfl⟩ := r; exact ⟨_, .str b t⟩
  | .tup ds, v, u, h, r => by
    obtain ⟨a, xs, rfl, h1, h2⟩ := (show ∃ a xs, v = .ref a ∧ SqT X.K H a xs ∧ RepL X.K H ds xs from h)
    cases r
    obtain ⟨its, r1, ⟨o, e1, e2, n, e3⟩, _⟩ := I.tuple h1
    obtain ⟨as, ra⟩ := reads_DL I ds h2 r1
    exact ⟨_, .tuple e1 e2 e3 ra⟩
  | .lst ds, v, u, h, r => by
    obtain ⟨a, xs, rfl, h1, h2⟩ := (show ∃ a xs, v = .ref a ∧ SqL X.K H a xs ∧ RepL X.K H ds xs from h)
    cases r
    obtain ⟨its, r1, ⟨o, n, e1, e2, _, e3⟩, _⟩ := I.list h1
    obtain ⟨as, ra⟩ := reads_DL I ds h2 r1
    exact ⟨_, .list e1 e2 e3 ra⟩
theorem reads_DL (I : Inv X pins σ H s) : ∀ (ds : List Dt) {xs : List V} {us : List Value}, RepL X.K H ds xs → Vals xs us → ∃ as, ReadsAll s.heap us (toPyL ds) as
  | [], xs, us, h, r => by cases (show xs = [] from h); cases r; exact ⟨_, .nil⟩
  | d :: ds, xs, us, h, r => by
    obtain ⟨x, y, rfl, h1, h2⟩ := (show ∃ x r, xs = x :: r ∧ Rep X.K H d x ∧ RepL X.K H ds r from h)
    cases r with
    | cons r1 r2 =>
      obtain ⟨as, q1⟩ := reads_D I d h1 r1
      obtain ⟨bs, q2⟩ := reads_DL I ds h2 r2
      exact ⟨_, .cons q1 q2⟩
end
end
def shD (d : Dt) : Str := (toPy d).shown
def isScB : Dt → Bool
  | .bl _ => true
  | .str _ => true
  | _ => false
def rReprD (K : PySem.W.Frag) : List V → Hp → VK → Prop := fun vs H Q => ∃ x d, vs = [x] ∧ Rep K H d x ∧ okD d = true ∧ isScB d = false ∧ lenD d ≤ 1000000 ∧ dep d ≤ 100 ∧ Q (.str (shD d)) H
theorem call_reprD {X : Cx} (hg : X.A.guards = some []) (hu : X.A.units + 150 < cLine) : CallR X (.builtin "repr") (rReprD X.K) := by
  intro pins s σ H xs us Q I r h
  obtain ⟨x, d, rfl, hd, ho, hb, hl, hp, q⟩ := h
  obtain ⟨u, rfl, rx⟩ := vals1 r
  have hlen : (toPy d).shown.length ≤ sizeLine := Nat.le_trans (toPy_len d ho) (Nat.le_trans hl (by decide))
  have go : ∀ a, u = .ref a → wpAny (model X.prog X.w) X.A (call (.builtin "repr") [u]) (EP X pins σ Q) X.xe s := fun a e => by
    subst e
    obtain ⟨as, R⟩ := reads_D I d hd rx
    refine repr_of_reads' R (toPy_show d ho) (PyData.noDict_hsm (toPy_dict d)) hg (by rw [toPy_depth d]; omega) (fun _ _ e => e) (fun h' u' tk hk => ?_) hlen
    exact ⟨.str (shD d), H, I.kept (t' := tk) hk, ⟨_, rfl⟩, q⟩
  cases d with
  | non =>
    cases (show x = .non from hd)
    cases rx
    exact PySem.P.repr_of_none ⟨.str _, H, I.tok _, ⟨_, rfl⟩, q⟩
  | int i =>
    cases (show x = .int i from hd)
    obtain ⟨t, rfl⟩ := rx
    have h' : i.natAbs < 10 ^ 100 := of_decide_eq_true (show decide (i.natAbs < 10 ^ 100) = true from ho)
    have := log2_small h'
    exact PySem.P.repr_of_int (by omega) ⟨.str _, H, I.tok _, ⟨_, rfl⟩, q⟩
  | bl b => cases hb
  | str b => cases hb
  | tup ds =>
    obtain ⟨a, xs, rfl, _⟩ := (show ∃ a xs, x = .ref a ∧ SqT X.K H a xs ∧ RepL X.K H ds xs from hd)
    cases rx
    exact go a rfl
  | lst ds =>
    obtain ⟨a, xs, rfl, _⟩ := (show ∃ a xs, x = .ref a ∧ SqL X.K H a xs ∧ RepL X.K H ds xs from hd)
    cases rx
    exact go a rfl
end L2
namespace L2
open PySem PySem.Spec PyProof.Rows
section
variable {X : Cx} {tg iter elt : Expr} {ifs : List Expr} {scope : Scope} {pos : Pos} {wi : TI} {N : List Str} {cl : List (Str × Addr)} {js : List (Option Nat)} {g : TG} {tt : Heap → TT} {te : Heap → TE}
theorem ps_setC {iv : Nat} {y : Str} {py spos : Pos} (hN : X.N.Nodup) (hin : X.N[iv]? = some y) (hx : Loc X.env.scope y) (S : CompScopeC X scope N cl js) (hc : X.calm = true) (hfn : ∀ x, X.fn x = true) (hi : PI X tg iter wi) (hclos : closureFor scope X.env = pure cl) (hg : ∀ b C fp s H, PG (cxCompC X b N scope cl C fp s H) tg g) (hif : ∀ b C fp s H, PIfs (cxCompC X b N scope cl C fp s H) ifs (tt b)) (he : ∀ b C fp s H, PE (cxCompC X b N scope cl C fp s H) elt (te b))
    (hsw : swapsWith (.ListComp elt [⟨tg, iter, ifs, 0⟩] scope pos) (some (.Name y py)) spos.line X.env = pure true := by rfl) (hs : ∀ x, foldedSetIterable iter X.env x = pure x := by intro _; rfl) : PS X (.Assign [.Name y py] (.ListComp elt [⟨tg, iter, ifs, 0⟩] scope pos) spos) (tAsg (tCompC X js wi g tt te) (gName iv)) := by
  intro pins s σ H Dd I h
  rw [exec_Assign_Name_used _ _ _ _ hsw]
  refine wpAny_bind (wpAny_standAt (wpAny_bind ?_))
  show wpAny _ X.A (do let _ ← comprehension (.ListComp elt [⟨tg, iter, ifs, 0⟩] scope pos) scope X.env _ (newList []) false (eval iter X.env) (some (assign (.Name y py) X.env))) _ _ s
  refine wpAny_bind (wpAny_mono (wpAny_comprehension_free (use := some (assign (.Name y py) X.env)) (Q := fun _ s' => SP X pins Dd .next s') rfl hs hclos S.kind S.nm (thn (hi pins s σ H _ I h) fun v s1 h1 => thn h1 fun itv s2 h2 => ?_)) (fun _ s' hq => wpAny_pure (wpAny_pure hq)) fun _ _ e => e)
  obtain ⟨it, fp, tn, J, H2, e, I2, T, st2, f2, R⟩ := h2
  subst e
  have hD : H2 s2.heap.objs.size = none := I2.fresh
  have old : ∀ b o, s2.heap.get? b = some o → (s2.heap.push { cls := .type "list", data := .seq ([] : List Value).toArray }).get? b = some o := fun b o q => Heap.get?_push_of_some _ q
  have I3 : Inv X pins σ (upd H2 s2.heap.objs.size (.lst [])) { s2 with heap := s2.heap.push { cls := .type "list", data := .seq ([] : List Value).toArray } } := I2.lnew (t' := s2.toks) (ys := []) (its := []) .nil (Nat.zero_le _)
  have fo : ∀ b ∈ fp, ∃ o, (s2.heap.push { cls := .type "list", data := .seq ([] : List Value).toArray }).get? b = some o := fun b hb => by
    obtain ⟨o, q, _⟩ := T.obj _ _ st2 b hb
    exact ⟨o, old b o q⟩
  have fne : ∀ b ∈ fp, b ≠ s2.heap.objs.size := fun b hb => by
    obtain ⟨o, q, _⟩ := T.obj _ _ st2 b hb
    exact Nat.ne_of_lt (Heap.lt_size q)
  have f3 : ∀ b ∈ fp, FpOk X pins (upd H2 s2.heap.objs.size (.lst [])) b := fun b hb => ⟨by rw [upd_ne (fne b hb)]; exact (f2 b hb).1, (f2 b hb).2⟩
  have st3 : tn 0 (s2.heap.push { cls := .type "list", data := .seq ([] : List Value).toArray }) := T.keep _ _ _ st2 fun b _ o q => old b o q
  refine wpAny_newObj_type (wpAny_newFunctionEnv S.nocell (fun y hy => by simp at hy) (fun h₁ hns hsb => ?_) S.kind)
  obtain ⟨s3, hs3⟩ : ∃ s3 : Shared, s3 = { s2 with heap := s2.heap.push { cls := .type "list", data := .seq ([] : List Value).toArray } } := ⟨_, rfl⟩
  obtain ⟨H3, hH3⟩ : ∃ H3, H3 = upd H2 s2.heap.objs.size (.lst []) := ⟨_, rfl⟩
  rw [← hs3, ← hH3] at I3
  rw [← hH3] at f3
  have hh3 : s3.heap = s2.heap.push { cls := .type "list", data := .seq ([] : List Value).toArray } := by rw [hs3]
  have hk₁ : ∀ b o, s3.heap.get? b = some o → h₁.get? b = some o := fun b o q => by
    rw [hh3] at q
    exact hsb.extBut b o (Nat.ne_of_lt (Heap.lt_size q)) (Heap.get?_push_of_some _ q)
  have hns' : h₁.Ns s3.heap.objs.size (fun _ => none) := by rw [hh3]; exact hns
  obtain ⟨W, ⟨m0, w0⟩, turn⟩ := R (hidS s3.heap H3 (frs X.stack ++ fp)) s2.heap.objs.size (fun i x v c e1 e2 e3 e4 => by
    obtain ⟨u, r, o, q, d⟩ := I3.cellsIn hfn i x v c e1 e2 e3 e4
    obtain ⟨q1, q2⟩ := of_hidS q
    refine ⟨u, r, o, hidS_get q1 q2 fun hm => ?_, d⟩
    rcases List.mem_append.mp hm with hm | hm
    · have z : (hidS s3.heap H3 (frs X.stack)).get? c = none := PySem.W.hideAll_none _ (List.mem_append_right _ hm)
      rw [z] at q; cases q
    · exact (f3 c hm).2.2.2.2.1 x c e4 rfl) hD
  rw [← hH3] at w0
  have J0 := inv_compC (js := js) (N := N) (scope := scope) (h1 := h₁) (tk := s2.toks + ([] : List (Str × Value)).length) S hc hfn I3 f3 (fun b hb => by rw [hh3]; exact fo b hb) hns' hk₁
  have st4 : tn 0 h₁ := T.keep _ _ _ st3 fun b hb o q => hk₁ b o (by rw [hh3]; exact q)
  have loop : ∀ s4 : Shared, s4 = { s3 with heap := h₁, toks := s2.toks + ([] : List (Str × Value)).length } →
      codeAny (model X.prog X.w) X.A (.compLoop (.ListComp elt [⟨tg, iter, ifs, 0⟩] scope pos) 0 (.ref it) (.ref s2.heap.objs.size) (compEnvC scope cl s3.heap.objs.size X.env))
        (compPost (model X.prog X.w) X.A X.xe (some (assign (.Name y py) X.env)) (fun _ s' => SP X pins Dd .next s') (.ref s2.heap.objs.size) s3.heap.objs.size) s4 := by
    rintro s4 rfl
    have stat : ∀ {H' : Hp}, (∀ b ∈ fp, H' b = none) → ∀ b ∈ fp, FpOk (cxCompC X (hidS s3.heap H3 (frs X.stack ++ fp)) N scope cl s3.heap.objs.size fp s3 H3) [] H' b := fun hn b hb =>
      ⟨hn b hb, by
        obtain ⟨o, q⟩ := fo b hb
        exact Nat.ne_of_lt (Heap.lt_size (by rw [hh3]; exact q)), J0.ok.exfs b hb, .inl hb, fun y c q => (J0.ok.exf b hb).2 y c q, fun p hp => absurd (show p ∈ ([] : List (Addr × Obj)) from hp) (by simp)⟩
    refine compLoop_ifs (fun n s' => ∃ i σ' H', Inv (cxCompC X (hidS s3.heap H3 (frs X.stack ++ fp)) N scope cl s3.heap.objs.size fp s3 H3) [] σ' H' s' ∧ tn i s'.heap ∧ (∀ b ∈ fp, H' b = none) ∧ W i n σ' H') ?_ m0 ⟨0, _, H3, J0, st4, fun b hb => (f3 b hb).1, w0⟩
    rintro n s5 ⟨i, σ5, H5, I5, st5, fr5, w5⟩
    rcases turn i n σ5 H5 w5 with ⟨stop, qn⟩ | ⟨go, Nx, hN, step⟩
    · refine wpAny_mono (T.done (cxCompC X (hidS s3.heap H3 (frs X.stack ++ fp)) N scope cl s3.heap.objs.size fp s3 H3) rfl rfl rfl rfl i [] s5 σ5 H5 (fun _ _ => False) I5 (stat fr5) st5 stop) (fun r s6 ⟨hr, I6⟩ => ?_) fun _ _ z => z
      subst hr
      obtain ⟨m6, n6, _⟩ := id I6.loc
      have neC : ∀ b o, s3.heap.get? b = some o → b ≠ s3.heap.objs.size := fun b o q => Nat.ne_of_lt (Heap.lt_size q)
      have B := I6.base
      have ne : ∀ b u, H5 b = some u → b ≠ s3.heap.objs.size := fun b u q z => by
        have fr : H5 s3.heap.objs.size = none := I6.free
        rw [z, fr] at q; cases q
      have IX : Inv X pins σ H5 s6 := by
        refine I3.call' (s' := s6) (ch := fp) I6.os ⟨fun b o q n hb hx => B.keep b o q n hb hx, fun b o q n hb hx => ?_, B.free, fun b o q hx => ?_, B.tups, B.frzs, B.tbls⟩ I6.hok I6.bare fun b hb => ⟨(f3 b hb).2.2.2.1, (f3 b hb).2.1, (f3 b hb).2.2.2.2.1, (f3 b hb).2.2.2.2.2⟩
        · exact B.slot b o q n hb hx
        · exact B.there b o q hx
      have clt : ∀ x c, X.env.cells.lookup x = some c → c ≠ s3.heap.objs.size := fun x c q => by
        obtain ⟨v, o, ho, _⟩ := I3.cell x c q
        exact neC c o ho
      show wpAny _ X.A (assign (.Name y py) X.env (.ref s2.heap.objs.size)) _ X.xe s6
      refine wpAny_assign_Name (store_ok2 (v := .ref s2.heap.objs.size) IX hN hin hx rfl (fun s7 I7 ⟨a, sb, ha⟩ => ⟨m6, n6.sameBut sb (fun z => ?_), fun h' hs' => ⟨σ.set iv (some (.ref s2.heap.objs.size)), H5, ?_, qn⟩⟩) (.inl (hfn y)))
      · rcases ha with e | e
        · exact absurd (e.symm.trans z.symm) (Nat.ne_of_lt I3.lt)
        · exact clt _ _ e z.symm
      · refine I7.call' (s' := { s7 with heap := h' }) (ch := [s3.heap.objs.size]) rfl ⟨fun b o q n hb hx => (hs'.2 b (fun z => hx (by rw [z]; exact List.mem_cons_self))).trans q, fun b o q n hb hx => ⟨o.slots, (hs'.2 b (fun z => hx (by rw [z]; exact List.mem_cons_self))).trans q⟩, fun b o q n hx => n, fun b o q hx => ⟨o, (hs'.2 b (fun z => hx (by rw [z]; exact List.mem_cons_self))).trans q⟩, fun _ _ z => z, fun _ _ _ z => z, fun b ps z => ⟨#[], by simpa using z⟩⟩ (fun a o q => ?_) I7.bare fun b hb => ?_
        · refine (I7.hok a o q).stay (fun b u hb q' => (hs'.2 b ?_).trans q') (fun _ z => z) fun _ _ z => z
          rcases hb with z | z
          · exact ne b o (z ▸ q)
          · exact ne b _ z
        · have eb : b = s3.heap.objs.size := by simpa using hb
          subst eb
          refine ⟨.inr I3.sz, fun z => ?_, fun x c q z => clt x c q z, fun p hp z => neC _ _ (I3.pin p hp).1 z⟩
          exact absurd z.symm (Nat.ne_of_lt I3.lt)
    · refine wpAny_mono (T.item (cxCompC X (hidS s3.heap H3 (frs X.stack ++ fp)) N scope cl s3.heap.objs.size fp s3 H3) rfl rfl rfl rfl i [] s5 σ5 H5 (fun _ _ => False) I5 (stat fr5) st5 go) (fun r s6 ⟨u, hr, h6⟩ => ?_) fun _ _ z => z
      subst hr
      refine wpAny_mono h6 (fun _ s7 ⟨x, H7, I7, r7, y7, st7, fr7⟩ => ?_) fun _ _ z => z
      have I7' := I7.pinned (stat fr7) (T.obj _ _ st7)
      refine wpAny_mono (hg _ _ _ _ _ _ s7 σ5 H7 x u _ I7' r7 (step x H7 y7)) (fun _ s8 ⟨σ8, H8, I8, q8⟩ => ?_) fun _ _ z => z
      have fin : ∀ (s8 : Shared) (H8 : Hp), Inv _ _ σ8 H8 s8 → (∃ m', m' < n ∧ W (i + 1) m' σ8 H8) → ∃ m, m < n ∧ (∃ i σ' H', Inv (cxCompC X (hidS s3.heap H3 (frs X.stack ++ fp)) N scope cl s3.heap.objs.size fp s3 H3) [] σ' H' s8 ∧ tn i s8.heap ∧ (∀ b ∈ fp, H' b = none) ∧ W i m σ' H') := fun s8 H8 I10 ⟨m', hm, w9⟩ => by
        refine ⟨m', hm, i + 1, σ8, _, I10.unpinned, T.keep _ _ _ st7 fun b hb o q => (I10.pin (b, o) (List.mem_append_right _ (List.mem_append_right _ (mem_pinsAt hb q)))).1, fun b hb => ?_, w9⟩
        obtain ⟨o, q, d⟩ := T.obj _ _ st7 b hb
        exact (I10.pin (b, o) (List.mem_append_right _ (List.mem_append_right _ (mem_pinsAt hb q)))).2.1
      have rest : ∀ (ok : Bool) (s8 : Shared) (H8 : Hp), Inv _ _ σ8 H8 s8 → (if ok = true then te (hidS s3.heap H3 (frs X.stack ++ fp)) σ8 H8 fun y H4 => ∃ ys, H4 s2.heap.objs.size = some (.lst ys) ∧ ys.length < sizeLine ∧ Nx σ8 (upd H4 s2.heap.objs.size (.lst (ys ++ [y]))) else Nx σ8 H8) →
          (if ok = true then wpAny (model X.prog X.w) X.A (eval elt (compEnvC scope cl s3.heap.objs.size X.env)) (fun x s₄ =>
              wpAny (model X.prog X.w) X.A (call (.builtin "list.append") [.ref s2.heap.objs.size, x]) (fun _ s₅ => ∃ m, m < n ∧ (∃ i σ' H', Inv (cxCompC X (hidS s3.heap H3 (frs X.stack ++ fp)) N scope cl s3.heap.objs.size fp s3 H3) [] σ' H' s₅ ∧ tn i s₅.heap ∧ (∀ b ∈ fp, H' b = none) ∧ W i m σ' H')) (fun _ _ => False) s₄) (fun _ _ => False) s8
            else ∃ m, m < n ∧ (∃ i σ' H', Inv (cxCompC X (hidS s3.heap H3 (frs X.stack ++ fp)) N scope cl s3.heap.objs.size fp s3 H3) [] σ' H' s8 ∧ tn i s8.heap ∧ (∀ b ∈ fp, H' b = none) ∧ W i m σ' H')) := fun ok s8 H8 I8 q8 => by
        cases ok with
        | false => exact fin s8 H8 I8 (hN _ _ q8)
        | true =>
          refine wpAny_mono (he _ _ _ _ _ _ s8 σ8 H8 _ I8 q8) (fun y s9 ⟨vy, H9, I9, ry, ys, hD9, hz, w9⟩ => ?_) fun _ _ z => z
          obtain ⟨z, its, nn, rr, hl, eo⟩ := I9.lstM hD9
          refine append_at (hsz := by rw [List.size_toArray]; omega) eo fun h10 hs10 hD10 => ?_
          have I10 : Inv _ _ σ8 (upd H9 s2.heap.objs.size (.lst (ys ++ [vy]))) { s9 with heap := h10, toks := s9.toks } := I9.write (x := s2.heap.objs.size) (e := s2.heap.objs.size) (o := .lst (ys ++ [vy])) (by rw [hD9]; exact trivial) (.inl rfl) (fun b o hb q => hs10.extBut b o hb q) ⟨_, hD10⟩
            ⟨by rw [List.length_append, List.length_singleton]; omega, its ++ [y], nn + 1, rr.append (.cons ry .nil), by rw [hD10, List.push_toArray]⟩
          exact fin _ _ I10 (hN _ _ w9)
      have hI := hif (hidS s3.heap H3 (frs X.stack ++ fp)) s3.heap.objs.size fp s3 H3
      match ifs, hI with
      | [], hI => exact rest true s8 H8 I8 (hI _ _ _ q8)
      | [c], hI => exact wpAny_mono (hI _ s8 σ8 H8 _ I8 q8) (fun ok s9 ⟨H9, I9, q9⟩ => rest ok s9 H9 I9 q9) fun _ _ z => z
      | _ :: _ :: _, hI => exact hI.elim
  have e4 : ({ ({ s2 with heap := s2.heap.push { cls := .type "list", data := .seq ([] : List Value).toArray } } : Shared) with heap := h₁, toks := s2.toks + ([] : List (Str × Value)).length } : Shared) = { s3 with heap := h₁, toks := s2.toks + ([] : List (Str × Value)).length } := by rw [hs3]
  have lp := loop _ e4
  have eC : s3.heap.objs.size = (s2.heap.push { cls := .type "list", data := .seq ([] : List Value).toArray }).objs.size := by rw [hh3]
  rw [eC] at lp
  exact codeAny_compStart_list lp (T.self _ 0 _ _ _ st4 lp)
theorem ps_setD {iv : Nat} {y : Str} {py spos : Pos} (hN : X.N.Nodup) (hin : X.N[iv]? = some y) (hx : Loc X.env.scope y) (hcb : compOk scope X.env.scope N X.N js = true) (hc : X.calm = true) (hfn : ∀ x, X.fn x = true) (hi : PI X tg iter wi)
    (hg : ∀ b C fp s H, PG (cxCompC X b N scope (clOf scope X.env) C fp s H) tg g) (hif : ∀ b C fp s H, PIfs (cxCompC X b N scope (clOf scope X.env) C fp s H) ifs (tt b)) (he : ∀ b C fp s H, PE (cxCompC X b N scope (clOf scope X.env) C fp s H) elt (te b))
    (hsw : swapsWith (.ListComp elt [⟨tg, iter, ifs, 0⟩] scope pos) (some (.Name y py)) spos.line X.env = pure true := by rfl) (hs : ∀ x, foldedSetIterable iter X.env x = pure x := by intro _; rfl) : PS X (.Assign [.Name y py] (.ListComp elt [⟨tg, iter, ifs, 0⟩] scope pos) spos) (tAsg (tCompC X js wi g tt te) (gName iv)) := by
  intro pins s σ H Q I h
  simp only [compOk, Bool.and_eq_true, List.all_eq_true, beq_iff_eq, bne_iff_ne, Bool.or_eq_true] at hcb
  obtain ⟨⟨⟨⟨⟨c1, c2⟩, c3⟩, c4⟩, c5⟩, c6⟩ := hcb
  have env : ∀ y ∈ scope.names, y.2 = .free → ∃ c, X.env.cells.lookup y.1 = some c := fun y hy hf => by
    rcases c4 y hy with z | z
    · exact absurd hf z
    · exact I.ok.has y.1 (.inl z)
  have S : CompScopeC X scope N (clOf scope X.env) js := by
    refine ⟨c1, c2, fun y hy hl => ?_, fun y hy hf => ?_, fun y hy => ?_, c5, fun p hp j hj => ?_⟩
    · rcases c3 y hy with z | z
      · exact absurd hl z
      · exact z
    · exact clOf_has (by obtain ⟨a, b⟩ := y; cases hf; exact hy)
    · obtain ⟨z, hz, rfl⟩ := List.mem_map.mp hy
      rw [List.mem_reverse, List.mem_filter] at hz
      obtain ⟨c, hc⟩ := env z hz.1 (by simpa using hz.2)
      simp only [hc, Option.getD_some]
    · have := c6 p hp
      rw [hj] at this
      simp only [Bool.and_eq_true, beq_iff_eq] at this
      obtain ⟨⟨d1, d2⟩, d3⟩ := this
      refine ⟨d1, d2, ?_, clOf_has (PySem.mem_of_lookup d3)⟩
      exact relabel_free _ d3
  exact ps_setC hN hin hx S hc hfn hi (closure_of env) hg hif he hsw hs pins s σ H Q I h
end
end L2
namespace L2
open PySem PySem.Spec PyProof.Rows
section
variable {X : Cx} {pos : Pos}
def intOf : Value → Int
  | .int i _ => i
  | _ => 0
theorem vals_int : ∀ {ns : List Int} {us : List Value}, Vals (ns.map V.int) us → us.map intOf = ns ∧ ∀ u ∈ us, ∃ i t, u = .int i t
  | [], _, r => by cases r; exact ⟨rfl, fun _ h => (nomatch h)⟩
  | n :: ns, _, r => by
    cases r with
    | cons p q =>
      obtain ⟨a, b⟩ := vals_int q
      obtain ⟨t, rfl⟩ := p
      refine ⟨by rw [List.map_cons, a]; rfl, fun u hu => ?_⟩
      rcases List.mem_cons.mp hu with rfl | hu
      · exact ⟨_, _, rfl⟩
      · exact b u hu
end
end L2
namespace L2
open PySem PySem.Spec PyProof.Rows
def FL (K : PySem.W.Frag) (a : Addr) (g : TG) (tb : TS) (D : Ends) (σ : St) (H : Hp) : Prop := ∃ W : Nat → Nat → St → Hp → Prop, (∃ m, W 0 m σ H) ∧ ∀ i m σ H, W i m σ H →
  ((Itl K a).stop i H ∧ D.nx σ H) ∨ ((Itl K a).go i H ∧ ∃ N : St → Hp → Prop, (∀ σ' H', N σ' H' → ∃ m', m' < m ∧ W (i + 1) m' σ' H') ∧ ∀ x H', (Itl K a).yld i H x H' → g x σ H' fun σ2 H2 => tb { D with nx := N, ct := N, bk := D.nx } σ2 H2)
theorem tFor_list {K : PySem.W.Frag} {tl : TE} {g : TG} {tb : TS} {D : Ends} {σ : St} {H : Hp} (h : tl σ H fun x H1 => ∃ a, x = .ref a ∧ (∃ xs, SqL K H1 a xs) ∧ FL K a g tb D σ H1) : tFor (iList K tl) g tb D σ H := h
theorem fl_of {K : PySem.W.Frag} {a : Addr} {xs : List V} {g : TG} {tb : TS} {D : Ends} {σ : St} {H : Hp} (Pv : Nat → St → Hp → Prop) (h0 : Pv 0 σ H) (hl : ∀ i σ H, i ≤ xs.length → Pv i σ H → SqL K H a xs)
    (hs : ∀ i x σ H, xs[i]? = some x → Pv i σ H → g x σ H fun σ2 H2 => tb { D with nx := Pv (i + 1), ct := Pv (i + 1), bk := D.nx } σ2 H2) (hd : ∀ σ H, Pv xs.length σ H → D.nx σ H) : FL K a g tb D σ H := for_list Pv h0 hl hs hd
end L2
namespace L2
open PySem PySem.Spec PyProof.Rows PySem.W
structure XCls (K : PySem.W.Frag) (C : Addr) : Prop where
  ga : PySem.W.findIn K (.ref C) "__getattribute__" = some (some (.builtin "BaseException.__getattribute__"))
  gt : PySem.W.findIn K (.ref C) "__getattr__" = some none
  hd : PySem.W.hasDictIn K C = true
  cl : PySem.W.findIn K (.ref C) "__class__" = some (some (.builtin "object.__class__"))
  sp : PySem.W.specialIn K (.builtin "object.__class__") "__get__" = some (some (.builtin "getset_descriptor.__get__"))
  tk : PySem.W.takesIn K (.builtin "object.__class__") = some true
  mr : PySem.W.mroIn K C (.type "object") = some true
  sb : PySem.W.subIn K (.ref C) (.type "BaseException") = some true
theorem eo_inst {h : Heap} {a C : Addr} {dx : Option Addr} {vs : Array Value} {sl : Array (Option Value)} (e : h.get? a = some (EO dx (.ref C) vs sl)) (hd : ∀ d, dx = some d → ∃ o, h.get? d = some o) : ∃ od, PySem.W.InstAt h a (EO dx (.ref C) vs sl) C od := by
  cases dx with
  | none => exact ⟨none, e, rfl, rfl, trivial⟩
  | some d =>
    obtain ⟨o, ho⟩ := hd d rfl
    exact ⟨some o, e, rfl, rfl, ho⟩
theorem exc_class {prog : Program} {w : World} {A : Around} {E : Value → Shared → Prop} {Q : Option Value → Shared → Prop} {s : Shared} {K : PySem.W.Frag} {a C : Addr} {dx : Option Addr} {vs : Array Value} {sl : Array (Option Value)} (c : XCls K C) (X : K.In s.heap) (e : s.heap.get? a = some (EO dx (.ref C) vs sl)) (hdx : ∀ d, dx = some d → ∃ o, s.heap.get? d = some o)
    (q : Q (some (.ref C)) { s with toks := s.toks + 1 }) : wpAny (model prog w) A (getAttr? (.ref a) "__class__") Q E s := by
  obtain ⟨od, I⟩ := eo_inst e hdx
  have hf : findObj K C od "__class__" = some (.bind (.builtin "getset_descriptor.__get__") (.builtin "object.__class__")) := by
    obtain ⟨cd, hc, _⟩ := any_some c.hd
    unfold findObj
    rw [hc, Option.bind_some, c.cl, Option.bind_some]
    simp only [c.sp, c.tk, Option.bind_some]
  obtain ⟨hh, g, d, t, os⟩ := s
  have L0 := I.type (M := model prog w)
  have L1 := looks_findIn (M := model prog w) X c.ga
  have L2 := looks_findIn (M := model prog w) X c.gt
  have L3 := looks_find (M := model prog w) X I hf
  unfold getAttr? getAttrBy? getAttrBy
  refine wpAny_bind (wpAny_mkText (wpAny_bind (wpAny_attempt (wpAny_holding (wpAny_bind (L0.at (wpAny_bind (L1.at ?_))))))))
  show wpAny _ _ (getAttrByItsOwn _ _ _ _ _ _) _ _ _
  unfold getAttrByItsOwn
  refine wpAny_bind (L2.at (wpAny_bind (wpAny_attempt (wpAny_holding ?_))))
  show wpAny _ _ (boundAndCalled _ _ _) _ _ _
  unfold boundAndCalled
  have hbs : bindSpecial (.builtin "BaseException.__getattribute__") (.ref a) = pure (.builtin "BaseException.__getattribute__", [.ref a]) := by
    have hop : withoutEnding? "BaseException.__getattribute__" "#opaque" = none := by decide +kernel
    have hdat : withoutEnding? "BaseException.__getattribute__" "#data" = none := by decide +kernel
    have hk : builtinKind "BaseException.__getattribute__" = some .slot := by decide +kernel
    simp only [bindSpecial, typeOf, builtinType, hop, hdat, hk]; rfl
  rw [hbs]
  refine wpAny_bind (wpAny_pure ?_)
  have L4 := looks_subIn (M := model prog w) X c.sb
  refine wpAny_call (codeAny_call_builtin (by decide +kernel) F.entry_bexc_ga ?_)
  have hk : builtinKind "BaseException.__getattribute__" = some .slot := by decide +kernel
  have hsplit : splitId "BaseException.__getattribute__" = some ("BaseException", "__getattribute__") := by decide +kernel
  have ha := F.args_bexc_ga (.ref a) (.str (Str.ofString "__class__") t)
  simp only [checkBuiltinCall, hk, hsplit]
  have LI : Looks (model prog w) hh (isInstance (.ref a) (.type "BaseException")) true := L0.andThen L4
  refine wpAny_bind (LI.at ?_)
  rw [if_neg (by decide)]
  refine wpAny_mono (Q := fun _ s' => s' = (⟨hh, g, d, t + 1, os⟩ : Shared)) (E := fun _ _ => False) ?_ (fun _ s' z => ?_) (fun _ _ z => z.elim)
  · repeat (first | assumption | rfl | wp_step)
  · subst z
    unfold Builtin.«object.__getattribute__»
    refine wpAny_bind (wpAny_pure ?_)
    refine wpAny_bind (wpAny_pure ?_)
    refine wpAny_bind (L0.at (wpAny_bind (L3.at ?_)))
    show wpAny _ _ (Builtin.ObjectAttr.bindTo _ _ _ _) _ _ _
    show wpAny _ _ (do let r ← holding [Value.builtin "object.__class__"] (call (.builtin "getset_descriptor.__get__") [.builtin "object.__class__", .ref a, .ref C]); ret r) _ _ _
    refine wpAny_bind (wpAny_holding (wpAny_call (class_get (s := ⟨hh, g, d, t + 1, os⟩) (ox := EO dx (.ref C) vs sl) (od := od) X I c.mr ?_)))
    refine wpAny_pure ?_
    show wpAny _ _ (handedOut (.ref C)) _ _ _
    exact wpAny_pure (wpAny_pure q)
theorem kitx_exc {K : PySem.W.Frag} {a C : Addr} {dx : Option Addr} (c : XCls K C) : PySem.W.KitX K (.ref a) (.ref C) (fun h => (∃ vs sl, h.get? a = some (EO dx (.ref C) vs sl)) ∧ ∀ d, dx = some d → ∃ o, h.get? d = some o) where
  ty := fun _ _ _ ⟨⟨_, _, e⟩, _⟩ => eo_type e
  it := fun _ _ X _ => by
    obtain ⟨cd, hc, _⟩ := any_some c.hd
    unfold clsIn at hc
    split at hc
    · rename_i ho
      intro A' Q' E' s' k q
      unfold isType loadHead
      exact wpAny_bind (wpAny_loadPart (k _ _ (X _ _ ho)) (wpAny_pure q))
    · cases hc
  ne := fun h tp dd its n sl X htp => by
    obtain ⟨cd, hc, _⟩ := any_some c.hd
    refine Bool.eq_false_iff.mpr fun q => ?_
    obtain rfl : C = tp := Value.ref.inj (beq_iff_eq.mp q)
    unfold clsIn at hc
    split at hc
    · rename_i ho
      have z := (X _ _ ho).symm.trans htp
      cases z
    · cases hc
  ca := fun X ⟨⟨_, _, e⟩, hd⟩ k => exc_class c X e hd k
section
variable {X : Cx}
def rIsiX (K : PySem.W.Frag) : List V → Hp → VK → Prop := fun xs H Q => ∃ a C dx c u b, xs = [.ref a, c] ∧ H a = some (excHo dx a (.ref C)) ∧ (∀ d, dx = some d → ∃ fs, H d = some (.xd fs)) ∧ XCls K C ∧ clsV c = some u ∧ PySem.W.kitOne K (.ref C) u = some b ∧ Q (.bl b) H
theorem call_isinstX : CallR X (.builtin "isinstance") (rIsiX X.K) := by
  intro pins s σ H xs us Q I r h
  obtain ⟨a, C, dx, c, u', b, rfl, ha, hdx, xc, ec, e, q⟩ := h
  obtain ⟨u, w', rfl, rx, rc⟩ := vals2 r
  obtain rfl := clsV_rel ec rc
  cases (show u = Value.ref a from rx)
  obtain ⟨p, _, _⟩ := (show ObjOk X.prog X.w H s.heap a (excHo dx a (.ref C)) from I.hok a _ ha)
  exact PySem.W.kia_one (kitx_exc xc) I.kIn ⟨p, fun d z => let ⟨fs, hf⟩ := hdx d z; I.hok.there hf⟩ e (fun z => nomatch z) fun tk => ⟨.bl b, H, I.tok tk, rfl, q⟩
end
end L2
namespace L2
open PySem PySem.Spec PyProof.Rows
structure RoomM (k : Nat) (A : Around) : Prop where
  dp : A.depth + 3 * k + 5 < recursionLimit
  un : A.units + 16 * k + 200 < cLine
  gd : A.guards = some []
theorem RoomM.of {k : Nat} {A : Around} {v : Option Value} (r : Room k A) : RoomM k (A.mark v) := ⟨r.dp, r.un, r.gd⟩
theorem RoomM.mono {j k : Nat} {A : Around} (r : RoomM k A) (h : j ≤ k) : RoomM j A := ⟨by have := r.dp; omega, by have := r.un; omega, r.gd⟩
def unm (A : Around) : Around := { A with handled := none }
structure FnOkM (P : Program) (w : World) (K : PySem.W.Frag) (mg : Str → Option Value) (base : Heap) (k : Nat) (f : Addr) (fd : FuncData) (ps : List Str) (sp : Sp) : Prop where
  len : ∀ vs H Q E, sp vs H Q E → vs.length = ps.length
  run : ∀ (A : Around) (outer : List Env) (s : Shared) (H : Hp) (args : Args) (us : List Value) (vs : List V) (Q : VK) (E : XK), RoomM k A → Env0 P w K mg base A outer s H → BindsTo s fd args (ps.zip us) → Vals vs us → sp vs H Q E →
    codeAny (model P w) A (.call (.ref f) args) (CR CX0 outer P w H s Q E) s
theorem FnOkM.mono {P : Program} {w : World} {K : PySem.W.Frag} {mg : Str → Option Value} {base : Heap} {j k : Nat} {f : Addr} {fd : FuncData} {ps : List Str} {sp : Sp} (F : FnOkM P w K mg base j f fd ps sp) (h : j ≤ k) :
    FnOkM P w K mg base k f fd ps sp := ⟨F.len, fun A outer s H args us vs Q E hr => F.run A outer s H args us vs Q E (hr.mono h)⟩
theorem Env0.unm {P : Program} {w : World} {K : PySem.W.Frag} {mg : Str → Option Value} {base : Heap} {A : Around} {outer : List Env} {s : Shared} {H : Hp} (e : Env0 P w K mg base A outer s H) : Env0 P w K mg base (unm A) outer s H :=
  ⟨e.frames, e.mod, e.bs, e.bsz, e.funs, e.frf, e.hok, e.bare⟩
abbrev cxM (P : Program) (w : World) (K : PySem.W.Frag) (mg : Str → Option Value) (base : Heap) (N : List Str) (qual : Str) (scope : Scope) (f : Addr) (cd : Value) (A : Around) (outer : List Env) (s : Shared) (H : Hp) (E : XK) : Cx :=
  (cxOf CX0 P w K mg base N qual scope f cd (unm A) outer s H E).marked A.handled
theorem mark_deeper (A : Around) (env : Env) : ((unm A).deeper env).mark A.handled = A.deeper env := by
  obtain ⟨h, d, fr, gs, u⟩ := A
  cases h <;> rfl
theorem Fun.okM {P : Program} {w : World} {K : PySem.W.Frag} {mg : Str → Option Value} {base : Heap} {x qual : Str} {st : Stmt} {f : Addr} {fd : FuncData} {N ps : List Str} {k : Nat} {sp : Sp} (F : Fun K x qual st f fd) (S : FnScope N ps (defScope st)) (len : ∀ vs H Q E, sp vs H Q E → vs.length = ps.length)
    (hbody : ∀ (cdv : Value) (A : Around) (outer : List Env) (s : Shared) (H : Hp) (vs : List V) (Q : VK) (E : XK), RoomM (k + 1) A → sp vs H Q E →
      ∃ t, PSs (cxM P w K mg base N qual (defScope st) f cdv A outer s H E) (defBody st) t ∧ t { nx := fun _ H' => Q .non H', rt := Q } (start N vs) H) : FnOkM P w K mg base (k + 1) f fd ps sp := by
  obtain ⟨oc, od, kV, doc, pm, an, cdv, ct, osl, rfl, lk, hcd⟩ := F.ex
  refine ⟨len, fun A outer s H args us vs Q E hr e0 hb r hsp => ?_⟩
  have hl := len _ _ _ _ hsp
  have KX : K.In s.heap := e0.mod.kin.keeps fun b o e => (e0.bs b o e).1
  have lim : s.heap.NoLimit := e0.mod.nolimit.keeps fun b o e => (e0.bs b o e).1
  have hkind : ∀ y ∈ ps.zip us, (defScope st).names.lookup y.1 = some .local ∨ ((defScope st).names.lookup y.1 = some .cell ∧ ((cellsFrom (s.heap.objs.size + 1) (defScope st).names []).lookup y.1).isSome = true) := fun ⟨n, v⟩ hy => by
    rcases S.par n (List.of_mem_zip hy).1 with q | q
    · exact .inl q
    · exact .inr ⟨q, PySem.W.cellsFrom_some _ _ _ (.inl q)⟩
  refine codeAny_call_function (by have := hr.dp; omega) (KX _ _ lk) rfl S.co S.gen rfl (PySem.W.codeRec_of KX hcd) (hb _ _ _ _ ?_)
  refine wpAny_newFunctionEnv_cells S.kind hkind fun env he s1 x => ?_
  subst he
  refine ⟨lim.keeps x.toInCall.keep, codeAny_func ?_⟩
  obtain ⟨t, ht, hq⟩ := hbody cdv A outer s H vs Q E hr hsp
  have I : Inv (cxOf CX0 P w K mg base N qual (defScope st) f cdv (unm A) outer s H E) [] (start N vs) H s1 := inv_start S rfl e0.unm hl r x
  have I2 : Inv (cxM P w K mg base N qual (defScope st) f cdv A outer s H E) [] (start N vs) H s1 := I.mark A.handled
  rw [← mark_deeper]
  refine wpAny_mono (ht [] s1 (start N vs) H _ I2 hq) (fun fl s' hs => ?_) fun e s' hs => hs.elim
  have fin : ∀ {σ' : St} {H' : Hp} {v : V} {u : Value}, Inv (cxM P w K mg base N qual (defScope st) f cdv A outer s H E) [] σ' H' s' → RelV v u → Q v H' → CE outer P w H s Q u s' :=
    fun {σ' H' v u} J rv q => ⟨v, H', J.os, J.bare, J.base, J.hok, rv, q⟩
  cases fl with
  | ret u =>
    obtain ⟨v, σ', H', J, rv, q⟩ := hs
    exact fin J rv q
  | next =>
    obtain ⟨σ', H', J, q⟩ := hs
    exact fin (v := V.non) (u := Value.none) J rfl q
  | brk =>
    obtain ⟨_, _, _, q⟩ := hs
    exact False.elim q
  | cont =>
    obtain ⟨_, _, _, q⟩ := hs
    exact False.elim q
section
variable {X : Cx} {k : Nat} {f : Addr} {fd : FuncData} {ps : List Str} {sp : Sp} {dvs : List V} {ds : List Value} {x : Str} {p pos : Pos} {e : Expr} {es : List Expr} {t : TA}
theorem pe_callM (F : FnOkM X.prog X.w X.K X.mg X.base k f fd ps sp) (hr : RoomM k X.A) (hg : Gl X x) (hm : X.mg x = some (.ref f)) (hk : PySem.W.keepIn X.K (.ref f) = true) (hb : Binds X.K fd ps ds) (hd : Vals dvs ds)
    (ha : PA X (e :: es) t) (hdb : (x == ("__debug__" : Str)) = false := by decide) (he : starEach (e :: es) X.env = (false, eval e X.env) :: starEach es X.env := by rfl) (hpl : (backTo pos (starEach es X.env)).any (·.1) = false := by rfl) :
    PE X (.Call (.Name x p) (e :: es) [] pos) (tCall sp dvs E0 t) := by
  intro pins s σ H Q I h
  refine wpAny_Call_Name_kw (ld_glob I hg hm ?_ hdb)
  refine PySem.W.callWith_K (h₀ := X.base) I.ok.mod.kin hk (thn (ha pos pins s σ H _ I h) fun us s1 ⟨vs, H1, I1, r, q⟩ => ⟨I1.kIn, ?_⟩) he hpl
  have r2 : Vals (vs ++ dvs) (us ++ ds) := r.append hd
  have hl : (us ++ ds).length = ps.length := by rw [← r2.length]; exact F.len _ _ _ _ q
  refine wpAny_call (codeAny_mono (F.run X.A X.stack s1 H1 ⟨us, []⟩ (us ++ ds) (vs ++ dvs) Q E0 hr I1.env0 (hb s1 us I1.kIn hl) r2 q) fun r s' hq => ?_)
  cases r with
  | error e => exact False.elim hq
  | ok fl =>
    cases fl with
    | ret u => exact I1.after hq
    | next => exact False.elim hq
    | brk => exact False.elim hq
    | cont => exact False.elim hq
end
section
variable {X : Cx} {K : PySem.W.Frag} {o e : Expr} {es : List Expr} {to : TE} {t : TA} {name : Str} {apos cpos : Pos} {T id : String} {r : V → List V → Hp → VK → Prop}
theorem pe_bmK (hK : X.K = K) (pa : PlainAttrs T) (slot : Slot T name id) (hty : typeOf (.builtin id) = pure (.type "method_descriptor")) (hm : MtR X id r) (ho : PE X o to) (ha : PA X (e :: es) t)
    (hbase : attributeBase o name X.env (eval o X.env) = eval o X.env := by rfl)
    (hfew : ((backTo cpos (starEach (e :: es) X.env)).all (fun x => !x.1) && (backToKw cpos (keywordEach [] X.env)).all (fun x => x.1.isSome)
      && decide ((e :: es).length + ([] : List Keyword).length + (if ([] : List Keyword).isEmpty then 0 else 1) < 30)) = true := by rfl)
    (hline : (apos.endLine == cpos.line) = true := by rfl) (hs : starEach (e :: es) X.env = (false, eval e X.env) :: starEach es X.env := by rfl) (hplain : (backTo cpos (starEach es X.env)).any (·.1) = false := by rfl) :
    PE X (.Call (.Attribute o name apos) (e :: es) [] cpos) (tBM K T r to t) := by
  subst hK
  exact pe_bm pa slot hty hm ho ha hbase hfew hline hs hplain
theorem call_isinstXK (hK : X.K = K) : CallR X (.builtin "isinstance") (rIsiX K) := by subst hK; exact call_isinstX
theorem ix_listK (hK : X.K = K) : IxR X (rIxL K) := by subst hK; exact ix_list
end
section
variable {X : Cx}
end
section
variable {X : Cx} {a b : Expr} {rest : List Expr} {pos : Pos} {ta tb : TE}
end
section
variable {X : Cx} {x y : Str} {i k : Nat} {p pos pos' py : Pos}
theorem px_set0 (hN : X.N[i]? = some x) (hv : Vis X.env.scope x) (hr : Room k X.A) (hd : (x == ("__debug__" : Str)) = false := by decide) (hcd : (x == ("__classdict__" : Str)) = false := by decide)
    (hs : swapsWith (.Call (.Name x p) [] [] pos) (some (.Name y py)) pos'.line X.env = pure false := by rfl) : PX X [.Assign [.Name y py] (.Call (.Name x p) [] [] pos) pos'] (xCall0 X k i) := by
  intro pins s σ H R I h
  obtain ⟨f, fd, sp, e1, hf, F, hb, hsp⟩ := h
  refine wpAny_execs_cons (wpAny_Assign_Name (wpAny_Call_Name_kw (ld_var I hN hv e1 (fun u r => ?_) hd hcd)) hs)
  cases (show u = Value.ref f from r)
  obtain ⟨ho, _, _⟩ := I.hok f _ hf
  refine PySem.W.callWith_F0 ⟨_, _, _, _, ho⟩ ?_
  refine wpAny_call (codeAny_mono (F.run X.A X.stack s H ⟨[], []⟩ [] [] _ _ hr I.env0 (hb s [] I.kIn rfl) .nil hsp) fun r s' hq => ?_)
  cases r with
  | error e =>
    obtain ⟨a, C, dx, H', rfl, fl, ho, hg, U, ok, hE⟩ := hq
    exact ⟨a, C, dx, H', rfl, I.call' (s' := s') (ch := []) ho U ok hg (fun _ z => nomatch z), fl, hE⟩
  | ok fl =>
    cases fl with
    | ret u =>
      obtain ⟨_, _, _, _, _, _, _, z⟩ := hq
      exact z.elim
    | next => exact False.elim hq
    | brk => exact False.elim hq
    | cont => exact False.elim hq
def tTryR (K : PySem.W.Frag) (CP : Addr) (ie : Nat) (tb : TX) (ts : TS) : TS := fun D σ H => tb σ H fun C dx H' => PySem.W.exmOne K C (.ref CP) = some true ∧
  ∀ a, H' a = none → ts { nx := fun σ2 H2 => D.nx (σ2.set ie none) H2, rt := D.rt } (σ.set ie (some (.ref a))) (upd H' a (excHo dx a C))
theorem ps_tryR {body suite : List Stmt} {b0 : Stmt} {cx n : Str} {CP : Addr} {ie : Nat} {tb : TX} {ts : TS} {np pos pos' : Pos} (hN : X.N.Nodup) (hi : X.N[ie]? = some n) (hn : X.env.scope.names.lookup n = some .local) (hx : X.ex = []) (hst : X.stack = X.env :: X.outer) (hfr : X.env.frame = some X.env.locals) (hcl : X.env.cells = [])
    (hg : Gl X cx) (hm : X.mg cx = some (.ref CP)) (hb : PX X body tb) (hs : ∀ v, PSs (X.marked v) (b0 :: suite) ts) (hd : (cx == ("__debug__" : Str)) = false := by decide) :
    PS X (.Try body [.ExceptHandler (some (.Name cx np)) (some n) (b0 :: suite) pos] [] [] pos') (tTryR X.K CP ie tb ts) := by
  intro pins s σ H D I h
  refine wpAny_Try_except (wpAny_mono (hb pins s σ H _ I h) (fun _ _ z => z.elim) fun e s1 ⟨a, C, dx, H', ee, J, F, hmat, hR⟩ => ?_)
  subst ee
  obtain ⟨T, Fl, g1, g2, f1, f2⟩ := F
  have fr1 : X.A.frames = some (X.env :: X.outer) := by rw [← hst]; exact J.ok.frames
  have ff1 : s1.heap.FunFrames X.base (X.env :: X.outer) := by rw [← hst]; exact J.stack
  refine note_on (base := X.base) fr1 ff1 hfr Fl fun h2 T2 a2 Fl2 N => ?_
  refine flight_none (s := { s1 with heap := h2 }) Fl2 fun h3 Fl3 k3 _ => ?_
  have neT2 : ∀ b o, s1.heap.get? b = some o → b ≠ T2 := fun b o q z => absurd (Heap.lt_size q) (by rw [z]; exact Nat.not_lt.mpr a2)
  have N3 : Noted (frs X.stack) s1.heap h3 a (some T) := by
    rw [hst]
    refine ⟨fun b o x y z q => k3 b o (neT2 b o q) (N.keep b o x y z q), fun b o x q => ?_⟩
    obtain ⟨sl, q'⟩ := N.slot b o x q
    exact ⟨sl, k3 b _ (neT2 b o q) q'⟩
  have a0 := there_of I hx g1
  have t0 := there_of I hx g2
  have locs : ∃ o, s.heap.get? X.env.locals = some o := let ⟨_, ⟨o, _, _, q, _⟩, _⟩ := I.loc; ⟨o, q⟩
  have ne_a : ∀ b o, s.heap.get? b = some o → b ≠ a := fun b o q z => by rw [z, g1] at q; cases q
  have ne_T : ∀ b o, s.heap.get? b = some o → b ≠ T := fun b o q z => by rw [z, g2] at q; cases q
  have La : X.env.locals ≠ a := let ⟨o, q⟩ := locs; ne_a _ o q
  have nocell : ∀ x c, X.env.cells.lookup x = some c → False := fun x c q => by rw [hcl] at q; cases q
  have J3 : Inv X pins σ H' { s1 with heap := h3 } := by
    refine J.after_note N3 hx f1 a0 (fun t z => by cases z; exact ⟨f2, t0⟩) (fun p hp => ⟨ne_a _ _ (I.pin p hp).1, fun z => ne_T _ _ (I.pin p hp).1 (Option.some.inj z)⟩) (fun x c q => (nocell x c q).elim) (fun x c q => (nocell x c q).elim) ⟨La, fun z => ?_⟩
    obtain ⟨o, q⟩ := locs
    exact ne_T _ o q (Option.some.inj z)
  obtain ⟨⟨vs, sl, hea, _⟩, _, _⟩ := id Fl3
  refine wpAny_handleBy_cons (codeAny_handlers_test ?_) (by intro q; cases q)
  refine ld_glob (X := X.marked (some (.ref a))) (J3.mark _) hg hm ?_ hd
  have LM := PySem.W.exm_one (M := model X.prog X.w) J3.kIn (eo_type hea) hmat
  refine LM _ _ _ { s1 with heap := h3 } (fun _ _ q => q) ?_
  refine codeAny_handlers_suite_as (flight_none (s := { s1 with heap := h3 }) Fl3 fun h4 Fl4 k4 _ => ?_)
  have N4 : Noted (frs X.stack) h3 h4 a (some T2) := ⟨fun b o _ _ z q => k4 b o (fun w => z (by rw [w])) q, fun b o x q => ⟨o.slots, k4 b o (fun w => ?_) q⟩⟩
  rotate_left
  · have := J3.stack
    obtain ⟨_, o', q', hnf⟩ := this.mem x
    obtain ⟨oT, ts', q2, q3, _⟩ := Fl3.tr
    rw [w] at q'
    rw [show ({ s1 with heap := h3 } : Shared).heap.get? T2 = some oT from q2] at q'
    cases q'
    exact hnf ts' q3
  have T2free : H' T2 = none := J.hok.free_of (Heap.get?_none_of_le a2)
  have T2new : X.s₀.heap.get? T2 = none := there_of J hx (Heap.get?_none_of_le a2)
  have J4 : Inv X pins σ H' { s1 with heap := h4 } := by
    refine J3.after_note N4 hx f1 a0 (fun t z => by cases z; exact ⟨T2free, T2new⟩) (fun p hp => ⟨ne_a _ _ (I.pin p hp).1, fun z => neT2 _ _ (J.pin p hp).1 (Option.some.inj z)⟩) (fun x c q => (nocell x c q).elim) (fun x c q => (nocell x c q).elim) ⟨La, fun z => ?_⟩
    obtain ⟨_, ⟨o, _, _, q, _⟩, _⟩ := J.loc
    exact neT2 _ o q (Option.some.inj z)
  have J5 : Inv X pins σ (upd H' a (excHo dx a C)) { s1 with heap := h4 } := by
    refine J4.track f1 a0 (fun H2 => excH_ok ?_) La.symm (fun x c q => (nocell x c q).elim) (fun p hp => ne_a _ _ (I.pin p hp).1) hx (fun _ _ z => by cases z)
    obtain ⟨⟨vs', sl', q, _⟩, _, _⟩ := Fl4
    exact ⟨vs', sl', q⟩
  refine store_ok (X := X.marked (some (.ref a))) (J5.mark _) hN hi (.inl hn) (v := .ref a) rfl (fun s5 J6 => ?_) (.inr hn)
  refine wpAny_mono (hs (some (.ref a)) pins s5 _ _ _ J6 (hR a f1)) (fun fl s6 q => ?_) (fun _ _ z => z.elim)
  cases fl with
  | next =>
    obtain ⟨σ6, H6, J7, q⟩ := q
    have J8 : Inv X pins σ6 H6 s6 := J7.unmark I.ok
    obtain ⟨m, hns, hl⟩ := id J8.loc
    refine wpAny_nameGoes_keeps (show X.env.kindOf n = some .local from hn) hns (by rw [I.ok.kind]; rfl) fun h' v hn' sb => ?_
    refine ⟨σ6.set ie none, H6, J8.frame (σ' := σ6.set ie none) (m' := fun x => if x = n then v else m x) (fun b hb => sb.2 b hb) hn' (fun i x u e1 e2 e3 => ?_) (by rw [List.length_set]), q⟩
    have ne : i ≠ ie := fun z => by
      subst z
      have hlt : i < σ6.length := by rw [J8.len]; exact (List.getElem?_eq_some_iff.mp e1).1
      rw [List.getElem?_set_self hlt] at e2
      cases e2
    have nx : x ≠ n := fun z => ne (nodup_ix hN e1 (z ▸ hi))
    rw [List.getElem?_set_ne ne.symm] at e2
    obtain ⟨u', r, l⟩ := hl i x u e1 e2 e3
    refine ⟨u', r, ?_⟩
    rcases l with ⟨l1, l2⟩ | ⟨_, c, e, _⟩
    · exact .inl ⟨l1, by show (if x = n then v else m x) = some u'; rw [if_neg nx]; exact l2⟩
    · exact (nocell x c e).elim
  | brk => obtain ⟨_, _, _, z⟩ := q; exact z.elim
  | cont => obtain ⟨_, _, _, z⟩ := q; exact z.elim
  | ret u =>
    obtain ⟨v0, σ6, H6, J7, rv0, q⟩ := q
    have J8 : Inv X pins σ6 H6 s6 := J7.unmark I.ok
    obtain ⟨m, hns, hl⟩ := id J8.loc
    refine wpAny_nameGoes_keeps (show X.env.kindOf n = some .local from hn) hns (by rw [I.ok.kind]; rfl) fun h' v hn' sb => ?_
    refine ⟨v0, σ6.set ie none, H6, J8.frame (σ' := σ6.set ie none) (m' := fun x => if x = n then v else m x) (fun b hb => sb.2 b hb) hn' (fun i x u9 e1 e2 e3 => ?_) (by rw [List.length_set]), rv0, q⟩
    have ne : i ≠ ie := fun z => by
      subst z
      have hlt : i < σ6.length := by rw [J8.len]; exact (List.getElem?_eq_some_iff.mp e1).1
      rw [List.getElem?_set_self hlt] at e2
      cases e2
    have nx : x ≠ n := fun z => ne (nodup_ix hN e1 (z ▸ hi))
    rw [List.getElem?_set_ne ne.symm] at e2
    obtain ⟨u', r, l⟩ := hl i x u9 e1 e2 e3
    refine ⟨u', r, ?_⟩
    rcases l with ⟨l1, l2⟩ | ⟨_, c, e, _⟩
    · exact .inl ⟨l1, by show (if x = n then v else m x) = some u'; rw [if_neg nx]; exact l2⟩
    · exact (nocell x c e).elim
end
end L2
namespace L2
open PySem PySem.Spec PyProof.Rows
section
variable {X : Cx}
def rIntB : List V → Hp → VK → Prop := fun xs H Q => ∃ b : Bool, xs = [.bl b] ∧ Q (.int (if b then 1 else 0)) H
theorem call_int_bl : CallR X (.type "int") rIntB := by
  intro pins s σ H xs us Q I r h
  obtain ⟨b, rfl, q⟩ := h
  obtain ⟨u, rfl, rx⟩ := vals1 r
  cases (show u = Value.bool b from rx)
  exact PySem.call_int_bool ⟨.int _, H, I.tok _, ⟨_, rfl⟩, q⟩
theorem pe_imp {e : Expr} {t t' : TE} (h : PE X e t) (i : ∀ σ H Q, t' σ H Q → t σ H Q) : PE X e t' := fun pins s σ H Q I q => h pins s σ H Q I (i σ H Q q)
end
end L2
namespace L2
open PySem PySem.Spec PyProof.Rows
section
variable {X : Cx} {pos : Pos}
theorem items_int : ∀ {us : List Value}, (∀ u ∈ us, ∃ i t, u = .int i t) → ∃ xs : List (Int × Tok), us = xs.map fun p => Value.int p.1 p.2
  | [], _ => ⟨[], rfl⟩
  | u :: us, h => by
    obtain ⟨xs, e⟩ := items_int fun x hx => h x (List.mem_cons_of_mem _ hx)
    obtain ⟨i, t, rfl⟩ := h u List.mem_cons_self
    exact ⟨(i, t) :: xs, by rw [e]; rfl⟩
def rMinL : List V → Hp → VK → Prop := fun xs H Q => ∃ (l : Addr) (ns : List Int), xs = [.ref l] ∧ H l = some (.lst (ns.map V.int)) ∧ 0 < ns.length ∧ ∀ m, m ∈ ns → (∀ a ∈ ns, m ≤ a) → Q (.int m) H
theorem call_minL (hc : X.calm = true) : CallR X (.builtin "min") rMinL := by
  intro pins s σ H xs us Q I r h
  obtain ⟨l, ns, rfl, hl, hne, q⟩ := h
  obtain ⟨u, rfl, ru⟩ := vals1 r
  cases ru
  obtain ⟨z, its, n, rr, hn, e⟩ := I.lstM hl
  obtain ⟨e1, e2⟩ := vals_int rr
  obtain ⟨ys, rfl⟩ := items_int e2
  have en : ns = ys.map (·.1) := by
    rw [← e1, List.map_map]
    rfl
  have il : s.heap.IsList l (intItems ys.toArray) := ⟨_, e, rfl, n, by simp [intItems]⟩
  refine min_intList (I.ok.hd hc) il (by rw [en, List.length_map] at hne; simpa using hne) fun v h' tk hv hk => ?_
  obtain ⟨t, rfl⟩ := intItems_at hv
  obtain ⟨h1, h2⟩ := argBest_lt (numAt ys.toArray) (ys.toArray.size - 1)
  have hsz : 0 < ys.toArray.size := by rw [en, List.length_map] at hne; simpa using hne
  refine ⟨.int _, H, I.kept hk, ⟨_, rfl⟩, q _ ?_ fun a ha => ?_⟩
  · rw [en, numAt_eq]
    refine getD_mem ?_
    rw [List.length_map]
    show _ < ys.length
    have z : ys.toArray.size = ys.length := by simp
    omega
  · rw [en] at ha
    obtain ⟨j, hj, rfl⟩ := mem_getD ha
    rw [List.length_map] at hj
    have := h2 j (by simp; omega)
    rw [numAt_eq ys.toArray j] at this
    exact this
end
section
variable {X : Cx}
end
theorem tSeq_gen {t u : TS} {D : Ends} {σ : St} {H : Hp} (h : ∀ R : TS, R = u → tSeq t R D σ H) : tSeq t u D σ H := h u rfl
def FR (lo : Int) (n : Nat) (g : TG) (tb : TS) (D : Ends) (σ : St) (H : Hp) : Prop := ∃ W : Nat → Nat → St → Hp → Prop, (∃ m, W 0 m σ H) ∧ ∀ i m σ H, W i m σ H →
      ((Itr lo n).stop i H ∧ D.nx σ H) ∨ ((Itr lo n).go i H ∧ ∃ N : St → Hp → Prop, (∀ σ' H', N σ' H' → ∃ m', m' < m ∧ W (i + 1) m' σ' H') ∧ ∀ x H', (Itr lo n).yld i H x H' → g x σ H' fun σ2 H2 => tb { D with nx := N, ct := N, bk := D.nx } σ2 H2)
theorem tFor_rng {ta : TA} {g : TG} {tb : TS} {D : Ends} {σ : St} {H : Hp} (h : ta σ H fun vs H1 => ∃ j : Int, vs = [.int j] ∧ -(2 ^ 62) ≤ j ∧ j < 2 ^ 62 ∧ FR 0 j.toNat g tb D σ H1) : tFor (iRng1 ta) g tb D σ H := h
theorem fr_of {lo : Int} {n : Nat} {g : TG} {tb : TS} {D : Ends} {σ : St} {H : Hp} (Pv : Nat → St → Hp → Prop) (h0 : Pv 0 σ H)
    (hs : ∀ i σ H, i < n → Pv i σ H → g (.int (lo + i)) σ H fun σ2 H2 => tb { D with nx := Pv (i + 1), ct := Pv (i + 1), bk := D.nx } σ2 H2) (hd : ∀ σ H, Pv n σ H → D.nx σ H) : FR lo n g tb D σ H := for_range Pv h0 hs hd
end L2
namespace L2
open PySem PySem.Spec PyProof.Rows
def OnlyT (Pt : Addr) (H : Hp) : Prop := ∀ b, H b = none ∨ (∃ o xs, H b = some (.frz o (.lst xs))) ∨ (b = Pt ∧ H b = some (.tbl #[]))
theorem law_callT {P : Program} {w : World} {K : PySem.W.Frag} {mg mb : Str → Option Value} {CX : CXT} {k : Nat} {fa a c Pt : Addr} {fd : FuncData} {x : Str} {sp : Sp} {s₁ : Shared} {vs : List Value} {ns : List Int}
    (KX : K.In s₁.heap) (hns : s₁.heap.Ns mainGlobals mg) (hb : s₁.heap.Ns builtinsNs mb) (hbb : ∀ x : Str, x ≠ "__name__" → mb x = bootBuiltins x) (hlim : s₁.heap.NoLimit) (hg : s₁.gens = #[])
    (hbm : ∃ bm ob, mg "__builtins__" = some (.ref bm) ∧ bm ≠ builtinsNs ∧ s₁.heap.get? bm = some ob ∧ ob.cls = .type "module" ∧ ob.dict = some builtinsNs ∧ ob.data = .plain)
    (hC : PySem.W.CodeHd s₁.heap c Pt) (hP : s₁.heap.get? Pt = some (PySem.W.tabObj #[])) (hPK : K.lookup Pt = none)
    (ha : s₁.heap.get? a = some { cls := .type "list", data := .seq vs.toArray }) (hi : IntsAre vs ns) (hl : ns.length ≤ sizeLine) (hr : Room k callerA)
    (F : ∀ base : Heap, K.In base → base.Ns mainGlobals mg → base.BuiltinsAt mg Pt → FnOk P w K mg base CX k fa fd [x] sp) (hbind : ∀ (s : Shared) (u : Value), BindsTo s fd ⟨[u], []⟩ [(x, u)])
    (hsp : ∀ H : Hp, OnlyT Pt H → SqL K H a (ns.map V.int) → H Pt = some (.tbl #[]) → sp [.ref a] H (fun v _ => v = .bl true) fun _ _ _ => False)
    (hCX : ∀ H e s', CX [] H s₁ (fun _ _ _ => False) e s' → False) :
    codeAny (model P w) callerA (.call (.ref fa) ⟨[.ref a], []⟩) (fun r s' => r = .ok (.ret (.bool true)) ∧ OldK s₁.heap s'.heap ∧ s'.os = s₁.os ∧ AllBare s'.gens) s₁ := by
  have rv := vals_ints hi
  have lenV := hi.length
  have aP : a ≠ Pt := fun z => by rw [z, hP] at ha; cases ha
  have core : ∀ H : Hp, OnlyT Pt H → H Pt = some (.tbl #[]) → SqL K H a (ns.map V.int) → HOk P w H s₁.heap → (∀ b, H b ≠ none → b = a ∨ b = Pt) → (H a ≠ none → K.lookup a = none) →
      codeAny (model P w) callerA (.call (.ref fa) ⟨[.ref a], []⟩) (fun r s' => r = .ok (.ret (.bool true)) ∧ OldK s₁.heap s'.heap ∧ s'.os = s₁.os ∧ AllBare s'.gens) s₁ := by
    intro H hO hT hS hok hA hK
    have base_of : ∀ {b : Addr} {o : Obj}, s₁.heap.get? b = some o → H b = none → (hidT s₁.heap H).get? b = some o := fun e n => hidT_get e n
    have noD : ∀ {b : Addr} {o : Obj}, s₁.heap.get? b = some o → (∀ its n, o.data ≠ .seq its n) → (∀ qs, o.data ≠ .fields qs) → H b = none := fun {b o} e d1 d2 => by
      cases q : H b with
      | none => rfl
      | some u =>
        rcases hA b (by rw [q]; simp) with e' | e'
        · subst e'
          rw [ha] at e; cases e
          exact absurd rfl (d1 _ _)
        · subst e'
          rw [hP] at e; cases e
          exact absurd rfl (d2 _)
    have nsK : ∀ {b : Addr} {m : Str → Option Value}, s₁.heap.Ns b m → (hidT s₁.heap H).Ns b m := fun {b m} ⟨o, es, ep, e, d, r⟩ => ⟨o, es, ep, base_of e (noD e (fun _ _ z => by rw [d] at z; cases z) (fun _ z => by rw [d] at z; cases z)), d, r⟩
    have hKb : K.In (hidT s₁.heap H) := fun b o e => base_of (KX b o e) (by
      cases q : H b with
      | none => rfl
      | some u =>
        rcases hA b (by rw [q]; simp) with e' | e'
        · subst e'
          rw [hK (by rw [q]; simp)] at e; cases e
        · subst e'
          rw [hPK] at e; cases e)
    have hM : Mod K mg (hidT s₁.heap H) := ⟨hKb, nsK hns, ⟨mb, nsK hb, hbb⟩, let ⟨mc, h1, h2⟩ := hlim; ⟨mc, nsK h1, h2⟩⟩
    have hB : (hidT s₁.heap H).BuiltinsAt mg Pt := by
      obtain ⟨bm, ob, b1, b2, b3, b4, b5, b6⟩ := hbm
      refine ⟨bm, ob, b1, b2, fun z => ?_, fun z => ?_, base_of b3 (noD b3 (fun _ _ z => by rw [b6] at z; cases z) (fun _ z => by rw [b6] at z; cases z)), b4, b5, b6⟩
      · obtain ⟨o, es, ep, e, d, _⟩ := hns
        rw [z, e] at b3; cases b3; rw [d] at b6; cases b6
      · rw [z, hP] at b3; cases b3; cases b4
    have e0 : Env0 P w K mg (hidT s₁.heap H) callerA [] s₁ H := ⟨rfl, hM, fun b o e => of_hidT e, Nat.le_of_eq (hidT_size _ _), trivial, fun b hb => absurd (show b ∈ ([] : List Addr) from hb) (by simp), hok, .of_eq hg⟩
    refine codeAny_mono ((F _ hKb (nsK hns) hB).run callerA [] s₁ H ⟨[.ref a], []⟩ [.ref a] [.ref a] _ _ hr e0 (hbind s₁ (.ref a)) (.cons rfl .nil) (hsp H hO hS hT)) fun r s' h => ?_
    cases r with
    | error e => exact (hCX H e s' h).elim
    | ok fl =>
      cases fl with
      | next => exact False.elim h
      | brk => exact False.elim h
      | cont => exact False.elim h
      | ret u =>
        obtain ⟨v, H', os, bare, un, hok', r', q⟩ := h
        have q' : v = .bl true := q
        subst q'
        obtain rfl : u = Value.bool true := r'
        obtain ⟨more, hT'⟩ := un.tbls Pt _ hT
        have hP' : s'.heap.get? Pt = some (PySem.W.tabObj (#[] ++ more)) := hok' Pt _ hT'
        have keep : ∀ b o, b ≠ Pt → s₁.heap.get? b = some o → s'.heap.get? b = some o := fun b o nb e => by
          cases q : H b with
          | none => exact un.keep b o e q (by intro z; exact absurd (show b ∈ ([] : List Addr) from z) (by simp)) (by simp)
          | some u =>
            rcases hO b with z | ⟨ob, xs, z⟩ | ⟨z, _⟩
            · rw [q] at z; cases z
            · have z2 := un.frzs b ob _ z
              obtain ⟨e1, _⟩ := hok b _ z
              obtain ⟨e2, _⟩ := hok' b _ z2
              rw [e] at e1; cases e1
              exact e2
            · exact absurd z nb
        refine ⟨rfl, ⟨fun b o e => ?_, fun b o e => ?_⟩, os, bare⟩
        · by_cases z : b = Pt
          · subst z
            rw [hP] at e
            cases e
            obtain ⟨oc, vsc, _, _, _, _, _, _, _, e1, e2, e3, e4, _⟩ := hC
            exact .inr (.inl ⟨⟨c, oc, vsc, e1, e2, e3, e4⟩, rfl, #[], more, rfl, hP'⟩)
          · exact .inl (keep b o z e)
        · by_cases z : b = Pt
          · subst z
            exact ⟨_, hP'⟩
          · exact ⟨o, keep b o z e⟩
  cases hk : K.lookup a with
  | some o =>
    have e := KX a o hk
    rw [ha] at e
    cases e
    refine core (fun b => if b = Pt then some (.tbl #[]) else none) (fun b => ?_) (if_pos rfl) (.inr ⟨_, vs.toArray, _, hk, rfl, rfl, rfl, by rw [List.size_toArray, lenV]; exact hl, by simpa using rv⟩) (fun b u z => ?_) (fun b z => ?_) (fun z => absurd (if_neg aP) z)
    · by_cases hb : b = Pt
      · exact .inr (.inr ⟨hb, if_pos hb⟩)
      · exact .inl (if_neg hb)
    · by_cases hb : b = Pt
      · have z' := (if_pos hb).symm.trans z
        cases z'
        subst hb
        exact hP
      · have z' := (if_neg hb).symm.trans z
        cases z'
    · by_cases hb : b = Pt
      · exact .inr hb
      · exact absurd (if_neg hb) z
  | none =>
    refine core (fun b => if b = a then some (.frz { cls := .type "list", data := .seq vs.toArray } (.lst (ns.map V.int))) else if b = Pt then some (.tbl #[]) else none) (fun b => ?_) ((if_neg aP.symm).trans (if_pos rfl)) (.inl (.inr ⟨{ cls := .type "list", data := .seq vs.toArray }, if_pos rfl⟩)) (fun b u z => ?_) (fun b z => ?_) fun _ => hk
    · by_cases hb : b = a
      · exact .inr (.inl ⟨_, _, if_pos hb⟩)
      · by_cases hb2 : b = Pt
        · exact .inr (.inr ⟨hb2, (if_neg hb).trans (if_pos hb2)⟩)
        · exact .inl ((if_neg hb).trans (if_neg hb2))
    · by_cases hb : b = a
      · have z' := (if_pos hb).symm.trans z
        cases z'
        subst hb
        exact ⟨ha, by rw [List.length_map]; exact hl, vs, _, rv, ha⟩
      · have z' := (if_neg hb).symm.trans z
        by_cases hb2 : b = Pt
        · have z' := (if_pos hb2).symm.trans z'
          cases z'
          subst hb2
          exact hP
        · have z' := (if_neg hb2).symm.trans z'
          cases z'
    · by_cases hb : b = a
      · exact .inl hb
      · by_cases hb2 : b = Pt
        · exact .inr hb2
        · exact absurd ((if_neg hb).trans (if_neg hb2)) z
theorem walk_ofT {l : PySem.W.OpenLaw} {n k : Nat} {q : Program} {loose : List Str} {XP : (Str → Option Value) → Heap → Prop} {YP : World → Heap → Prop} {d : DefRec} {K : Params → PySem.W.Frag} {CX : World → CXT} {sp : World → PySem.W.Frag → Sp} {x : Str} {Pt : Addr}
    (hn : l.most = some n) (hn2 : n ≤ sizeLine) (hdf : d.params.defaults = []) (hr : Room k callerA)
    (hY : ∀ (w : World) (h : Heap), YP w h → (K w.params).In h ∧ h.get? Pt = some (PySem.W.tabObj #[]))
    (F : ∀ (w : World) (mg : Str → Option Value) (fa : Addr) (h : Heap), (K w.params).In h → h.Ns mainGlobals mg → XP mg h → mg d.name = some (.ref fa) →
      ∃ (fd : FuncData) (c : Addr), PySem.W.codeHdIn (K w.params) c Pt = true ∧ (K w.params).lookup Pt = none ∧ (∀ (s : Shared) (u : Value), BindsTo s fd ⟨[u], []⟩ [(x, u)]) ∧
        ∀ base : Heap, (K w.params).In base → base.Ns mainGlobals mg → base.BuiltinsAt mg Pt → FnOk l.prog w (K w.params) mg base (CX w) k fa fd [x] (sp w (K w.params)))
    (hsp : ∀ (w : World) (K : PySem.W.Frag) (H : Hp) (a : Addr) (ns : List Int), ns.length ≤ n → OnlyT Pt H → SqL K H a (ns.map V.int) → H Pt = some (.tbl #[]) → sp w K [.ref a] H (fun v _ => v = .bl true) fun _ _ _ => False)
    (hCX : ∀ (w : World) (H : Hp) (s : Shared) (e : Value) (s' : Shared), CX w [] H s (fun _ _ _ => False) e s' → False) :
    PySem.W.WalkO q loose XP YP l.row.toRowW d [] (fun f vs => PySem.call f vs) := by
  refine Att.attach_call hn hdf fun w s₀ s₁ mg mb fa o pm cd doc a vs ns G Y ho hd hcd hmg hobj hints hlen hg => ?_
  obtain ⟨KX, hP⟩ := hY w _ Y
  obtain ⟨fd, c, hC, hPK, hb, hF⟩ := F w mg fa _ KX G.T.g G.X hmg
  exact law_callT KX G.T.g G.T.b G.T.builtins G.T.nolimit hg G.T.bmain (PySem.W.codeHd_of_K KX hC) hP hPK hobj hints (Nat.le_trans hlen hn2) hr hF hb (fun H hO hS hT => hsp w (K w.params) H a ns hlen hO hS hT) fun H e s' => hCX w H s₁ e s'
end L2
namespace L2
open PySem PySem.Spec PyProof.Rows PySem.W
theorem exc_own {prog : Program} {w : World} {A : Around} {E : Value → Shared → Prop} {Q : Value → Shared → Prop} {s : Shared} {K : PySem.W.Frag} {a C d : Addr} {od : Obj} {f : Str} {v : Value} {vs : Array Value} {sl : Array (Option Value)} (c : XCls K C) (X : K.In s.heap) (e : s.heap.get? a = some (EO (some d) (.ref C) vs sl)) (hod : s.heap.get? d = some od)
    (hf : findObj K C (some od) f = some (.value v)) (hv : handedOut v = pure v) (q : Q v { s with toks := s.toks + 1 }) : wpAny (model prog w) A (getAttr (.ref a) f true) Q E s := by
  have I : PySem.W.InstAt s.heap a (EO (some d) (.ref C) vs sl) C (some od) := ⟨e, rfl, rfl, hod⟩
  obtain ⟨hh, g, dd, t, os⟩ := s
  have L0 := I.type (M := model prog w)
  have L1 := looks_findIn (M := model prog w) X c.ga
  have L2 := looks_findIn (M := model prog w) X c.gt
  have L3 := looks_find (M := model prog w) X I hf
  unfold getAttr getAttrBy
  refine wpAny_bind (wpAny_mkText (wpAny_holding (wpAny_bind (L0.at (wpAny_bind (L1.at ?_))))))
  show wpAny _ _ (getAttrByItsOwn _ _ _ _ _ _) _ _ _
  unfold getAttrByItsOwn
  refine wpAny_bind (L2.at (wpAny_bind (wpAny_attempt (wpAny_holding ?_))))
  show wpAny _ _ (boundAndCalled _ _ _) _ _ _
  unfold boundAndCalled
  have hbs : bindSpecial (.builtin "BaseException.__getattribute__") (.ref a) = pure (.builtin "BaseException.__getattribute__", [.ref a]) := by
    have hop : withoutEnding? "BaseException.__getattribute__" "#opaque" = none := by decide +kernel
    have hdat : withoutEnding? "BaseException.__getattribute__" "#data" = none := by decide +kernel
    have hk : builtinKind "BaseException.__getattribute__" = some .slot := by decide +kernel
    simp only [bindSpecial, typeOf, builtinType, hop, hdat, hk]; rfl
  rw [hbs]
  refine wpAny_bind (wpAny_pure ?_)
  have L4 := looks_subIn (M := model prog w) X c.sb
  refine wpAny_call (codeAny_call_builtin (by decide +kernel) F.entry_bexc_ga ?_)
  have hk : builtinKind "BaseException.__getattribute__" = some .slot := by decide +kernel
  have hsplit : splitId "BaseException.__getattribute__" = some ("BaseException", "__getattribute__") := by decide +kernel
  have ha := F.args_bexc_ga (.ref a) (.str f t)
  simp only [checkBuiltinCall, hk, hsplit]
  have LI : Looks (model prog w) hh (isInstance (.ref a) (.type "BaseException")) true := L0.andThen L4
  refine wpAny_bind (LI.at ?_)
  rw [if_neg (by decide)]
  refine wpAny_mono (Q := fun _ s' => s' = (⟨hh, g, dd, t + 1, os⟩ : Shared)) (E := fun _ _ => False) ?_ (fun _ s' z => ?_) (fun _ _ z => z.elim)
  · repeat (first | assumption | rfl | wp_step)
  · subst z
    unfold Builtin.«object.__getattribute__»
    refine wpAny_bind (wpAny_pure ?_)
    refine wpAny_bind (wpAny_pure ?_)
    refine wpAny_bind (L0.at (wpAny_bind (L3.at ?_)))
    show wpAny _ _ (ret v) _ _ _
    refine wpAny_pure ?_
    show wpAny _ _ (handedOut v) _ _ _
    rw [hv]
    exact wpAny_pure q
structure NoAttrX (K : PySem.W.Frag) (C : Addr) (f : Str) : Prop where
  no : PySem.W.findIn K (.ref C) f = some none
  cp : copiedNames.contains f = false
section
variable {X : Cx} {e : Expr} {f : Str} {pos : Pos} {ta : TE}
def tFldX (K : PySem.W.Frag) (ta : TE) (f : Str) : TE := fun σ H Q => ta σ H fun x H1 => ∃ a C d fs v, x = .ref a ∧ H1 a = some (excHo (some d) a (.ref C)) ∧ H1 d = some (.xd fs) ∧ XCls K C ∧ PySem.W.findIn K (.ref C) f = some none ∧ fs.lookup f = some v ∧ Q v H1
theorem pe_fldX (he : PE X e ta) (hb : attributeBase e f X.env (eval e X.env) = eval e X.env) : PE X (.Attribute e f pos) (tFldX X.K ta f) := by
  intro pins s σ H Q I h
  refine attr_of hb (thn (he pins s σ H _ I h) fun u s1 ⟨x, H1, I1, rx, a, C, d, fs, v, ex, ea, ed, c, n, l, q⟩ => ?_)
  subst ex
  obtain rfl : u = Value.ref a := rx
  obtain ⟨⟨vs, sl, ho⟩, _, _⟩ := (show ObjOk X.prog X.w H1 s1.heap a (excHo (some d) a (.ref C)) from I1.hok a _ ea)
  obtain ⟨mA, hN, r⟩ := (show ObjOk X.prog X.w H1 s1.heap d (.xd fs) from I1.hok d _ ed)
  obtain ⟨w, hw, rw'⟩ := RelO.some_of (v := v) (o := mA f) (by rw [← l]; exact r f)
  obtain ⟨od, hd, hl⟩ := lookIn_ns hN
  exact exc_own c I1.kIn ho hd (PySem.W.findObj_own c.hd n rfl (by rw [hl, hw])) (PySem.W.handedOut_of (handed_of rw')) ⟨v, H1, I1.tok _, rw', q⟩
end
end L2
namespace L2
open PySem PySem.Spec PyProof.Rows
section
variable {X : Cx} {k i : Nat} {x : Str} {p pos pos' : Pos}
def tCallV0 (X : Cx) (k i : Nat) : TE := fun σ H Q => ∃ f fd sp, σ[i]? = some (some (.ref f)) ∧ H f = some (LamO f fd) ∧ FnOk X.prog X.w X.K X.mg X.base (CXE X.prog X.w) k f fd [] sp ∧ Binds X.K fd [] [] ∧ sp [] H Q E0
theorem pe_callV0 (hN : X.N[i]? = some x) (hv : Vis X.env.scope x) (hr : Room k X.A) (hd : (x == ("__debug__" : Str)) = false := by decide) (hcd : (x == ("__classdict__" : Str)) = false := by decide) : PE X (.Call (.Name x p) [] [] pos) (tCallV0 X k i) := by
  intro pins s σ H Q I h
  obtain ⟨f, fd, sp, e1, hf, F, hb, hsp⟩ := h
  refine wpAny_Call_Name_kw (ld_var I hN hv e1 (fun u r => ?_) hd hcd)
  cases (show u = Value.ref f from r)
  obtain ⟨ho, _, _⟩ := I.hok f _ hf
  refine PySem.W.callWith_F0 ⟨_, _, _, _, ho⟩ ?_
  refine wpAny_call (codeAny_mono (F.run X.A X.stack s H ⟨[], []⟩ [] [] _ _ hr I.env0 (hb s [] I.kIn rfl) .nil hsp) fun r s' hq => ?_)
  cases r with
  | error e =>
    obtain ⟨a, C, dx, H', rfl, fl, ho, hg, U, ok, hE⟩ := hq
    exact False.elim hE
  | ok fl =>
    cases fl with
    | ret u => exact I.after hq
    | next => exact False.elim hq
    | brk => exact False.elim hq
    | cont => exact False.elim hq
theorem ps_tryN {body : List Stmt} {h₀ : ExceptHandler} {hs : List ExceptHandler} {tb : TS} (hb : PSs X.nox body tb) : PS X (.Try body (h₀ :: hs) [] [] pos) tb := by
  intro pins s σ H D I h
  refine wpAny_Try_except (wpAny_mono (hb pins s σ H D (I.wish _) h) (fun f s1 q => ?_) fun _ _ z => z.elim)
  have q' : SP X pins D f s1 := SP.unwish q
  cases f with
  | next => exact wpAny_pure q'
  | brk => exact q'
  | cont => exact q'
  | ret u => exact q'
theorem pe_fldXK {K : PySem.W.Frag} {e : Expr} {f : Str} {ta : TE} (hK : X.K = K) (he : PE X e ta) (hb : attributeBase e f X.env (eval e X.env) = eval e X.env) : PE X (.Attribute e f pos) (tFldX K ta f) := by subst hK; exact pe_fldX he hb
theorem PS.or {st : Stmt} {t1 t2 : TS} (h1 : PS X st t1) (h2 : PS X st t2) : PS X st (fun D σ H => t1 D σ H ∨ t2 D σ H) := fun pins s σ H D I h => h.elim (h1 pins s σ H D I) (h2 pins s σ H D I)
end
end L2
namespace MM
def Cg (n a b : Int) : Prop := n ∣ a - b
theorem Cg.refl (n a : Int) : Cg n a a := ⟨0, by omega⟩
theorem Cg.symm {n a b : Int} (h : Cg n a b) : Cg n b a := by
  obtain ⟨k, h⟩ := h; exact ⟨-k, by grind⟩
theorem Cg.trans {n a b c : Int} (h : Cg n a b) (g : Cg n b c) : Cg n a c := by
  obtain ⟨k, h⟩ := h; obtain ⟨l, g⟩ := g; exact ⟨k + l, by grind⟩
theorem Cg.mul {n a b c d : Int} (h : Cg n a b) (g : Cg n c d) : Cg n (a * c) (b * d) := by
  obtain ⟨k, h⟩ := h; obtain ⟨l, g⟩ := g; exact ⟨a * l + d * k, by grind⟩
theorem Cg.add {n a b c d : Int} (h : Cg n a b) (g : Cg n c d) : Cg n (a + c) (b + d) := by
  obtain ⟨k, h⟩ := h; obtain ⟨l, g⟩ := g; exact ⟨k + l, by grind⟩
theorem Cg.sub {n a b c d : Int} (h : Cg n a b) (g : Cg n c d) : Cg n (a - c) (b - d) := by
  obtain ⟨k, h⟩ := h; obtain ⟨l, g⟩ := g; exact ⟨k - l, by grind⟩
theorem Cg.pow {n a b : Int} (h : Cg n a b) (k : Nat) : Cg n (a ^ k) (b ^ k) := by
  induction k with
  | zero => rw [Int.pow_zero, Int.pow_zero]; exact Cg.refl _ _
  | succ k ih => rw [Int.pow_succ, Int.pow_succ]; exact ih.mul h
theorem cg_mod (n a : Int) : Cg n (a % n) a := ⟨-(a / n), by have := Int.emod_add_mul_ediv a n; grind⟩
theorem cg_eq {n a b : Int} (h : Cg n a b) : a % n = b % n := Int.emod_eq_emod_iff_emod_sub_eq_zero.mpr (Int.emod_eq_zero_of_dvd h)
theorem cg_of {n a b : Int} (h : a % n = b % n) : Cg n a b := Int.dvd_of_emod_eq_zero (Int.emod_eq_emod_iff_emod_sub_eq_zero.mp h)
theorem cg_self {n a b : Int} (h : Cg n a b) (h0 : 0 ≤ a) (h1 : a < n) : a = b % n := by
  have := cg_eq h; rw [Int.emod_eq_of_lt h0 h1] at this; exact this
structure PowInv (base often n done square left : Int) : Prop where
  d0 : 0 ≤ done
  d1 : done < n
  s0 : 0 ≤ square
  s1 : square < n
  l0 : 0 ≤ left
  cg : Cg n (done * square ^ left.toNat) (base ^ often.toNat)
theorem pow_start {base often n : Int} (hn : 0 < n) (ho : 0 ≤ often) : PowInv base often n (1 % n) (base % n) often :=
  ⟨Int.emod_nonneg _ (by omega), Int.emod_lt_of_pos _ hn, Int.emod_nonneg _ (by omega), Int.emod_lt_of_pos _ hn, ho, by
    have := (cg_mod n 1).mul ((cg_mod n base).pow often.toNat)
    rwa [Int.one_mul] at this⟩
theorem sq_pow (a : Int) (k : Nat) : (a * a) ^ k = a ^ (2 * k) := by
  induction k with
  | zero => simp
  | succ k ih => rw [Int.pow_succ, ih, show 2 * (k + 1) = 2 * k + 1 + 1 by omega, Int.pow_succ, Int.pow_succ, Int.mul_assoc]
theorem pow_even {base often n done square left : Int} (hn : 0 < n) (h : PowInv base often n done square left) (hl : left % 2 ≠ 1) : PowInv base often n done (square * square % n) (left / 2) := by
  refine ⟨h.d0, h.d1, Int.emod_nonneg _ (by omega), Int.emod_lt_of_pos _ hn, by have := h.l0; omega, ?_⟩
  have e : left.toNat = 2 * (left / 2).toNat := by have := h.l0; omega
  have := (Cg.refl n done).mul ((cg_mod n (square * square)).pow (left / 2).toNat)
  refine this.trans ?_
  rw [sq_pow, ← e]; exact h.cg
theorem pow_odd {base often n done square left : Int} (hn : 0 < n) (h : PowInv base often n done square left) (hl : left % 2 = 1) : PowInv base often n (done * square % n) (square * square % n) (left / 2) := by
  refine ⟨Int.emod_nonneg _ (by omega), Int.emod_lt_of_pos _ hn, Int.emod_nonneg _ (by omega), Int.emod_lt_of_pos _ hn, by have := h.l0; omega, ?_⟩
  have e : left.toNat = 2 * (left / 2).toNat + 1 := by have := h.l0; omega
  have := (cg_mod n (done * square)).mul ((cg_mod n (square * square)).pow (left / 2).toNat)
  refine this.trans ?_
  have e2 : done * square * (square * square) ^ (left / 2).toNat = done * square ^ left.toNat := by
    rw [e, sq_pow, Int.pow_succ]; grind
  rw [e2]; exact h.cg
theorem pow_end {base often n done square left : Int} (h : PowInv base often n done square left) (hl : ¬ 0 < left) : done = base ^ often.toNat % n := by
  have e : left.toNat = 0 := by omega
  have c := h.cg
  rw [e, Int.pow_zero, Int.mul_one] at c
  exact cg_self c h.d0 h.d1
structure GcdInv (a b great small : Int) : Prop where
  g0 : 0 ≤ great
  s0 : 0 ≤ small
  gb : great ≤ a.natAbs ∨ great ≤ b.natAbs
  sb : small ≤ b.natAbs
  gc : Nat.gcd great.toNat small.toNat = Int.gcd a b
theorem gcd_start (a b : Int) : GcdInv a b (if a < 0 then -a else a) (if b < 0 then -b else b) := by
  have e1 : (if a < 0 then -a else a) = (a.natAbs : Int) := by split <;> omega
  have e2 : (if b < 0 then -b else b) = (b.natAbs : Int) := by split <;> omega
  rw [e1, e2]
  exact ⟨by omega, by omega, .inl (Int.le_refl _), Int.le_refl _, by simp [Int.gcd]⟩
theorem gcd_turn {a b great small : Int} (h : GcdInv a b great small) (hs : 0 < small) : GcdInv a b small (great % small) := by
  have h0 := h.g0
  have l1 := Int.emod_lt_of_pos great hs
  have l2 := Int.emod_nonneg great (show small ≠ 0 by omega)
  have sb := h.sb
  refine ⟨h.s0, l2, .inr h.sb, by omega, ?_⟩
  have e : (great % small).toNat = great.toNat % small.toNat := Int.toNat_emod h.g0 h.s0
  rw [e, ← h.gc, Nat.gcd_comm small.toNat, ← Nat.gcd_rec, Nat.gcd_comm]
theorem gcd_end {a b great small : Int} (h : GcdInv a b great small) (hs : ¬ 0 < small) : great = Int.gcd a b := by
  have s0 := h.s0
  have g0 := h.g0
  have e : small.toNat = 0 := by omega
  have c := h.gc
  rw [e, Nat.gcd_zero_right] at c
  omega
structure UndInv (a n great gt small st : Int) : Prop where
  g0 : 0 < great
  g1 : great ≤ n
  s0 : 0 ≤ small
  s1 : small ≤ n
  cg : Cg n great (gt * a)
  cs : Cg n small (st * a)
  gc : Nat.gcd great.toNat small.toNat = Int.gcd a n
  bd : great * st.natAbs + small * gt.natAbs ≤ n
def IsPr (n : Int) : Prop := 2 ≤ n ∧ ∀ d, 2 ≤ d → d * d ≤ n → n % d ≠ 0
noncomputable def isPrB (n : Int) : Bool := @decide (IsPr n) (Classical.propDecidable _)
theorem isPrB_iff {n : Int} : isPrB n = true ↔ IsPr n := by unfold isPrB; exact @decide_eq_true_iff _ (Classical.propDecidable _)
theorem isPrB_of {n : Int} (h : IsPr n) : isPrB n = true := isPrB_iff.mpr h
theorem isPrB_not {n : Int} (h : ¬ IsPr n) : isPrB n = false := by
  cases e : isPrB n with
  | false => rfl
  | true => exact absurd (isPrB_iff.mp e) h
theorem sq_mono {a b : Int} (h0 : 0 ≤ a) (h : a ≤ b) : a * a ≤ b * b := Int.mul_le_mul h h h0 (by omega)
theorem pr_all {n : Int} (h : IsPr n) {d : Int} (h2 : 2 ≤ d) (hd : d < n) : n % d ≠ 0 := by
  intro e
  by_cases hs : d * d ≤ n
  · exact h.2 d h2 hs e
  · obtain ⟨k, hk⟩ := Int.dvd_of_emod_eq_zero e
    have n2 := h.1
    have k1 : 0 < k := by
      by_cases hk0 : 0 < k
      · exact hk0
      · have : d * k ≤ 0 := Int.mul_nonpos_of_nonneg_of_nonpos (by omega) (by omega)
        omega
    have k2 : 2 ≤ k := by
      by_cases k2 : 2 ≤ k
      · exact k2
      · have : k = 1 := by omega
        subst this
        omega
    have kd : k < d := by
      by_cases kd : k < d
      · exact kd
      · have := Int.mul_le_mul_of_nonneg_left (show d ≤ k by omega) (show 0 ≤ d by omega)
        omega
    refine h.2 k k2 ?_ ?_
    · have := Int.mul_le_mul_of_nonneg_right (show k ≤ d by omega) (show 0 ≤ k by omega)
      omega
    · rw [hk, Int.mul_emod_left]
theorem pr_dvd {n : Int} (h : IsPr n) {d : Int} (h2 : 2 ≤ d) (hd : d ∣ n) : d = n := by
  have n2 := h.1
  have hle : d ≤ n := Int.le_of_dvd (by omega) hd
  by_cases e : d = n
  · exact e
  · exact absurd (Int.emod_eq_zero_of_dvd hd) (pr_all h h2 (by omega))
theorem pr_coprime {p : Nat} (h : IsPr p) {k : Nat} (hk : ¬ p ∣ k) : Nat.Coprime p k := by
  have hg : Nat.gcd p k = 1 := by
    have hd := Nat.gcd_dvd_left p k
    have p2 := h.1
    by_cases g2 : 2 ≤ Nat.gcd p k
    · have : ((Nat.gcd p k : Nat) : Int) = p := pr_dvd h (by omega) (Int.natCast_dvd_natCast.mpr hd)
      have e : Nat.gcd p k = p := by omega
      exact absurd (e ▸ Nat.gcd_dvd_right p k) hk
    · have : 0 < Nat.gcd p k := Nat.gcd_pos_of_pos_left _ (by omega)
      omega
  exact hg
theorem pr_euclid {p : Nat} (h : IsPr p) {a b : Nat} (hd : p ∣ a * b) (ha : ¬ p ∣ a) : p ∣ b := (pr_coprime h ha).dvd_of_dvd_mul_left hd
def ch : Nat → Nat → Nat
  | _, 0 => 1
  | 0, _ + 1 => 0
  | n + 1, k + 1 => ch n k + ch n (k + 1)
theorem ch_zero (n : Nat) : ch n 0 = 1 := by cases n <;> rfl
theorem ch_succ (n k : Nat) : ch (n + 1) (k + 1) = ch n k + ch n (k + 1) := rfl
theorem ch_above : ∀ (n k : Nat), n < k → ch n k = 0
  | 0, k + 1, _ => rfl
  | n + 1, k + 1, h => by rw [ch_succ, ch_above n k (by omega), ch_above n (k + 1) (by omega)]
theorem ch_self : ∀ n, ch n n = 1
  | 0 => rfl
  | n + 1 => by rw [ch_succ, ch_self n, ch_above n (n + 1) (by omega)]
theorem ch_mul (n : Nat) : ∀ k, (k + 1) * ch (n + 1) (k + 1) = (n + 1) * ch n k := by
  induction n with
  | zero =>
    intro k
    cases k with
    | zero => rfl
    | succ k => rw [ch_above 1 (k + 2) (by omega), ch_above 0 (k + 1) (by omega)]; omega
  | succ n ih =>
    intro k
    rw [ch_succ (n + 1) k, Nat.mul_add, ih k]
    cases k with
    | zero => rw [ch_zero, ch_zero]; omega
    | succ j =>
      have := ih j
      have e := ch_succ n j
      rw [e] at this ⊢
      grind
def bi (a : Int) (n : Nat) : Nat → Int
  | 0 => 0
  | m + 1 => bi a n m + (ch n m : Int) * a ^ m
theorem bi_step (a : Int) (n : Nat) : ∀ m, bi a (n + 1) (m + 1) = bi a n (m + 1) + a * bi a n m
  | 0 => by simp [bi, ch_zero]
  | m + 1 => by
    rw [show bi a (n + 1) (m + 1 + 1) = bi a (n + 1) (m + 1) + (ch (n + 1) (m + 1) : Int) * a ^ (m + 1) from rfl, bi_step a n m, ch_succ,
      show bi a n (m + 1 + 1) = bi a n (m + 1) + (ch n (m + 1) : Int) * a ^ (m + 1) from rfl, show bi a n (m + 1) = bi a n m + (ch n m : Int) * a ^ m from rfl, Int.pow_succ, Int.natCast_add]
    grind
theorem bi_all (a : Int) : ∀ n : Nat, (a + 1) ^ n = bi a n (n + 1)
  | 0 => by simp [bi, ch_zero]
  | n + 1 => by
    rw [bi_step, show bi a n (n + 1 + 1) = bi a n (n + 1) + (ch n (n + 1) : Int) * a ^ (n + 1) from rfl, ch_above n (n + 1) (by omega), Int.pow_succ, bi_all a n]
    grind
theorem pr_ch {p : Nat} (h : IsPr p) {k : Nat} (h0 : 0 < k) (hk : k < p) : p ∣ ch p k := by
  obtain ⟨n, rfl⟩ : ∃ n, p = n + 1 := ⟨p - 1, by omega⟩
  obtain ⟨j, rfl⟩ : ∃ j, k = j + 1 := ⟨k - 1, by omega⟩
  refine pr_euclid h (a := j + 1) ⟨ch n j, ch_mul n j⟩ fun hd => ?_
  have := Nat.le_of_dvd (by omega) hd
  omega
theorem bi_pr {p : Nat} (h : IsPr p) (a : Int) : ∀ m, m < p → Cg p (bi a p (m + 1)) 1
  | 0, _ => by
    have : bi a p 1 = 1 := by simp [bi, ch_zero]
    rw [this]; exact Cg.refl _ _
  | m + 1, hm => by
    have h1 := bi_pr h a m (by omega)
    obtain ⟨c, hc⟩ := pr_ch h (k := m + 1) (by omega) hm
    have h2 : Cg p ((ch p (m + 1) : Int) * a ^ (m + 1)) 0 := ⟨c * a ^ (m + 1), by rw [hc, Int.natCast_mul]; grind⟩
    have := h1.add h2
    rwa [Int.add_zero] at this
theorem fermat_nat {p : Nat} (h : IsPr p) : ∀ a : Nat, Cg p ((a : Int) ^ p) a
  | 0 => by
    have p2 := h.1
    have : ((0 : Nat) : Int) ^ p = 0 := Int.zero_pow (by omega)
    rw [this]; exact Cg.refl _ _
  | a + 1 => by
    have ih := fermat_nat h a
    have p2 := h.1
    obtain ⟨n, hn⟩ : ∃ n, p = n + 1 := ⟨p - 1, by omega⟩
    have e : ((a + 1 : Nat) : Int) ^ p = bi a p p + (a : Int) ^ p := by
      rw [Int.natCast_add, show ((1 : Nat) : Int) = 1 from rfl, bi_all, show bi (a : Int) p (p + 1) = bi a p p + (ch p p : Int) * (a : Int) ^ p from rfl, ch_self]
      grind
    have e2 := bi_pr h a n (by omega)
    rw [← hn] at e2
    rw [e]
    have := e2.add ih
    rwa [Int.add_comm 1] at this
theorem fermat {p : Int} (h : IsPr p) (a : Int) : Cg p (a ^ p.toNat) a := by
  have p2 := h.1
  obtain ⟨q, rfl⟩ := Int.eq_ofNat_of_zero_le (show 0 ≤ p by omega)
  have h1 := fermat_nat h (a % q).toNat
  have e : (((a % (q : Int)).toNat : Nat) : Int) = a % q := Int.toNat_of_nonneg (Int.emod_nonneg _ (by omega))
  rw [e] at h1
  rw [Int.toNat_natCast]
  exact ((cg_mod (q : Int) a).symm.pow q).trans (h1.trans (cg_mod _ a))
end MM
namespace MM
def prod : List (Int × Int) → Int
  | [] => 1
  | q :: r => q.1 ^ q.2.toNat * prod r
theorem prod_append (l r : List (Int × Int)) : prod (l ++ r) = prod l * prod r := by
  induction l with
  | nil => simp [prod]
  | cons q l ih => rw [List.cons_append, prod, prod, ih, Int.mul_assoc]
structure PartsOk (l : List (Int × Int)) : Prop where
  pr : ∀ q ∈ l, IsPr q.1 ∧ 1 ≤ q.2
  up : l.Pairwise fun a b => a.1 < b.1
def Parts (n : Int) (l : List (Int × Int)) : Prop := PartsOk l ∧ prod l = n
theorem pow_ge {p : Int} (h : 2 ≤ p) (k : Nat) : (2 : Int) ^ k ≤ p ^ k := by
  induction k with
  | zero => simp
  | succ k ih =>
    rw [Int.pow_succ, Int.pow_succ]
    exact Int.mul_le_mul ih h (by decide) (Int.pow_nonneg (by omega))
theorem pow_pos' {p : Int} (h : 1 ≤ p) (k : Nat) : 1 ≤ p ^ k := by
  induction k with
  | zero => simp
  | succ k ih =>
    rw [Int.pow_succ]
    have := Int.mul_le_mul_of_nonneg_right ih (show 0 ≤ p by omega)
    omega
theorem two_le_pow {p : Int} (h : 2 ≤ p) {k : Nat} (hk : 1 ≤ k) : 2 ≤ p ^ k := by
  obtain ⟨j, rfl⟩ : ∃ j, k = j + 1 := ⟨k - 1, by omega⟩
  rw [Int.pow_succ]
  have h1 := pow_pos' (show 1 ≤ p by omega) j
  have := Int.mul_le_mul_of_nonneg_right h1 (show 0 ≤ p by omega)
  omega
theorem prod_ge {l : List (Int × Int)} (h : ∀ q ∈ l, IsPr q.1 ∧ 1 ≤ q.2) : (2 : Int) ^ l.length ≤ prod l := by
  induction l with
  | nil => simp [prod]
  | cons q l ih =>
    have h1 := ih fun x hx => h x (List.mem_cons_of_mem _ hx)
    have h2 := h q List.mem_cons_self
    have h3 : 2 ≤ q.1 ^ q.2.toNat := two_le_pow h2.1.1 (by omega)
    rw [List.length_cons, Int.pow_succ, prod, Int.mul_comm]
    exact Int.mul_le_mul h3 h1 (Int.pow_nonneg (by decide)) (by omega)
theorem parts_len {l : List (Int × Int)} (h : ∀ q ∈ l, IsPr q.1 ∧ 1 ≤ q.2) (hn : prod l ≤ 10 ^ 9) : l.length < 30 := by
  refine Classical.byContradiction fun hc => ?_
  have h1 := prod_ge h
  have h2 : (2 : Int) ^ 30 ≤ 2 ^ l.length := by
    obtain ⟨k, hk⟩ : ∃ k, l.length = 30 + k := ⟨l.length - 30, by omega⟩
    rw [hk, Int.pow_add]
    have := pow_pos' (show (1 : Int) ≤ 2 by decide) k
    have := Int.mul_le_mul_of_nonneg_left this (show (0 : Int) ≤ 2 ^ 30 by decide)
    omega
  have h3 : (2 : Int) ^ 30 = 1073741824 := by decide
  omega
theorem prod_pos {l : List (Int × Int)} (h : ∀ q ∈ l, IsPr q.1 ∧ 1 ≤ q.2) : 1 ≤ prod l := by
  have := prod_ge h
  have := pow_pos' (show (1 : Int) ≤ 2 by decide) l.length
  omega
structure DivInv (l0 t left o : Int) : Prop where
  l1 : 1 ≤ left
  o0 : 0 ≤ o
  eq : l0 = left * t ^ o.toNat
theorem div_start {l0 t : Int} (h : 1 ≤ l0) : DivInv l0 t l0 0 := ⟨h, Int.le_refl _, by simp⟩
theorem div_turn {l0 t left o : Int} (ht : 2 ≤ t) (h : DivInv l0 t left o) (hd : left % t = 0) : DivInv l0 t (left / t) (o + 1) ∧ left / t < left := by
  have l1 := h.l1
  obtain ⟨k, hk⟩ := Int.dvd_of_emod_eq_zero hd
  have e : left / t = k := by rw [hk, Int.mul_ediv_cancel_left _ (by omega)]
  have k1 : 1 ≤ k := by
    refine Classical.byContradiction fun hc => ?_
    have : t * k ≤ 0 := Int.mul_nonpos_of_nonneg_of_nonpos (by omega) (by omega)
    omega
  rw [e]
  have o0 := h.o0
  refine ⟨⟨k1, by omega, ?_⟩, ?_⟩
  · have e2 : (o + 1).toNat = o.toNat + 1 := by omega
    rw [h.eq, e2, Int.pow_succ, hk]
    grind
  · have := Int.mul_le_mul_of_nonneg_right ht (show 0 ≤ k by omega)
    omega
theorem div_le {l0 t left o : Int} (ht : 2 ≤ t) (h : DivInv l0 t left o) : left ≤ l0 := by
  have := pow_pos' (show 1 ≤ t by omega) o.toNat
  have l1 := h.l1
  have := Int.mul_le_mul_of_nonneg_left this (show 0 ≤ left by omega)
  have e := h.eq
  omega
theorem div_dvd {l0 t left o : Int} (h : DivInv l0 t left o) : left ∣ l0 := ⟨t ^ o.toNat, h.eq⟩
theorem not_dvd_of {a b d : Int} (h : a ∣ b) (hb : b % d ≠ 0) : a % d ≠ 0 := fun e => hb (Int.emod_eq_zero_of_dvd (Int.dvd_trans (Int.dvd_of_emod_eq_zero e) h))
def LpEnd (n s r : Int) : Prop := (r = n ∧ ∀ d, s ≤ d → d * d ≤ n → n % d ≠ 0) ∨ (s ≤ r ∧ r * r ≤ n ∧ n % r = 0 ∧ ∀ d, s ≤ d → d < r → n % d ≠ 0)
theorem lp_next {n s r : Int} (hn : 1 < n) (hs : 2 ≤ s) (hb : ∀ d, 2 ≤ d → d < s → n % d ≠ 0) (h : LpEnd n s r) : IsPr r ∧ s ≤ r ∧ r ≤ n ∧ n % r = 0 ∧ ∀ d, 2 ≤ d → d < r → n % d ≠ 0 := by
  have sn : s ≤ n := by
    refine Classical.byContradiction fun hc => hb n (by omega) (by omega) (Int.emod_self ..)
  have pr_of : ∀ r, 2 ≤ r → n % r = 0 → (∀ d, 2 ≤ d → d < r → n % d ≠ 0) → IsPr r := fun r h2 hd ha => ⟨h2, fun d d2 dd e => by
    have dr : d < r := by
      have := Int.mul_le_mul_of_nonneg_right d2 (show 0 ≤ d by omega)
      omega
    exact ha d d2 dr (Int.emod_eq_zero_of_dvd (Int.dvd_trans (Int.dvd_of_emod_eq_zero e) (Int.dvd_of_emod_eq_zero hd)))⟩
  rcases h with ⟨rfl, h⟩ | ⟨h1, h2, h3, h4⟩
  · have p : IsPr r := ⟨by omega, fun d d2 dd => by
      by_cases ds : d < s
      · exact hb d d2 ds
      · exact h d (by omega) dd⟩
    exact ⟨p, sn, Int.le_refl _, Int.emod_self .., fun d d2 dr => pr_all p d2 dr⟩
  · have all : ∀ d, 2 ≤ d → d < r → n % d ≠ 0 := fun d d2 dr => by
      by_cases ds : d < s
      · exact hb d d2 ds
      · exact h4 d (by omega) dr
    refine ⟨pr_of r (by omega) h3 all, h1, ?_, h3, all⟩
    exact Int.le_of_dvd (by omega) (Int.dvd_of_emod_eq_zero h3)
structure PtInv (n : Int) (l : List (Int × Int)) (left t : Int) : Prop where
  l1 : 1 ≤ left
  t2 : 2 ≤ t
  eq : n = prod l * left
  lo : ∀ d, 2 ≤ d → d < t → left % d ≠ 0
  ok : PartsOk l
  le : ∀ q ∈ l, q.1 ≤ t ∧ left % q.1 ≠ 0
theorem pt_start {n : Int} (h : 1 ≤ n) : PtInv n [] n 2 := ⟨h, by omega, by simp [prod], fun d a b => by omega, ⟨fun _ h => (by cases h), List.Pairwise.nil⟩, fun _ h => (by cases h)⟩
theorem pt_le {n : Int} {l : List (Int × Int)} {left t : Int} (h : PtInv n l left t) : left ≤ n := by
  have p := prod_pos h.ok.pr
  have l1 := h.l1
  have := Int.mul_le_mul_of_nonneg_right p (show 0 ≤ left by omega)
  have e := h.eq
  omega
theorem pt_turn {n : Int} {l : List (Int × Int)} {left t r left' o : Int} (h : PtInv n l left t) (pr : IsPr r) (tr : t ≤ r) (rd : left % r = 0) (ra : ∀ d, 2 ≤ d → d < r → left % d ≠ 0) (D : DivInv left r left' o) (hd : left' % r ≠ 0) : PtInv n (l ++ [(r, o)]) left' r ∧ 1 ≤ o ∧ left' < left := by
  have o1 : 1 ≤ o := by
    refine Classical.byContradiction fun hc => ?_
    have o0 := D.o0
    have : o = 0 := by omega
    subst this
    have e := D.eq
    simp at e
    rw [← e] at hd
    exact hd rd
  have lt : left' < left := by
    have h2 := two_le_pow pr.1 (show 1 ≤ o.toNat by omega)
    have l1 := D.l1
    have := Int.mul_le_mul_of_nonneg_left h2 (show 0 ≤ left' by omega)
    have e := D.eq
    omega
  refine ⟨⟨D.l1, pr.1, ?_, fun d a b => not_dvd_of (div_dvd D) (ra d a b), ⟨?_, ?_⟩, ?_⟩, o1, lt⟩
  · rw [prod_append, h.eq, D.eq]; simp only [prod]; grind
  · intro q hq
    rcases List.mem_append.mp hq with hq | hq
    · exact h.ok.pr q hq
    · rw [List.mem_singleton.mp hq]; exact ⟨pr, o1⟩
  · rw [List.pairwise_append]
    refine ⟨h.ok.up, List.pairwise_singleton .., fun a ha b hb => ?_⟩
    rw [List.mem_singleton.mp hb]
    have ⟨a1, a2⟩ := h.le a ha
    refine Classical.byContradiction fun hc => ?_
    have : a.1 = r := by
      show a.1 = r
      have : ¬ a.1 < r := hc
      omega
    rw [this] at a2
    exact a2 rd
  · intro q hq
    rcases List.mem_append.mp hq with hq | hq
    · have ⟨a1, a2⟩ := h.le q hq
      exact ⟨by omega, not_dvd_of (div_dvd D) a2⟩
    · rw [List.mem_singleton.mp hq]; exact ⟨Int.le_refl _, hd⟩
theorem pt_end {n : Int} {l : List (Int × Int)} {left t : Int} (h : PtInv n l left t) (he : ¬ 1 < left) : Parts n l := by
  have l1 := h.l1
  have : left = 1 := by omega
  refine ⟨h.ok, ?_⟩
  rw [h.eq, this, Int.mul_one]
structure LtInv (n : Int) (l : List (Int × Int)) (left t : Int) : Prop where
  l1 : 1 ≤ left
  t2 : 2 ≤ t
  eq : n = prod l * left
  lo : ∀ d, 2 ≤ d → d < t → left % d ≠ 0
  ok : PartsOk l
  le : ∀ q ∈ l, q.1 < t
  tb : 1 < left → t ≤ left
theorem lt_start {n : Int} (h : 1 ≤ n) : LtInv n [] n 2 := ⟨h, by omega, by simp [prod], fun d a b => by omega, ⟨fun _ h => (by cases h), List.Pairwise.nil⟩, fun _ h => (by cases h), fun h => by omega⟩
theorem lt_le {n : Int} {l : List (Int × Int)} {left t : Int} (h : LtInv n l left t) : left ≤ n := by
  have p := prod_pos h.ok.pr
  have l1 := h.l1
  have := Int.mul_le_mul_of_nonneg_right p (show 0 ≤ left by omega)
  have e := h.eq
  omega
theorem tb_of {left t : Int} (h : ∀ d, 2 ≤ d → d < t → left % d ≠ 0) (h1 : 1 < left) : t ≤ left := by
  refine Classical.byContradiction fun hc => h left (by omega) (by omega) (Int.emod_self ..)
theorem lt_jump {n : Int} {l : List (Int × Int)} {left t : Int} (h : LtInv n l left t) (h1 : 1 < left) (hs : t * t > left) : LtInv n l left left ∧ IsPr left := by
  have p : IsPr left := ⟨by omega, fun d d2 dd => h.lo d d2 (by
    refine Classical.byContradiction fun hc => ?_
    have := sq_mono (show 0 ≤ t by have := h.t2; omega) (show t ≤ d by omega)
    omega)⟩
  have := h.tb h1
  exact ⟨⟨h.l1, by omega, h.eq, fun d a b => pr_all p a b, h.ok, fun q hq => by have := h.le q hq; omega, fun _ => Int.le_refl _⟩, p⟩
theorem lt_turn {n : Int} {l : List (Int × Int)} {left t left' o : Int} (h : LtInv n l left t) (D : DivInv left t left' o) (hd : left' % t ≠ 0) : LtInv n (if 0 < o then l ++ [(t, o)] else l) left' (t + 1) ∧ left' ≤ left := by
  have hle := div_le h.t2 D
  have lo' : ∀ d, 2 ≤ d → d < t + 1 → left' % d ≠ 0 := fun d a b => by
    by_cases e : d = t
    · rw [e]; exact hd
    · exact not_dvd_of (div_dvd D) (h.lo d a (by omega))
  by_cases o0 : 0 < o
  · rw [if_pos o0]
    have td : left % t = 0 := by
      have e := D.eq
      obtain ⟨j, hj⟩ : ∃ j, o.toNat = j + 1 := ⟨o.toNat - 1, by omega⟩
      refine Int.emod_eq_zero_of_dvd ⟨left' * t ^ j, ?_⟩
      rw [e, hj, Int.pow_succ]; grind
    have pr : IsPr t := ⟨h.t2, fun d d2 dd e => by
      have t2 := h.t2
      have dr : d < t := by
        have := Int.mul_le_mul_of_nonneg_right d2 (show 0 ≤ d by omega)
        omega
      exact h.lo d d2 dr (Int.emod_eq_zero_of_dvd (Int.dvd_trans (Int.dvd_of_emod_eq_zero e) (Int.dvd_of_emod_eq_zero td)))⟩
    refine ⟨⟨D.l1, by have := h.t2; omega, ?_, lo', ⟨?_, ?_⟩, ?_, tb_of lo'⟩, hle⟩
    · rw [prod_append, h.eq, D.eq]; simp only [prod]; grind
    · intro q hq
      rcases List.mem_append.mp hq with hq | hq
      · exact h.ok.pr q hq
      · rw [List.mem_singleton.mp hq]; exact ⟨pr, by show 1 ≤ o; omega⟩
    · rw [List.pairwise_append]
      refine ⟨h.ok.up, List.pairwise_singleton .., fun a ha b hb => ?_⟩
      rw [List.mem_singleton.mp hb]
      exact h.le a ha
    · intro q hq
      rcases List.mem_append.mp hq with hq | hq
      · have := h.le q hq; omega
      · rw [List.mem_singleton.mp hq]; show t < t + 1; omega
  · rw [if_neg o0]
    have : o = 0 := by have := D.o0; omega
    subst this
    have e := D.eq
    simp at e
    subst e
    exact ⟨⟨D.l1, by have := h.t2; omega, h.eq, lo', h.ok, fun q hq => by have := h.le q hq; omega, tb_of lo'⟩, hle⟩
theorem lt_end {n : Int} {l : List (Int × Int)} {left t : Int} (h : LtInv n l left t) (he : ¬ 1 < left) : Parts n l := by
  have l1 := h.l1
  have : left = 1 := by omega
  refine ⟨h.ok, ?_⟩
  rw [h.eq, this, Int.mul_one]
def tryB (n : Nat) : Nat → Nat → Bool
  | 0, _ => true
  | k + 1, d => decide (n % d ≠ 0) && tryB n k (d + 1)
theorem tryB_ok {n : Nat} : ∀ (k d : Nat), tryB n k d = true → ∀ e, d ≤ e → e < d + k → n % e ≠ 0
  | 0, d, _, e, h1, h2 => by omega
  | k + 1, d, h, e, h1, h2 => by
    simp only [tryB, Bool.and_eq_true, decide_eq_true_eq] at h
    by_cases q : e = d
    · rw [q]; exact h.1
    · exact tryB_ok k (d + 1) h.2 e (by omega) (by omega)
theorem pr_try {n k : Nat} (h2 : 2 ≤ n) (hk : n < (k + 2) * (k + 2)) (h : tryB n k 2 = true) : IsPr n := by
  refine ⟨by omega, fun d d2 dd => ?_⟩
  obtain ⟨e, rfl⟩ := Int.eq_ofNat_of_zero_le (show 0 ≤ d by omega)
  have he : e < 2 + k := by
    refine Classical.byContradiction fun hc => ?_
    have : (k + 2) * (k + 2) ≤ e * e := Nat.mul_le_mul (by omega) (by omega)
    have : e * e ≤ n := by exact_mod_cast dd
    omega
  have := tryB_ok k 2 h e (by omega) he
  intro z
  apply this
  have z' : ((n % e : Nat) : Int) = 0 := by rw [Int.natCast_emod]; exact z
  omega
end MM
namespace MM
theorem mul_pow' (a b : Int) (k : Nat) : (a * b) ^ k = a ^ k * b ^ k := by
  induction k with
  | zero => simp
  | succ k ih => rw [Int.pow_succ, Int.pow_succ, Int.pow_succ, ih]; grind
theorem pow_pow' (a : Int) (x y : Nat) : (a ^ x) ^ y = (a ^ y) ^ x := by
  rw [← Int.pow_mul, ← Int.pow_mul, Nat.mul_comm]
theorem m1 {a x y n : Int} (hx : 0 ≤ x) (hy : 0 ≤ y) : a ^ x.toNat % n * (a ^ y.toNat % n) % n = a ^ (x + y).toNat % n := by
  have e : (x + y).toNat = x.toNat + y.toNat := by omega
  rw [e, Int.pow_add]
  exact cg_eq ((cg_mod n _).mul (cg_mod n _))
theorem m2 (a b : Int) (x : Nat) (n : Int) : (a * b) ^ x % n = a ^ x % n * (b ^ x % n) % n := by
  rw [mul_pow']
  exact cg_eq ((cg_mod n _).mul (cg_mod n _)).symm
theorem m3 (a : Int) (x y : Nat) (n : Int) : (a ^ x % n) ^ y % n = (a ^ y % n) ^ x % n := by
  have h1 := (cg_mod n (a ^ x)).pow y
  have h2 := (cg_mod n (a ^ y)).pow x
  rw [pow_pow'] at h1
  exact cg_eq (h1.trans h2.symm)
theorem parts_le {n : Int} {l : List (Int × Int)} (h : Parts n l) {q : Int × Int} (hq : q ∈ l) : q.1 ≤ n ∧ q.2 ≤ n := by
  obtain ⟨ok, e⟩ := h
  obtain ⟨a, b, rfl⟩ := List.append_of_mem hq
  have h1 := ok.pr q hq
  have pa := prod_pos (l := a) fun x hx => ok.pr x (List.mem_append_left _ hx)
  have pb := prod_pos (l := b) fun x hx => ok.pr x (List.mem_append_right _ (List.mem_cons_of_mem _ hx))
  rw [prod_append, prod] at e
  have q2 := h1.1.1
  have hp : q.1 ≤ q.1 ^ q.2.toNat ∧ q.2 ≤ q.1 ^ q.2.toNat := by
    obtain ⟨j, hj⟩ : ∃ j, q.2.toNat = j + 1 := ⟨q.2.toNat - 1, by omega⟩
    have hq2 : q.2 = ((j : Nat) : Int) + 1 := by omega
    rw [hj]
    have hj1 : ∀ j : Nat, ((j : Nat) : Int) + 1 ≤ q.1 ^ j := by
      intro j
      induction j with
      | zero => simp
      | succ j ih =>
        rw [Int.pow_succ]
        have := Int.mul_le_mul ih q2 (by decide) (Int.pow_nonneg (by omega))
        omega
    constructor
    · rw [Int.pow_succ]
      have := Int.mul_le_mul_of_nonneg_right (pow_pos' (show 1 ≤ q.1 by omega) j) (show 0 ≤ q.1 by omega)
      omega
    · have := hj1 (j + 1)
      omega
  have h2 : q.1 ^ q.2.toNat ≤ q.1 ^ q.2.toNat * prod b := by
    have := Int.mul_le_mul_of_nonneg_left pb (show 0 ≤ q.1 ^ q.2.toNat by omega)
    omega
  have h3 : q.1 ^ q.2.toNat * prod b ≤ prod a * (q.1 ^ q.2.toNat * prod b) := by
    have := Int.mul_le_mul_of_nonneg_right pa (show 0 ≤ q.1 ^ q.2.toNat * prod b by omega)
    omega
  omega
end MM
namespace MM
theorem pr_int_euclid {p a b : Int} (h : IsPr p) (hd : p ∣ a * b) : p ∣ a ∨ p ∣ b := by
  have p2 := h.1
  obtain ⟨q, rfl⟩ := Int.eq_ofNat_of_zero_le (show 0 ≤ p by omega)
  have hd' : q ∣ a.natAbs * b.natAbs := by
    have := Int.natAbs_dvd_natAbs.mpr hd
    rwa [Int.natAbs_mul] at this
  by_cases ha : q ∣ a.natAbs
  · left; exact Int.natAbs_dvd_natAbs.mp ha
  · right; exact Int.natAbs_dvd_natAbs.mp (pr_euclid h hd' ha)
theorem pr_dvd_pow {p a : Int} (h : IsPr p) {k : Nat} (hd : p ∣ a ^ k) : p ∣ a := by
  induction k with
  | zero =>
    have := Int.le_of_dvd (by decide) (by simpa using hd : p ∣ 1)
    have := h.1
    omega
  | succ k ih =>
    rw [Int.pow_succ] at hd
    rcases pr_int_euclid h hd with z | z
    · exact ih z
    · exact z
theorem pr_dvd_pr {p q : Int} (hp : IsPr p) (hq : IsPr q) (hd : p ∣ q) : p = q := pr_dvd hq hp.1 hd
theorem pr_dvd_prod {p : Int} (h : IsPr p) : ∀ {l : List (Int × Int)}, (∀ q ∈ l, IsPr q.1 ∧ 1 ≤ q.2) → p ∣ prod l → ∃ q ∈ l, q.1 = p
  | [], _, hd => by
    have := Int.le_of_dvd (by decide) (by simpa [prod] using hd : p ∣ 1)
    have := h.1
    omega
  | q :: r, hl, hd => by
    rw [prod] at hd
    rcases pr_int_euclid h hd with z | z
    · exact ⟨q, List.mem_cons_self, (pr_dvd_pr h (hl q List.mem_cons_self).1 (pr_dvd_pow h z)).symm⟩
    · obtain ⟨x, hx, e⟩ := pr_dvd_prod h (fun x hx => hl x (List.mem_cons_of_mem _ hx)) z
      exact ⟨x, List.mem_cons_of_mem _ hx, e⟩
theorem pow_dvd_self {p : Int} {k : Int} (hk : 1 ≤ k) : p ∣ p ^ k.toNat := by
  obtain ⟨j, hj⟩ : ∃ j, k.toNat = j + 1 := ⟨k.toNat - 1, by omega⟩
  rw [hj, Int.pow_succ]
  exact Int.dvd_mul_left ..
theorem mem_dvd_prod {l : List (Int × Int)} (hl : ∀ q ∈ l, IsPr q.1 ∧ 1 ≤ q.2) {q : Int × Int} (hq : q ∈ l) : q.1 ∣ prod l := by
  induction l with
  | nil => cases hq
  | cons x r ih =>
    rw [prod]
    rcases List.mem_cons.mp hq with rfl | hq
    · exact Int.dvd_trans (pow_dvd_self (hl _ List.mem_cons_self).2) (Int.dvd_mul_right ..)
    · exact Int.dvd_trans (ih (fun x hx => hl x (List.mem_cons_of_mem _ hx)) hq) (Int.dvd_mul_left ..)
theorem PartsOk.tail {q : Int × Int} {r : List (Int × Int)} (h : PartsOk (q :: r)) : PartsOk r := ⟨fun x hx => h.pr x (List.mem_cons_of_mem _ hx), (List.pairwise_cons.mp h.up).2⟩
theorem PartsOk.head_not {q : Int × Int} {r : List (Int × Int)} (h : PartsOk (q :: r)) : ¬ q.1 ∣ prod r := fun hd => by
  obtain ⟨x, hx, e⟩ := pr_dvd_prod (h.pr q List.mem_cons_self).1 h.tail.pr hd
  have := (List.pairwise_cons.mp h.up).1 x hx
  omega
theorem parts_unique : ∀ {l m : List (Int × Int)}, PartsOk l → PartsOk m → prod l = prod m → l = m
  | [], [], _, _, _ => rfl
  | [], q :: r, _, hm, e => by
    have := mem_dvd_prod hm.pr (q := q) List.mem_cons_self
    rw [← e] at this
    have := Int.le_of_dvd (by decide) (by simpa [prod] using this : q.1 ∣ 1)
    have := (hm.pr q List.mem_cons_self).1.1
    omega
  | q :: r, [], hl, _, e => by
    have := mem_dvd_prod hl.pr (q := q) List.mem_cons_self
    rw [e] at this
    have := Int.le_of_dvd (by decide) (by simpa [prod] using this : q.1 ∣ 1)
    have := (hl.pr q List.mem_cons_self).1.1
    omega
  | q :: r, x :: y, hl, hm, e => by
    have hq := hl.pr q List.mem_cons_self
    have hx := hm.pr x List.mem_cons_self
    have le1 : x.1 ≤ q.1 := by
      obtain ⟨z, hz, ez⟩ := pr_dvd_prod hq.1 hm.pr (e ▸ mem_dvd_prod hl.pr List.mem_cons_self)
      rcases List.mem_cons.mp hz with rfl | hz
      · omega
      · have := (List.pairwise_cons.mp hm.up).1 z hz
        omega
    have le2 : q.1 ≤ x.1 := by
      obtain ⟨z, hz, ez⟩ := pr_dvd_prod hx.1 hl.pr (e ▸ mem_dvd_prod hm.pr List.mem_cons_self)
      rcases List.mem_cons.mp hz with rfl | hz
      · omega
      · have := (List.pairwise_cons.mp hl.up).1 z hz
        omega
    have e1 : q.1 = x.1 := by omega
    have q2 := hq.1.1
    have n1 := hl.head_not
    have n2 := hm.head_not
    rw [prod, prod, ← e1] at e
    rw [← e1] at n2
    have key : ∀ (a b : Nat) (u v : Int), ¬ q.1 ∣ u → a ≤ b → q.1 ^ a * u = q.1 ^ b * v → a = b ∧ u = v := fun a b u v nu hab hh => by
      obtain ⟨c, rfl⟩ : ∃ c, b = a + c := ⟨b - a, by omega⟩
      rw [Int.pow_add, Int.mul_assoc] at hh
      have pz : q.1 ^ a ≠ 0 := by
        have := pow_pos' (show 1 ≤ q.1 by omega) a
        omega
      have hh := Int.eq_of_mul_eq_mul_left pz hh
      cases c with
      | zero => simpa using hh
      | succ c =>
        exfalso
        apply nu
        rw [hh, Int.pow_succ]
        exact ⟨q.1 ^ c * v, by grind⟩
    have both : q.2.toNat = x.2.toNat ∧ prod r = prod y := by
      rcases Nat.le_total q.2.toNat x.2.toNat with hh | hh
      · exact key _ _ _ _ n1 hh e
      · obtain ⟨a, b⟩ := key _ _ _ _ n2 hh e.symm
        exact ⟨a.symm, b.symm⟩
    have e2 : q.2 = x.2 := by
      have := hq.2; have := hx.2; omega
    rw [parts_unique hl.tail hm.tail both.2]
    obtain ⟨a, b⟩ := q
    obtain ⟨c, d⟩ := x
    simp only at e1 e2
    rw [e1, e2]
theorem Parts.unique {n : Int} {l m : List (Int × Int)} (h : Parts n l) (g : Parts n m) : l = m := parts_unique h.1 g.1 (h.2.trans g.2.symm)
def tot : List (Int × Int) → Int
  | [] => 1
  | q :: r => (q.1 - 1) * tot r
theorem fermat1 {p a : Int} (h : IsPr p) (ha : ¬ p ∣ a) : Cg p (a ^ (p - 1).toNat) 1 := by
  have f := fermat h a
  have p2 := h.1
  obtain ⟨j, hj⟩ : ∃ j, p.toNat = j + 1 := ⟨p.toNat - 1, by omega⟩
  have e : (p - 1).toNat = j := by omega
  rw [hj, Int.pow_succ] at f
  rw [e]
  have f' : p ∣ a * (a ^ j - 1) := by
    have e2 : a * (a ^ j - 1) = a ^ j * a - a := by grind
    rw [e2]; exact f
  rcases pr_int_euclid h f' with z | z
  · exact absurd z ha
  · exact z
theorem cg_pow_dvd {n a : Int} {e f : Nat} (h : Cg n (a ^ e) 1) (hd : e ∣ f) : Cg n (a ^ f) 1 := by
  obtain ⟨c, rfl⟩ := hd
  rw [Int.pow_mul]
  have := h.pow c
  rwa [Int.one_pow] at this
theorem toNat_pow {p : Int} (h : 0 ≤ p) (k : Nat) : (p ^ k).toNat = p.toNat ^ k := by
  obtain ⟨q, rfl⟩ := Int.eq_ofNat_of_zero_le h
  rw [← Int.natCast_pow]
  rfl
structure Ord (a n o : Int) : Prop where
  pos : 1 ≤ o
  cg : Cg n (a ^ o.toNat) 1
  least : ∀ e, 1 ≤ e → e < o → ¬ Cg n (a ^ e.toNat) 1
theorem has_least {Pr : Nat → Prop} : ∀ n, Pr n → ∃ d, Pr d ∧ d ≤ n ∧ ∀ e, e < d → ¬ Pr e := by
  intro n
  induction n using Nat.strongRecOn with
  | _ n ih =>
    intro h
    by_cases q : ∃ m, m < n ∧ Pr m
    · obtain ⟨m, hm, pm⟩ := q
      obtain ⟨d, h1, h2, h3⟩ := ih m hm pm
      exact ⟨d, h1, by omega, h3⟩
    · exact ⟨n, h, Nat.le_refl _, fun e he z => q ⟨e, he, z⟩⟩
theorem has_prime {m : Int} (hm : 2 ≤ m) : ∃ p, IsPr p ∧ p ∣ m := by
  obtain ⟨d, ⟨d2, dd⟩, _, dl⟩ := has_least (Pr := fun d => 2 ≤ d ∧ (d : Int) ∣ m) m.toNat ⟨by omega, by rw [show ((m.toNat : Nat) : Int) = m by omega]; exact Int.dvd_refl _⟩
  refine ⟨d, ⟨by omega, fun e e2 ee z => ?_⟩, dd⟩
  obtain ⟨f, rfl⟩ := Int.eq_ofNat_of_zero_le (show 0 ≤ e by omega)
  have lt : f < d := by
    have : f * f ≤ d := by exact_mod_cast ee
    have : 2 * f ≤ f * f := Nat.mul_le_mul_right f (by omega)
    omega
  exact dl f lt ⟨by omega, Int.dvd_trans (Int.dvd_of_emod_eq_zero z) dd⟩
theorem ord_of {a n o : Int} (ho : 1 ≤ o) (hc : Cg n (a ^ o.toNat) 1) (hq : ∀ q, IsPr q → q ∣ o → ¬ Cg n (a ^ (o / q).toNat) 1) : Ord a n o := by
  refine ⟨ho, hc, ?_⟩
  obtain ⟨d, ⟨d1, dc⟩, dle, dl⟩ := has_least (Pr := fun d => 1 ≤ d ∧ Cg n (a ^ d) 1) o.toNat ⟨by omega, hc⟩
  have dd : d ∣ o.toNat := by
    by_cases z : o.toNat % d = 0
    · exact Nat.dvd_of_mod_eq_zero z
    · exfalso
      have lt : o.toNat % d < d := Nat.mod_lt _ (by omega)
      refine dl _ lt ⟨by omega, ?_⟩
      have e : o.toNat = d * (o.toNat / d) + o.toNat % d := (Nat.div_add_mod _ _).symm
      rw [e, Int.pow_add, Int.pow_mul] at hc
      have h1 := dc.pow (o.toNat / d)
      rw [Int.one_pow] at h1
      have h2 := h1.mul (Cg.refl n (a ^ (o.toNat % d)))
      rw [Int.one_mul] at h2
      exact h2.symm.trans hc
  obtain ⟨m, hm⟩ := dd
  have m1 : 1 ≤ m := by
    cases m with
    | zero => simp at hm; omega
    | succ m => omega
  by_cases m2 : m = 1
  · intro e e1 e2
    refine fun z => dl e.toNat ?_ ⟨by omega, z⟩
    rw [m2] at hm
    omega
  · exfalso
    obtain ⟨p, hp, hpm⟩ := has_prime (show (2 : Int) ≤ (m : Nat) by omega)
    have p2 := hp.1
    obtain ⟨c, hc'⟩ := hpm
    have eo : o = p * (d * c) := by
      have : (o : Int) = ((d * m : Nat) : Int) := by omega
      rw [this, Int.natCast_mul, hc']; grind
    refine hq p hp ⟨d * c, eo⟩ ?_
    rw [eo, Int.mul_ediv_cancel_left _ (by omega)]
    have c0 : 0 ≤ c := by
      refine Classical.byContradiction fun z => ?_
      have := Int.mul_le_mul_of_nonneg_left (show c ≤ -1 by omega) (show 0 ≤ p by omega)
      omega
    refine cg_pow_dvd dc ?_
    obtain ⟨c', rfl⟩ := Int.eq_ofNat_of_zero_le c0
    rw [← Int.natCast_mul]
    exact ⟨c', rfl⟩
structure OrdInv (a n F o : Int) (done : List (Int × Int)) : Prop where
  pos : 1 ≤ o
  dvd : o ∣ F
  cg : Cg n (a ^ o.toNat) 1
  no : ∀ q ∈ done, q.1 ∣ o → ¬ Cg n (a ^ (o / q.1).toNat) 1
theorem div_pos {o p : Int} (ho : 1 ≤ o) (hp : 2 ≤ p) (hd : o % p = 0) : 1 ≤ o / p ∧ o / p < o ∧ o = p * (o / p) := by
  have e : o = p * (o / p) := by have := Int.emod_add_mul_ediv o p; omega
  have h1 : 1 ≤ o / p := by
    refine Classical.byContradiction fun z => ?_
    have := Int.mul_le_mul_of_nonneg_left (show o / p ≤ 0 by omega) (show 0 ≤ p by omega)
    omega
  refine ⟨h1, ?_, e⟩
  have := Int.mul_le_mul_of_nonneg_right hp (show 0 ≤ o / p by omega)
  omega
theorem cg_one {n x : Int} : x % n = 1 % n ↔ Cg n x 1 := ⟨cg_of, cg_eq⟩
theorem Ord.no_prime {a n o : Int} (h : Ord a n o) {q : Int} (hq : 2 ≤ q) (hd : q ∣ o) : ¬ Cg n (a ^ (o / q).toNat) 1 := by
  obtain ⟨p1, p2, p3⟩ := div_pos h.pos hq (Int.emod_eq_zero_of_dvd hd)
  exact h.least _ p1 p2
end MM
namespace L2
open PySem PySem.Spec PyProof.Rows
section
variable {X : Cx}
theorem sqT_kit {pins : List (Addr × Obj)} {σ : St} {H : Hp} {s : Shared} {a : Addr} {xs : List V} (I : Inv X pins σ H s) (h : SqT X.K H a xs) : ∃ o, s.heap.get? a = some o ∧ o.cls = .type "tuple" := by
  obtain ⟨its, r, ⟨o, e, c, _⟩, _⟩ := I.tuple h
  exact ⟨o, e, c⟩
def rIsiS (K : PySem.W.Frag) : List V → Hp → VK → Prop := fun vs H Q => ∃ a xs c, vs = [.ref a, .ty c] ∧ SqT K H a xs ∧ (c = "int" ∨ c = "bool" ∨ c = "tuple" ∨ c = "list" ∨ c = "str" ∨ c = "dict") ∧ Q (.bl (isaB "tuple" c)) H
theorem call_isinstS : CallR X (.builtin "isinstance") (rIsiS X.K) := by
  intro pins s σ H xs us Q I r h
  obtain ⟨a, zs, c, rfl, ha, hc, q⟩ := h
  obtain ⟨u, w', rfl, rx, rc⟩ := vals2 r
  cases rx
  cases (show w' = Value.type c from rc)
  exact PySem.W.kia_one PySem.W.kitx_tuple I.kIn (sqT_kit I ha) (kit_ty (by simp) hc) (fun z => nomatch z) fun tk => ⟨.bl _, H, I.tok tk, rfl, q⟩
end
end L2
namespace MM
open PySem L2
abbrev Row := Int × Int × Dt
def rwD (r : Row) : Dt := .tup [.int r.1, .int r.2.1, r.2.2]
def asc : Int → List Row → Prop
  | _, [] => True
  | l, r :: rs => l < r.1 ∧ 1 ≤ r.2.1 ∧ r.2.1 ≤ 200 ∧ asc r.1 rs
def prd : List Row → Int
  | [] => 1
  | r :: rs => r.1 ^ r.2.1.toNat * prd rs
theorem pow_ge1 {a : Int} (h : 1 ≤ a) : ∀ n : Nat, 1 ≤ a ^ n
  | 0 => by simp
  | n + 1 => by
    have := pow_ge1 h n
    have b := Int.mul_le_mul this h (by decide) (by omega)
    rw [Int.pow_succ]
    omega
theorem le_mul1 {a b : Int} (ha : 0 ≤ a) (hb : 1 ≤ b) : a ≤ a * b := by
  have := Int.mul_le_mul_of_nonneg_left hb ha
  omega
theorem pow_mono1 {a : Int} (h : 1 ≤ a) {i n : Nat} (hi : i ≤ n) : a ^ i ≤ a ^ n := by
  obtain ⟨d, rfl⟩ := Nat.le.dest hi
  rw [Int.pow_add]
  exact le_mul1 (by have := pow_ge1 h i; omega) (pow_ge1 h d)
theorem pow_self1 {a : Int} (h : 1 ≤ a) {n : Nat} (hn : 1 ≤ n) : a ≤ a ^ n := by
  have := pow_mono1 h hn
  have e : a ^ 1 = a := by rw [Int.pow_succ, Int.pow_zero, Int.one_mul]
  omega
theorem asc_pos : ∀ {rs : List Row} {l : Int}, asc l rs → ∀ r ∈ rs, l < r.1 ∧ 1 ≤ r.2.1 ∧ r.2.1 ≤ 200
  | [], _, _, r, hr => by cases hr
  | a :: as, l, h, r, hr => by
    obtain ⟨h1, h2, h3, h4⟩ := h
    rcases List.mem_cons.mp hr with e | hr
    · subst e; exact ⟨h1, h2, h3⟩
    · have := asc_pos h4 r hr
      exact ⟨by omega, this.2⟩
theorem prd_ge1 : ∀ {rs : List Row} {l : Int}, 0 ≤ l → asc l rs → 1 ≤ prd rs
  | [], _, _, _ => by decide
  | a :: as, l, h0, h => by
    obtain ⟨h1, h2, h3, h4⟩ := h
    have x := pow_ge1 (show 1 ≤ a.1 by omega) a.2.1.toNat
    have y := prd_ge1 (show 0 ≤ a.1 by omega) h4
    have := le_mul1 (show 0 ≤ a.1 ^ a.2.1.toNat by omega) y
    show 1 ≤ a.1 ^ a.2.1.toNat * prd as
    omega
theorem prd_app : ∀ (a b : List Row), prd (a ++ b) = prd a * prd b
  | [], b => by simp [prd]
  | x :: xs, b => by
    show x.1 ^ x.2.1.toNat * prd (xs ++ b) = x.1 ^ x.2.1.toNat * prd xs * prd b
    rw [prd_app xs b, Int.mul_assoc]
theorem asc_app : ∀ {a b : List Row} {l : Int}, asc l (a ++ b) → asc l a ∧ ∃ m, l ≤ m ∧ asc m b ∧ ((∃ r, a.getLast? = some r ∧ m = r.1) ∨ a = [] ∧ m = l)
  | [], b, l, h => ⟨True.intro, l, Int.le_refl l, h, .inr ⟨rfl, rfl⟩⟩
  | x :: xs, b, l, h => by
    obtain ⟨h1, h2, h3, h4⟩ := h
    obtain ⟨a1, m, m1, m2, m3⟩ := asc_app h4
    refine ⟨⟨h1, h2, h3, a1⟩, m, by omega, m2, .inl ?_⟩
    rcases m3 with ⟨r, e, em⟩ | ⟨e, em⟩
    · refine ⟨r, ?_, em⟩
      rw [List.getLast?_cons, e]; rfl
    · subst e
      exact ⟨x, rfl, em⟩
theorem prd_step {a b : List Row} {r : Row} {i : Nat} (h : asc 1 (a ++ r :: b)) (hi : i ≤ r.2.1.toNat) : 1 ≤ prd a ∧ prd a * r.1 ^ i ≤ prd (a ++ r :: b) ∧ r.1 ≤ prd (a ++ r :: b) := by
  obtain ⟨h1, m, m1, h2, _⟩ := asc_app h
  have pa := prd_ge1 (by decide) h1
  obtain ⟨q1, q2, q3, q4⟩ := h2
  have pb := prd_ge1 (show 0 ≤ r.1 by omega) q4
  have x := pow_mono1 (show 1 ≤ r.1 by omega) hi
  have y := pow_self1 (show 1 ≤ r.1 by omega) (show 1 ≤ r.2.1.toNat by omega)
  have z := pow_ge1 (show 1 ≤ r.1 by omega) r.2.1.toNat
  have e : prd (a ++ r :: b) = prd a * (r.1 ^ r.2.1.toNat * prd b) := prd_app a (r :: b)
  have u := le_mul1 (show 0 ≤ r.1 ^ r.2.1.toNat by omega) pb
  have v := Int.mul_le_mul_of_nonneg_left (Int.le_trans x u) (show 0 ≤ prd a by omega)
  have w := Int.mul_le_mul pa (Int.le_refl (r.1 ^ r.2.1.toNat * prd b)) (by omega) (by omega)
  rw [e]
  exact ⟨pa, v, by omega⟩
theorem prd_mem {rows : List Row} {r : Row} (h : asc 1 rows) (hr : r ∈ rows) : r.1 ≤ prd rows := by
  obtain ⟨a, b, rfl⟩ := List.append_of_mem hr
  exact (prd_step (i := 0) h (Nat.zero_le _)).2.2
theorem prd_snoc (a : List Row) (r : Row) : prd (a ++ [r]) = prd a * r.1 ^ r.2.1.toNat := by
  rw [prd_app]
  show prd a * (r.1 ^ r.2.1.toNat * 1) = _
  rw [Int.mul_one]
structure HeadOk (n b : Int) (rows : List Row) : Prop where
  ne : rows ≠ []
  up : asc 1 rows
  b1 : 1 ≤ b
  bn : b ≤ n - 1
  home : b ^ (n - 1).toNat % n = 1
  dv : (n - 1) % prd rows = 0
structure FullOk (n b : Int) (rows : List Row) : Prop extends HeadOk n b rows where
  all : prd rows = n - 1
  off : ∀ r ∈ rows, b ^ ((n - 1) / r.1).toNat % n ≠ 1
structure ShareOk (n b : Int) (rows : List Row) : Prop extends HeadOk n b rows where
  odd : n % 2 = 1
  big : n < prd rows * prd rows
  off : ∀ r ∈ rows, Int.gcd (b ^ ((n - 1) / r.1).toNat % n - 1) n = 1
inductive RP : Nat → Bool → Int → Dt → Prop
  | two {k : Nat} {f : Bool} : RP (k + 1) f 2 (.tup [.str (Str.ofString "two")])
  | full {k : Nat} {f : Bool} {n b : Int} {rows : List Row} : 3 ≤ n → IsPr n → FullOk n b rows → (∀ r ∈ rows, RP k true r.1 r.2.2) → RP (k + 1) f n (.tup [.str (Str.ofString "full"), .int b, .tup (rows.map rwD)])
  | share {k : Nat} {n b : Int} {rows : List Row} : 3 ≤ n → IsPr n → ShareOk n b rows → (∀ r ∈ rows, RP k false r.1 r.2.2) → RP (k + 1) false n (.tup [.str (Str.ofString "share"), .int b, .tup (rows.map rwD)])
theorem RP.weak {k : Nat} {f : Bool} {n : Int} {d : Dt} (h : RP k f n d) : RP k false n d := by
  cases h with
  | two => exact .two
  | full a p b c => exact .full a p b c
  | share a p b c => exact .share a p b c
theorem RP.up {k : Nat} {f : Bool} {n : Int} {d : Dt} (h : RP k f n d) : RP (k + 1) f n d := by
  induction h with
  | two => exact .two
  | full a p b c ih => exact .full a p b ih
  | share a p b c ih => exact .share a p b ih
theorem RP.mono {k j : Nat} {f : Bool} {n : Int} {d : Dt} (h : RP k f n d) (hj : k ≤ j) : RP j f n d := by
  obtain ⟨i, rfl⟩ := Nat.le.dest hj
  induction i with
  | zero => exact h
  | succ i ih => exact (ih (by omega)).up
theorem RP.n2 {k : Nat} {f : Bool} {n : Int} {d : Dt} (h : RP k f n d) : 2 ≤ n := by
  cases h with
  | two => decide
  | full a => omega
  | share a => omega
theorem noLL_rwD : ∀ (rows : List Row), (∀ r ∈ rows, noL r.2.2 = true) → noLL (rows.map rwD) = true
  | [], _ => rfl
  | r :: rs, h => by
    show ((true && (true && (noL r.2.2 && true))) && noLL (rs.map rwD)) = true
    rw [h r List.mem_cons_self, noLL_rwD rs fun x hx => h x (List.mem_cons_of_mem r hx)]
    rfl
theorem RP.nl {k : Nat} {f : Bool} {n : Int} {d : Dt} (h : RP k f n d) : noL d = true := by
  induction h with
  | two => rfl
  | @full k f n b rows a p o c ih =>
    show (true && (true && (noLL (rows.map rwD) && true))) = true
    rw [noLL_rwD rows ih]; rfl
  | @share k n b rows a p o c ih =>
    show (true && (true && (noLL (rows.map rwD) && true))) = true
    rw [noLL_rwD rows ih]; rfl
theorem RP.pr {k : Nat} {f : Bool} {n : Int} {d : Dt} (h : RP k f n d) (h2 : IsPr 2) : IsPr n := by
  cases h with
  | two => exact h2
  | full _ p => exact p
  | share _ p => exact p
mutual
def cnD : Dt → Nat
  | .tup ds => 1 + cnL ds
  | .non => 0
  | .bl _ => 0
  | .int _ => 0
  | .str _ => 0
  | .lst _ => 0
def cnL : List Dt → Nat
  | [] => 0
  | d :: ds => cnD d + cnL ds
end
def cnR : List Row → Nat
  | [] => 0
  | r :: rs => 1 + cnD r.2.2 + cnR rs
theorem cnL_rows : ∀ rows : List Row, cnL (rows.map rwD) = cnR rows
  | [] => by simp [cnL, cnR]
  | r :: rs => by
    show cnL (rwD r :: rs.map rwD) = _
    simp only [cnL, cnR, rwD, cnD, cnL_rows rs]
    omega
theorem cn_paper (z : Str) (b : Int) (rows : List Row) : cnD (.tup [.str z, .int b, .tup (rows.map rwD)]) = 2 + cnR rows := by
  simp only [cnD, cnL, cnL_rows]
  omega
end MM
namespace L2
open PySem PySem.Spec PyProof.Rows
def heldAt (kvs : List (Key × V)) (k : Key) : Option V := (kvs.find? fun kv => decide (kv.1 = k)).map (·.2)
theorem held_rel {kvs : List (Key × V)} {vs : List (Key × Value)} (r : KV kvs vs) (k : Key) : RelO (heldAt kvs k) (valueAt vs k) := by
  unfold heldAt valueAt
  induction r with
  | nil => exact True.intro
  | @cons p q ps qs h t ih =>
    obtain ⟨h1, h2⟩ := h
    by_cases e : p.1 = k
    · have e' : q.1 = k := h1.symm.trans e
      simp [List.find?_cons, e, e']; exact h2
    · have e' : ¬ q.1 = k := fun z => e (h1.trans z)
      simp [List.find?_cons, e, e']; simpa using ih
def DiK (P : Program) (w : World) (K : PySem.W.Frag) (a : Addr) (kvs : List (Key × V)) : Prop :=
  ∃ (o : Obj), ∃ es ep vs, K.lookup a = some o ∧ o.ExactDict ∧ o.data = .dict es ep ∧ KeysOf (mixKind P w) es ∧ Pairs (mixKind P w) es.toList vs ∧ (vs.map (·.1)).Nodup ∧ KV kvs vs
theorem DiK.of {P : Program} {w : World} {K : PySem.W.Frag} {a : Addr} {kvs : List (Key × V)} {h : Heap} (d : DiK P w K a kvs) (hk : K.In h) : ∃ vs, KV kvs vs ∧ h.DictOf (mixKind P w) a vs := by
  obtain ⟨o, es, ep, vs, h1, h2, h3, h4, h5, h6, h7⟩ := d
  exact ⟨vs, h7, o, es, ep, hk a o h1, h2, h3, h4, h5, h6⟩
section
variable {X : Cx} {i : Nat} {x : Str} {p pos : Pos}
def rIxD (P : Program) (w : World) (K : PySem.W.Frag) : R2 := fun x y H Q => ∃ a k kvs v, x = .ref a ∧ y = kV k ∧ DiK P w K a kvs ∧ heldAt kvs k = some v ∧ Q v H
theorem kV_isD {k : Key} {u : Value} {P : Program} {w : World} (r : RelV (kV k) u) : (mixKind P w).is k u = true := by
  rw [mixKind_is]
  cases k with
  | inl i => obtain ⟨t, rfl⟩ := (r : ∃ t, u = .int i t); exact keyIs_int i t
  | inr z => obtain ⟨t, rfl⟩ := (r : ∃ t, u = .str z t); exact keyIs_str z t
theorem ix_dictK : IxR X (rIxD X.prog X.w X.K) := by
  intro value slice pins s σ H x y v u Q I rx ry h hs
  obtain ⟨a, k, kvs, z, rfl, rfl, hd, he, q⟩ := h
  cases rx
  obtain ⟨vs, rel, dd⟩ := hd.of I.kIn
  obtain ⟨w', hw, rw'⟩ := RelO.some_of (v := z) (o := valueAt vs k) (by rw [← he]; exact held_rel rel k)
  exact tail_any dd.typeIs PySem.F.slot_dict_getitem.lookup (wpAny_getItem_of (kV_isD ry) dd.mapOf hw ⟨z, H, I.tok _, rw', q⟩) hs
def tCallN (X : Cx) (CX : CXT) (E : XK) (k i : Nat) (t : TA) : TE := fun σ H Q => ∃ f fd ps sp, σ[i]? = some (some (.ref f)) ∧ PySem.W.keepIn X.K (.ref f) = true ∧ FnOk X.prog X.w X.K X.mg X.base CX k f fd ps sp ∧ Binds X.K fd ps [] ∧ t σ H fun vs H1 => sp vs H1 Q E
theorem pe_callN {e : Expr} {es : List Expr} {k : Nat} {t : TA} {CX : CXT} {E : XK} (hx : Passes CX X E) (hN : X.N[i]? = some x) (hv : Vis X.env.scope x) (hr : Room k X.A) (ha : PA X (e :: es) t) (hd : (x == ("__debug__" : Str)) = false := by decide) (hcd : (x == ("__classdict__" : Str)) = false := by decide)
    (he : starEach (e :: es) X.env = (false, eval e X.env) :: starEach es X.env := by rfl) (hpl : (backTo pos (starEach es X.env)).any (·.1) = false := by rfl) : PE X (.Call (.Name x p) (e :: es) [] pos) (tCallN X CX E k i t) := by
  intro pins s σ H Q I h
  obtain ⟨f, fd, ps, sp, e1, hk, F, hb, hsp⟩ := h
  refine wpAny_Call_Name_kw (ld_var I hN hv e1 (fun u r => ?_) hd hcd)
  cases (show u = Value.ref f from r)
  refine PySem.W.callWith_K (h₀ := X.base) I.ok.mod.kin hk (thn (ha pos pins s σ H _ I hsp) fun us s1 ⟨vs, H1, I1, r, q⟩ => ⟨I1.kIn, ?_⟩) he hpl
  exact run_fn (dvs := []) (ds := []) F hr hb .nil hx I1 r (by simpa using q)
end
end L2
namespace MM
open PySem L2
theorem mul5 (a b : Int) : (a * b) ^ 5 = a ^ 5 * b ^ 5 := by
  simp only [Int.pow_succ, Int.pow_zero, Int.one_mul]
  grind
theorem pow5_mono {a b : Int} (h0 : 0 ≤ a) (h : a ≤ b) : a ^ 5 ≤ b ^ 5 := by
  have h1 := Int.mul_le_mul h h h0 (by omega)
  have p1 := Int.mul_nonneg h0 h0
  have h2 := Int.mul_le_mul h1 h1 p1 (Int.le_trans p1 h1)
  have p2 := Int.mul_nonneg p1 p1
  have h3 := Int.mul_le_mul h2 h h0 (Int.le_trans p2 h2)
  have e1 : a ^ 5 = a * a * (a * a) * a := by simp only [Int.pow_succ, Int.pow_zero, Int.one_mul]; grind
  have e2 : b ^ 5 = b * b * (b * b) * b := by simp only [Int.pow_succ, Int.pow_zero, Int.one_mul]; grind
  omega
theorem pr_odd {p : Int} (h : IsPr p) (h2 : 2 < p) : p % 2 = 1 := by
  have := h.2 2 (by decide)
  refine Classical.byContradiction fun w => ?_
  by_cases h4 : 4 ≤ p
  · exact this (by omega) (by omega)
  · omega
theorem odd_pow72 {p : Int} (h : p % 2 = 1) : ∀ n : Nat, p ^ n % 2 = 1
  | 0 => by simp
  | n + 1 => by rw [Int.pow_succ, Int.mul_emod, odd_pow72 h n, h]; rfl
theorem prd_odd : ∀ {rows : List Row} {l : Int}, 2 ≤ l → asc l rows → (∀ r ∈ rows, IsPr r.1) → prd rows % 2 = 1
  | [], _, _, _, _ => rfl
  | r :: rs, l, hl, h, hp => by
    obtain ⟨h1, h2, h3, h4⟩ := h
    have a := odd_pow72 (pr_odd (hp r List.mem_cons_self) (by omega)) r.2.1.toNat
    have b := prd_odd (show 2 ≤ r.1 by omega) h4 fun x hx => hp x (List.mem_cons_of_mem r hx)
    show (r.1 ^ r.2.1.toNat * prd rs) % 2 = 1
    rw [Int.mul_emod, a, b]; rfl
theorem cn_odd : ∀ {rows : List Row} {l : Int}, 2 ≤ l → asc l rows → (∀ r ∈ rows, (2 : Int) ^ (cnD r.2.2 + 3) ≤ r.1 ^ 5) → (4 : Int) ^ rows.length * 2 ^ cnR rows ≤ prd rows ^ 5
  | [], _, _, _, _ => by decide
  | r :: rs, l, hl, h, hp => by
    obtain ⟨h1, h2, h3, h4⟩ := h
    have a := hp r List.mem_cons_self
    have b := cn_odd (show 2 ≤ r.1 by omega) h4 fun x hx => hp x (List.mem_cons_of_mem r hx)
    have c := pow5_mono (show 0 ≤ r.1 by omega) (pow_self1 (show 1 ≤ r.1 by omega) (show 1 ≤ r.2.1.toNat by omega))
    have d := Int.mul_le_mul (Int.le_trans a c) b (by
      have := pow_ge1 (show (1 : Int) ≤ 4 by decide) rs.length
      have := pow_ge1 (show (1 : Int) ≤ 2 by decide) (cnR rs)
      exact Int.mul_nonneg (by omega) (by omega)) (by
      have := pow_ge1 (pow_ge1 (show 1 ≤ r.1 by omega) r.2.1.toNat) 5
      omega)
    show (4 : Int) ^ (rs.length + 1) * 2 ^ (1 + cnD r.2.2 + cnR rs) ≤ (r.1 ^ r.2.1.toNat * prd rs) ^ 5
    rw [mul5]
    have e : (4 : Int) ^ (rs.length + 1) * 2 ^ (1 + cnD r.2.2 + cnR rs) = 2 ^ (cnD r.2.2 + 3) * (4 ^ rs.length * 2 ^ cnR rs) := by
      simp only [Int.pow_succ, Int.pow_add]
      grind
    omega
theorem cn_rows {n : Int} {rows : List Row} (n3 : 3 ≤ n) (no : n % 2 = 1) (ne : rows ≠ []) (up : asc 1 rows) (dv : (n - 1) % prd rows = 0) (hp : ∀ r ∈ rows, IsPr r.1) (hc : ∀ r ∈ rows, (r.1 = 2 → cnD r.2.2 = 1) ∧ (r.1 ≠ 2 → (2 : Int) ^ (cnD r.2.2 + 3) ≤ r.1 ^ 5)) : (2 : Int) ^ (2 + cnR rows + 3) ≤ n ^ 5 := by
  have dvd := Int.dvd_of_emod_eq_zero dv
  have le := Int.le_of_dvd (show 0 < n - 1 by omega) dvd
  cases rows with
  | nil => exact absurd rfl ne
  | cons r rs =>
    have up' := up
    obtain ⟨h1, h2, h3, h4⟩ := up
    by_cases e2 : r.1 = 2
    · have c1 := (hc r List.mem_cons_self).1 e2
      have b := cn_odd (show 2 ≤ r.1 by omega) h4 fun x hx => (hc x (List.mem_cons_of_mem r hx)).2 (by
        have := (asc_pos h4 x hx).1
        omega)
      have p1 := prd_ge1 (show 0 ≤ r.1 by omega) h4
      have q : 2 * prd rs ≤ n - 1 := by
        have z : prd (r :: rs) = r.1 ^ r.2.1.toNat * prd rs := rfl
        have y := pow_self1 (show 1 ≤ r.1 by omega) (show 1 ≤ r.2.1.toNat by omega)
        have := Int.mul_le_mul_of_nonneg_right y (show 0 ≤ prd rs by omega)
        rw [e2] at this z
        omega
      have m := pow5_mono (show 0 ≤ 2 * prd rs by omega) (show 2 * prd rs ≤ n by omega)
      rw [mul5] at m
      have e : (2 : Int) ^ (2 + cnR (r :: rs) + 3) = 128 * 2 ^ cnR rs := by
        show (2 : Int) ^ (2 + (1 + cnD r.2.2 + cnR rs) + 3) = _
        rw [c1, show 2 + (1 + 1 + cnR rs) + 3 = cnR rs + 7 by omega, Int.pow_add]
        have : (2 : Int) ^ 7 = 128 := by decide
        omega
      rw [e]
      cases rs with
      | nil =>
        have := pow5_mono (show (0 : Int) ≤ 3 by decide) n3
        have z : (3 : Int) ^ 5 = 243 := by decide
        show 128 * (2 : Int) ^ 0 ≤ n ^ 5
        have : (2 : Int) ^ 0 = 1 := by decide
        omega
      | cons s ss =>
        have l4 : (4 : Int) ≤ 4 ^ (s :: ss).length := pow_self1 (by decide) (by simp)
        have x := pow_ge1 (show (1 : Int) ≤ 2 by decide) (cnR (s :: ss))
        have := Int.mul_le_mul_of_nonneg_right l4 (show (0 : Int) ≤ 2 ^ cnR (s :: ss) by omega)
        have z : (2 : Int) ^ 5 = 32 := by decide
        omega
    · have b := cn_odd (l := 2) (by decide) (show asc 2 (r :: rs) from ⟨by omega, h2, h3, h4⟩) fun x hx => (hc x hx).2 (by
        rcases List.mem_cons.mp hx with e | hx
        · rw [e]; exact e2
        · have := (asc_pos h4 x hx).1
          omega)
      have od := prd_odd (l := 2) (by decide) (show asc 2 (r :: rs) from ⟨by omega, h2, h3, h4⟩) hp
      have p1 := prd_ge1 (by decide) up'
      have q : 2 * prd (r :: rs) ≤ n - 1 := by
        obtain ⟨t, ht⟩ := dvd
        have t0 : 0 < t := by
          refine Classical.byContradiction fun w => ?_
          have := Int.mul_nonpos_of_nonneg_of_nonpos (show 0 ≤ prd (r :: rs) by omega) (show t ≤ 0 by omega)
          omega
        have t2 : t ≠ 1 := fun z => by rw [z] at ht; omega
        have := Int.mul_le_mul_of_nonneg_left (show 2 ≤ t by omega) (show 0 ≤ prd (r :: rs) by omega)
        omega
      have m := pow5_mono (show 0 ≤ 2 * prd (r :: rs) by omega) (show 2 * prd (r :: rs) ≤ n by omega)
      rw [mul5] at m
      have e : (2 : Int) ^ (2 + cnR (r :: rs) + 3) = 32 * 2 ^ cnR (r :: rs) := by
        rw [show 2 + cnR (r :: rs) + 3 = cnR (r :: rs) + 5 by omega, Int.pow_add]
        have : (2 : Int) ^ 5 = 32 := by decide
        omega
      have l4 : (4 : Int) ≤ 4 ^ (r :: rs).length := pow_self1 (by decide) (by simp)
      have x := pow_ge1 (show (1 : Int) ≤ 2 by decide) (cnR (r :: rs))
      have := Int.mul_le_mul_of_nonneg_right l4 (show (0 : Int) ≤ 2 ^ cnR (r :: rs) by omega)
      have z : (2 : Int) ^ 5 = 32 := by decide
      rw [e]
      omega
theorem RP.cn {k : Nat} {f : Bool} {n : Int} {d : Dt} (h2 : IsPr 2) (h : RP k f n d) : (n = 2 → cnD d = 1) ∧ (n ≠ 2 → (2 : Int) ^ (cnD d + 3) ≤ n ^ 5) := by
  induction h with
  | two => exact ⟨fun _ => by simp [cnD, cnL], fun z => absurd rfl z⟩
  | @full k f n b rows a p o c ih =>
    refine ⟨fun z => by omega, fun _ => ?_⟩
    rw [cn_paper]
    exact cn_rows a (pr_odd p (by omega)) o.ne o.up o.dv (fun r hr => (c r hr).pr h2) ih
  | @share k n b rows a p o c ih =>
    refine ⟨fun z => by omega, fun _ => ?_⟩
    rw [cn_paper]
    exact cn_rows a (pr_odd p (by omega)) o.ne o.up o.dv (fun r hr => (c r hr).pr h2) ih
end MM
namespace MM
theorem div_all {r : Int} (hr : 2 ≤ r) : ∀ (m : Nat) (l0 left o : Int), left.toNat = m → DivInv l0 r left o → ∃ left' o', DivInv l0 r left' o' ∧ left' % r ≠ 0 := by
  intro m
  induction m using Nat.strongRecOn with
  | _ m ih =>
    intro l0 left o e h
    by_cases hd : left % r = 0
    · obtain ⟨h2, lt⟩ := div_turn hr h hd
      have := h2.l1
      exact ih _ (by omega) l0 _ _ rfl h2
    · exact ⟨left, o, h, hd⟩
theorem least_div {n : Int} (hn : 2 ≤ n) : ∃ p, IsPr p ∧ n % p = 0 ∧ ∀ d, 2 ≤ d → d < p → n % d ≠ 0 := by
  obtain ⟨d, ⟨d2, dd⟩, _, dl⟩ := has_least (Pr := fun d => 2 ≤ d ∧ (d : Int) ∣ n) n.toNat ⟨by omega, by rw [show ((n.toNat : Nat) : Int) = n by omega]; exact Int.dvd_refl _⟩
  have lo : ∀ e : Int, 2 ≤ e → e < d → n % e ≠ 0 := fun e e2 ed z => by
    obtain ⟨f, rfl⟩ := Int.eq_ofNat_of_zero_le (show 0 ≤ e by omega)
    exact dl f (by omega) ⟨by omega, Int.dvd_of_emod_eq_zero z⟩
  refine ⟨d, ⟨by omega, fun e e2 ee z => ?_⟩, Int.emod_eq_zero_of_dvd dd, lo⟩
  have lt : e < d := by
    have := Int.mul_le_mul_of_nonneg_right e2 (show 0 ≤ e by omega)
    omega
  exact lo e e2 lt (Int.emod_eq_zero_of_dvd (Int.dvd_trans (Int.dvd_of_emod_eq_zero z) dd))
theorem parts_go {n : Int} : ∀ (m : Nat) (l : List (Int × Int)) (left t : Int), left.toNat = m → PtInv n l left t → ∃ l', Parts n l' := by
  intro m
  induction m using Nat.strongRecOn with
  | _ m ih =>
    intro l left t e h
    by_cases h1 : 1 < left
    · obtain ⟨p, hp, pd, pl⟩ := least_div (show 2 ≤ left by omega)
      obtain ⟨left', o, D, hd⟩ := div_all hp.1 _ left left 0 rfl (div_start (by omega))
      have tp : t ≤ p := Classical.byContradiction fun z => h.lo p hp.1 (by omega) pd
      obtain ⟨I2, o1, lt⟩ := pt_turn h hp tp pd pl D hd
      have := I2.l1
      exact ih _ (by omega) _ _ _ rfl I2
    · exact ⟨l, pt_end h h1⟩
theorem parts_exist {n : Int} (h : 1 ≤ n) : ∃ l, Parts n l := parts_go _ [] n 2 rfl (pt_start h)
structure StepInv (a n o d pw : Int) : Prop where
  d1 : 1 ≤ d
  d2 : d ≤ o
  eq : pw = a ^ d.toNat % n
  no : ∀ e, 1 ≤ e → e < d → ¬ Cg n (a ^ e.toNat) 1
end MM
namespace MM
def mev : List Int → Int → Int
  | [], _ => 1
  | c :: t, x => c + x * mev t x
theorem mev_add (r : Int) : ∀ (t q : List Int), q.length < t.length → ∃ s : List Int, s.length = t.length ∧ ∀ x, mev s x = mev t x + r * mev q x
  | [], q, h => by simp at h
  | a :: t, [], _ => ⟨(a + r) :: t, rfl, fun x => by simp only [mev]; grind⟩
  | a :: t, b :: q, h => by
    obtain ⟨s, e, hs⟩ := mev_add r t q (by simpa using h)
    exact ⟨(a + r * b) :: s, by simp [e], fun x => by simp only [mev]; rw [hs]; grind⟩
theorem mev_div (r : Int) : ∀ (t : List Int) (c : Int), ∃ q : List Int, q.length = t.length ∧ ∀ x, mev (c :: t) x - mev (c :: t) r = (x - r) * mev q x
  | [], c => ⟨[], rfl, fun x => by simp only [mev]; grind⟩
  | b :: t, c => by
    obtain ⟨q, e, hq⟩ := mev_div r t b
    obtain ⟨s, e2, hs⟩ := mev_add r (b :: t) q (by rw [e]; simp)
    refine ⟨s, e2, fun x => ?_⟩
    rw [hs]
    have h1 := hq x
    have e3 : mev (c :: b :: t) x - mev (c :: b :: t) r = (x - r) * mev (b :: t) x + r * (mev (b :: t) x - mev (b :: t) r) := by
      rw [show mev (c :: b :: t) x = c + x * mev (b :: t) x from rfl, show mev (c :: b :: t) r = c + r * mev (b :: t) r from rfl]; grind
    rw [e3, h1]; grind
theorem roots_few {p : Int} (hp : IsPr p) : ∀ (n : Nat) (t : List Int), t.length = n → ∀ xs : List Int, (xs.Pairwise fun a b => ¬ Cg p a b) → (∀ x ∈ xs, Cg p (mev t x) 0) → xs.length ≤ n := by
  intro n
  induction n with
  | zero =>
    intro t ht xs _ h0
    cases t with
    | cons _ _ => simp at ht
    | nil =>
      cases xs with
      | nil => exact Nat.le_refl _
      | cons x xs =>
        have := h0 x List.mem_cons_self
        have : p ∣ 1 := by simpa [mev, Cg] using this
        have := Int.le_of_dvd (by decide) this
        have := hp.1
        omega
  | succ n ih =>
    intro t ht xs hd h0
    cases t with
    | nil => simp at ht
    | cons c t =>
      cases xs with
      | nil => exact Nat.zero_le _
      | cons r xs =>
        obtain ⟨q, e, hq⟩ := mev_div r t c
        have ht' : t.length = n := by simpa using ht
        rw [List.pairwise_cons] at hd
        have := ih q (by rw [e, ht']) xs hd.2 fun s hs => by
          have h1 := (h0 s (List.mem_cons_of_mem _ hs)).sub (h0 r List.mem_cons_self)
          rw [hq s] at h1
          have h2 : p ∣ (s - r) * mev q s := by simpa [Cg] using h1
          rcases pr_int_euclid hp h2 with z | z
          · exact absurd (Cg.symm z) (hd.1 s hs)
          · show p ∣ _; simpa using z
        simp only [List.length_cons]
        omega
theorem mev_rep (x : Int) : ∀ k : Nat, mev (List.replicate k 0) x = x ^ k
  | 0 => by simp [mev]
  | k + 1 => by rw [List.replicate_succ, mev, mev_rep x k, Int.pow_succ]; grind
theorem up_nodup {p : Int} : ∀ (m : Nat) (lo : Int), 0 ≤ lo → lo + m ≤ p → ((List.range m).map fun (i : Nat) => lo + (i : Int)).Pairwise fun a b => ¬ Cg p a b := by
  intro m lo h0 h1
  rw [List.pairwise_map]
  refine List.Pairwise.imp_of_mem (R := fun a b => a < b) ?_ List.pairwise_lt_range
  intro a b ha hb hab hc
  have hb' := List.mem_range.mp hb
  have : p ∣ (lo + (b : Int)) - (lo + a) := hc.symm
  have := Int.le_of_dvd (by omega) this
  omega
theorem not_all {p : Int} (hp : IsPr p) {d : Nat} (h1 : 1 ≤ d) (hd : (d : Int) < p - 1) : ∃ x, 1 ≤ x ∧ x < p ∧ ¬ Cg p (x ^ d) 1 := by
  refine Classical.byContradiction fun hc => ?_
  have all : ∀ x, 1 ≤ x → x < p → Cg p (x ^ d) 1 := fun x a b => Classical.byContradiction fun z => hc ⟨x, a, b, z⟩
  have p2 := hp.1
  obtain ⟨k, rfl⟩ : ∃ k, d = k + 1 := ⟨d - 1, by omega⟩
  have := roots_few hp (k + 1) ((-1) :: List.replicate k 0) (by simp) ((List.range (p - 1).toNat).map fun (i : Nat) => 1 + (i : Int)) (up_nodup _ _ (by decide) (by omega)) fun x hx => by
    obtain ⟨i, hi, rfl⟩ := List.mem_map.mp hx
    have hi := List.mem_range.mp hi
    have h := all (1 + (i : Int)) (by omega) (by omega)
    rw [mev, mev_rep]
    have := h.sub (Cg.refl p 1)
    rw [show (1 : Int) - 1 = 0 by decide] at this
    rw [Int.pow_succ] at this
    rwa [show -1 + (1 + (i : Int)) * (1 + (i : Int)) ^ k = (1 + (i : Int)) ^ k * (1 + (i : Int)) - 1 by grind]
  rw [List.length_map, List.length_range] at this
  omega
theorem Ord.dvd {a n o : Int} (h : Ord a n o) {e : Nat} (hc : Cg n (a ^ e) 1) : o.toNat ∣ e := by
  have op := h.pos
  by_cases z : e % o.toNat = 0
  · exact Nat.dvd_of_mod_eq_zero z
  · exfalso
    have lt : e % o.toNat < o.toNat := Nat.mod_lt _ (by omega)
    refine h.least (e % o.toNat : Nat) (by omega) (by omega) ?_
    rw [Int.toNat_natCast]
    have ee : e = o.toNat * (e / o.toNat) + e % o.toNat := (Nat.div_add_mod _ _).symm
    rw [ee, Int.pow_add, Int.pow_mul] at hc
    have h1 := h.cg.pow (e / o.toNat)
    rw [Int.one_pow] at h1
    have h2 := h1.mul (Cg.refl n (a ^ (e % o.toNat)))
    rw [Int.one_mul] at h2
    exact h2.symm.trans hc
theorem ord_mul {a b n : Int} {x y : Nat} (ha : Ord a n x) (hb : Ord b n y) (hg : Nat.Coprime x y) : Ord (a * b) n ((x * y : Nat) : Int) := by
  have x1 := ha.pos
  have y1 := hb.pos
  have ca := ha.cg
  have cb := hb.cg
  rw [Int.toNat_natCast] at ca cb
  have xy : 1 ≤ x * y := Nat.mul_pos (by omega) (by omega)
  have key : ∀ {a b : Int} {x y : Nat}, Ord a n x → Ord b n y → Nat.Coprime x y → ∀ q : Nat, 2 ≤ q → q ∣ x → ¬ Cg n ((a * b) ^ (x * y / q)) 1 := by
    intro a b x y ha hb hg q q2 qx z
    obtain ⟨c, rfl⟩ := qx
    have cb := hb.cg
    rw [Int.toNat_natCast] at cb
    have c1 : 1 ≤ c := by
      have := ha.pos
      cases c with
      | zero => simp at this
      | succ c => omega
    have e : q * c * y / q = c * y := by rw [Nat.mul_assoc, Nat.mul_div_cancel_left _ (by omega)]
    rw [e, mul_pow'] at z
    have h1 : Cg n (b ^ (c * y)) 1 := cg_pow_dvd cb ⟨c, Nat.mul_comm _ _⟩
    have h2 := (Cg.refl n (a ^ (c * y))).mul h1
    rw [Int.mul_one] at h2
    have h3 := h2.symm.trans z
    have d := ha.dvd h3
    rw [Int.toNat_natCast] at d
    have d2 : q * c ∣ c := hg.dvd_of_dvd_mul_right d
    have := Nat.le_of_dvd (by omega) d2
    have := Nat.mul_le_mul_right c q2
    omega
  refine ord_of (by omega) ?_ fun q hq qd => ?_
  · rw [Int.toNat_natCast, mul_pow']
    have h1 : Cg n (a ^ (x * y)) 1 := cg_pow_dvd ca ⟨y, rfl⟩
    have h2 : Cg n (b ^ (x * y)) 1 := cg_pow_dvd cb ⟨x, Nat.mul_comm _ _⟩
    have := h1.mul h2
    rwa [Int.one_mul] at this
  · have q2 := hq.1
    obtain ⟨r, rfl⟩ := Int.eq_ofNat_of_zero_le (show 0 ≤ q by omega)
    have qd' : r ∣ x * y := Int.natCast_dvd_natCast.mp qd
    rw [show ((x * y : Nat) : Int) / (r : Int) = ((x * y / r : Nat) : Int) from (Int.natCast_ediv _ _).symm, Int.toNat_natCast]
    by_cases hx : r ∣ x
    · exact key ha hb hg r (by omega) hx
    · have hy := pr_euclid hq qd' hx
      have := key hb ha hg.symm r (by omega) hy
      rwa [Int.mul_comm a b, Nat.mul_comm x y]
theorem ord_part {p : Int} (hp : IsPr p) {q : Int} {k : Nat} (hq : IsPr q) (hk : 1 ≤ k) (hd : q ^ k ∣ p - 1) : ∃ y, Ord y p (q ^ k) := by
  have p2 := hp.1
  have q2 := hq.1
  obtain ⟨m, hm⟩ := hd
  obtain ⟨j, rfl⟩ : ∃ j, k = j + 1 := ⟨k - 1, by omega⟩
  have m1 : 1 ≤ m := by
    refine Classical.byContradiction fun z => ?_
    have := pow_pos' (show 1 ≤ q by omega) (j + 1)
    have := Int.mul_le_mul_of_nonneg_left (show m ≤ 0 by omega) (show 0 ≤ q ^ (j + 1) by omega)
    omega
  have qj := pow_pos' (show 1 ≤ q by omega) j
  have em : q ^ (j + 1) * m = q * (q ^ j * m) := by rw [Int.pow_succ]; grind
  have d1 : 1 ≤ q ^ j * m := by
    have := Int.mul_le_mul qj m1 (by decide) (by omega)
    omega
  have d2 : q ^ j * m < p - 1 := by
    have := Int.mul_le_mul_of_nonneg_right q2 (show 0 ≤ q ^ j * m by omega)
    omega
  obtain ⟨x, x1, x2, hx⟩ := not_all hp (d := (q ^ j * m).toNat) (by omega) (by omega)
  have nx : ¬ p ∣ x := fun z => by have := Int.le_of_dvd (by omega) z; omega
  have f := fermat1 hp nx
  have qn : (q ^ (j + 1)).toNat = q.toNat ^ (j + 1) := toNat_pow (by omega) _
  have qn' : (q ^ j).toNat = q.toNat ^ j := toNat_pow (by omega) _
  refine ⟨x ^ m.toNat, ord_of (by have := pow_pos' (show 1 ≤ q by omega) (j + 1); omega) ?_ fun r hr rd => ?_⟩
  · rw [← Int.pow_mul]
    have e : m.toNat * (q ^ (j + 1)).toNat = (p - 1).toNat := by
      have := pow_pos' (show 1 ≤ q by omega) (j + 1)
      rw [hm, Int.toNat_mul (by omega) (by omega), Nat.mul_comm]
    rw [e]; exact f
  · have rq : r = q := pr_dvd_pr hr hq (pr_dvd_pow hr rd)
    subst rq
    rw [← Int.pow_mul]
    have e1 : r ^ (j + 1) / r = r ^ j := by rw [Int.pow_succ, Int.mul_ediv_cancel _ (by omega)]
    rw [e1]
    have e : m.toNat * (r ^ j).toNat = (r ^ j * m).toNat := by rw [Int.toNat_mul (by omega) (by omega), Nat.mul_comm]
    rw [e]; exact hx
theorem ord_parts {p : Int} (hp : IsPr p) : ∀ (l : List (Int × Int)), PartsOk l → prod l ∣ p - 1 → ∃ g, Ord g p (prod l)
  | [], _, _ => ⟨1, by decide, by rw [Int.one_pow]; exact Cg.refl _ _, fun e a b => by simp only [prod] at b; omega⟩
  | q :: l, h, hd => by
    have hq := h.pr q List.mem_cons_self
    have q2 := hq.1.1
    have d1 : q.1 ^ q.2.toNat ∣ p - 1 := Int.dvd_trans ⟨prod l, rfl⟩ hd
    have d2 : prod l ∣ p - 1 := Int.dvd_trans ⟨q.1 ^ q.2.toNat, by rw [prod, Int.mul_comm]⟩ hd
    obtain ⟨y, hy⟩ := ord_part hp hq.1 (by have := hq.2; omega) d1
    obtain ⟨g, hg⟩ := ord_parts hp l h.tail d2
    have e1 := pow_pos' (show 1 ≤ q.1 by omega) q.2.toNat
    have e2 := prod_pos h.tail.pr
    have nd := h.head_not
    obtain ⟨a, ha⟩ := Int.eq_ofNat_of_zero_le (show 0 ≤ q.1 ^ q.2.toNat by omega)
    obtain ⟨b, hb⟩ := Int.eq_ofNat_of_zero_le (show 0 ≤ prod l by omega)
    rw [ha] at hy
    rw [hb] at hg
    have cop : Nat.Coprime a b := by
      have e3 : a = q.1.natAbs ^ q.2.toNat := by rw [← Int.natAbs_pow, ha]; rfl
      have e4 : b = (prod l).natAbs := by rw [hb]; rfl
      rw [e3, e4]
      refine Nat.Coprime.pow_left _ ?_
      obtain ⟨m, hm⟩ := Int.eq_ofNat_of_zero_le (show 0 ≤ q.1 by omega)
      have hp' := hq.1
      rw [hm] at hp' nd ⊢
      exact pr_coprime hp' fun z => nd (Int.natAbs_dvd_natAbs.mp z)
    refine ⟨y * g, ?_⟩
    rw [prod, ha, hb, ← Int.natCast_mul]
    exact ord_mul hy hg cop
theorem Ord.rest {a n o : Int} (h : Ord a n o) : Ord (a % n) n o :=
  ⟨h.pos, ((cg_mod n a).pow _).trans h.cg, fun e e1 e2 z => h.least e e1 e2 (((cg_mod n a).pow _).symm.trans z)⟩
theorem prim_root {p : Int} (hp : IsPr p) : ∃ g, 1 ≤ g ∧ g < p ∧ Ord g p (p - 1) := by
  have p2 := hp.1
  obtain ⟨l, hl⟩ := parts_exist (show 1 ≤ p - 1 by omega)
  obtain ⟨g, hg⟩ := ord_parts hp l hl.1 (by rw [hl.2]; exact Int.dvd_refl _)
  rw [hl.2] at hg
  have hr := hg.rest
  refine ⟨g % p, ?_, Int.emod_lt_of_pos _ (by omega), hr⟩
  have h0 := Int.emod_nonneg g (show p ≠ 0 by omega)
  refine Classical.byContradiction fun z => ?_
  have e : g % p = 0 := by omega
  have c := hr.cg
  rw [e, Int.zero_pow (by omega)] at c
  have : p ∣ 1 := by
    have := Cg.symm c
    simpa [Cg] using this
  have := Int.le_of_dvd (by decide) this
  omega
end MM
namespace MM
noncomputable def pl (n : Int) : List (Int × Int) := @dite _ (1 ≤ n) (Classical.propDecidable _) (fun h => Classical.choose (parts_exist h)) (fun _ => [])
theorem pl_ok {n : Int} (h : 1 ≤ n) : Parts n (pl n) := by
  unfold pl
  rw [dif_pos h]
  exact Classical.choose_spec (parts_exist h)
theorem parts_pos {n : Int} {l : List (Int × Int)} (h : Parts n l) : 1 ≤ n := by
  rw [← h.2]; exact prod_pos h.1.pr
theorem pl_eq {n : Int} {l : List (Int × Int)} (h : Parts n l) : pl n = l := (pl_ok (parts_pos h)).unique h
theorem part_half {p : Int} {l : List (Int × Int)} {j : Nat} (hp : IsPr p) (hj : p ≤ 2 ^ (j + 1)) (hl : Parts (p - 1) l) {q : Int × Int} (hq : q ∈ l) : q.1 ≤ 2 ^ j := by
  have hqp := (hl.1.pr q hq).1
  have q2 := hqp.1
  have p2 := hp.1
  have hd : q.1 ∣ p - 1 := by rw [← hl.2]; exact mem_dvd_prod hl.1.pr hq
  have hle := Int.le_of_dvd (by omega) hd
  rw [Int.pow_succ] at hj
  by_cases e : q.1 = 2
  · omega
  · have odd : p % 2 = 1 := by
      by_cases h4 : 4 ≤ p
      · have := hp.2 2 (by omega) (by omega)
        omega
      · omega
    obtain ⟨m, hm⟩ : ∃ m, p - 1 = 2 * m := ⟨(p - 1) / 2, by omega⟩
    rw [hm] at hd
    rcases pr_int_euclid hqp hd with h | h
    · have := Int.le_of_dvd (by omega) h
      omega
    · have := Int.le_of_dvd (by omega) h
      omega
theorem isPr2 : IsPr 2 := ⟨by omega, fun d h1 h2 => by
  have := Int.mul_le_mul h1 h1 (by omega) (by omega)
  omega⟩
theorem isPr3 : IsPr 3 := ⟨by omega, fun d h1 h2 => by
  have := Int.mul_le_mul h1 h1 (by omega) (by omega)
  omega⟩
def BaseOk (b p : Int) (l : List (Int × Int)) : Prop := ∀ q ∈ l, ¬ Cg p (b ^ ((p - 1) / q.1).toNat) 1
noncomputable def baseB (b p : Int) (l : List (Int × Int)) : Bool := @decide (BaseOk b p l) (Classical.propDecidable _)
theorem baseB_of {b p : Int} {l : List (Int × Int)} (h : BaseOk b p l) : baseB b p l = true := by unfold baseB; exact @decide_eq_true _ (Classical.propDecidable _) h
theorem baseB_not {b p : Int} {l : List (Int × Int)} (h : ¬ BaseOk b p l) : baseB b p l = false := by unfold baseB; exact @decide_eq_false _ (Classical.propDecidable _) h
theorem base_ord {b p : Int} {l : List (Int × Int)} (hp : IsPr p) (hl : Parts (p - 1) l) (b1 : 1 ≤ b) (b2 : b < p) : BaseOk b p l ↔ Ord b p (p - 1) := by
  have p2 := hp.1
  have nd : ¬ p ∣ b := fun z => by have := Int.le_of_dvd (by omega) z; omega
  constructor
  · intro h
    refine ord_of (by omega) (fermat1 hp nd) fun q hq qd => ?_
    obtain ⟨x, hx, rfl⟩ := pr_dvd_prod hq hl.1.pr (by rw [hl.2]; exact qd)
    exact h x hx
  · intro h q hq
    exact h.no_prime (hl.1.pr q hq).1.1 (by rw [← hl.2]; exact mem_dvd_prod hl.1.pr hq)
structure LRoot (p b : Int) : Prop where
  b1 : 1 ≤ b
  b2 : b < p
  ord : Ord b p (p - 1)
  no : ∀ x, 1 ≤ x → x < b → ¬ Ord x p (p - 1)
theorem LRoot.unique {p b c : Int} (h : LRoot p b) (g : LRoot p c) : b = c := by
  by_cases e : b < c
  · exact absurd h.ord (g.no b h.b1 e)
  · by_cases e2 : c < b
    · exact absurd g.ord (h.no c g.b1 e2)
    · omega
noncomputable def lroot (p : Int) : Int := @dite _ (∃ b, LRoot p b) (Classical.propDecidable _) (fun h => Classical.choose h) (fun _ => 0)
theorem lroot_eq {p b : Int} (h : LRoot p b) : lroot p = b := by
  unfold lroot
  rw [dif_pos ⟨b, h⟩]
  exact (Classical.choose_spec (⟨b, h⟩ : ∃ b, LRoot p b)).unique h
theorem isPr7 : IsPr 7 := pr_try (n := 7) (k := 1) (by decide) (by decide) (by decide)
end MM
namespace MM
open PySem L2
noncomputable def pap : Nat → Int → Dt
  | 0, _ => .tup [.str (Str.ofString "two")]
  | k + 1, p => if p = 2 then .tup [.str (Str.ofString "two")] else .tup [.str (Str.ofString "full"), .int (lroot p), .tup ((pl (p - 1)).map fun q => .tup [.int q.1, .int q.2, pap k q.1])]
noncomputable abbrev rowD (k : Nat) (q : Int × Int) : Dt := .tup [.int q.1, .int q.2, pap k q.1]
theorem pap_two (k : Nat) : pap (k + 1) 2 = .tup [.str (Str.ofString "two")] := by rw [pap, if_pos rfl]
theorem pap_step {k : Nat} {p : Int} {l : List (Int × Int)} (h : p ≠ 2) (hl : Parts (p - 1) l) : pap (k + 1) p = .tup [.str (Str.ofString "full"), .int (lroot p), .tup (l.map (rowD k))] := by rw [pap, if_neg h, pl_eq hl]
mutual
theorem noL_pap : ∀ (k : Nat) (p : Int), noL (pap k p) = true
  | 0, _ => rfl
  | k + 1, p => by
    rw [pap]
    split
    · rfl
    · show (true && (true && (noLL ((pl (p - 1)).map (rowD k)) && true))) = true
      rw [noL_rows k (pl (p - 1))]
      rfl
theorem noL_rows : ∀ (k : Nat) (l : List (Int × Int)), noLL (l.map (rowD k)) = true
  | _, [] => rfl
  | k, q :: r => by
    show ((true && (true && (noL (pap k q.1) && true))) && noLL (r.map (rowD k))) = true
    rw [noL_pap k q.1, noL_rows k r]
    rfl
end
noncomputable def rowsP (k : Nat) (l : List (Int × Int)) : List Row := l.map fun q => (q.1, q.2, pap k q.1)
theorem rowsP_map (k : Nat) (l : List (Int × Int)) : (rowsP k l).map rwD = l.map (rowD k) := by
  unfold rowsP
  rw [List.map_map]
  rfl
theorem rowsP_prd (k : Nat) : ∀ l : List (Int × Int), prd (rowsP k l) = prod l
  | [] => rfl
  | q :: r => by
    show q.1 ^ q.2.toNat * prd (rowsP k r) = q.1 ^ q.2.toNat * prod r
    rw [rowsP_prd k r]
theorem pow_big {p e : Int} (hp : 2 ≤ p) (h : p ^ e.toNat ≤ 10 ^ 30) : e ≤ 200 := by
  refine Classical.byContradiction fun w => ?_
  have a := pow_ge hp e.toNat
  have b : (2 : Int) ^ 100 ≤ 2 ^ e.toNat := pow_mono1 (by decide) (by omega)
  have c : (10 : Int) ^ 30 < 2 ^ 100 := by decide
  omega
theorem rowsP_asc (k : Nat) : ∀ (l : List (Int × Int)) (m : Int), (∀ q ∈ l, m < q.1) → PartsOk l → prod l ≤ 10 ^ 30 → asc m (rowsP k l)
  | [], _, _, _, _ => True.intro
  | q :: r, m, hm, ho, hb => by
    have q1 := ho.pr q List.mem_cons_self
    have up := List.pairwise_cons.mp ho.up
    have okr : PartsOk r := ⟨fun x hx => ho.pr x (List.mem_cons_of_mem q hx), up.2⟩
    have p1 := prod_pos okr.pr
    have z : 1 ≤ q.1 ^ q.2.toNat := pow_pos' (show 1 ≤ q.1 by have := q1.1.1; omega) _
    have e : prod (q :: r) = q.1 ^ q.2.toNat * prod r := rfl
    have a := le_mul1 (show 0 ≤ q.1 ^ q.2.toNat by omega) p1
    have b := Int.mul_le_mul_of_nonneg_right z (show 0 ≤ prod r by omega)
    exact ⟨hm q List.mem_cons_self, q1.2, pow_big q1.1.1 (show q.1 ^ q.2.toNat ≤ _ by omega), rowsP_asc k r q.1 (fun x hx => up.1 x hx) okr (by omega)⟩
theorem fullOk {p : Int} {l : List (Int × Int)} (k : Nat) (hp : IsPr p) (p3 : 3 ≤ p) (pb : p ≤ 10 ^ 30) (hl : Parts (p - 1) l) : FullOk p (lroot p) (rowsP k l) := by
  obtain ⟨g, g1, g2, hg⟩ := prim_root hp
  have ⟨b, hb⟩ : ∃ b, LRoot p b := by
    obtain ⟨n, hn⟩ : ∃ n : Nat, n = g.toNat := ⟨_, rfl⟩
    revert g
    induction n using Nat.strongRecOn with
    | _ n ih =>
      intro g g1 g2 hg hn
      by_cases h : ∃ x, 1 ≤ x ∧ x < g ∧ Ord x p (p - 1)
      · obtain ⟨x, x1, x2, hx⟩ := h
        exact ih x.toNat (by omega) x x1 (by omega) hx rfl
      · exact ⟨g, g1, g2, hg, fun x x1 x2 hx => h ⟨x, x1, x2, hx⟩⟩
  rw [lroot_eq hb]
  have one : (1 : Int) % p = 1 := Int.emod_eq_of_lt (by omega) (by omega)
  have pr : prd (rowsP k l) = p - 1 := by rw [rowsP_prd, hl.2]
  refine ⟨⟨?_, ?_, hb.b1, by have := hb.b2; omega, ?_, ?_⟩, pr, ?_⟩
  · intro z
    rw [z] at pr
    have : prd [] = 1 := rfl
    omega
  · exact rowsP_asc k l 1 (fun q hq => by have := (hl.1.pr q hq).1.1; omega) hl.1 (by rw [hl.2]; omega)
  · rw [cg_eq hb.ord.cg, one]
  · rw [pr]; exact Int.emod_self
  · intro r hr e
    unfold rowsP at hr
    obtain ⟨q, hq, rfl⟩ := List.mem_map.mp hr
    exact (base_ord hp hl hb.b1 hb.b2).mpr hb.ord q hq (cg_one.mp (by rw [one]; exact e))
theorem pap_right : ∀ (j : Nat) {p : Int}, IsPr p → p ≤ 10 ^ 30 → p ≤ 2 ^ j → RP j true p (pap j p)
  | 0, p, hp, _, h => by
    have := hp.1
    rw [Int.pow_zero] at h
    omega
  | j + 1, p, hp, hb, hj => by
    by_cases e : p = 2
    · subst e
      rw [pap_two]
      exact .two
    · have p2 := hp.1
      have hl := pl_ok (show 1 ≤ p - 1 by omega)
      rw [pap_step e hl, ← rowsP_map]
      refine .full (by omega) hp (fullOk j hp (by omega) hb hl) fun r hr => ?_
      unfold rowsP at hr
      obtain ⟨q, hq, rfl⟩ := List.mem_map.mp hr
      have qd : q.1 ∣ p - 1 := by rw [← hl.2]; exact mem_dvd_prod hl.1.pr hq
      have := Int.le_of_dvd (by omega) qd
      exact pap_right j (hl.1.pr q hq).1 (by omega) (part_half hp hj hl hq)
end MM
namespace ST
open PySem PySem.W PyProof.Rows
def KOk (r : Nat → Int) (N : Nat) {α : Type} : KasT α → (α → Prop) → Prop
  | .ret a, Q => Q a
  | .ask i j k, Q => i < N ∧ j < N ∧ i ≠ j ∧ KOk r N (k (decide (r i < r j))) Q
theorem KOk.bind {r : Nat → Int} {N : Nat} {α β : Type} {f : α → KasT β} {Q : β → Prop} {R : α → Prop} : ∀ {t : KasT α}, KOk r N t R → (∀ a, R a → KOk r N (f a) Q) → KOk r N (t.bind f) Q
  | .ret a, h, k => k a h
  | .ask i j c, h, k => ⟨h.1, h.2.1, h.2.2.1, KOk.bind (t := c _) h.2.2.2 k⟩
theorem KOk.wp {r : Nat → Int} {N : Nat} {α : Type} {cmp : Nat → Nat → (Bool → Shared → Prop) → Shared → Prop} {s : Shared} {G : α → Shared → Prop} {R : α → Prop}
    (hc : ∀ i j C, i < N → j < N → i ≠ j → C (decide (r i < r j)) s → cmp i j C s) (hG : ∀ a, R a → G a s) : ∀ {t : KasT α}, KOk r N t R → t.kasWp cmp G s
  | .ret a, h => hG a h
  | .ask i j c, h => hc i j _ h.1 h.2.1 h.2.2.1 (KOk.wp (t := c _) hc hG h.2.2.2)
structure Pm (r : Nat → Int) (N : Nat) (p : Array Nat) : Prop where
  sz : p.size = N
  pm : p.toList.Perm (List.range N)
  dj : ∀ i j, i < N → j < N → r i = r j → i = j
section
variable {r : Nat → Int} {N : Nat} {p : Array Nat}
def ky (r : Nat → Int) (p : Array Nat) (i : Nat) : Int := r (p.getD i 0)
theorem Pm.get (h : Pm r N p) {i : Nat} (hi : i < N) : p.getD i 0 = p.toList[i]'(by rw [Array.length_toList, h.sz]; exact hi) := by
  have := h.sz
  simp [Array.getD, show i < p.size by omega]
theorem Pm.lt (h : Pm r N p) {i : Nat} (hi : i < N) : p.getD i 0 < N := by
  rw [h.get hi]
  exact List.mem_range.mp (h.pm.mem_iff.mp (List.getElem_mem _))
theorem Pm.ne (h : Pm r N p) {i j : Nat} (hi : i < N) (hj : j < N) (ij : i ≠ j) : p.getD i 0 ≠ p.getD j 0 := by
  rw [h.get hi, h.get hj]
  have nd : p.toList.Nodup := h.pm.nodup_iff.mpr List.nodup_range
  intro e
  rcases Nat.lt_or_gt_of_ne ij with c | c
  · exact List.pairwise_iff_getElem.mp nd _ _ _ _ c e
  · exact List.pairwise_iff_getElem.mp nd _ _ _ _ c e.symm
theorem Pm.kne (h : Pm r N p) {i j : Nat} (hi : i < N) (hj : j < N) (ij : i ≠ j) : ky r p i ≠ ky r p j := fun e =>
  h.ne hi hj ij (h.dj _ _ (h.lt hi) (h.lt hj) e)
theorem Pm.swap {q : Array Nat} (h : Pm r N p) (e : q.Perm p) : Pm r N q := ⟨e.size_eq.trans h.sz, (Array.perm_iff_toList_perm.mp e).trans h.pm, h.dj⟩
theorem Pm.rev (h : Pm r N p) {n : Nat} : Pm r N (kas_rev p 0 n) := h.swap (mirror_perm _ _ _ _)
theorem Pm.bub (h : Pm r N p) {k d : Nat} : Pm r N (bubble p k d) := h.swap (bubble_perm _ _ _)
theorem getD_of {q : Array Nat} {i : Nat} : q.getD i 0 = (q[i]?).getD 0 := by
  rw [Array.getD_eq_getD_getElem?]
theorem Pm.kyRev (h : Pm r N p) {n k : Nat} (hn : n ≤ N) : ky r (kas_rev p 0 n) k = if k < n then ky r p (n - 1 - k) else ky r p k := by
  unfold ky kas_rev
  rw [getD_of, getElem?_mirror_all (by rw [h.sz]; exact hn)]
  split
  · rw [if_pos (by omega), getD_of, Nat.zero_add]
  · rw [if_neg (by omega), getD_of]
theorem Pm.kyBub (h : Pm r N p) {s d k : Nat} (hs : s < N) (hd : d ≤ s) : ky r (bubble p s d) k = if k = s - d then ky r p s else if s - d < k ∧ k ≤ s then ky r p (k - 1) else ky r p k := by
  unfold ky
  rw [getD_of, getElem?_bubble (by rw [h.sz]; exact hs) d hd]
  repeat' split
  all_goals rw [getD_of]
def Srt (r : Nat → Int) (p : Array Nat) (m : Nat) : Prop := ∀ i j, i < j → j < m → ky r p i < ky r p j
def Dcr (r : Nat → Int) (p : Array Nat) (m : Nat) : Prop := ∀ i j, i < j → j < m → ky r p j < ky r p i
theorem srt_snoc {m : Nat} (h : Srt r p m) (h1 : 1 ≤ m) (e : ky r p (m - 1) < ky r p m) : Srt r p (m + 1) := fun i j ij jm => by
  by_cases hj : j = m
  · subst hj
    by_cases hi : i = j - 1
    · subst hi; exact e
    · exact Int.lt_trans (h i (j - 1) (by omega) (by omega)) e
  · exact h i j ij (by omega)
theorem dcr_snoc {m : Nat} (h : Dcr r p m) (h1 : 1 ≤ m) (e : ky r p m < ky r p (m - 1)) : Dcr r p (m + 1) := fun i j ij jm => by
  by_cases hj : j = m
  · subst hj
    by_cases hi : i = j - 1
    · subst hi; exact e
    · exact Int.lt_trans e (h i (j - 1) (by omega) (by omega))
  · exact h i j ij (by omega)
theorem asc_ok (h : Pm r N p) : ∀ (f n : Nat), 1 ≤ n → n + f ≤ N → Srt r p n → KOk r N (kas_asc p f n) fun m => n ≤ m ∧ m ≤ n + f ∧ Srt r p m ∧ (m < n + f → ky r p m < ky r p (m - 1))
  | 0, n, h1, hf, hs => ⟨Nat.le_refl _, Nat.le_refl _, hs, fun z => absurd z (by omega)⟩
  | f + 1, n, h1, hf, hs => by
    have hn : n < N := by omega
    have hm : n - 1 < N := by omega
    refine ⟨h.lt hn, h.lt hm, h.ne hn hm (by omega), ?_⟩
    by_cases c : ky r p n < ky r p (n - 1)
    · rw [show decide (r (p.getD n 0) < r (p.getD (n - 1) 0)) = true from decide_eq_true c]; dsimp only; rw [if_pos rfl]
      exact ⟨Nat.le_refl _, by omega, hs, fun _ => c⟩
    · rw [show decide (r (p.getD n 0) < r (p.getD (n - 1) 0)) = false from decide_eq_false c]; dsimp only; rw [if_neg (by decide)]
      have ne := h.kne hn hm (by omega)
      have := asc_ok h f (n + 1) (by omega) (by omega) (srt_snoc hs h1 (by omega))
      have cast : ∀ {t : KasT Nat} {Q R : Nat → Prop}, (∀ m, Q m → R m) → KOk r N t Q → KOk r N t R := fun {t} => by
        induction t with
        | ret a => exact fun k h => k _ h
        | ask i j c ih => exact fun k h => ⟨h.1, h.2.1, h.2.2.1, ih _ k h.2.2.2⟩
      exact cast (fun m hm => ⟨by omega, by omega, hm.2.2.1, fun z => hm.2.2.2 (by omega)⟩) this
theorem KOk.mono {α : Type} {t : KasT α} {Q R : α → Prop} (k : ∀ m, Q m → R m) (h : KOk r N t Q) : KOk r N t R := by
  induction t with
  | ret a => exact k _ h
  | ask i j c ih => exact ⟨h.1, h.2.1, h.2.2.1, ih _ h.2.2.2⟩
theorem desc_ok (h : Pm r N p) : ∀ (f n : Nat), 1 ≤ n → n + f ≤ N → Dcr r p n → KOk r N (kas_desc f p n 0) fun x => x.1 = p ∧ x.2.2 = 0 ∧ n ≤ x.2.1 ∧ x.2.1 ≤ n + f ∧ Dcr r p x.2.1
  | 0, n, h1, hf, hs => ⟨rfl, rfl, Nat.le_refl _, Nat.le_refl _, hs⟩
  | f + 1, n, h1, hf, hs => by
    have hn : n < N := by omega
    have hm : n - 1 < N := by omega
    refine ⟨h.lt hn, h.lt hm, h.ne hn hm (by omega), ?_⟩
    by_cases c : ky r p n < ky r p (n - 1)
    · rw [show decide (r (p.getD n 0) < r (p.getD (n - 1) 0)) = true from decide_eq_true c]; dsimp only; rw [if_pos rfl, if_neg (by omega)]
      exact (desc_ok h f (n + 1) (by omega) (by omega) (dcr_snoc hs h1 c)).mono fun m hm => ⟨hm.1, hm.2.1, by omega, by omega, hm.2.2.2.2⟩
    · rw [show decide (r (p.getD n 0) < r (p.getD (n - 1) 0)) = false from decide_eq_false c]; dsimp only; rw [if_neg (by decide)]
      have ne := h.kne hn hm (by omega)
      refine ⟨h.lt hm, h.lt hn, h.ne hm hn (by omega), ?_⟩
      rw [show decide (r (p.getD (n - 1) 0) < r (p.getD n 0)) = true from decide_eq_true (show ky r p (n - 1) < ky r p n by omega)]; dsimp only; rw [if_pos rfl]
      exact ⟨rfl, rfl, Nat.le_refl _, Nat.le_add_right _ _, hs⟩
def Rn (r : Nat → Int) (N : Nat) (x : Nat × Array Nat) : Prop := 1 ≤ x.1 ∧ x.1 ≤ N ∧ Pm r N x.2 ∧ Srt r x.2 x.1
theorem tail3_ok (h : Pm r N p) {n : Nat} (h1 : 1 ≤ n) (hn : n ≤ N) (hd : Dcr r p n) : KOk r N (kas_tail3 n N p) (Rn r N) := by
  have hs : Srt r (kas_rev p 0 n) n := fun i j ij jn => by
    rw [h.kyRev hn, h.kyRev hn, if_pos (by omega), if_pos jn]
    exact hd _ _ (by omega) (by omega)
  refine (asc_ok h.rev (N - n) n h1 (by omega) hs).bind fun m hm => ?_
  exact ⟨by omega, by omega, h.rev, hm.2.2.1⟩
theorem srt_one : Srt r p 1 := fun i j ij j1 => by omega
theorem count_ok (h : Pm r N p) (h1 : 1 ≤ N) : KOk r N (kas_count N p) (Rn r N) := by
  refine (asc_ok h (N - 1) 1 (Nat.le_refl _) (by omega) srt_one).bind fun n hn => ?_
  obtain ⟨n1, n2, hs, hd⟩ := hn
  by_cases e : n = N
  · rw [if_pos (by rw [beq_iff_eq]; exact e)]
    exact ⟨n1, by omega, h, hs⟩
  · rw [if_neg (by rw [beq_iff_eq]; exact e)]
    by_cases g : n > 1
    · rw [if_pos g]
      refine ⟨h.lt (by omega), h.lt (by omega), h.ne (by omega) (by omega) (by omega), ?_⟩
      rw [show decide (r (p.getD 0 0) < r (p.getD (n - 1) 0)) = true from decide_eq_true (hs 0 (n - 1) (by omega) (by omega))]; dsimp only; rw [if_pos rfl]
      exact ⟨n1, by omega, h, hs⟩
    · rw [if_neg g]
      have n1' : n = 1 := by omega
      subst n1'
      have d := hd (by omega)
      have D2 : Dcr r p 2 := fun i j ij j2 => by
        have : i = 0 ∧ j = 1 := by omega
        rw [this.1, this.2]; exact d
      refine (desc_ok h (N - 2) 2 (by omega) (by omega) D2).bind fun x hx => ?_
      obtain ⟨e1, e2, x1, x2, hx⟩ := hx
      rw [if_neg (by omega), e1]
      exact tail3_ok h (by omega) (by omega) hx
theorem place_ok (h : Pm r N p) {k : Nat} (hk : k < N) (hs : Srt r p k) : ∀ (f l u : Nat), u - l ≤ f → l ≤ u → u ≤ k → (∀ i, i < l → ky r p i < ky r p k) → (∀ i, u ≤ i → i < k → ky r p k < ky r p i) →
    KOk r N (kas_place p k f l u) fun m => m ≤ k ∧ (∀ i, i < m → ky r p i < ky r p k) ∧ ∀ i, m ≤ i → i < k → ky r p k < ky r p i
  | 0, l, u, hf, lu, uk, a, b => ⟨by omega, a, fun i hi => b i (by omega)⟩
  | f + 1, l, u, hf, lu, uk, a, b => by
    unfold kas_place
    by_cases g : l ≥ u
    · rw [if_pos g]
      exact ⟨by omega, a, fun i hi => b i (by omega)⟩
    · rw [if_neg g]
      have hm : (l + u) / 2 < k := by omega
      refine ⟨h.lt hk, h.lt (by omega), h.ne hk (by omega) (by omega), ?_⟩
      by_cases c : ky r p k < ky r p ((l + u) / 2)
      · rw [show decide (r (p.getD k 0) < r (p.getD ((l + u) / 2) 0)) = true from decide_eq_true c]; dsimp only; rw [if_pos rfl]
        refine place_ok h hk hs f l _ (by omega) (by omega) (by omega) a fun i hi ik => ?_
        by_cases ei : i = (l + u) / 2
        · rw [ei]; exact c
        · exact Int.lt_trans c (hs _ _ (by omega) ik)
      · rw [show decide (r (p.getD k 0) < r (p.getD ((l + u) / 2) 0)) = false from decide_eq_false c]; dsimp only; rw [if_neg (by decide)]
        have ne := h.kne hk (show (l + u) / 2 < N by omega) (by omega)
        refine place_ok h hk hs f _ u (by omega) (by omega) uk (fun i hi => ?_) b
        by_cases ei : i = (l + u) / 2
        · rw [ei]; omega
        · exact Int.lt_trans (hs i ((l + u) / 2) (by omega) hm) (by omega)
theorem bin_ok : ∀ (f k : Nat) (p : Array Nat), Pm r N p → k + f = N → Srt r p k → KOk r N (kas_bin f p k) fun q => Pm r N q ∧ Srt r q N
  | 0, k, p, h, e, hs => by
    have : k = N := by omega
    subst this
    exact ⟨h, hs⟩
  | f + 1, k, p, h, e, hs => by
    have hk : k < N := by omega
    refine (place_ok h hk hs k 0 k (by omega) (by omega) (Nat.le_refl _) (fun i hi => absurd hi (by omega)) (fun i a b => absurd b (by omega))).bind fun m hm => ?_
    obtain ⟨mk, lo, hi⟩ := hm
    refine bin_ok f (k + 1) _ h.bub (by omega) fun i j ij jk => ?_
    rw [h.kyBub hk (by omega), h.kyBub hk (by omega), show k - (k - m) = m by omega]
    by_cases i1 : i = m
    · rw [if_pos i1, if_neg (by omega), if_pos (by omega)]
      exact hi _ (by omega) (by omega)
    · rw [if_neg i1]
      by_cases j1 : j = m
      · rw [if_pos j1, if_neg (by omega)]
        exact lo _ (by omega)
      · rw [if_neg j1]
        by_cases i2 : m < i ∧ i ≤ k
        · rw [if_pos i2, if_pos (by omega)]
          exact hs _ _ (by omega) (by omega)
        · rw [if_neg i2]
          by_cases j2 : m < j ∧ j ≤ k
          · rw [if_pos j2]
            by_cases j3 : i = j - 1
            · exact absurd j3 (by omega)
            · exact hs _ _ (by omega) (by omega)
          · rw [if_neg j2]
            exact hs _ _ ij (by omega)
theorem sort_ok (h1 : 1 ≤ N) (dj : ∀ i j, i < N → j < N → r i = r j → i = j) : KOk r N (kas_sort N) fun q => Pm r N q ∧ Srt r q N := by
  have h0 : Pm r N (List.toArray (List.range N)) := ⟨by simp, List.Perm.refl _, dj⟩
  refine (count_ok h0 h1).bind fun x hx => ?_
  obtain ⟨x1, x2, hp, hs⟩ := hx
  by_cases c : x.1 < N
  · rw [if_pos c]
    have e : max x.1 1 = x.1 := by omega
    rw [e]
    exact bin_ok _ _ _ hp (by omega) hs
  · rw [if_neg c]
    have e : x.1 = N := by omega
    rw [e] at hs
    exact ⟨hp, hs⟩
end
end ST
namespace L2
open PySem PySem.W PySem.Spec PyProof.Rows
theorem kt_to {h h' : Heap} {a : Addr} (k : ∀ b o, b ≠ a → h.get? b = some o → h'.get? b = some o) (na : ∀ o, h.get? a = some o → o.cls ≠ .type "tuple") : ∀ {vs fs : List Value}, KatTups h vs fs → KatTups h' vs fs
  | [], [], _ => trivial
  | [], _ :: _, t => t.elim
  | _ :: _, [], t => t.elim
  | v :: vs, f :: fs, ⟨⟨b, o, xs, n, e, ho, hc, hd, hf⟩, t⟩ => ⟨⟨b, o, xs, n, e, k b o (fun z => na o (z ▸ ho) hc) ho, hc, hd, hf⟩, kt_to k na t⟩
theorem kt_len {h : Heap} : ∀ {vs fs : List Value}, KatTups h vs fs → vs.length = fs.length
  | [], [], _ => rfl
  | [], _ :: _, t => t.elim
  | _ :: _, [], t => t.elim
  | v :: vs, f :: fs, ⟨_, t⟩ => congrArg (· + 1) (kt_len t)
theorem kt_at {h : Heap} {ks : List Int} : ∀ {vs fs : List Value}, KatTups h vs fs → IntsAre fs ks → ∀ i, i < vs.length → ∃ a o xs n t, vs.getD i Value.none = .ref a ∧ h.get? a = some o ∧ o.data = .seq xs n ∧ xs[0]? = some (.int (ks.getD i 0) t) := by
  intro vs fs t hk
  induction hk generalizing vs with
  | nil =>
    cases vs with
    | nil => exact fun i hi => absurd hi (Nat.not_lt_zero _)
    | cons v vs => exact t.elim
  | cons n tk _ ih =>
    cases vs with
    | nil => exact t.elim
    | cons v vs =>
      obtain ⟨⟨b, o, xs, m, e, ho, hc, hd, hf⟩, t⟩ := t
      intro i hi
      cases i with
      | zero => exact ⟨b, o, xs, m, tk, e, ho, hd, hf⟩
      | succ i => exact ih t i (Nat.lt_of_succ_lt_succ hi)
def rvI (b : Bool) (n i : Nat) : Nat := if b = true then n - 1 - i else i
theorem rv_getD {α : Type} {d : α} (b : Bool) {l : List α} {i : Nat} (hi : i < l.length) : (katRev b l).getD i d = l.getD (rvI b l.length i) d := by
  unfold katRev rvI
  cases b with
  | false => rfl
  | true =>
    rw [if_pos rfl, if_pos rfl]
    rw [List.getD_eq_getElem?_getD, List.getD_eq_getElem?_getD, List.getElem?_reverse hi]
theorem rvI_range (b : Bool) (n : Nat) : ((List.range n).map (rvI b n)).Perm (List.range n) := by
  cases b with
  | false => rw [show rvI false n = id from rfl, List.map_id]
  | true =>
    have e : (List.range n).map (rvI true n) = (List.range n).reverse := by
      refine List.ext_getElem (by simp) fun i h1 h2 => ?_
      simp [rvI]
    rw [e]
    exact List.reverse_perm _
section
variable {prog : Program} {w : World} {A : Around} {E : Value → Shared → Prop} {s : Shared}
theorem lt_tups {b1 : Bool} {vs fs : List Value} {ks : List Int} (hb : b1 = true) (t : KatTups s.heap vs fs) (hk : IntsAre fs ks) {i j : Nat} (hi : i < vs.length) (hj : j < vs.length) (ne : ks.getD i 0 ≠ ks.getD j 0) {C : Bool → Shared → Prop} (h : C (decide (ks.getD i 0 < ks.getD j 0)) s) :
    wpAny (model prog w) A (keyLt' (tuples' b1) (vs.getD i Value.none) (vs.getD j Value.none)) C E s := by
  obtain ⟨a, o, xs, n, tk, e, ho, hd, hf⟩ := kt_at t hk i hi
  obtain ⟨a', o', xs', n', tk', e', ho', hd', hf'⟩ := kt_at t hk j hj
  rw [e, e']
  refine kat_lt ho hd ho' hd' ?_
  obtain ⟨x, hx⟩ : ∃ x, xs.toList = .int (ks.getD i 0) tk :: x := by
    rw [← Array.getElem?_toList] at hf
    cases hl : xs.toList with
    | nil => rw [hl] at hf; cases hf
    | cons y ys => rw [hl] at hf; cases hf; exact ⟨ys, rfl⟩
  obtain ⟨y, hy⟩ : ∃ y, xs'.toList = .int (ks.getD j 0) tk' :: y := by
    rw [← Array.getElem?_toList] at hf'
    cases hl : xs'.toList with
    | nil => rw [hl] at hf'; cases hf'
    | cons y ys => rw [hl] at hf'; cases hf'; exact ⟨ys, rfl⟩
  rw [hx, hy, List.zip_cons_cons]
  refine kat_cons (wpAny_eqBool_int ?_)
  rw [show (ks.getD i 0 == ks.getD j 0) = false from beq_eq_false_iff_ne.mpr ne]
  refine kat_no ?_
  rw [hb]
  exact oneLt_int h
theorem lsort_tups {a : Addr} {vs fs : List Value} {ks : List Int} {n : Nat} {b : Bool} {P : PySem.Fin → Shared → Prop} (ho : s.heap.get? a = some (seqObj "list" vs.toArray n)) (t : KatTups s.heap vs fs) (hk : IntsAre fs ks) (dj : ∀ i j, i < vs.length → j < vs.length → ks.getD i 0 = ks.getD j 0 → i = j) (h64 : vs.length < 64)
    (h : ∀ q : List Nat, q.Perm (List.range vs.length) → (q.map fun i => ks.getD i 0).Pairwise (fun x y => if b = true then y < x else x < y) → P (.done (.ret .none)) { s with heap := sortedHeap s.heap a vs (q.map fun i => vs.getD i Value.none).toArray }) :
    wpAny (model prog w) A (Builtin.«list.sort» ⟨[.ref a], [(Str.ofString "reverse", .bool b)]⟩) P E s := by
  rw [list_sort_rev]
  have al : a < s.heap.objs.size := Heap.lt_size ho
  refine wpAny_bind (listItems_at ho rfl (wpAny_bind (listUpdate_at ho rfl ?_ (by rw [List.size_toArray, sizeLine_eq]; omega) (Nat.zero_le _))))
  obtain ⟨e1, o1⟩ : ∃ e1, (s.heap.update a (Obj.mapSeq fun _ => (#[] : Array Value))).get? a = some (seqObj "list" #[] e1) := ⟨_, get?_update_seq ho fun _ => #[]⟩
  refine wpAny_bind (seqEpoch_at o1 rfl (wpAny_bind (wpAny_newTuple (wpAny_bind (wpAny_newList (wpAny_holding ?_) (Nat.zero_le _))) (by show vs.length ≤ _; rw [sizeLine_eq]; omega))))
  have k6 : ∀ c o, c ≠ a → s.heap.get? c = some o → (((s.heap.update a (Obj.mapSeq fun _ => (#[] : Array Value))).push (seqObj "tuple" vs.toArray 0)).push (seqObj "list" #[] 0)).get? c = some o := fun c o ne e =>
    Heap.get?_push_of_some _ (Heap.get?_push_of_some _ (by rw [Heap.get?_update_ne _ _ _ _ ne]; exact e))
  have o6 : (((s.heap.update a (Obj.mapSeq fun _ => (#[] : Array Value))).push (seqObj "tuple" vs.toArray 0)).push (seqObj "list" #[] 0)).get? a = some (seqObj "list" #[] e1) := Heap.get?_push_of_some _ (Heap.get?_push_of_some _ o1)
  have t6 := kt_to k6 (fun o e z => by rw [ho] at e; cases e; exact absurd z (show Value.type "list" ≠ Value.type "tuple" by decide)) t
  have fin := h
  unfold sortedHeap at fin
  show wpAny (model prog w) A _ P E { s with heap := ((s.heap.update a (Obj.mapSeq fun _ => #[])).push (seqObj "tuple" vs.toArray 0)).push (seqObj "list" #[] 0) }
  generalize ((s.heap.update a (Obj.mapSeq fun _ => (#[] : Array Value))).push (seqObj "tuple" vs.toArray 0)).push (seqObj "list" #[] 0) = h6 at k6 o6 t6 fin ⊢
  dsimp only
  have stp : ∀ {u : Sem PySem.Fin}, wpAny (model prog w) A u P E { s with heap := h6 } → wpAny (model prog w) A (if b = true then (do let _ ← rule "list.sort.reverse"; u) else u) P E { s with heap := h6 } := fun {u} hu => by
    split
    · exact wpAny_bind (wpAny_rule hu)
    · exact hu
  refine stp ?_
  by_cases h2 : vs.toArray.size < 2
  · rw [if_pos h2, if_pos h2]
    refine wpAny_bind (wpAny_pure ?_)
    rw [StateT.run_pure]
    refine wpAny_bind (wpAny_pure ?_)
    dsimp only
    have e0 : (if b = true then (((if b = true then (vs.toArray.zip vs.toArray).reverse else vs.toArray.zip vs.toArray)).map (·.2)).reverse else ((if b = true then (vs.toArray.zip vs.toArray).reverse else vs.toArray.zip vs.toArray)).map (·.2)) = ((List.range vs.length).map fun i => vs.getD i Value.none).toArray := by
      rw [List.size_toArray] at h2
      match vs, h2 with
      | [], _ => cases b <;> simp
      | [v], _ => cases b <;> simp
    refine wpAny_bind (seqEpoch_at o6 rfl (wpAny_bind (listUpdate_at o6 rfl ?_ (Nat.zero_le _) ?_)))
    · simp only [bne_self_eq_false, Bool.false_eq_true, if_false]
      refine wpAny_pure ?_
      have := fin (List.range vs.length) (List.Perm.refl _) (by
        rw [List.size_toArray] at h2
        match vs, h2 with
        | [], _ => exact .nil
        | [v], _ => exact List.pairwise_singleton _ _)
      rw [← e0] at this
      exact this
    · refine Nat.le_trans (Nat.le_of_eq (congrArg Array.size e0)) ?_
      rw [List.size_toArray, List.length_map, List.length_range, sizeLine_eq]; omega
  · rw [if_neg h2, if_neg h2]
    have h2' : 2 ≤ vs.length := by rw [List.size_toArray] at h2; omega
    have fl := kt_len t
    refine wpAny_bind (kat_kind t6 (by omega) (T := .type "int") (fun v hv => ?_) rfl ?_)
    · obtain ⟨m, tk, rfl⟩ := hk.all v hv
      exact .now
    rw [kat_pairs b rfl]
    have rl : (katRev b vs).length = vs.length := kat_len b vs
    refine wpAny_bind (wpAny_mono (kat_run (ks := katRev b vs) (vs := katRev b vs) (Q := fun st' s' => ∃ p : Array Nat, (ST.Pm (fun i => (katRev b ks).getD i 0) vs.length p ∧ ST.Srt (fun i => (katRev b ks).getD i 0) p vs.length) ∧ arrOf st' = p.map (kas_item ((katRev b vs).toArray.zip (katRev b vs).toArray)) ∧ failedOf st' = none ∧ s' = { s with heap := h6 }) (G := fun p s' => (ST.Pm (fun i => (katRev b ks).getD i 0) vs.length p ∧ ST.Srt (fun i => (katRev b ks).getD i 0) p vs.length) ∧ s' = { s with heap := h6 })
      rfl (by omega) (by omega) (fun p' st' s' a1 a2 a3 a4 => ⟨p', a4.1, a2, a3, a4.2⟩) ?_) ?_ fun _ _ x => x)
    · rw [rl]
      have kl : ks.length = vs.length := by rw [← hk.length, ← fl]
      have dj' : ∀ i j, i < vs.length → j < vs.length → (katRev b ks).getD i 0 = (katRev b ks).getD j 0 → i = j := fun i j hi hj e => by
        rw [rv_getD b (by omega), rv_getD b (by omega), kl] at e
        have := dj _ _ (by unfold rvI; split <;> omega) (by unfold rvI; split <;> omega) e
        unfold rvI at this
        split at this <;> omega
      refine ST.KOk.wp (r := fun i => (katRev b ks).getD i 0) (fun i j C hi hj ne hC => ?_) (fun p hp => ⟨hp, rfl⟩) (ST.sort_ok (by omega) dj')
      unfold kas_ask
      have ne' : (katRev b ks).getD i 0 ≠ (katRev b ks).getD j 0 := fun e => ne (dj' i j hi hj e)
      rw [rv_getD b (by omega), rv_getD b (by omega), kl] at hC ne'
      rw [rv_getD b hi, rv_getD b hj]
      exact lt_tups (by rfl) t6 hk (by unfold rvI; split <;> omega) (by unfold rvI; split <;> omega) ne' hC
    · rintro ⟨⟨⟩, st'⟩ s' ⟨p, ⟨hp, hs⟩, har, hf, rfl⟩
      dsimp only
      have out := kat_snds rfl har
      have kl : ks.length = vs.length := by rw [← hk.length, ← fl]
      have e0 : (if b = true then ((arrOf st').map (·.2)).reverse else (arrOf st').map (·.2)) = ((katRev b (p.toList.map (rvI b vs.length))).map fun i => vs.getD i Value.none).toArray := by
        rw [out, kat_outs]
        congr 1
        have e : (p.toList.map fun i => (katRev b vs).getD i Value.none) = (p.toList.map (rvI b vs.length)).map fun i => vs.getD i Value.none := by
          rw [List.map_map]
          refine List.map_congr_left fun i hi => ?_
          exact rv_getD b (List.mem_range.mp (hp.pm.mem_iff.mp hi))
        rw [e]
        unfold katRev
        split
        · rw [List.map_reverse]
        · rfl
      have sz : (katRev b (p.toList.map (rvI b vs.length))).length = vs.length := by rw [kat_len, List.length_map, Array.length_toList, hp.sz]
      refine wpAny_bind (seqEpoch_at o6 rfl (wpAny_bind (listUpdate_at o6 rfl ?_ (Nat.zero_le _) ?_)))
      · rw [hf]
        simp only [bne_self_eq_false, Bool.false_eq_true, if_false]
        refine wpAny_pure ?_
        have := fin (katRev b (p.toList.map (rvI b vs.length))) ?_ ?_
        · rw [← e0] at this
          exact this
        · have h1 : (p.toList.map (rvI b vs.length)).Perm (List.range vs.length) := (hp.pm.map _).trans (rvI_range b _)
          unfold katRev
          split
          · exact (List.reverse_perm _).trans h1
          · exact h1
        · have h1 : ((p.toList.map (rvI b vs.length)).map fun i => ks.getD i 0).Pairwise (· < ·) := by
            have e : ((p.toList.map (rvI b vs.length)).map fun i => ks.getD i 0) = p.toList.map fun i => (katRev b ks).getD i 0 := by
              rw [List.map_map]
              refine List.map_congr_left fun i hi => ?_
              have := List.mem_range.mp (hp.pm.mem_iff.mp hi)
              rw [rv_getD b (by omega), kl]
              rfl
            rw [e, List.pairwise_iff_getElem]
            intro i j hi hj ij
            rw [List.length_map, Array.length_toList, hp.sz] at hi hj
            have := hs i j ij hj
            unfold ST.ky at this
            rw [hp.get hi, hp.get hj] at this
            rw [List.getElem_map, List.getElem_map]
            exact this
          unfold katRev
          cases b with
          | false => simpa using h1
          | true => rw [if_pos rfl, List.map_reverse, List.pairwise_reverse]; simpa using h1
      · refine Nat.le_trans (Nat.le_of_eq (congrArg Array.size e0)) ?_
        rw [List.size_toArray, List.length_map, sz, sizeLine_eq]; omega
theorem lsort_plain {a : Addr} : Builtin.«list.sort» ⟨[.ref a], []⟩ = Builtin.«list.sort» ⟨[.ref a], [(Str.ofString "reverse", .bool false)]⟩ := by
  rw [list_sort_plain, list_sort_rev]; rfl
theorem sorted_tups {l : Addr} {vs fs : List Value} {ks : List Int} {b : Bool} {kw : List (Str × Value)} {Q : Value → Shared → Prop} (hkw : kw = [(Str.ofString "reverse", .bool b)] ∨ (kw = [] ∧ b = false)) (hl : s.heap.IsList l vs.toArray) (t : KatTups s.heap vs fs) (hk : IntsAre fs ks) (dj : ∀ i j, i < vs.length → j < vs.length → ks.getD i 0 = ks.getD j 0 → i = j) (h64 : vs.length < 64)
    (h : ∀ q : List Nat, q.Perm (List.range vs.length) → (q.map fun i => ks.getD i 0).Pairwise (fun x y => if b = true then y < x else x < y) → Q (.ref (s.heap.objs.size + 1)) { s with heap := sortedAll s.heap vs (q.map fun i => vs.getD i Value.none).toArray }) :
    wpAny (model prog w) A (call (.builtin "sorted") [.ref l] kw) Q E s := by
  have ha : argsOk "sorted" ⟨[.ref l], kw⟩ := by
    rcases hkw with rfl | ⟨rfl, _⟩
    · exact args_sorted_rev _ _
    · exact args_sorted1 _
  refine call_function_entry_kw kind_sorted plain_sorted entry_sorted ha ?_
  unfold Builtin.«sorted»
  refine wpAny_bind (m := checkCount "sorted" 1 1 _) (wpAny_pure (wpAny_bind (collect_list hl ?_ (by rw [sizeLine_eq]; omega))))
  refine wpAny_bind (wpAny_newList ?_ (by rw [sizeLine_eq]; omega))
  have z1 : ((s.heap.push (seqObj "list" #[] 0)).update s.heap.objs.size (Obj.mapSeq (· ++ vs.toArray))).objs.size = s.heap.objs.size + 1 := by rw [Heap.size_update, size_push']
  have kp : ∀ c o, s.heap.get? c = some o → (((s.heap.push (seqObj "list" #[] 0)).update s.heap.objs.size (Obj.mapSeq (· ++ vs.toArray))).push (seqObj "list" vs.toArray 0)).get? c = some o := fun c o e =>
    Heap.get?_push_of_some _ (by rw [Heap.get?_update_ne _ _ _ _ (Nat.ne_of_lt (Heap.lt_size e))]; exact Heap.get?_push_of_some _ e)
  have oL : (((s.heap.push (seqObj "list" #[] 0)).update s.heap.objs.size (Obj.mapSeq (· ++ vs.toArray))).push (seqObj "list" vs.toArray 0)).get? (s.heap.objs.size + 1) = some (seqObj "list" vs.toArray 0) := by
    have := Heap.get?_push_size ((s.heap.push (seqObj "list" #[] 0)).update s.heap.objs.size (Obj.mapSeq (· ++ vs.toArray))) (o := seqObj "list" vs.toArray 0) rfl
    rwa [z1] at this
  show wpAny _ _ _ _ _ { s with heap := ((s.heap.push (seqObj "list" #[] 0)).update s.heap.objs.size (Obj.mapSeq (· ++ vs.toArray))).push (seqObj "list" vs.toArray 0) }
  rw [z1]
  have t2 := kt_to (a := s.heap.objs.size + 1) (fun c o _ e => kp c o e) (fun o e z => absurd (Heap.lt_size e) (Nat.not_lt.mpr (Nat.le_succ _))) t
  have body := lsort_tups (prog := prog) (w := w) (A := A.in1.in1) (E := E) (b := b) (s := { s with heap := ((s.heap.push (seqObj "list" #[] 0)).update s.heap.objs.size (Obj.mapSeq (· ++ vs.toArray))).push (seqObj "list" vs.toArray 0) }) (P := fun fin s' => ∃ v, fin = .done (.ret v) ∧ Q (.ref (s.heap.objs.size + 1)) s') oL t2 hk dj h64 fun q a1 a2 => ⟨_, rfl, h q a1 a2⟩
  refine wpAny_bind (wpAny_holding (wpAny_call_entry_kw (kw := kw) slot_list_sort ⟨_, oL, rfl⟩ entry_list_sort ?_ ?_))
  · refine wpAny_mono (Q := fun fin s' => ∃ v, fin = .done (.ret v) ∧ Q (.ref (s.heap.objs.size + 1)) s') ?_ (fun fin s' ⟨v, e, q⟩ => ⟨v, e, wpAny_pure ⟨_, rfl, q⟩⟩) fun _ _ x => x
    rcases hkw with rfl | ⟨rfl, rfl⟩
    · exact body
    · rw [lsort_plain]; exact body
  · rcases hkw with rfl | ⟨rfl, _⟩
    · exact args_list_sort_rev _ _
    · exact args_list_sort _
end
section
variable {X : Cx}
def Fst (K : PySem.W.Frag) (H : Hp) (ys : List V) (ks : List Int) : Prop := ys.length = ks.length ∧ ∀ i y, ys[i]? = some y → ∃ a zs, y = .ref a ∧ SqT K H a (.int (ks.getD i 0) :: zs)
def rSrt (K : PySem.W.Frag) (b : Bool) : List V → Hp → VK → Prop := fun xs H Q => ∃ (l : Addr) (ys : List V) (ks : List Int), xs = [.ref l] ∧ H l = some (.lst ys) ∧ Fst K H ys ks ∧ ks.Nodup ∧ ys.length < 64 ∧
  ∀ (p : Addr) (q : List Nat), H p = none → q.Perm (List.range ys.length) → (q.map fun i => ks.getD i 0).Pairwise (fun x y => if b = true then y < x else x < y) → Q (.ref p) (upd H p (.lst (q.map fun i => ys.getD i .non)))
theorem kt_of {pins : List (Addr × Obj)} {σ : St} {H : Hp} {s : Shared} (I : Inv X pins σ H s) : ∀ {ys : List V} {vs : List Value} {ks : List Int}, Vals ys vs → Fst X.K H ys ks → ∃ fs, KatTups s.heap vs fs ∧ IntsAre fs ks := by
  intro ys vs ks r
  induction r generalizing ks with
  | nil =>
    intro h
    have : ks = [] := List.length_eq_zero_iff.mp h.1.symm
    subst this
    exact ⟨[], trivial, .nil⟩
  | cons r t ih =>
    intro h
    cases ks with
    | nil => exact absurd h.1 (by simp)
    | cons k ks =>
      obtain ⟨a, zs, rfl, hs⟩ := h.2 0 _ rfl
      obtain ⟨fs, f1, f2⟩ := ih (ks := ks) ⟨Nat.succ.inj h.1, fun i y e => h.2 (i + 1) y e⟩
      obtain ⟨its, rv, ⟨o, ho, hc, n, hd⟩, _⟩ := I.tuple hs
      cases r
      cases rv with
      | cons rk rt =>
        obtain ⟨tk, rfl⟩ := rk
        exact ⟨_ :: fs, ⟨⟨a, o, _, n, rfl, ho, hc, hd, rfl⟩, f1⟩, .cons _ tk f2⟩
theorem vals_getD : ∀ {ys : List V} {vs : List Value}, Vals ys vs → ∀ i, i < ys.length → RelV (ys.getD i .non) (vs.getD i Value.none)
  | _, _, .nil, i, hi => absurd hi (Nat.not_lt_zero _)
  | _, _, .cons r t, 0, _ => r
  | _, _, .cons r t, i + 1, hi => vals_getD t i (Nat.lt_of_succ_lt_succ hi)
theorem vals_at {ys : List V} {vs : List Value} (r : Vals ys vs) : ∀ {q : List Nat}, (∀ i ∈ q, i < ys.length) → Vals (q.map fun i => ys.getD i .non) (q.map fun i => vs.getD i Value.none)
  | [], _ => .nil
  | i :: q, h => .cons (vals_getD r i (h i List.mem_cons_self)) (vals_at r fun j hj => h j (List.mem_cons_of_mem _ hj))
theorem srt_call {b : Bool} {kw : List (Str × Value)} (hkw : kw = [(Str.ofString "reverse", .bool b)] ∨ (kw = [] ∧ b = false)) {pins : List (Addr × Obj)} {s : Shared} {σ : St} {H : Hp} {xs : List V} {us : List Value} {Q : VK} (I : Inv X pins σ H s) (r : Vals xs us) (h : rSrt X.K b xs H Q) :
    wpAny (model X.prog X.w) X.A (call (.builtin "sorted") us kw) (EP X pins σ Q) X.xe s := by
  obtain ⟨l, ys, ks, rfl, hl, hf, nd, h64, q⟩ := h
  obtain ⟨u, rfl, rx⟩ := vals1 r
  cases rx
  obtain ⟨vs, rv, pl, hz⟩ := I.list (SqL.of hl : SqL X.K H l ys)
  obtain ⟨fs, kt, ki⟩ := kt_of I rv hf
  have vl : vs.length = ys.length := rv.length.symm
  refine sorted_tups hkw pl.isList kt ki (fun i j hi hj e => ?_) (by omega) fun qq hp hs => ?_
  · have hi' : i < ks.length := by rw [← hf.1]; omega
    have hj' : j < ks.length := by rw [← hf.1]; omega
    rw [List.getD_eq_getElem?_getD, List.getD_eq_getElem?_getD, List.getElem?_eq_getElem hi', List.getElem?_eq_getElem hj'] at e
    rcases Nat.lt_trichotomy i j with c | c | c
    · exact absurd e (List.pairwise_iff_getElem.mp nd _ _ hi' hj' c)
    · exact c
    · exact absurd e.symm (List.pairwise_iff_getElem.mp nd _ _ hj' hi' c)
  · rw [vl] at hp
    obtain ⟨e, he⟩ := sortedAll_at s.heap vs (qq.map fun i => vs.getD i Value.none).toArray
    have ql : qq.length = ys.length := by rw [hp.length_eq, List.length_range]
    have J := I.laid (a := s.heap.objs.size + 1) (o := .lst (qq.map fun i => ys.getD i .non)) (t' := s.toks) (h' := sortedAll s.heap vs (qq.map fun i => vs.getD i Value.none).toArray) (fun _ _ q => sortedAll_old q) (Nat.le_succ _) ⟨by rw [List.length_map, ql]; exact hz, _, e, vals_at rv (fun i hi => List.mem_range.mp (hp.mem_iff.mp hi)), he⟩
    exact ⟨.ref _, _, J, rfl, q _ qq (I.hok.fresh (Nat.le_succ _)) hp hs⟩
theorem call_srt : CallR X (.builtin "sorted") (rSrt X.K false) := fun pins s σ H xs us Q I r h => srt_call (kw := []) (.inr ⟨rfl, rfl⟩) I r h
theorem pe_srtR {x : Str} {p pos kp cp : Pos} {j : Nat} {e : Expr} {t : TA} (hx : x = "sorted") (hg : Gl X x) (hm : X.mg x = none) (ha : PA X [e] t)
    (he : backTo pos (starEach [e] X.env) = (false, eval e X.env) :: backTo pos (starEach [] X.env) := by rfl) (hpl : (backTo pos (starEach [e] X.env)).any (·.1) = false := by rfl) : PE X (.Call (.Name x p) [e] [⟨some (Str.ofString "reverse"), .Constant (.bool true) j cp, kp⟩] pos) (tCB (rSrt X.K true) t) := by
  subst hx
  intro pins s σ H Q I h
  refine wpAny_Call_Name_kw (ld_blt I hg hm PyProof.Rows.boot_sorted ?_ (by decide) (by decide))
  refine callWith_kw (thn (ha pos pins s σ H _ I h) fun us s1 ⟨vs, H1, I1, r1, q1⟩ => ?_) he hpl
  refine kws_cons (Constant_bool (kws_nil ?_))
  exact srt_call (.inl rfl) I1 r1 q1
end
end L2
namespace MM
open PySem L2
def pwq (q : Int × Int) : Int := q.1 ^ q.2.toNat
abbrev dsc (l : List (Int × Int)) : Prop := l.Pairwise fun x y => pwq y < pwq x
theorem prod_cons' (q : Int × Int) (l : List (Int × Int)) : prod (q :: l) = pwq q * prod l := rfl
theorem prod_perm {a b : List (Int × Int)} (h : a.Perm b) : prod a = prod b := by
  induction h with
  | nil => rfl
  | cons x _ ih => rw [prod_cons', prod_cons', ih]
  | swap x y l => rw [prod_cons', prod_cons', prod_cons', prod_cons', ← Int.mul_assoc, ← Int.mul_assoc, Int.mul_comm (pwq y)]
  | trans _ _ h1 h2 => exact h1.trans h2
theorem prod_snoc' (l : List (Int × Int)) (q : Int × Int) : prod (l ++ [q]) = prod l * pwq q := by
  rw [prod_perm (List.perm_append_comm), Int.mul_comm]
  show pwq q * (prod l) = _
  rfl
theorem prod_app32 : ∀ a b : List (Int × Int), prod (a ++ b) = prod a * prod b
  | [], b => by rw [List.nil_append]; show _ = 1 * prod b; rw [Int.one_mul]
  | q :: r, b => by rw [List.cons_append, prod_cons', prod_cons', prod_app32 r b, Int.mul_assoc]
def Pos (l : List (Int × Int)) : Prop := ∀ q ∈ l, 1 ≤ pwq q
theorem pos_prod : ∀ {l : List (Int × Int)}, Pos l → 1 ≤ prod l
  | [], _ => by decide
  | q :: r, h => by
    have a := h q List.mem_cons_self
    have b := pos_prod (l := r) fun x hx => h x (List.mem_cons_of_mem q hx)
    have := le_mul1 (show 0 ≤ pwq q by omega) b
    rw [prod_cons']
    omega
theorem take_head {x : Int × Int} {r : List (Int × Int)} (hp : Pos (x :: r)) (hd : dsc (x :: r)) (k : Nat) : prod (r.take k) ≤ prod ((x :: r).take k) := by
  cases k with
  | zero => exact Int.le_refl _
  | succ k =>
    rw [List.take_succ_cons, prod_cons']
    have pt : Pos (r.take k) := fun q hq => hp q (List.mem_cons_of_mem _ (List.mem_of_mem_take hq))
    have p1 := pos_prod pt
    have x1 := hp x List.mem_cons_self
    rw [List.take_succ]
    cases e : r[k]? with
    | none =>
      rw [Option.toList_none, List.append_nil, Int.mul_comm]
      exact le_mul1 (by omega) x1
    | some y =>
      rw [Option.toList_some, prod_snoc', Int.mul_comm]
      have := (List.pairwise_cons.mp hd).1 y (List.mem_of_getElem? e)
      exact Int.mul_le_mul_of_nonneg_right (by omega) (by omega)
theorem top_most : ∀ {l s : List (Int × Int)}, Pos l → dsc l → s.Sublist l → prod s ≤ prod (l.take s.length)
  | [], s, _, _, h => by rw [List.sublist_nil.mp h]; exact Int.le_refl _
  | x :: r, s, hp, hd, h => by
    have pr : Pos r := fun q hq => hp q (List.mem_cons_of_mem _ hq)
    have dr := (List.pairwise_cons.mp hd).2
    cases h with
    | cons _ h => exact Int.le_trans (top_most pr dr h) (take_head hp hd _)
    | @cons_cons s' _ _ h =>
      rw [List.length_cons, List.take_succ_cons, prod_cons', prod_cons']
      exact Int.mul_le_mul_of_nonneg_left (top_most pr dr h) (by have := hp x List.mem_cons_self; omega)
structure Few (p : Int) (l' : List (Int × Int)) (m : Nat) : Prop where
  pm : l'.Perm (pl (p - 1))
  ds : dsc l'
  ml : m ≤ l'.length
  big : p < prod (l'.take m) * prod (l'.take m)
  sm : ∀ j, j < m → prod (l'.take j) * prod (l'.take j) ≤ p
theorem dsc_unique {a b : List (Int × Int)} (h : a.Perm b) (ha : dsc a) (hb : dsc b) : a = b :=
  h.eq_of_pairwise (le := fun x y => pwq y < pwq x) (fun x y _ _ h1 h2 => by have h1 : pwq y < pwq x := h1; have h2 : pwq x < pwq y := h2; omega) ha hb
theorem Few.unique {p : Int} {a b : List (Int × Int)} {m n : Nat} (h : Few p a m) (g : Few p b n) : a = b ∧ m = n := by
  have e := dsc_unique (h.pm.trans g.pm.symm) h.ds g.ds
  subst e
  refine ⟨rfl, ?_⟩
  rcases Nat.lt_trichotomy m n with c | c | c
  · have := g.sm m c; have := h.big; omega
  · exact c
  · have := h.sm n c; have := g.big; omega
section
variable {p : Int} {l' : List (Int × Int)} {m : Nat}
theorem Few.pos (hp : 3 ≤ p) (h : Few p l' m) : Pos l' := fun q hq => by
  have := ((pl_ok (show 1 ≤ p - 1 by omega)).1.pr q (h.pm.mem_iff.mp hq)).1.1
  exact pow_pos' (by omega) _
theorem Few.least (hp : 3 ≤ p) (h : Few p l' m) {s : List (Int × Int)} (hs : s.Sublist (pl (p - 1))) (hb : p < prod s * prod s) : m ≤ s.length := by
  refine Classical.byContradiction fun c => ?_
  obtain ⟨t, t1, t2⟩ := List.exists_perm_sublist hs h.pm.symm
  have a := top_most (h.pos hp) h.ds t2
  rw [prod_perm t1, t1.length_eq] at a
  have b := h.sm s.length (by omega)
  have pt : Pos s := fun q hq => h.pos hp q (t2.subset (t1.mem_iff.mpr hq))
  have p1 := pos_prod pt
  have := Int.mul_le_mul a a (by omega) (by omega)
  omega
theorem Few.some (h : Few p l' m) : ∃ s, s.Sublist (pl (p - 1)) ∧ s.length = m ∧ p < prod s * prod s := by
  obtain ⟨s, a, b⟩ := List.exists_perm_sublist (List.take_sublist m l') h.pm
  refine ⟨s, b, ?_, ?_⟩
  · rw [a.length_eq, List.length_take]
    have := h.ml
    omega
  · rw [prod_perm a]; exact h.big
end
def lotsL (L : List (Int × Int)) (q : Int × Int) : List (Int × Int) := L ++ L.map fun x => (x.1 + 1, x.2 * pwq q)
def lotsW (l : List (Int × Int)) : List (Int × Int) := l.foldl lotsL [(0, 1)]
theorem lotsW_snoc (l : List (Int × Int)) (q : Int × Int) : lotsW (l ++ [q]) = lotsL (lotsW l) q := by
  unfold lotsW
  rw [List.foldl_append]; rfl
theorem lotsW_len (l : List (Int × Int)) : (lotsW l).length = 2 ^ l.length := by
  obtain ⟨n, hn⟩ : ∃ n, n = l.length := ⟨_, rfl⟩
  induction n generalizing l with
  | zero => rw [List.length_eq_zero_iff.mp hn.symm]; rfl
  | succ n ih =>
    have ne : l ≠ [] := fun z => by rw [z] at hn; cases hn
    obtain ⟨a, x, rfl⟩ : ∃ a x, l = a ++ [x] := ⟨_, _, (List.dropLast_concat_getLast ne).symm⟩
    rw [List.length_append] at hn
    have hn' : n = a.length := by simpa using hn
    rw [lotsW_snoc, List.length_append]
    unfold lotsL
    rw [List.length_append, List.length_map, ih a hn']
    show _ = 2 ^ (a.length + 1)
    rw [Nat.pow_succ]; omega
theorem mem_lotsW {x : Int × Int} (l : List (Int × Int)) : x ∈ lotsW l ↔ ∃ s : List (Int × Int), s.Sublist l ∧ x = ((s.length : Int), prod s) := by
  obtain ⟨n, hn⟩ : ∃ n, n = l.length := ⟨_, rfl⟩
  induction n generalizing l x with
  | zero =>
    rw [List.length_eq_zero_iff.mp hn.symm]
    constructor
    · intro h
      have : x = (0, 1) := by simpa [lotsW] using h
      exact ⟨[], .slnil, this⟩
    · rintro ⟨s, hs, rfl⟩
      rw [List.sublist_nil.mp hs]
      show ((0 : Int), (1 : Int)) ∈ [((0 : Int), (1 : Int))]
      exact List.mem_cons_self
  | succ n ih =>
    have ne : l ≠ [] := fun z => by rw [z] at hn; cases hn
    obtain ⟨a, q, rfl⟩ : ∃ a x, l = a ++ [x] := ⟨_, _, (List.dropLast_concat_getLast ne).symm⟩
    have hn' : n = a.length := by rw [List.length_append] at hn; simpa using hn
    rw [lotsW_snoc]
    unfold lotsL
    rw [List.mem_append]
    constructor
    · rintro (h | h)
      · obtain ⟨s, hs, e⟩ := (ih a hn').mp h
        exact ⟨s, hs.trans (List.sublist_append_left _ _), e⟩
      · obtain ⟨y, hy, rfl⟩ := List.mem_map.mp h
        obtain ⟨s, hs, rfl⟩ := (ih a hn').mp hy
        refine ⟨s ++ [q], hs.append (List.Sublist.refl _), ?_⟩
        rw [prod_snoc', List.length_append]
        simp
    · rintro ⟨s, hs, rfl⟩
      obtain ⟨s1, s2, rfl, h1, h2⟩ := List.sublist_append_iff.mp hs
      have e : s2 = [] ∨ s2 = [q] := by
        cases h2 with
        | cons _ h => exact .inl (List.sublist_nil.mp h)
        | cons_cons _ h => exact .inr (by rw [List.sublist_nil.mp h])
      rcases e with e | e
      · subst e
        rw [List.append_nil]
        exact .inl ((ih a hn').mpr ⟨s1, h1, rfl⟩)
      · subst e
        refine .inr (List.mem_map.mpr ⟨_, (ih a hn').mpr ⟨s1, h1, rfl⟩, ?_⟩)
        rw [prod_snoc', List.length_append]
        simp
theorem prod3 : ∀ {l : List (Int × Int)}, (∀ q ∈ l, 3 ≤ q.1 ∧ 1 ≤ q.2) → 3 ^ l.length ≤ prod l
  | [], _ => by decide
  | q :: r, h => by
    have a := prod3 (l := r) fun x hx => h x (List.mem_cons_of_mem q hx)
    have ⟨b, c⟩ := h q List.mem_cons_self
    have d := pow_self1 (show 1 ≤ q.1 by omega) (show 1 ≤ q.2.toNat by omega)
    have e : (0 : Int) ≤ 3 ^ r.length := Int.le_of_lt (Int.pow_pos (by decide))
    rw [prod_cons', List.length_cons, Int.pow_succ, Int.mul_comm]
    exact Int.mul_le_mul (by unfold pwq; omega) a e (by unfold pwq; omega)
theorem parts_len19 {n : Int} {l : List (Int × Int)} (h : Parts n l) (hn : n ≤ 10 ^ 9) : l.length ≤ 19 := by
  cases l with
  | nil => exact Nat.zero_le _
  | cons q r =>
    have up := List.pairwise_cons.mp h.1.up
    have q2 := (h.1.pr q List.mem_cons_self).1.1
    have a := prod3 (l := r) fun x hx => ⟨by have := up.1 x hx; omega, (h.1.pr x (List.mem_cons_of_mem q hx)).2⟩
    have b : 1 ≤ pwq q := pow_pos' (by omega) _
    have e : prod (q :: r) = n := h.2
    rw [prod_cons'] at e
    have p0 : (0 : Int) ≤ prod r := Int.le_trans (Int.le_of_lt (Int.pow_pos (by decide))) a
    have := Int.mul_le_mul_of_nonneg_right b p0
    refine Classical.byContradiction fun c => ?_
    have d : (3 : Int) ^ 19 ≤ 3 ^ r.length := pow_mono1 (by decide) (by rw [List.length_cons] at c; omega)
    have : (10 : Int) ^ 9 < 3 ^ 19 := by decide
    omega
theorem up_inj : ∀ {l : List (Int × Int)}, l.Pairwise (fun a b => a.1 < b.1) → ∀ {x y}, x ∈ l → y ∈ l → x.1 = y.1 → x = y
  | [], _, x, _, hx, _, _ => by cases hx
  | q :: r, h, x, y, hx, hy, e => by
    obtain ⟨h1, h2⟩ := List.pairwise_cons.mp h
    rcases List.mem_cons.mp hx with ex | hx'
    · rcases List.mem_cons.mp hy with ey | hy'
      · rw [ex, ey]
      · have := h1 y hy'; rw [← ex] at this; omega
    · rcases List.mem_cons.mp hy with ey | hy'
      · have := h1 x hx'; rw [← ey] at this; omega
      · exact up_inj h2 hx' hy' e
theorem pwq_inj {n : Int} {l : List (Int × Int)} (h : Parts n l) {x y : Int × Int} (hx : x ∈ l) (hy : y ∈ l) (e : pwq x = pwq y) : x = y := by
  have px := h.1.pr x hx
  have py := h.1.pr y hy
  have d1 : x.1 ∣ y.1 := pr_dvd_pow (k := y.2.toNat) px.1 (by have := pow_dvd_self (p := x.1) px.2; unfold pwq at e; rw [e] at this; exact this)
  have d2 : y.1 ∣ x.1 := pr_dvd_pow (k := x.2.toNat) py.1 (by have := pow_dvd_self (p := y.1) py.2; unfold pwq at e; rw [← e] at this; exact this)
  have l1 := Int.le_of_dvd (by have := py.1.1; omega) d1
  have l2 := Int.le_of_dvd (by have := px.1.1; omega) d2
  exact up_inj h.1.up hx hy (by omega)
structure LBs (p b : Int) (l : List (Int × Int)) : Prop where
  b1 : 1 ≤ b
  b2 : b < p
  ok : BaseOk b p l
  no : ∀ x, 1 ≤ x → x < b → ¬ BaseOk x p l
theorem LBs.root {p b : Int} {l : List (Int × Int)} (hp : IsPr p) (hl : Parts (p - 1) l) (h : LBs p b l) : LRoot p b :=
  ⟨h.b1, h.b2, (base_ord hp hl h.b1 h.b2).mp h.ok, fun x x1 x2 z => h.no x x1 x2 ((base_ord hp hl x1 (by have := h.b2; omega)).mpr z)⟩
theorem LBs.unique {p b c : Int} {l : List (Int × Int)} (h : LBs p b l) (g : LBs p c l) : b = c := by
  rcases Int.lt_trichotomy b c with e | e | e
  · exact absurd h.ok (g.no b h.b1 e)
  · exact e
  · exact absurd g.ok (h.no c g.b1 e)
structure SPd (n : Int) (l' : List (Int × Int)) (m : Nat) (l : List (Int × Int)) (b : Int) : Prop where
  few : Few n l' m
  pm : l.Perm (l'.take m)
  up : l.Pairwise fun x y => x.1 < y.1
  lb : LBs n b l
noncomputable def spD (b : Int) (l : List (Int × Int)) : Dt := .tup [.str (Str.ofString "share"), .int b, .tup (l.map (rowD 30))]
theorem SPd.unique {n : Int} {a a' : List (Int × Int)} {m m' : Nat} {l l' : List (Int × Int)} {b b' : Int} (h : SPd n a m l b) (g : SPd n a' m' l' b') : m = m' ∧ spD b l = spD b' l' := by
  obtain ⟨rfl, rfl⟩ := h.few.unique g.few
  have e : l = l' := (h.pm.trans g.pm.symm).eq_of_pairwise (le := fun x y => x.1 < y.1) (fun x y _ _ h1 h2 => by have h1 : x.1 < y.1 := h1; have h2 : y.1 < x.1 := h2; omega) h.up g.up
  subst e
  rw [h.lb.unique g.lb]
  exact ⟨rfl, rfl⟩
theorem gcd_pr32 {p a : Int} (hp : IsPr p) (h : ¬ p ∣ a) : Int.gcd a p = 1 := by
  have p2 := hp.1
  have d1 := Int.gcd_dvd_left (a := a) (b := p)
  have d2 := Int.gcd_dvd_right (a := a) (b := p)
  refine Classical.byContradiction fun c => ?_
  have pos : 0 < Int.gcd a p := Int.gcd_pos_of_ne_zero_right a (by omega)
  have e : ((Int.gcd a p : Nat) : Int) = p := pr_dvd hp (by omega) d2
  rw [e] at d1
  exact h d1
theorem SPd.sub {n : Int} {l' l : List (Int × Int)} {m : Nat} {b : Int} (n3 : 3 ≤ n) (h : SPd n l' m l b) : PartsOk l ∧ prod l ∣ n - 1 ∧ n < prod l * prod l ∧ ∀ q ∈ l, IsPr q.1 ∧ q.1 ≤ n - 1 := by
  have hl := pl_ok (show 1 ≤ n - 1 by omega)
  have mem : ∀ q ∈ l, q ∈ pl (n - 1) := fun q hq => h.few.pm.mem_iff.mp (List.mem_of_mem_take (h.pm.mem_iff.mp hq))
  refine ⟨⟨fun q hq => hl.1.pr q (mem q hq), h.up⟩, ?_, ?_, fun q hq => ⟨(hl.1.pr q (mem q hq)).1, (parts_le hl (mem q hq)).1⟩⟩
  · rw [prod_perm h.pm, ← hl.2, ← prod_perm h.few.pm]
    have : prod (l'.take m ++ l'.drop m) = prod (l'.take m) * prod (l'.drop m) := prod_app32 _ _
    rw [List.take_append_drop] at this
    exact ⟨_, this⟩
  · rw [prod_perm h.pm]; exact h.few.big
theorem SPd.rp {n : Int} {l' l : List (Int × Int)} {m : Nat} {b : Int} (hp : IsPr n) (n3 : 3 ≤ n) (n9 : n ≤ 10 ^ 9) (h : SPd n l' m l b) : RP 31 false n (spD b l) := by
  obtain ⟨ok, dv, big, pr⟩ := h.sub n3
  have le := Int.le_of_dvd (by omega) dv
  have e := rowsP_prd 30 l
  have odd : n % 2 = 1 := by
    have := hp.2 2 (by decide)
    refine Classical.byContradiction fun c => ?_
    have d : (2 : Int) ∣ n := Int.dvd_of_emod_eq_zero (by omega)
    have := pr_dvd hp (by decide) d
    omega
  unfold spD
  rw [← rowsP_map]
  have one : (1 : Int) % n = 1 := Int.emod_eq_of_lt (by omega) (by omega)
  have nd : ¬ n ∣ b := fun z => by have := Int.le_of_dvd (by have := h.lb.b1; omega) z; have := h.lb.b2; omega
  refine .share n3 hp ⟨⟨?_, ?_, h.lb.b1, by have := h.lb.b2; omega, ?_, ?_⟩, odd, ?_, ?_⟩ ?_
  · intro z
    rw [z] at e
    have : prd [] = 1 := rfl
    rw [← e, this] at big
    omega
  · exact rowsP_asc 30 l 1 (fun q hq => by have := (pr q hq).1.1; omega) ok (by omega)
  · rw [cg_eq (fermat1 hp nd), one]
  · rw [e]; exact Int.emod_eq_zero_of_dvd dv
  · rw [e]; exact big
  · intro r hr
    unfold rowsP at hr
    obtain ⟨q, hq, rfl⟩ := List.mem_map.mp hr
    refine gcd_pr32 hp fun z => h.lb.ok q hq ?_
    have : Cg n (b ^ ((n - 1) / q.1).toNat % n) 1 := z
    exact (cg_one.mp (by rw [← Int.emod_emod, cg_eq this]))
  · intro r hr
    unfold rowsP at hr
    obtain ⟨q, hq, rfl⟩ := List.mem_map.mp hr
    have := pr q hq
    have h30 : (10 : Int) ^ 9 < 2 ^ 30 := by decide
    exact (pap_right 30 this.1 (by omega) (show q.1 ≤ 2 ^ 30 by omega)).weak
theorem spD_head {b : Int} {l : List (Int × Int)} : ∀ z r, spD b l = .tup (.str z :: r) → z ∈ [Str.ofString "share"] := by
  intro z r e
  unfold spD at e
  cases e
  exact List.mem_cons_self
end MM
namespace L2
open PySem PySem.Spec PyProof.Rows
section
variable {prog : Program} {w : World} {A : Around} {E : Value → Shared → Prop} {s : Shared}
end
section
variable {X : Cx} {pins : List (Addr × Obj)} {σ : St} {H : Hp} {s : Shared} {h' : Heap}
end
section
variable {X : Cx} {a b : Expr} {ta : TA} {elts : List Expr} {kk : Nat} {ps p pos : Pos}
end
section
variable {X : Cx}
def rAll : List V → Hp → VK → Prop := fun vs H Q => ∃ (l : Addr) (bs : List Bool), vs = [.ref l] ∧ H l = some (.lst (bs.map V.bl)) ∧ Q (.bl (bs.all id)) H
theorem all_range (bs : List Bool) : (List.range bs.length).all (fun i => (bs[i]?).getD false) = bs.all id := by
  rw [Bool.eq_iff_iff, List.all_eq_true, List.all_eq_true]
  constructor
  · intro h b hb
    obtain ⟨i, hi⟩ := List.getElem?_of_mem hb
    have := h i (List.mem_range.mpr (List.getElem?_eq_some_iff.mp hi).1)
    rw [hi] at this
    exact this
  · intro h i hi
    have hi := List.mem_range.mp hi
    rw [List.getElem?_eq_getElem hi]
    exact h _ (List.getElem_mem _)
theorem call_all (hc : X.calm = true) : CallR X (.builtin "all") rAll := by
  intro pins s σ H xs us Q I r h
  obtain ⟨l, bs, rfl, hl, q⟩ := h
  obtain ⟨u, rfl, ru⟩ := vals1 r
  cases ru
  obtain ⟨z, its, n, rr, hn, e⟩ := I.lstM hl
  have ei := vals_bl rr
  subst ei
  have il : s.heap.IsList l (bs.map Value.bool).toArray := ⟨_, e, rfl, n, rfl⟩
  have lt : l < s.heap.objs.size := Heap.lt_size e
  refine call_all_walk (wpAny_pyIter_list il ?_)
  refine ⟨s.heap.objs.size, _, _, _, _, _, fun i => (bs[i]?).getD false, rfl, Walks.list (show X.A.in1.handled = none from I.ok.hd hc) s.heap.objs.size l (Nat.ne_of_lt lt) (bs.map Value.bool).toArray, ⟨⟨_, Heap.get?_push_size _ rfl, rfl, rfl⟩, ?_⟩, fun i v s' Q' E' hv hq => ?_, fun g tk kp => ?_⟩
  · exact ⟨_, Heap.get?_push_of_some _ e, rfl, n, rfl⟩
  · have hv' : (bs[i]?).map Value.bool = some v := by simpa using hv
    cases hb : bs[i]? with
    | none => rw [hb] at hv'; cases hv'
    | some b =>
      have hq : Q' ((bs[i]?).getD false) s' := hq
      rw [hb] at hv' hq
      cases hv'
      exact wpAny_truthy_bool hq
  · have e2 : (bs.map Value.bool).toArray.size = bs.length := by simp
    rw [e2, all_range]
    exact ⟨.bl _, H, I.kept (t' := tk) fun b o q => kp b o (by have := Heap.lt_size q; simp; exact Nat.ne_of_lt this) (Heap.get?_push_of_some _ q), rfl, q⟩
end
end L2
namespace MM
open PySem L2
theorem depL_rows : ∀ {rows : List Row} {j : Nat}, (∀ r ∈ rows, dep r.2.2 ≤ j) → depL (rows.map rwD) ≤ j + 1
  | [], j, _ => Nat.zero_le _
  | r :: rs, j, h => by
    have a := h r List.mem_cons_self
    have b := depL_rows fun x hx => h x (List.mem_cons_of_mem r hx)
    show max (max 0 (max 0 (max (dep r.2.2) 0)) + 1) (depL (rs.map rwD)) ≤ j + 1
    omega
theorem RP.dep {k : Nat} {f : Bool} {n : Int} {d : Dt} (h : RP k f n d) : dep d + 2 ≤ 3 * k := by
  induction h with
  | @two k => show 1 + 2 ≤ 3 * (k + 1); omega
  | @full k f n b rows a p o c ih =>
    have e := depL_rows (rows := rows) (j := 3 * k - 2) fun r hr => by have := ih r hr; omega
    show max 0 (max 0 (max (depL (rows.map rwD) + 1) 0)) + 1 + 2 ≤ 3 * (k + 1)
    cases rows with
    | nil => exact absurd rfl o.ne
    | cons r rs =>
      have := ih r List.mem_cons_self
      omega
  | @share k n b rows a p o c ih =>
    have e := depL_rows (rows := rows) (j := 3 * k - 2) fun r hr => by have := ih r hr; omega
    show max 0 (max 0 (max (depL (rows.map rwD) + 1) 0)) + 1 + 2 ≤ 3 * (k + 1)
    cases rows with
    | nil => exact absurd rfl o.ne
    | cons r rs =>
      have := ih r List.mem_cons_self
      omega
theorem lenDL_rows : ∀ {rows : List Row}, (∀ r ∈ rows, lenD r.2.2 ≤ 250 * cnD r.2.2) → lenDL (rows.map rwD) ≤ 250 * cnR rows
  | [], _ => Nat.zero_le _
  | r :: rs, h => by
    have a := h r List.mem_cons_self
    have b := lenDL_rows fun x hx => h x (List.mem_cons_of_mem r hx)
    show ((101 + 2 + (101 + 2 + (lenD r.2.2 + 2 + 0))) + 3) + 2 + lenDL (rs.map rwD) ≤ 250 * (1 + cnD r.2.2 + cnR rs)
    omega
theorem RP.len {k : Nat} {f : Bool} {n : Int} {d : Dt} (h : RP k f n d) : lenD d ≤ 250 * cnD d := by
  induction h with
  | @two k =>
    show (10 * (Str.ofString "two").length + 2 + 2 + 0) + 3 ≤ 250 * (1 + (0 + 0))
    have : (Str.ofString "two").length = 3 := by rfl
    omega
  | @full k f n b rows a p o c ih =>
    have e := lenDL_rows ih
    rw [cn_paper]
    show (10 * (Str.ofString "full").length + 2 + 2 + (101 + 2 + (lenDL (rows.map rwD) + 3 + 2 + 0))) + 3 ≤ 250 * (2 + cnR rows)
    have : (Str.ofString "full").length = 4 := by rfl
    omega
  | @share k n b rows a p o c ih =>
    have e := lenDL_rows ih
    rw [cn_paper]
    show (10 * (Str.ofString "share").length + 2 + 2 + (101 + 2 + (lenDL (rows.map rwD) + 3 + 2 + 0))) + 3 ≤ 250 * (2 + cnR rows)
    have : (Str.ofString "share").length = 5 := by rfl
    omega
theorem okDL_rows : ∀ {rows : List Row}, (∀ r ∈ rows, r.1.natAbs < 10 ^ 100 ∧ r.2.1.natAbs < 10 ^ 100 ∧ okD r.2.2 = true) → okDL (rows.map rwD) = true
  | [], _ => rfl
  | r :: rs, h => by
    obtain ⟨a1, a2, a3⟩ := h r List.mem_cons_self
    have b := okDL_rows fun x hx => h x (List.mem_cons_of_mem r hx)
    show ((decide (r.1.natAbs < 10 ^ 100) && (decide (r.2.1.natAbs < 10 ^ 100) && (okD r.2.2 && true))) && okDL (rs.map rwD)) = true
    rw [decide_eq_true a1, decide_eq_true a2, a3, b]
    rfl
theorem okD_paper {z : Str} {b : Int} {rows : List Row} (hz : okD (.str z) = true) (hb : b.natAbs < 10 ^ 100) (h : okDL (rows.map rwD) = true) : okD (.tup [.str z, .int b, .tup (rows.map rwD)]) = true := by
  show (okD (.str z) && (decide (b.natAbs < 10 ^ 100) && (okDL (rows.map rwD) && true))) = true
  rw [hz, decide_eq_true hb, h]
  rfl
theorem RP.ok {k : Nat} {f : Bool} {n : Int} {d : Dt} (h : RP k f n d) : n ≤ 10 ^ 30 → okD d = true := by
  induction h with
  | @two k => intro _; rfl
  | @full k f n b rows a p o c ih =>
    intro hn
    have b1 := o.b1
    have b2 := o.bn
    refine okD_paper rfl (by omega) (okDL_rows fun r hr => ?_)
    have r1 := asc_pos o.up r hr
    have r2 := prd_mem o.up hr
    have r3 := o.all
    exact ⟨by omega, by omega, ih r hr (by omega)⟩
  | @share k n b rows a p o c ih =>
    intro hn
    have b1 := o.b1
    have b2 := o.bn
    refine okD_paper rfl (by omega) (okDL_rows fun r hr => ?_)
    have r1 := asc_pos o.up r hr
    have r2 := prd_mem o.up hr
    have r3 := Int.le_of_dvd (show 0 < n - 1 by omega) (Int.dvd_of_emod_eq_zero o.dv)
    exact ⟨by omega, by omega, ih r hr (by omega)⟩
theorem RP.cn500 {k : Nat} {f : Bool} {n : Int} {d : Dt} (h2 : IsPr 2) (h : RP k f n d) (n30 : n ≤ 10 ^ 30) : cnD d ≤ 500 := by
  have cn := h.cn h2
  by_cases e2 : n = 2
  · have := cn.1 e2
    omega
  · have g := cn.2 e2
    have h5 := pow5_mono (show 0 ≤ n by have := h.n2; omega) n30
    have hb : ((10 : Int) ^ 30) ^ 5 < 2 ^ 499 := by decide +kernel
    refine Classical.byContradiction fun w => ?_
    have := pow_mono1 (show (1 : Int) ≤ 2 by decide) (show 499 ≤ cnD d + 3 by omega)
    omega
end MM
namespace L2
open PySem PySem.Spec PyProof.Rows
def cvE : Expr → Option V
  | .Constant (.int i) _ _ => some (.int i)
  | .Constant (.bool b) _ _ => some (.bl b)
  | .Constant .none _ _ => some .non
  | .Constant (.str x) _ _ => some (.str x)
  | .UnaryOp .USub (.Constant (.int i) _ _) _ => some (.int (-i))
  | _ => none
section
variable {X : Cx} {e : Expr} {v : V}
theorem pe_cv (h : cvE e = some v) : PE X e (tC v) := by
  unfold cvE at h
  split at h <;> cases h
  · exact pe_int
  · exact pe_bl
  · exact pe_non
  · exact pe_str
  · intro pins s σ H Q I q
    exact pe_un un_neg pe_int pins s σ H Q I ⟨_, rfl, q⟩
theorem cv_star (h : cvE e = some v) (es : List Expr) (env : Env) : starEach (e :: es) env = (false, eval e env) :: starEach es env := by
  unfold cvE at h
  split at h <;> cases h <;> rfl
def cvs : List Expr → Option (List V)
  | [] => some []
  | e :: es => (cvE e).bind fun v => (cvs es).map fun vs => v :: vs
def tCvs (vs : List V) (t : TA) : TA := fun σ H Q => t σ H fun ws H1 => Q (vs ++ ws) H1
theorem pa_cvs : ∀ {k : Nat} {es : List Expr} {vs : List V} {t : TA}, cvs (es.take k) = some vs → PA X (es.drop k) t → PA X es (tCvs vs t)
  | 0, es, vs, t, h, hr => by
    cases h
    exact hr
  | k + 1, [], vs, t, h, hr => by
    cases h
    exact hr
  | k + 1, e :: es, vs, t, h, hr => by
    obtain ⟨v, hv, h⟩ := Option.bind_eq_some_iff.mp (show ((cvE e).bind fun v => (cvs (es.take k)).map fun vs => v :: vs) = some vs from h)
    obtain ⟨ws, hw, rfl⟩ := Option.map_eq_some_iff.mp h
    exact pa_cons (pe_cv hv) (pa_cvs hw hr) (cv_star hv _ _)
end
end L2
namespace L2
open PySem PySem.Spec PyProof.Rows
structure SE (X : Cx) (e : Expr) (t : TE) : Prop where
  h : PE X e t
structure SA (X : Cx) (es : List Expr) (t : TA) : Prop where
  h : PA X es t
structure SS (X : Cx) (st : Stmt) (t : TS) : Prop where
  h : PS X st t
structure SSs (X : Cx) (st : List Stmt) (t : TS) : Prop where
  h : PSs X st t
structure ST (X : Cx) (e : Expr) (t : TT) : Prop where
  h : PT X e t
structure SO (X : Cx) (e : Option Expr) (t : TO) : Prop where
  h : PO X e t
theorem exSS {X : Cx} {st : List Stmt} {t : TS} {D : Ends} {σ : St} {H : Hp} (h : SSs X st t) (q : t D σ H) : ∃ t, PSs X st t ∧ t D σ H := ⟨t, h.h, q⟩
theorem sa_cvs {X : Cx} {k : Nat} {es : List Expr} {vs : List V} {t : TA} (h : cvs (es.take k) = some vs) (hr : SA X (es.drop k) t) : SA X es (tCvs vs t) := ⟨pa_cvs h hr.h⟩
section
variable {X : Cx} {id T : String} {lo hi : Option Expr} {st : Stmt} {rest : List Stmt} {a b e o tg iter : Expr} {es : List Expr} {pos p2 p : Pos} {name : Str}
theorem se_call (F : FnOk X.prog X.w X.K X.mg X.base CX k f fd ps sp) (hr : Room k X.A) (hg : Gl X x) (hm : X.mg x = some (.ref f)) (hk : PySem.W.keepIn X.K (.ref f) = true) (hb : Binds X.K fd ps ds) (hd : Vals dvs ds) (hx : Passes CX X E) (ha : SA X (e :: es) t) (hdb : (x == ("__debug__" : Str)) = false := by decide) (he : starEach (e :: es) X.env = (false, eval e X.env) :: starEach es X.env := by rfl) (hpl : (backTo pos (starEach es X.env)).any (·.1) = false := by rfl) : SE X (.Call (.Name x p) (e :: es) [] pos) (tCall sp dvs E t) := ⟨pe_call F hr hg hm hk hb hd hx ha.h hdb he hpl⟩
theorem se_callB (hc : CallR X (.builtin id) r) (hg : Gl X x) (hm : X.mg x = none) (hv : bootBuiltins x = some (.builtin id)) (ha : SA X (e :: es) t) (hn : x ≠ "__name__" := by decide) (hdb : (x == ("__debug__" : Str)) = false := by decide) (he : starEach (e :: es) X.env = (false, eval e X.env) :: starEach es X.env := by rfl) (hpl : (backTo pos (starEach es X.env)).any (·.1) = false := by rfl) : SE X (.Call (.Name x p) (e :: es) [] pos) (tCB r t) := ⟨pe_callB hc hg hm hv ha.h hn hdb he hpl⟩
theorem se_callTy (hc : CallR X (.type T) r) (hg : Gl X x) (hm : X.mg x = none) (hv : bootBuiltins x = some (.type T)) (ha : SA X (e :: es) t) (hn : x ≠ "__name__" := by decide) (hdb : (x == ("__debug__" : Str)) = false := by decide) (he : starEach (e :: es) X.env = (false, eval e X.env) :: starEach es X.env := by rfl) (hpl : (backTo pos (starEach es X.env)).any (·.1) = false := by rfl) : SE X (.Call (.Name x p) (e :: es) [] pos) (tCB r t) := ⟨pe_callTy hc hg hm hv ha.h hn hdb he hpl⟩
theorem se_cmpR {op : CmpOp} {r : R2} (ho : OpR X (compareOp op) r) (ha : SE X a ta) (hb : SE X b tb) (hm : behindInMarks op b = false) : SE X (.Compare a [op] [b] pos) (tOp r ta tb) := ⟨pe_cmpR ho ha.h hb.h hm⟩
theorem se_ix {r : R2} (hr : IxR X r) (ha : SE X a ta) (hb : SE X b tb) (hs : PlainIx b) : SE X (.Subscript a b pos) (tOp r ta tb) := ⟨pe_ix hr ha.h hb.h hs⟩
theorem se_lst (h : SA X es t) : SE X (.List es pos) (tLst t) := ⟨pe_lst h.h⟩
theorem se_tup {x1} (h : SA X es t) : SE X (.Tuple es x1 pos) (tTup t) := ⟨pe_tup h.h⟩
theorem se_op {op : Operator} {r : R2} (ho : OpR X (binaryOp op) r) (ha : SE X a ta) (hb : SE X b tb) : SE X (.BinOp a op b pos) (tOp r ta tb) := ⟨pe_op ho ha.h hb.h⟩
theorem se_bm (pa : PlainAttrs T) (slot : Slot T name id) (hty : typeOf (.builtin id) = pure (.type "method_descriptor")) (hm : MtR X id r) (ho : SE X o to) (ha : SA X (e :: es) t) (hbase : attributeBase o name X.env (eval o X.env) = eval o X.env := by rfl) (hfew : ((backTo cpos (starEach (e :: es) X.env)).all (fun x => !x.1) && (backToKw cpos (keywordEach [] X.env)).all (fun x => x.1.isSome)
      && decide ((e :: es).length + ([] : List Keyword).length + (if ([] : List Keyword).isEmpty then 0 else 1) < 30)) = true := by rfl) (hline : (apos.endLine == cpos.line) = true := by rfl) (hs : starEach (e :: es) X.env = (false, eval e X.env) :: starEach es X.env := by rfl) (hplain : (backTo cpos (starEach es X.env)).any (·.1) = false := by rfl) : SE X (.Call (.Attribute o name apos) (e :: es) [] cpos) (tBM X.K T r to t) := ⟨pe_bm pa slot hty hm ho.h ha.h hbase hfew hline hs hplain⟩
theorem sa_cons (ha : SE X e te) (hr : SA X es t) (hs : starEach (e :: es) X.env = (false, eval e X.env) :: starEach es X.env := by rfl) : SA X (e :: es) (tCons te t) := ⟨pa_cons ha.h hr.h hs⟩
theorem ss_set {i : Nat} {x : Str} {e : Expr} {te : TE} {pos' : Pos} (hN : X.N.Nodup) (hi : X.N[i]? = some x) (hx : Loc X.env.scope x) (he : SE X e te) (hs : swapsWith e (some (.Name x pos')) pos.line X.env = pure false := by rfl) (hf : X.fn x = true ∨ X.env.scope.names.lookup x = some .local := by first | exact .inl rfl | exact .inr rfl | assumption) : SS X (.Assign [.Name x pos'] e pos) (tAsg te (gName i)) := ⟨ps_set hN hi hx he.h hs hf⟩
theorem ss_if {c : Expr} {a b : List Stmt} {tc : TT} (hc : ST X c tc) (ha : SSs X a t) (hb : SSs X b u) : SS X (.If c a b pos) (tIfS tc t u) := ⟨ps_if hc.h ha.h hb.h⟩
theorem ss_for {iter : Expr} {body : List Stmt} {wi : TI} {g : TG} {tb : TS} {pos : Pos} (hp : PassesOwn (model X.prog X.w) X.A X.env X.xe) (hc : X.calm = true) (hi : PI X tg iter wi) (hg : PG X tg g) (hb : SSs X body tb) (hs : ∀ x, foldedSetIterable iter X.env x = pure x := by intro _; rfl) : SS X (.For tg iter body [] pos) (tFor wi g tb) := ⟨ps_for hp hc hi hg hb.h hs⟩
theorem ss_expr (he : SE X e te) (hs : swapsWith e none pos.line X.env = pure false := by rfl) : SS X (.Expr e pos) (tDrop te) := ⟨ps_expr he.h hs⟩
theorem ss_ret (he : SE X e te) : SS X (.Return (some e) pos) (tRet te) := ⟨ps_ret he.h⟩
theorem sss_cons (h1 : SS X st t) (h2 : SSs X rest u) : SSs X (st :: rest) (tSeq t u) := ⟨pss_cons h1.h h2.h⟩
theorem sss_one (h1 : SS X st t) : SSs X [st] t := ⟨pss_one h1.h⟩
theorem st_cmpR {op : CmpOp} {r : R2} (ho : OpR X (compareOp op) r) (ha : SE X a ta) (hb : SE X b tb) (hm : behindInMarks op b = false) : ST X (.Compare a [op] [b] pos) (tTest (tOp r ta tb)) := ⟨pt_cmpR ho ha.h hb.h hm⟩
theorem st_not (ha : ST X a tA) : ST X (.UnaryOp .Not a pos) (tNot tA) := ⟨pt_not ha.h⟩
theorem st_val {e : Expr} {t : TE} (h : SE X e t) (he : ∀ whole, isTrue e X.env whole = (do let v ← whole; standAt e.pos; holding [v] (truthy v)) := by intro _; rfl) : ST X e (tB t) := ⟨pt_val h.h he⟩
theorem si_list {l : Expr} {tl : TE} (hl : SE X l tl) : PI X tg l (iList X.K tl) := pi_list hl.h
theorem si_range1 {a : Expr} {ta : TA} {p pos : Pos} (hg : Gl X "range") (hm : X.mg "range" = none) (ha : SA X [a] ta) (hs : starEach [a] X.env = [(false, eval a X.env)] := by rfl) : PI X tg (.Call (.Name "range" p) [a] [] pos) (iRng1 ta) := pi_range1 hg hm ha.h hs
theorem se_int {i j pos} : SE X (.Constant (.int i) j pos) (tC (.int i)) := ⟨pe_int⟩
theorem se_bl {b j pos} : SE X (.Constant (.bool b) j pos) (tC (.bl b)) := ⟨pe_bl⟩
theorem se_non {j pos} : SE X (.Constant .none j pos) (tC .non) := ⟨pe_non⟩
theorem se_str {x j pos} : SE X (.Constant (.str x) j pos) (tC (.str x)) := ⟨pe_str⟩
theorem sa_nil  : SA X [] tNil := ⟨pa_nil⟩
theorem sss_nil  : SSs X [] tNext := ⟨pss_nil⟩
theorem sv (i : Nat) {x : Str} {pos : Pos} (hN : X.N[i]? = some x := by rfl) (hv : Vis X.env.scope x := by first | exact Or.inl rfl | exact Or.inr (Or.inl rfl) | exact Or.inr (Or.inr rfl)) (hd : (x == ("__debug__" : Str)) = false := by decide) (hcd : (x == ("__classdict__" : Str)) = false := by decide) : SE X (.Name x pos) (tVar i) := ⟨pv i hN hv hd hcd⟩
theorem se_lamD (L : LamCx X c P) (hck : lamCk sc X.env.scope N X.N js = true) (hdef : defaultsOf params X.env = ([], [])) : SE X (.Lambda params body sc pos) (tLam X.mg P (X.env.qual ++ "<lambda>") params body sc (clOf sc X.env)) := ⟨pe_lamD L hck hdef⟩
end
end L2
namespace L2
open PySem PySem.Spec PyProof.Rows
structure SW (X : Cx) (e : Expr) (t : TT) : Prop where
  h : PW X e t
section
variable {X : Cx} {a b e : Expr} {es : List Expr} {pos p : Pos} {t tA tB' : TT}
theorem SW.st (s : SW X e t) : ST X e t := ⟨s.h.pt⟩
theorem sw_or1 (ha : ST X a tA) : SW X (.BoolOp .Or [a] pos) tA := ⟨pw_or1 ha.h⟩
theorem sw_or (ha : ST X a tA) (hb : SW X (.BoolOp .Or (b :: es) pos) tB') : SW X (.BoolOp .Or (a :: b :: es) pos) (tOr tA tB') := ⟨pw_or ha.h hb.h⟩
end
end L2
namespace L2
open PySem PySem.Spec PyProof.Rows
section
variable {X : Cx} {a b e elt tg iter : Expr} {rest ifs : List Expr} {pos p : Pos} {ta tb : TE}
theorem se_one {op : BoolOp} {t : TE} (h : SE X a t) : SE X (.BoolOp op [a] pos) t := ⟨pe_one h.h⟩
theorem se_and (ha : SE X a ta) (hb : SE X (.BoolOp .And (b :: rest) pos) tb) : SE X (.BoolOp .And (a :: b :: rest) pos) (tAndV ta tb) := ⟨pe_and ha.h hb.h⟩
theorem se_compD {scope : Scope} {N : List Str} {js : List (Option Nat)} {wi : TI} {g : TG} {tt : Heap → TT} {te : Heap → TE} (hcb : compOk scope X.env.scope N X.N js = true) (hc : X.calm = true) (hfn : ∀ x, X.fn x = true) (hi : PI X tg iter wi)
    (hg : ∀ b C fp s H, PG (cxCompC X b N scope (clOf scope X.env) C fp s H) tg g) (hif : ∀ b C fp s H, PIfs (cxCompC X b N scope (clOf scope X.env) C fp s H) ifs (tt b)) (he : ∀ b C fp s H, PE (cxCompC X b N scope (clOf scope X.env) C fp s H) elt (te b))
    (hs : ∀ x, foldedSetIterable iter X.env x = pure x := by intro _; rfl) : SE X (.ListComp elt [⟨tg, iter, ifs, 0⟩] scope pos) (tCompC X js wi g tt te) := ⟨pe_compD hcb hc hfn hi hg hif he hs⟩
end
end L2
namespace L2
open PySem PySem.Spec PyProof.Rows
theorem loose_int {p : Program} {lv : List (Str × PySem.W.WData)} {mg : Str → Option Value} {h : Heap} {n : Str} {i : Int} (x : PySem.W.XL p lv mg h) (hm : (n, PySem.W.WData.int i) ∈ lv) : ∃ t, mg n = some (.int i t) := by
  obtain ⟨v, a, b⟩ := x.2.val _ hm
  cases b
  exact ⟨_, a⟩
end L2
namespace OP
open PySem PySem.W PySem.Calls PyProof.Rows
noncomputable def topRunT (tb : String → Option Builtin) (p : Program) (w : World) (n₀ : Nat) (ann : Option Value) : Nat → SharedT → Thread → Option SharedT
  | 0, _, _ => none
  | n + 1, s, t => match through t with
    | true => some s
    | false => match stepOk n₀ ann t with
      | false => none
      | true => match stepT (denote tb) p w s t with
        | some (s', t') => topRunT tb p w n₀ ann n s' t'
        | none => none
theorem topRun_of {tb : String → Option Builtin} {p : Program} {w : World} {n₀ : Nat} {ann : Option Value} : ∀ {n : Nat} {s s' : SharedT} {t : Thread}, topRunT tb p w n₀ ann n s t = some s' → topRun tb p w n₀ ann n s.abs t = some s'.abs
  | 0, _, _, _, h => by cases h
  | n + 1, s, s', t, h => by
    unfold topRunT at h
    unfold topRun
    cases he : through t with
    | true => rw [he] at h; cases h; rfl
    | false =>
      rw [he] at h
      cases hk : stepOk n₀ ann t with
      | false => rw [hk] at h; cases h
      | true =>
        rw [hk] at h
        cases hs : stepT (denote tb) p w s t with
        | none => rw [hs] at h; cases h
        | some r => obtain ⟨s₂, t₂⟩ := r; rw [hs] at h; rw [stepT_spec hs]; exact topRun_of h
noncomputable def bootT (P : Params) : BT :=
  .node (boot_o_0 P)
    (.node (boot_o_1 P) (.node (boot_o_3 P) (.node (boot_o_7 P) .nil .nil) .nil) (.node (boot_o_5 P) (.node (boot_o_9 P) .nil .nil) .nil))
    (.node (boot_o_2 P) (.node (boot_o_4 P) (.node (boot_o_8 P) .nil .nil) .nil) (.node (boot_o_6 P) (.node (boot_o_10 P) .nil .nil) .nil))
noncomputable def bootS (P : Params) (os : OsState) : SharedT := ⟨bootT P, 11, (boot_heap P).life, Array.mk [], boot_drawn, boot_toks, os⟩
theorem bootS_abs (P : Params) (os : OsState) : (bootS P os).abs = ⟨boot_heap P, Array.mk [], boot_drawn, boot_toks, os⟩ := rfl
noncomputable def annOf (P : Params) : Option Value := (boot_heap P).nsMap mainGlobals "__annotations__"
theorem boot_size (P : Params) : ((boot_heap P).isNs mainGlobals && (Array.mk [] : Array GenState).size == 0) = true := by kernel_rfl
noncomputable def goT {α : Type} (h₀ : Heap) (ann : Option Value) (s₀ : SharedT) (p q : Program) (loose : List Str) (Xt : Shared → Bool) (Yf : Shared → α) (M : Nat) (w : World) :=
  (topRunT treeTable p w 11 ann M s₀ (topStub p)).map fun s =>
    ((staticsOk (importedModules p.main.body) h₀ s.abs.heap && namesBound p s.abs.heap && gensDone s.abs && laidKept h₀ s.abs.heap),
      openSeen q loose (importedModules p.main.body) Xt true s.abs, Yf s.abs)
theorem left_of_run {p q : Program} {loose : List Str} {Xt : Shared → Bool} {α : Type} {Yf : Shared → α} {Ya : World → α} {N M : Nat}
    (e : opening p = plainProg p.main.scope.names) (hN : Nat.ble 600 N = true) (f : ∀ s, fenceModules? p s = some s)
    (run : ∀ (w : World) (os : OsState), goT (boot_heap w.params) (annOf w.params) (bootS w.params os) p q loose Xt Yf M w = some (true, openGood q loose, Ya w)) (le : Nat.ble M N = true) : LeftO p q loose Xt Yf Ya N := fun w => by
  obtain ⟨⟨h, gs, d, k, os⟩, e1, e2⟩ := Option.map_eq_some_iff.mp (boot_open e hN f w)
  obtain ⟨rfl, rfl, rfl, rfl⟩ : h = boot_heap w.params ∧ gs = Array.mk [] ∧ d = boot_drawn ∧ k = boot_toks := by simpa using e2
  obtain ⟨s, hs, hl⟩ := Option.map_eq_some_iff.mp (run w os)
  have r := topRun_mono (N - M) _ _ _ _ (topRun_of hs)
  rw [show M + (N - M) = N by have := Nat.le_of_ble_eq_true le; omega, bootS_abs] at r
  obtain ⟨l1, l2, l3⟩ : _ ∧ _ ∧ _ := by simpa only [Prod.mk.injEq] using hl
  have t : topFrom treeTable p w N ⟨boot_heap w.params, Array.mk [], boot_drawn, boot_toks, os⟩ = some s.abs := by
    unfold topFrom
    dsimp only
    rw [boot_size]
    dsimp only
    rw [show (boot_heap w.params).objs.size = 11 from rfl]
    unfold annOf at r
    rw [r]
    show (match staticsOk (importedModules p.main.body) (boot_heap w.params) s.abs.heap && namesBound p s.abs.heap && gensDone s.abs && laidKept (boot_heap w.params) s.abs.heap with | true => _ | false => _) = _
    rw [l1]
  unfold openEnds
  rw [e1]
  show (topFrom treeTable p w N _).map _ = _
  rw [t]
  exact congrArg some (Prod.ext l2 l3)
end OP
set_option maxHeartbeats 0
lay_quick OP.goT
namespace OP
open PySem PySem.W PySem.Calls PyProof.Rows
def qOf (n : Nat) (p : Program) : Program := { p with main := { p.main with body := [p.main.body.getD n (.Pass ⟨0, 0, 0, 0⟩)] } }
theorem left_tw {p p' : Program} {n : Nat} {loose : List Str} {lv : List (Str × WData)} {R : WRecords} {α : Type} {Yf : Shared → α} {Ya : World → α} {N : Nat} (M : Nat) (hp : p = p')
    (e : opening p = plainProg p.main.scope.names) (hN : Nat.ble 600 N = true) (f : ∀ s, fenceModules? p s = some s) (le : Nat.ble M N = true)
    (run : ∀ (w : World) (os : OsState), PySem.W.Fast.tw9285885503168683399 (boot_heap w.params) (annOf w.params) (bootS w.params os) p' (qOf n p') loose (fun s => xlAt (qOf n p') lv s && recOk R s) Yf M w = some (true, openGood (qOf n p') loose, Ya w)) :
    LeftO p (qOf n p) loose (fun s => xlAt (qOf n p) lv s && recOk R s) Yf Ya N := by
  subst hp
  refine left_of_run e hN f (fun w os => ?_) le
  rw [PySem.W.Fast.te9285885503168683399]
  exact run w os
end OP
namespace OP
open PySem PySem.W PySem.Calls PyProof.Rows
theorem left_tw2 {p p' : Program} {n : Nat} {loose : List Str} {lv : List (Str × WData)} {R : WRecords} {α : Type} {Yf : Shared → α} {Ya : World → α} {N : Nat} (row : String) (M : Nat) (hp : p = p')
    (e : opening p = plainProg p.main.scope.names) (hN : Nat.ble 600 N = true) (f : ∀ s, fenceModules? p s = some s) (le : Nat.ble M N = true)
    (runF : ∀ (w : World) (os : OsState), PySem.W.Fast.tw9285885503168683399 (boot_heap (w.withFollow row false).params) (annOf (w.withFollow row false).params) (bootS (w.withFollow row false).params os) p' (qOf n p') loose (fun s => xlAt (qOf n p') lv s && recOk R s) Yf M (w.withFollow row false) = some (true, openGood (qOf n p') loose, Ya (w.withFollow row false)))
    (runT : ∀ (w : World) (os : OsState), PySem.W.Fast.tw9285885503168683399 (boot_heap (w.withFollow row true).params) (annOf (w.withFollow row true).params) (bootS (w.withFollow row true).params os) p' (qOf n p') loose (fun s => xlAt (qOf n p') lv s && recOk R s) Yf M (w.withFollow row true) = some (true, openGood (qOf n p') loose, Ya (w.withFollow row true))) :
    LeftO p (qOf n p) loose (fun s => xlAt (qOf n p) lv s && recOk R s) Yf Ya N :=
  left_tw M hp e hN f le (byRow2 row (P := fun w => ∀ os : OsState, PySem.W.Fast.tw9285885503168683399 (boot_heap w.params) (annOf w.params) (bootS w.params os) p' (qOf n p') loose (fun s => xlAt (qOf n p') lv s && recOk R s) Yf M w = some (true, openGood (qOf n p') loose, Ya w)) runF runT)
end OP
namespace L2
open PySem PySem.Spec PyProof.Rows
theorem walk_ofP {l : PySem.W.OpenLaw} {n k : Nat} {q : Program} {loose : List Str} {XP : (Str → Option Value) → Heap → Prop} {YP : World → Heap → Prop} {d : DefRec} {K : Params → PySem.W.Frag} {CX : World → CXT} {sp : Addr → World → PySem.W.Frag → Sp} {x : Str} {Pt : Addr}
    (hn : l.most = some n) (hn2 : n ≤ sizeLine) (hdf : d.params.defaults = []) (hr : Room k callerA)
    (hY : ∀ (w : World) (h : Heap), YP w h → (K w.params).In h ∧ h.get? Pt = some (PySem.W.tabObj #[]))
    (F : ∀ (w : World) (mg : Str → Option Value) (fa : Addr) (h : Heap), (K w.params).In h → h.Ns mainGlobals mg → XP mg h → mg d.name = some (.ref fa) →
      ∃ (fd : FuncData) (c : Addr), PySem.W.codeHdIn (K w.params) c Pt = true ∧ (K w.params).lookup Pt = none ∧ (∀ (s : Shared) (u : Value), BindsTo s fd ⟨[u], []⟩ [(x, u)]) ∧
        ∀ base : Heap, (K w.params).In base → base.Ns mainGlobals mg → base.BuiltinsAt mg Pt → FnOk l.prog w (K w.params) mg base (CX w) k fa fd [x] (sp Pt w (K w.params)))
    (hsp : ∀ (w : World) (K : PySem.W.Frag) (H : Hp) (a : Addr) (ns : List Int), ns.length ≤ n → OnlyT Pt H → SqL K H a (ns.map V.int) → H Pt = some (.tbl #[]) → sp Pt w K [.ref a] H (fun v _ => v = .bl true) fun _ _ _ => False)
    (hCX : ∀ (w : World) (H : Hp) (s : Shared) (e : Value) (s' : Shared), CX w [] H s (fun _ _ _ => False) e s' → False) :
    PySem.W.WalkO q loose XP YP l.row.toRowW d [] (fun f vs => PySem.call f vs) := by
  exact walk_ofT (sp := sp Pt) hn hn2 hdf hr hY F hsp hCX
end L2
namespace PP
open PySem L2 MM
local macro_rules | `(tactic| bv_omega) => `(tactic| simp only [tSeq, tIfS, tTest, tRet, tRetN, tNext, tDrop, tAsg, tPar, tPar3, tAug, tVar, tC, tOp, tUn, rI, rI0, rU, tB, tAnd, tOr, tNot, tAndV, tOrV, tNotV, tIf, gName, gNil, gCons, gTup, gSub, tCB, tCons, tNil, tCall, tChain, ipI, tIsN, tNotN, tBM, tyV, tTup, tLst, rAppend, rCat, scal_ii, scal_bb, scal_ss, scal_ni, scal_in, rEq, rNe, List.getElem?_cons_zero, List.getElem?_cons_succ, List.set_cons_zero, List.set_cons_succ, eq_self, and_assoc, Option.some.injEq, V.int.injEq, V.bl.injEq, V.ref.injEq, V.str.injEq, List.cons.injEq, exists_eq_left', exists_eq_left, exists_and_left, List.nil_append, List.cons_append, List.append_nil, true_and, and_true, decide_eq_true_eq, Bool.not_eq_true', decide_eq_false_iff_not, if_true, if_false, Bool.not_true, Bool.not_false, Bool.false_eq_true, reduceCtorEq, decide_true, decide_false, ite_true, ite_false, rSetL, rIxL, tRaise, jCons, jNil, tFmt, tDNew, rCount, rIndex, tCont, tBreak, Int.reduceToNat, Int.reducePow])
local macro_rules | `(tactic| subst_eqs) => `(tactic| first | exact Or.inl rfl | exact Or.inr rfl)
local macro_rules | `(tactic| rename_i $a:ident) => `(tactic| simp only [tSeq, tIfS, tTest, tRet, tRetN, tNext, tDrop, tAsg, tPar, tPar3, tAug, tVar, tC, tOp, tUn, rI, rI0, rU, tB, tAnd, tOr, tNot, tAndV, tOrV, tNotV, tIf, gName, gNil, gCons, gTup, gSub, tCB, tCons, tNil, tCall, tChain, ipI, tIsN, tNotN, tBM, tyV, tTup, tLst, rAppend, rCat, scal_ii, scal_bb, scal_ss, scal_ni, scal_in, rEq, rNe, List.getElem?_cons_zero, List.getElem?_cons_succ, List.set_cons_zero, List.set_cons_succ, eq_self, and_assoc, Option.some.injEq, V.int.injEq, V.bl.injEq, V.ref.injEq, V.str.injEq, List.cons.injEq, exists_eq_left', exists_eq_left, exists_and_left, List.nil_append, List.cons_append, List.append_nil, true_and, and_true, decide_eq_true_eq, Bool.not_eq_true', decide_eq_false_iff_not, if_true, if_false, Bool.not_true, Bool.not_false, Bool.false_eq_true, reduceCtorEq, decide_true, decide_false, ite_true, ite_false, rSetL, rIxL, tRaise, jCons, jNil, tFmt, tDNew, rCount, rIndex, tCont, tBreak, Int.reduceToNat, Int.reducePow, $a:ident])
local macro_rules | `(tactic| rename_i $a:ident $b:ident $c:ident) => `(tactic| simp only [tSeq, tIfS, tTest, tRet, tRetN, tNext, tDrop, tAsg, tPar, tPar3, tAug, tVar, tC, tOp, tUn, rI, rI0, rU, tB, tAnd, tOr, tNot, tAndV, tOrV, tNotV, tIf, gName, gNil, gCons, gTup, gSub, tCB, tCons, tNil, tCall, tChain, ipI, tIsN, tNotN, tBM, tyV, tTup, tLst, rAppend, rCat, scal_ii, scal_bb, scal_ss, scal_ni, scal_in, rEq, rNe, List.getElem?_cons_zero, List.getElem?_cons_succ, List.set_cons_zero, List.set_cons_succ, eq_self, and_assoc, Option.some.injEq, V.int.injEq, V.bl.injEq, V.ref.injEq, V.str.injEq, List.cons.injEq, exists_eq_left', exists_eq_left, exists_and_left, List.nil_append, List.cons_append, List.append_nil, true_and, and_true, decide_eq_true_eq, Bool.not_eq_true', decide_eq_false_iff_not, if_true, if_false, Bool.not_true, Bool.not_false, Bool.false_eq_true, reduceCtorEq, decide_true, decide_false, ite_true, ite_false, rSetL, rIxL, tRaise, jCons, jNil, tFmt, tDNew, rCount, rIndex, tCont, tBreak, Int.reduceToNat, Int.reducePow, $a:ident, $b:ident, $c:ident])
def top (i : Nat) : Stmt := PySem.Challenge.pw_primepapers_k32_share_papers_told.main.body.getD i (.Pass ⟨0, 0, 0, 0⟩)
structure Cl where
  pe : Addr
  nn : Addr
  np : Addr
  pa : Addr
  pp : Addr
  nb : Addr
  nt : Addr
  nl : Addr
  nm : Addr
  nd : Addr
  tg : Addr
  fw : Addr
  aw : Addr
  lk : Addr
  s2 : Addr
  sf : Addr
  ss : Addr
  so : Addr
structure Txt (K : PySem.W.Frag) (mg : Str → Option Value) (t1 t2 : Tok) (cl : Cl) : Prop where
  mg_MOST_TRIED : mg "MOST_TRIED" = some (.int 1000000000 t1)
  mg_MOST : mg "MOST" = some (.int 1000000000000000000000000000000 t2)
  mg_FULL_WORDS : mg "FULL_WORDS" = some (.ref cl.fw)
  mg_ALL_WORDS : mg "ALL_WORDS" = some (.ref cl.aw)
  mg_LOOKS : mg "LOOKS" = some (.ref cl.lk)
  fw : ∀ H, SqT K H cl.fw [.str (Str.ofString "two"), .str (Str.ofString "full")]
  aw : ∀ H, SqT K H cl.aw [.str (Str.ofString "two"), .str (Str.ofString "full"), .str (Str.ofString "share"), .str (Str.ofString "other")]
  mg_shows_two : mg "shows_two" = some (.ref cl.s2)
  mg_shows_full : mg "shows_full" = some (.ref cl.sf)
  mg_shows_share : mg "shows_share" = some (.ref cl.ss)
  no_str : mg "str" = none
  no_sorted : mg "sorted" = none
  no_all : mg "all" = none
  no_abs : mg "abs" = none
  no_len : mg "len" = none
  no_isinstance : mg "isinstance" = none
  no_int : mg "int" = none
  no_bool : mg "bool" = none
  no_range : mg "range" = none
  no_max : mg "max" = none
  no_min : mg "min" = none
  no_tuple : mg "tuple" = none
  no_repr : mg "repr" = none
  no_ValueError : mg "ValueError" = none
  mg_PrimeError : mg "PrimeError" = some (.ref cl.pe)
  mg_NoNumber : mg "NoNumber" = some (.ref cl.nn)
  mg_NoPrime : mg "NoPrime" = some (.ref cl.np)
  mg_NoPair : mg "NoPair" = some (.ref cl.pa)
  mg_NoPaper : mg "NoPaper" = some (.ref cl.pp)
  mg_NoBases : mg "NoBases" = some (.ref cl.nb)
  mg_NoText : mg "NoText" = some (.ref cl.nt)
  mg_NoLine : mg "NoLine" = some (.ref cl.nl)
  mg_NoName : mg "NoName" = some (.ref cl.nm)
  mg_NoDeed : mg "NoDeed" = some (.ref cl.nd)
  mg_TooGreat : mg "TooGreat" = some (.ref cl.tg)
  xc_NoNumber : ExcC K cl.nn
  xc_NoPrime : ExcC K cl.np
def LkOk (P : Program) (w : World) (K : PySem.W.Frag) (cl : Cl) : Prop := DiK P w K cl.lk [(.inr (Str.ofString "two"), .ref cl.s2), (.inr (Str.ofString "full"), .ref cl.sf), (.inr (Str.ofString "share"), .ref cl.ss), (.inr (Str.ofString "other"), .ref cl.so)]
section
variable {P : Program} {w : World} {K : PySem.W.Frag} {mg : Str → Option Value} {base : Heap} {t1 t2 : Tok} {cl : Cl} {f : Addr} {fd : FuncData}
abbrev s_q50 : Stmt := top 15
theorem sc_q50 : FnScope ["thing"] ["thing"] (defScope s_q50) := ⟨rfl, rfl, rfl, by decide +kernel, rfl, by decide +kernel, by decide +kernel⟩
abbrev Df_q50 (K : PySem.W.Frag) (mg : Str → Option Value) (f : Addr) (fd : FuncData) : Prop := Def K mg "is_whole" s_q50 ["thing"] f fd
def isWh : V → Bool
  | .int _ => true
  | _ => false
def spWhole (K : PySem.W.Frag) : Sp := fun vs H Q _ => ∃ x n, vs = [x] ∧ TyOf K H x (.type n) ∧ Q (.bl (isWh x)) H
theorem ok_q50 (D : Df_q50 K mg f fd) (T : Txt K mg t1 t2 cl) : FnOk P w K mg base CX0 1 f fd ["thing"] (spWhole K) := by
  refine D.fn.ok sc_q50 (fun vs H Q E h => ?_) (fun cdv A outer s H vs Q E hr h => ?_)
  · obtain ⟨x, n, rfl, _⟩ := h
    rfl
  · obtain ⟨x, n, rfl, ty, k⟩ := h
    refine ⟨_, (pss_one (ps_ret (pe_and (pe_callB call_isinst (by rfl) T.no_isinstance PyProof.Rows.boot_isinstance (pa_cons (pv 0) (pa_cons (pe_bltn (v := .ty "int") rfl T.no_int PyProof.Rows.boot_int rfl) pa_nil))) (pe_one (pe_not (pe_callB call_isinst (by rfl) T.no_isinstance PyProof.Rows.boot_isinstance (pa_cons (pv 0) (pa_cons (pe_bltn (v := .ty "bool") rfl T.no_bool PyProof.Rows.boot_bool rfl) pa_nil)))))))), ?_⟩
    have e0 : L2.start ["thing"] [x] = [some x] := rfl
    rw [e0]
    bv_omega
    refine isi ty ⟨_, rfl, ?_⟩
    have ty' := ty
    cases ty' <;> first | exact iteF k | (refine iteT ?_; refine isi (by assumption) ⟨_, rfl, ?_⟩; exact k)
abbrev O_q50 (P : Program) (w : World) (K : PySem.W.Frag) (mg : Str → Option Value) (base : Heap) : Prop := ∃ f fd, Df_q50 K mg f fd ∧ FnOk P w K mg base CX0 1 f fd ["thing"] ((spWhole K))
abbrev s_q23 : Stmt := top 16
theorem sc_q23 : FnScope ["thing", "least", "most"] ["thing", "least", "most"] (defScope s_q23) := ⟨rfl, rfl, rfl, by decide +kernel, rfl, by decide +kernel, by decide +kernel⟩
abbrev Df_q23 (K : PySem.W.Frag) (mg : Str → Option Value) (f : Addr) (fd : FuncData) : Prop := Def K mg "is_between" s_q23 ["thing", "least", "most"] f fd
def isBet : V → Int → Int → Bool
  | .int i, lo, hi => decide (lo ≤ i) && decide (i ≤ hi)
  | _, _, _ => false
def spBetween (K : PySem.W.Frag) : Sp := fun vs H Q _ => ∃ x n lo hi, vs = [x, .int lo, .int hi] ∧ TyOf K H x (.type n) ∧ Q (.bl (isBet x lo hi)) H
theorem ok_q23 (D : Df_q23 K mg f fd) (T : Txt K mg t1 t2 cl) {f1 fd1} (D_q50 : Df_q50 K mg f1 fd1) : FnOk P w K mg base CX0 2 f fd ["thing", "least", "most"] (spBetween K) := by
  have G_q50 : FnOk P w K mg base CX0 1 _ _ _ _ := ok_q50 D_q50 T
  refine D.fn.ok sc_q23 (fun vs H Q E h => ?_) (fun cdv A outer s H vs Q E hr h => ?_)
  · obtain ⟨x, n, lo, hi, rfl, _⟩ := h
    rfl
  · obtain ⟨x, n, lo, hi, rfl, ty, k⟩ := h
    refine ⟨_, (pss_one (ps_ret (pe_and (pe_call (G_q50.mono (by decide)) hr rfl D_q50.mgx D_q50.fn.kp D_q50.bd .nil pass0 (pa_cons (pv 0) pa_nil)) (pe_one (pe_chain op_le op_le (pv 1) (pv 0) (pv 2)))))), ?_⟩
    have e0 : L2.start ["thing", "least", "most"] [x, .int lo, .int hi] = [some (x), some (.int lo), some (.int hi)] := rfl
    rw [e0]; clear e0
    bv_omega
    refine ⟨x, n, rfl, ty, _, rfl, ?_⟩
    cases x
    case int i =>
      refine iteT ⟨_, rfl, ?_⟩
      by_cases hl : lo ≤ i
      · rw [if_pos (by simpa using hl)]
        have e : isBet (.int i) lo hi = decide (i ≤ hi) := by simp [isBet, hl]
        rw [e] at k
        bv_omega
        exact k
      · rw [if_neg (by simpa using hl)]
        have e : isBet (.int i) lo hi = false := by simp [isBet, hl]
        rw [e] at k
        exact k
    all_goals exact iteF k
abbrev O_q23 (P : Program) (w : World) (K : PySem.W.Frag) (mg : Str → Option Value) (base : Heap) : Prop := ∃ f fd, Df_q23 K mg f fd ∧ FnOk P w K mg base CX0 2 f fd ["thing", "least", "most"] (spBetween K)
def tMsg : TE := fun σ H Q => ∃ nm lo hi, σ[3]? = some (some (.str nm)) ∧ σ[1]? = some (some (.int lo)) ∧ σ[2]? = some (some (.int hi)) ∧ (nm.length ≤ 100 ∧ lo.natAbs < 10 ^ 100 ∧ hi.natAbs < 10 ^ 100) ∧ ∀ z, Q (.str z) H
theorem msg_imp {a b : Str} (ha : a.length ≤ 100) (hb : b.length ≤ 100) : ∀ σ H Q, tMsg σ H Q → jCons (tFmt (tVar 3)) (jCons (tC (.str a)) (jCons (tFmt (tVar 1)) (jCons (tC (.str b)) (jCons (tFmt (tVar 2)) jNil)))) Str.empty σ H Q := by
  rintro σ H Q ⟨nm, lo, hi, e1, e2, e3, ⟨b3, b1, b2⟩, k⟩
  have l1 : (Str.ofString (toString lo)).length ≤ 101 := toStr_len b1
  have l2 : (Str.ofString (toString hi)).length ≤ 101 := toStr_len b2
  have e0 : Str.empty.length = 0 := rfl
  have sz : ∀ {x : Str}, x.length ≤ 1000 → x.length ≤ sizeLine := fun h => Nat.le_of_lt (small1000 h)
  refine ⟨_, e1, .inl ⟨nm, rfl, sz (by omega), nm, rfl, sz ?_, a, rfl, sz ?_, _, e2, .inr ⟨lo, rfl, b1, _, rfl, sz ?_, b, rfl, sz ?_, _, e3, .inr ⟨hi, rfl, b2, _, rfl, sz ?_, sz ?_, k _⟩⟩⟩⟩ <;> simp only [Str.length_append, e0] <;> omega
abbrev s_q34 : Stmt := top 28
theorem sc_q34 : FnScope ["base", "often", "n", "done", "square", "left"] ["base", "often", "n"] (defScope s_q34) := ⟨rfl, rfl, rfl, by decide +kernel, rfl, by decide +kernel, by decide +kernel⟩
abbrev Df_q34 (K : PySem.W.Frag) (mg : Str → Option Value) (f : Addr) (fd : FuncData) : Prop := Def K mg "power_rest" s_q34 ["base", "often", "n"] f fd
def spPower : Sp := fun vs H Q _ => ∃ (b o n : Int), vs = [.int b, .int o, .int n] ∧ (b.natAbs < 10 ^ 100 ∧ 0 ≤ o ∧ 0 < n ∧ n ≤ 10 ^ 40) ∧ Q (.int (b ^ o.toNat % n)) H
theorem ok_q34 (D : Df_q34 K mg f fd) (T : Txt K mg t1 t2 cl) : FnOk P w K mg base CX0 1 f fd ["base", "often", "n"] spPower := by
  refine D.fn.ok sc_q34 (fun vs H Q E h => ?_) (fun cdv A outer s H vs Q E hr h => ?_)
  · obtain ⟨b, o, n, rfl, _⟩ := h
    rfl
  · obtain ⟨b, o, n, rfl, ⟨hb, ho, hn, hn2⟩, k⟩ := h
    refine ⟨_, (pss_cons (ps_set (i := 3) sc_q34.nd rfl (by subst_eqs) (pe_op op_mod pe_int (pv 2))) (pss_cons (ps_set (i := 4) sc_q34.nd rfl (by subst_eqs) (pe_op op_mod (pv 0) (pv 2))) (pss_cons (ps_set (i := 5) sc_q34.nd rfl (by subst_eqs) (pv 1)) (pss_cons (ps_while PassesOwn.never (pt_cmpR op_gt (pv 5) pe_int (nomark _)) (pss_cons (ps_if (pt_cmpR op_eq (pe_op op_mod (pv 5) pe_int) pe_int (nomark _)) (pss_one (ps_set (i := 3) sc_q34.nd rfl (by subst_eqs) (pe_op op_mod (pe_op op_mulB (pv 3) (pv 4)) (pv 2)))) pss_nil) (pss_cons (ps_set (i := 4) sc_q34.nd rfl (by subst_eqs) (pe_op op_mod (pe_op op_mulB (pv 4) (pv 4)) (pv 2))) (pss_one (ps_set (i := 5) sc_q34.nd rfl (by subst_eqs) (pe_op op_fdivB (pv 5) pe_int)))))) (pss_one (ps_ret (pv 3))))))), ?_⟩
    have e0 : L2.start ["base", "often", "n", "done", "square", "left"] [.int b, .int o, .int n] = [some (.int b), some (.int o), some (.int n), none, none, none] := rfl
    rw [e0]; clear e0
    bv_omega
    refine ⟨hn, hn, ?_⟩
    refine ⟨fun m σ H' => H' = H ∧ ∃ d q l, m = l.toNat ∧ σ = [some (.int b), some (.int o), some (.int n), some (.int d), some (.int q), some (.int l)] ∧ PowInv b o n d q l,
      ⟨_, rfl, _, _, _, rfl, rfl, pow_start hn ho⟩, ?_⟩
    rintro m σ H' ⟨rfl, d, q, l, rfl, rfl, I⟩
    bv_omega
    have i0 := I.d0; have i1 := I.d1; have i2 := I.s0; have i3 := I.s1; have i4 := I.l0
    refine ite2 (fun hl => ?_) (fun hl => ?_)
    · refine ⟨fun σ' H2 => H2 = H' ∧ ∃ d' q' l', l'.toNat < l.toNat ∧ σ' = [some (.int b), some (.int o), some (.int n), some (.int d'), some (.int q'), some (.int l')] ∧ PowInv b o n d' q' l',
        fun σ' H2 ⟨e, d', q', l', hlt, e2, J⟩ => ⟨_, hlt, e, d', q', l', rfl, e2, J⟩, ?_⟩
      have c1 : CMulB d q := .inr ⟨by omega, by omega⟩
      have c2 : CMulB q q := .inr ⟨by omega, by omega⟩
      have c3 : CDivB l 2 := ⟨by decide, by decide⟩
      refine ⟨by decide, ?_⟩
      refine ite2 (fun ho => ?_) (fun ho => ?_)
      · exact ⟨c1, hn, c2, hn, c3, rfl, _, _, _, by omega, rfl, pow_odd hn I ho⟩
      · exact ⟨c2, hn, c3, rfl, _, _, _, by omega, rfl, pow_even hn I ho⟩
    · have e := pow_end I hl
      rw [← e] at k
      exact k
abbrev O_q34 (P : Program) (w : World) (K : PySem.W.Frag) (mg : Str → Option Value) (base : Heap) : Prop := ∃ f fd, Df_q34 K mg f fd ∧ FnOk P w K mg base CX0 1 f fd ["base", "often", "n"] (spPower)
abbrev s_q35 : Stmt := top 45
theorem sc_q35 : FnScope ["product", "prime", "often", "most", "left"] ["product", "prime", "often", "most"] (defScope s_q35) := ⟨rfl, rfl, rfl, by decide +kernel, rfl, by decide +kernel, by decide +kernel⟩
abbrev Df_q35 (K : PySem.W.Frag) (mg : Str → Option Value) (f : Addr) (fd : FuncData) : Prop := Def K mg "multiplied" s_q35 ["product", "prime", "often", "most"] f fd
def spMul : Sp := fun vs H Q _ => ∃ (p q e m : Int), vs = [.int p, .int q, .int e, .int m] ∧ (1 ≤ p ∧ 1 ≤ q ∧ 0 ≤ e ∧ p * q ^ e.toNat ≤ m ∧ m ≤ 10 ^ 40) ∧ Q (.int (p * q ^ e.toNat)) H
theorem ok_q35 (D : Df_q35 K mg f fd) (T : Txt K mg t1 t2 cl) : FnOk P w K mg base CX0 1 f fd ["product", "prime", "often", "most"] spMul := by
  refine D.fn.ok sc_q35 (fun vs H Q E h => ?_) (fun cdv A outer s H vs Q E hr h => ?_)
  · obtain ⟨p, q, e, m, rfl, _⟩ := h
    rfl
  · obtain ⟨p, q, e, m, rfl, ⟨p1, q1, e0, hm, m40⟩, k⟩ := h
    refine ⟨_, (pss_cons (ps_set (i := 4) sc_q35.nd rfl (by subst_eqs) (pv 2)) (pss_cons (ps_while PassesOwn.never (PW.pt (pw_and (pt_cmpR op_gt (pv 4) pe_int (nomark _)) (pw_and1 (pt_cmpR op_le (pv 0) (pv 3) (nomark _))))) (pss_cons (ps_set (i := 0) sc_q35.nd rfl (by subst_eqs) (pe_op op_mulB (pv 0) (pv 1))) (pss_one (ps_aug (i := 4) sc_q35.nd rfl (Or.inl rfl) pe_int ip_sub)))) (pss_one (ps_ret (pv 0))))), ?_⟩
    have e0 : L2.start ["product", "prime", "often", "most", "left"] [.int p, .int q, .int e, .int m] = [some (.int p), some (.int q), some (.int e), some (.int m), none] := rfl
    rw [e0]; clear e0
    bv_omega
    refine ⟨fun j σ H' => H' = H ∧ ∃ i : Nat, i + j = e.toNat ∧ σ = [some (.int (p * q ^ i)), some (.int q), some (.int e), some (.int m), some (.int (j : Int))], ⟨e.toNat, rfl, 0, by omega, ?_⟩, ?_⟩
    · rw [show ((e.toNat : Nat) : Int) = e by omega]; simp
    rintro j σ H' ⟨rfl, i, hij, rfl⟩
    have x : p * q ^ i ≤ p * q ^ e.toNat := Int.mul_le_mul_of_nonneg_left (pow_mono1 q1 (by omega)) (by omega)
    have y : 1 ≤ p * q ^ i := Int.le_trans p1 (le_mul1 (by omega) (pow_ge1 q1 i))
    bv_omega
    refine ite2 (fun hj => ?_) (fun hj => ?_)
    · rw [if_pos (by omega)]
      have z : q ≤ p * q ^ e.toNat := Int.le_trans (pow_self1 q1 (show 1 ≤ e.toNat by omega)) (by
        have := Int.mul_le_mul_of_nonneg_right p1 (show 0 ≤ q ^ e.toNat by have := pow_ge1 q1 e.toNat; omega)
        omega)
      refine ⟨fun σ' H2 => H2 = H' ∧ σ' = [some (.int (p * q ^ i * q)), some (.int q), some (.int e), some (.int m), some (.int ((j : Int) - 1))], fun σ' H2 h => ⟨j - 1, by omega, h.1, i + 1, by omega, ?_⟩, .inr ⟨by omega, by omega⟩, rfl, rfl⟩
      rw [h.2, Int.pow_succ, Int.mul_assoc, show ((j - 1 : Nat) : Int) = (j : Int) - 1 by omega]
    · have e1 : i = e.toNat := by omega
      rw [e1]
      exact k
abbrev O_q35 (P : Program) (w : World) (K : PySem.W.Frag) (mg : Str → Option Value) (base : Heap) : Prop := ∃ f fd, Df_q35 K mg f fd ∧ FnOk P w K mg base CX0 1 f fd ["product", "prime", "often", "most"] (spMul)
abbrev s_q57 : Stmt := top 44
theorem sc_q57 : FnScope ["thing"] ["thing"] (defScope s_q57) := ⟨rfl, rfl, rfl, by decide +kernel, rfl, by decide +kernel, by decide +kernel⟩
abbrev Df_q57 (K : PySem.W.Frag) (mg : Str → Option Value) (f : Addr) (fd : FuncData) : Prop := Def K mg "is_row" s_q57 ["thing"] f fd
def spRow (K : PySem.W.Frag) : Sp := fun vs H Q _ => ∃ (r : Row) (v : V), vs = [v] ∧ Rep K H (rwD r) v ∧ 1 ≤ r.2.1 ∧ Q (.bl true) H
theorem ok_q57 (D : Df_q57 K mg f fd) (T : Txt K mg t1 t2 cl) (o1 : O_q50 P w K mg base) : FnOk P w K mg base CX0 2 f fd ["thing"] (spRow K) := by
  obtain ⟨_, _, D_q50, G_q50⟩ := o1
  refine D.fn.ok sc_q57 (fun vs H Q E h => ?_) (fun cdv A outer s H vs Q E hr h => ?_)
  · obtain ⟨r, v, rfl, _⟩ := h
    rfl
  · obtain ⟨r, v, rfl, R, r1, k⟩ := h
    obtain ⟨a, xs, rfl, ha, _, _, rfl, rfl, _, _, rfl, rfl, x, _, rfl, R3, rfl⟩ := R
    refine ⟨_, (pss_cons (ps_if (PW.pt (pw_or (pt_not (pt_val (pe_callB call_isinstS (by rfl) T.no_isinstance PyProof.Rows.boot_isinstance (pa_cons (pv 0) (pa_cons (pe_bltn (v := .ty "tuple") rfl T.no_tuple PyProof.Rows.boot_tuple rfl) pa_nil))))) (pw_or1 (pt_cmpR op_ne (pe_callB call_len_seq (by rfl) T.no_len PySem.boot_len (pa_cons (pv 0) pa_nil)) pe_int (nomark _))))) (pss_one (ps_ret pe_bl)) pss_nil) (pss_one (ps_ret (pe_and (pe_call (G_q50.mono (by decide)) hr rfl D_q50.mgx D_q50.fn.kp D_q50.bd .nil pass0 (pa_cons (pe_ix ix_tup (pv 0) pe_int (fun _ _ => rfl)) pa_nil)) (pe_and (pe_call (G_q50.mono (by decide)) hr rfl D_q50.mgx D_q50.fn.kp D_q50.bd .nil pass0 (pa_cons (pe_ix ix_tup (pv 0) pe_int (fun _ _ => rfl)) pa_nil)) (pe_one (pe_cmpR op_ge (pe_ix ix_tup (pv 0) pe_int (fun _ _ => rfl)) pe_int (nomark _)))))))), ?_⟩
    have e0 : L2.start ["thing"] [.ref a] = [some (.ref a)] := rfl
    rw [e0]; clear e0
    bv_omega
    refine ⟨a, _, _, rfl, ha, by decide, _, rfl, ?_⟩
    rw [if_neg (by decide)]
    refine ⟨_, .inr ha, ?_⟩
    rw [if_neg (fun z => z rfl)]
    refine ⟨a, _, _, _, rfl, rfl, ha, rfl, _, _, rfl, .int _, _, rfl, ?_⟩
    rw [if_pos (by rfl)]
    refine ⟨a, _, _, _, rfl, rfl, ha, rfl, _, _, rfl, .int _, _, rfl, ?_⟩
    rw [if_pos (by rfl)]
    refine ⟨a, _, _, _, rfl, rfl, ha, rfl, _, rfl, ?_⟩
    rw [decide_eq_true r1]
    exact k
abbrev O_q57 (P : Program) (w : World) (K : PySem.W.Frag) (mg : Str → Option Value) (base : Heap) : Prop := ∃ f fd, Df_q57 K mg f fd ∧ FnOk P w K mg base CX0 2 f fd ["thing"] ((spRow K))
abbrev s_q42 : Stmt := top 46
theorem sc_q42 : FnScope ["n", "paper"] ["n", "paper"] (defScope s_q42) := ⟨rfl, rfl, rfl, by decide +kernel, rfl, by decide +kernel, by decide +kernel⟩
abbrev Df_q42 (K : PySem.W.Frag) (mg : Str → Option Value) (f : Addr) (fd : FuncData) : Prop := Def K mg "shows_two" s_q42 ["n", "paper"] f fd
def spTwo (K : PySem.W.Frag) : Sp := fun vs H Q _ => ∃ (a : Addr) (xs : List V), vs = [.int 2, .ref a] ∧ SqT K H a xs ∧ xs.length = 1 ∧ Q (.bl true) H
theorem ok_q42 (D : Df_q42 K mg f fd) (T : Txt K mg t1 t2 cl) : FnOk P w K mg base CX0 1 f fd ["n", "paper"] (spTwo K) := by
  refine D.fn.ok sc_q42 (fun vs H Q E h => ?_) (fun cdv A outer s H vs Q E hr h => ?_)
  · obtain ⟨a, xs, rfl, _⟩ := h
    rfl
  · obtain ⟨a, xs, rfl, ha, hx, k⟩ := h
    refine ⟨_, (pss_one (ps_ret (pe_and (pe_cmpR op_eq (pe_callB call_len_seq (by rfl) T.no_len PySem.boot_len (pa_cons (pv 1) pa_nil)) pe_int (nomark _)) (pe_one (pe_cmpR op_eq (pv 0) pe_int (nomark _)))))), ?_⟩
    have e0 : L2.start ["n", "paper"] [.int 2, .ref a] = [some (.int 2), some (.ref a)] := rfl
    rw [e0]; clear e0
    bv_omega
    refine ⟨xs, .inr ha, ?_⟩
    rw [if_pos (by rw [hx]; rfl)]
    exact k
abbrev O_q42 (P : Program) (w : World) (K : PySem.W.Frag) (mg : Str → Option Value) (base : Heap) : Prop := ∃ f fd, Df_q42 K mg f fd ∧ FnOk P w K mg base CX0 1 f fd ["n", "paper"] ((spTwo K))
abbrev s_q5 : Stmt := top 49
theorem sc_q5 : FnScope ["product", "n"] ["product", "n"] (defScope s_q5) := ⟨rfl, rfl, rfl, by decide +kernel, rfl, by decide +kernel, by decide +kernel⟩
abbrev Df_q5 (K : PySem.W.Frag) (mg : Str → Option Value) (f : Addr) (fd : FuncData) : Prop := Def K mg "is_great_share" s_q5 ["product", "n"] f fd
def spGS : Sp := fun vs H Q _ => ∃ (q n : Int), vs = [.int q, .int n] ∧ (1 ≤ q ∧ q ≤ n ∧ n ≤ 10 ^ 40) ∧ ((n - 1) % q = 0 ∧ n < q * q) ∧ Q (.bl true) H
theorem ok_q5 (D : Df_q5 K mg f fd) (T : Txt K mg t1 t2 cl) : FnOk P w K mg base CX0 1 f fd ["product", "n"] spGS := by
  refine D.fn.ok sc_q5 (fun vs H Q E h => ?_) (fun cdv A outer s H vs Q E hr h => ?_)
  · obtain ⟨q, n, rfl, _⟩ := h
    rfl
  · obtain ⟨q, n, rfl, ⟨q1, qn, n40⟩, ⟨hq, hn⟩, k⟩ := h
    refine ⟨_, (pss_one (ps_ret (pe_and (pe_cmp (pc_notN (pv 0))) (pe_and (pe_cmpR op_eq (pe_op op_mod (pe_op op_sub (pv 1) pe_int) (pv 0)) pe_int (nomark _)) (pe_one (pe_cmpR op_gt (pe_op op_mulB (pv 0) (pv 0)) (pv 1) (nomark _))))))), ?_⟩
    have e0 : L2.start ["product", "n"] [.int q, .int n] = [some (.int q), some (.int n)] := rfl
    rw [e0]; clear e0
    bv_omega
    rw [if_pos (fun z => z)]
    refine ⟨by omega, ?_⟩
    rw [if_pos hq]
    refine ⟨.inr ⟨by omega, by omega⟩, ?_⟩
    rw [decide_eq_true hn]
    exact k
abbrev O_q5 (P : Program) (w : World) (K : PySem.W.Frag) (mg : Str → Option Value) (base : Heap) : Prop := ∃ f fd, Df_q5 K mg f fd ∧ FnOk P w K mg base CX0 1 f fd ["product", "n"] (spGS)
abbrev s_q27 : Stmt := top 50
theorem sc_q27 : FnScope ["base", "n"] ["base", "n"] (defScope s_q27) := ⟨rfl, rfl, rfl, by decide +kernel, rfl, by decide +kernel, by decide +kernel⟩
abbrev Df_q27 (K : PySem.W.Frag) (mg : Str → Option Value) (f : Addr) (fd : FuncData) : Prop := Def K mg "comes_home" s_q27 ["base", "n"] f fd
def spCH : Sp := fun vs H Q _ => ∃ (b n : Int), vs = [.int b, .int n] ∧ (1 ≤ b ∧ b ≤ n - 1 ∧ n ≤ 10 ^ 40) ∧ b ^ (n - 1).toNat % n = 1 ∧ Q (.bl true) H
theorem ok_q27 (D : Df_q27 K mg f fd) (T : Txt K mg t1 t2 cl) (o1 : O_q23 P w K mg base) (o2 : O_q34 P w K mg base) : FnOk P w K mg base CX0 3 f fd ["base", "n"] spCH := by
  obtain ⟨_, _, D_q23, G_q23⟩ := o1
  obtain ⟨_, _, D_q34, G_q34⟩ := o2
  refine D.fn.ok sc_q27 (fun vs H Q E h => ?_) (fun cdv A outer s H vs Q E hr h => ?_)
  · obtain ⟨b, n, rfl, _⟩ := h
    rfl
  · obtain ⟨b, n, rfl, ⟨b1, bn, n40⟩, hb, k⟩ := h
    refine ⟨_, (pss_one (ps_ret (pe_and (pe_call (G_q23.mono (by decide)) hr rfl D_q23.mgx D_q23.fn.kp D_q23.bd .nil pass0 (pa_cons (pv 0) (pa_cons pe_int (pa_cons (pe_op op_sub (pv 1) pe_int) pa_nil)))) (pe_one (pe_cmpR op_eq (pe_call (G_q34.mono (by decide)) hr rfl D_q34.mgx D_q34.fn.kp D_q34.bd .nil pass0 (pa_cons (pv 0) (pa_cons (pe_op op_sub (pv 1) pe_int) (pa_cons (pv 1) pa_nil)))) pe_int (nomark _)))))), ?_⟩
    have e0 : L2.start ["base", "n"] [.int b, .int n] = [some (.int b), some (.int n)] := rfl
    rw [e0]; clear e0
    bv_omega
    refine ⟨_, _, 1, n - 1, rfl, .int _, _, rfl, ?_⟩
    rw [if_pos (by show (decide (1 ≤ b) && decide (b ≤ n - 1)) = true; rw [decide_eq_true b1, decide_eq_true bn]; rfl)]
    refine ⟨b, n - 1, n, rfl, ⟨by omega, by omega, by omega, n40⟩, rfl, ?_⟩
    rw [hb]
    exact k
abbrev O_q27 (P : Program) (w : World) (K : PySem.W.Frag) (mg : Str → Option Value) (base : Heap) : Prop := ∃ f fd, Df_q27 K mg f fd ∧ FnOk P w K mg base CX0 3 f fd ["base", "n"] (spCH)
abbrev s_q18 : Stmt := top 41
theorem sc_q18 : FnScope ["thing", "words"] ["thing", "words"] (defScope s_q18) := ⟨rfl, rfl, rfl, by decide +kernel, rfl, by decide +kernel, by decide +kernel⟩
abbrev Df_q18 (K : PySem.W.Frag) (mg : Str → Option Value) (f : Addr) (fd : FuncData) : Prop := Def K mg "begins_with" s_q18 ["thing", "words"] f fd
theorem inV_str {z : Str} : ∀ {ws : List Str}, z ∈ ws → inV (.str z) (ws.map V.str) = true := by
  intro ws h
  refine List.any_eq_true.mpr ⟨.str z, List.mem_map_of_mem h, ?_⟩
  show (z == z) = true
  exact beq_self_eq_true z
theorem at0 {α : Type} {x : α} {xs : List α} : atI (x :: xs) 0 = some x := atI_nat (j := 0) rfl
def spBW (K : PySem.W.Frag) : Sp := fun vs H Q _ => ∃ (a c : Addr) (z : Str) (xs : List V) (ws : List Str), vs = [.ref a, .ref c] ∧ SqT K H a (.str z :: xs) ∧ SqT K H c (ws.map V.str) ∧ z ∈ ws ∧ Q (.bl true) H
theorem ok_q18 (D : Df_q18 K mg f fd) (T : Txt K mg t1 t2 cl) : FnOk P w K mg base CX0 1 f fd ["thing", "words"] (spBW K) := by
  refine D.fn.ok sc_q18 (fun vs H Q E h => ?_) (fun cdv A outer s H vs Q E hr h => ?_)
  · obtain ⟨a, c, z, xs, ws, rfl, _⟩ := h
    rfl
  · obtain ⟨a, c, z, xs, ws, rfl, ha, hc, hz, k⟩ := h
    refine ⟨_, (pss_one (ps_ret (pe_and (pe_callB call_isinstS (by rfl) T.no_isinstance PyProof.Rows.boot_isinstance (pa_cons (pv 0) (pa_cons (pe_bltn (v := .ty "tuple") rfl T.no_tuple PyProof.Rows.boot_tuple rfl) pa_nil))) (pe_and (pe_cmpR op_gt (pe_callB call_len_seq (by rfl) T.no_len PySem.boot_len (pa_cons (pv 0) pa_nil)) pe_int (nomark _)) (pe_and (pe_callB call_isinst (by rfl) T.no_isinstance PyProof.Rows.boot_isinstance (pa_cons (pe_ix ix_tup (pv 0) pe_int (fun _ _ => rfl)) (pa_cons (pe_bltn (v := .ty "str") rfl T.no_str PyProof.Rows.boot_str rfl) pa_nil))) (pe_one (pe_cmpR op_in_seq (pe_ix ix_tup (pv 0) pe_int (fun _ _ => rfl)) (pv 1) (by with_unfolding_all rfl)))))))), ?_⟩
    have e0 : L2.start ["thing", "words"] [.ref a, .ref c] = [some (.ref a), some (.ref c)] := rfl
    rw [e0]; clear e0
    bv_omega
    refine ⟨a, _, _, rfl, ha, by decide, _, rfl, ?_⟩
    rw [if_pos (by decide)]
    refine ⟨_, .inr ha, ?_⟩
    rw [if_pos (by rw [List.length_cons]; omega)]
    refine ⟨a, _, _, _, rfl, rfl, ha, at0, isi (.str _) ⟨_, rfl, ?_⟩⟩
    rw [if_pos (by decide)]
    refine ⟨a, _, _, _, rfl, rfl, ha, at0, c, _, rfl, .inr hc, rfl, by simp [flatV], ?_⟩
    rw [if_neg (by decide), inV_str hz]
    exact k
abbrev O_q18 (P : Program) (w : World) (K : PySem.W.Frag) (mg : Str → Option Value) (base : Heap) : Prop := ∃ f fd, Df_q18 K mg f fd ∧ FnOk P w K mg base CX0 1 f fd ["thing", "words"] ((spBW K))
abbrev s_q11 : Stmt := top 43
theorem sc_q11 : FnScope ["rows", "most", "product", "last", "row"] ["rows", "most"] (defScope s_q11) := ⟨rfl, rfl, rfl, by decide +kernel, rfl, by decide +kernel, by decide +kernel⟩
abbrev Df_q11 (K : PySem.W.Frag) (mg : Str → Option Value) (f : Addr) (fd : FuncData) : Prop := Def K mg "rows_product" s_q11 ["rows", "most"] f fd
theorem row_get {H : Hp} {rows : List Row} {xs : List V} {j : Nat} {x : V} (R : RepL K H (rows.map rwD) xs) (hx : xs[j]? = some x) : ∃ r, rows[j]? = some r ∧ Rep K H (rwD r) x := by
  induction rows generalizing xs j with
  | nil =>
    cases (show xs = [] from R)
    cases hx
  | cons r rs ih =>
    obtain ⟨y, ys, rfl, R1, R2⟩ := R
    cases j with
    | zero => cases hx; exact ⟨r, rfl, R1⟩
    | succ j => exact ih R2 hx
def spRowsP (K : PySem.W.Frag) : Sp := fun vs H Q _ => ∃ (rows : List Row) (a : Addr) (m : Int), vs = [.ref a, .int m] ∧ Rep K H (.tup (rows.map rwD)) (.ref a) ∧ (rows ≠ [] ∧ asc 1 rows ∧ prd rows ≤ m ∧ m ≤ 10 ^ 40) ∧ Q (.int (prd rows)) H
theorem ok_q11 (D : Df_q11 K mg f fd) (T : Txt K mg t1 t2 cl) (o1 : O_q57 P w K mg base) (o2 : O_q35 P w K mg base) : FnOk P w K mg base CX0 3 f fd ["rows", "most"] (spRowsP K) := by
  obtain ⟨_, _, D_q57, G_q57⟩ := o1
  obtain ⟨_, _, D_q35, G_q35⟩ := o2
  refine D.fn.ok sc_q11 (fun vs H Q E h => ?_) (fun cdv A outer s H vs Q E hr h => ?_)
  · obtain ⟨rows, a, m, rfl, _⟩ := h
    rfl
  · obtain ⟨rows, a, m, rfl, R, ⟨ne, up, pm, m40⟩, k⟩ := h
    obtain ⟨_, xs, e, ha, R⟩ := R
    cases e
    have xl : xs.length = rows.length := by rw [← R.length, List.length_map]
    have rl : 0 < rows.length := List.length_pos_iff.mpr ne
    refine ⟨_, (pss_cons (ps_if (PW.pt (pw_or (pt_not (pt_val (pe_callB call_isinstS (by rfl) T.no_isinstance PyProof.Rows.boot_isinstance (pa_cons (pv 0) (pa_cons (pe_bltn (v := .ty "tuple") rfl T.no_tuple PyProof.Rows.boot_tuple rfl) pa_nil))))) (pw_or1 (pt_cmpR op_eq (pe_callB call_len_seq (by rfl) T.no_len PySem.boot_len (pa_cons (pv 0) pa_nil)) pe_int (nomark _))))) (pss_one (ps_ret pe_non)) pss_nil) (pss_cons (ps_set (i := 2) sc_q11.nd rfl (by subst_eqs) pe_int) (pss_cons (ps_set (i := 3) sc_q11.nd rfl (by subst_eqs) pe_int) (pss_cons (ps_for PassesOwn.never rfl (pi_tup (pv 0)) (pg_name (i := 4) sc_q11.nd rfl (by subst_eqs)) (pss_cons (ps_if (PW.pt (pw_or (pt_not (pt_val (pe_call (G_q57.mono (by decide)) hr rfl D_q57.mgx D_q57.fn.kp D_q57.bd .nil pass0 (pa_cons (pv 4) pa_nil)))) (pw_or1 (pt_cmpR op_le (pe_ix ix_tup (pv 4) pe_int (fun _ _ => rfl)) (pv 3) (nomark _))))) (pss_one (ps_ret pe_non)) pss_nil) (pss_cons (ps_set (i := 3) sc_q11.nd rfl (by subst_eqs) (pe_ix ix_tup (pv 4) pe_int (fun _ _ => rfl))) (pss_cons (ps_set (i := 2) sc_q11.nd rfl (by subst_eqs) (pe_call (G_q35.mono (by decide)) hr rfl D_q35.mgx D_q35.fn.kp D_q35.bd .nil pass0 (pa_cons (pv 2) (pa_cons (pv 3) (pa_cons (pe_ix ix_tup (pv 4) pe_int (fun _ _ => rfl)) (pa_cons (pv 1) pa_nil)))))) (pss_one (ps_if (pt_cmpR op_gt (pv 2) (pv 1) (nomark _)) (pss_one (ps_ret pe_non)) pss_nil)))))) (pss_one (ps_ret (pv 2))))))), ?_⟩
    have e0 : L2.start ["rows", "most", "product", "last", "row"] [.ref a, .int m] = [some (.ref a), some (.int m), none, none, none] := rfl
    rw [e0]; clear e0
    bv_omega
    refine ⟨a, _, _, rfl, ha, by decide, _, rfl, ?_⟩
    rw [if_neg (by decide)]
    refine ⟨_, .inr ha, ?_⟩
    rw [if_neg (by omega)]
    refine ⟨_, rfl, a, rfl, ⟨xs, ha⟩, for_tup (xs := xs) (fun j σ H2 => H2 = H ∧ ∃ last v, σ = [some (.ref a), some (.int m), some (.int (prd (rows.take j))), some (.int last), v] ∧ asc last (rows.drop j)) ⟨rfl, 1, none, rfl, up⟩ (fun _ _ _ _ h => by rw [h.1]; exact ha) ?_ ?_⟩
    · rintro j x σ H2 hx ⟨rfl, last, v, rfl, hd⟩
      obtain ⟨r, hr2, Rr⟩ := row_get R hx
      bv_omega
      obtain ⟨jl, ej⟩ := List.getElem?_eq_some_iff.mp hr2
      have e1 : rows.drop j = r :: rows.drop (j + 1) := by rw [← ej]; exact List.drop_eq_getElem_cons jl
      have e2 : rows.take (j + 1) = rows.take j ++ [r] := by rw [List.take_succ, hr2]; rfl
      have e3 : rows.take j ++ r :: rows.drop (j + 1) = rows := by rw [← e1]; exact List.take_append_drop j rows
      rw [e1] at hd
      obtain ⟨d1, d2, d3, d4⟩ := hd
      obtain ⟨s1, s2, s3⟩ := prd_step (a := rows.take j) (b := rows.drop (j + 1)) (r := r) (i := r.2.1.toNat) (by rw [e3]; exact up) (Nat.le_refl _)
      rw [e3] at s2 s3
      have r2 := (asc_pos up r (List.mem_of_getElem? hr2)).1
      have Rr' := Rr
      obtain ⟨c, ys, rfl, hc, _, _, rfl, rfl, _, _, rfl, rfl, z, _, rfl, R3, rfl⟩ := Rr'
      refine ⟨r, _, rfl, Rr, d2, _, rfl, ?_⟩
      rw [if_neg (by decide)]
      refine ⟨c, _, _, _, rfl, rfl, hc, rfl, _, rfl, ?_⟩
      rw [if_neg (by omega)]
      refine ⟨c, _, _, _, rfl, rfl, hc, rfl, c, _, _, _, rfl, rfl, hc, rfl, _, _, _, _, rfl, ⟨s1, by omega, by omega, by omega, m40⟩, _, rfl, ?_⟩
      rw [if_neg (by omega)]
      exact ⟨rfl, by rw [e2, prd_snoc], _, rfl, d4⟩
    · rintro σ H2 ⟨rfl, last, v, rfl, hd⟩
      bv_omega
      rw [xl, List.take_length]
      exact k
abbrev O_q11 (P : Program) (w : World) (K : PySem.W.Frag) (mg : Str → Option Value) (base : Heap) : Prop := ∃ f fd, Df_q11 K mg f fd ∧ FnOk P w K mg base CX0 3 f fd ["rows", "most"] ((spRowsP K))
end
section
variable {P : Program} {w : World} {K : PySem.W.Frag} {mg : Str → Option Value} {base : Heap} {t1 t2 : Tok} {cl : Cl} {f : Addr} {fd : FuncData}
theorem mod_lt {g s : Int} (h : 0 < s) : (g % s).toNat < s.toNat := by
  have := Int.emod_lt_of_pos g h
  have := Int.emod_nonneg g (show s ≠ 0 by omega)
  omega
theorem keep {H : Hp} {p q : Addr} {o u : HO} (e : H q = some o) (hp : H p = none) : (upd H p u) q = some o := by rw [upd_ne (ne_of_none e hp)]; exact e
abbrev s_q0 : Stmt := top 29
theorem sc_q0 : FnScope ["one", "other", "great", "small"] ["one", "other"] (defScope s_q0) := ⟨rfl, rfl, rfl, by decide +kernel, rfl, by decide +kernel, by decide +kernel⟩
abbrev Df_q0 (K : PySem.W.Frag) (mg : Str → Option Value) (f : Addr) (fd : FuncData) : Prop := Def K mg "greatest_in_both" s_q0 ["one", "other"] f fd
def spGreat : Sp := fun vs H Q _ => ∃ (a b : Int), vs = [.int a, .int b] ∧ (a.natAbs < 10 ^ 100 ∧ b.natAbs < 10 ^ 100) ∧ Q (.int (Int.gcd a b)) H
theorem ok_q0 (D : Df_q0 K mg f fd) (T : Txt K mg t1 t2 cl) : FnOk P w K mg base CX0 1 f fd ["one", "other"] spGreat := by
  refine D.fn.ok sc_q0 (fun vs H Q E h => ?_) (fun cdv A outer s H vs Q E hr h => ?_)
  · obtain ⟨a, b, rfl, _⟩ := h
    rfl
  · obtain ⟨a, b, rfl, ⟨ha, hb⟩, k⟩ := h
    refine ⟨_, (pss_cons (ps_set (i := 2) sc_q0.nd rfl (by subst_eqs) (pe_callB call_abs (by rfl) T.no_abs PyProof.Rows.boot_abs (pa_cons (pv 0) pa_nil))) (pss_cons (ps_set (i := 3) sc_q0.nd rfl (by subst_eqs) (pe_callB call_abs (by rfl) T.no_abs PyProof.Rows.boot_abs (pa_cons (pv 1) pa_nil))) (pss_cons (ps_while PassesOwn.never (pt_cmpR op_gt (pv 3) pe_int (nomark _)) (pss_one (ps_par (i := 2) (j := 3) rfl sc_q0.nd rfl rfl (by decide) rfl rfl (pa_cons (pv 3) (pa_cons (pe_op op_mod (pv 2) (pv 3)) pa_nil)) (by first | rfl | with_unfolding_all rfl)))) (pss_one (ps_ret (pv 2)))))), ?_⟩
    have e0 : L2.start ["one", "other", "great", "small"] [.int a, .int b] = [some (.int a), some (.int b), none, none] := rfl
    rw [e0]; clear e0
    bv_omega
    obtain ⟨W, hW⟩ : ∃ W : Nat → St → Hp → Prop, ∀ m σ H', W m σ H' ↔ ∃ g s, m = s.toNat ∧ σ = [some (.int a), some (.int b), some (.int g), some (.int s)] ∧ GcdInv a b g s ∧ H' = H := ⟨_, fun _ _ _ => Iff.rfl⟩
    refine ⟨W, ⟨_, (hW _ _ _).mpr ⟨_, _, rfl, rfl, gcd_start a b, rfl⟩⟩, ?_⟩
    intro m σ H' hw
    obtain ⟨g, s', rfl, rfl, I, rfl⟩ := (hW _ _ _).mp hw
    clear hw
    bv_omega
    refine ite2 (fun hl => ?_) (fun hl => ?_)
    · refine ⟨fun σ' H2 => ∃ m', m' < s'.toNat ∧ W m' σ' H2, fun _ _ h => h, ?_⟩
      exact ⟨hl, _, mod_lt hl, (hW _ _ _).mpr ⟨_, _, rfl, rfl, gcd_turn I hl, rfl⟩⟩
    · have e := gcd_end I hl
      rw [← e] at k
      exact k
abbrev O_q0 (P : Program) (w : World) (K : PySem.W.Frag) (mg : Str → Option Value) (base : Heap) : Prop := ∃ f fd, Df_q0 K mg f fd ∧ FnOk P w K mg base CX0 1 f fd ["one", "other"] (spGreat)
abbrev s_q33 : Stmt := top 47
theorem sc_q33 : FnScope ["n", "paper", "base", "rows", "row"] ["n", "paper"] (defScope s_q33) := ⟨rfl, rfl, rfl, by decide +kernel, rfl, by decide +kernel, by decide +kernel⟩
abbrev Df_q33 (K : PySem.W.Frag) (mg : Str → Option Value) (f : Addr) (fd : FuncData) : Prop := Def K mg "shows_full" s_q33 ["n", "paper"] f fd
def spFull (K : PySem.W.Frag) : Sp := fun vs H Q _ => ∃ (n b : Int) (rows : List Row) (z : Str) (a : Addr), vs = [.int n, .ref a] ∧ Rep K H (.tup [.str z, .int b, .tup (rows.map rwD)]) (.ref a) ∧ FullOk n b rows ∧ (n ≤ 10 ^ 30 ∧ noLL (rows.map rwD) = true) ∧ ∀ H', Same H H' → Q (.bl true) H'
theorem ok_q33 (D : Df_q33 K mg f fd) (T : Txt K mg t1 t2 cl) (o1 : O_q11 P w K mg base) (o2 : O_q27 P w K mg base) (o3 : O_q34 P w K mg base) : FnOk P w K mg base CX0 4 f fd ["n", "paper"] (spFull K) := by
  obtain ⟨_, _, D_q11, G_q11⟩ := o1
  obtain ⟨_, _, D_q27, G_q27⟩ := o2
  obtain ⟨_, _, D_q34, G_q34⟩ := o3
  refine D.fn.ok sc_q33 (fun vs H Q E h => ?_) (fun cdv A outer s H vs Q E hr h => ?_)
  · obtain ⟨n, b, rows, z, a, rfl, _⟩ := h
    rfl
  · obtain ⟨n, b, rows, z, a, rfl, Rp, O, ⟨n30, nl⟩, k⟩ := h
    obtain ⟨_, xs, e, ha, x1, _, rfl, e1, x2, _, rfl, e2, x3, _, rfl, R3, rfl⟩ := Rp
    cases e
    cases e1
    cases e2
    have R4 := R3
    obtain ⟨c, ys, rfl, hc, R5⟩ := R4
    have p1 := prd_ge1 (by decide) O.up
    have b1 := O.b1
    have bn := O.bn
    refine ⟨_, (pss_cons (ps_if (pt_cmpR op_ne (pe_callB call_len_seq (by rfl) T.no_len PySem.boot_len (pa_cons (pv 1) pa_nil)) pe_int (nomark _)) (pss_one (ps_ret pe_bl)) pss_nil) (pss_cons (ps_asg (pe_slice sl_tup (pv 1) (po_some pe_int) po_none) (pg_tup rfl (pgs_cons (pg_name (i := 2) sc_q33.nd rfl (by subst_eqs)) (pgs_cons (pg_name (i := 3) sc_q33.nd rfl (by subst_eqs)) pgs_nil)))) (pss_cons (ps_if (PW.pt (pw_or (pt_cmpR op_ne (pe_call (G_q11.mono (by decide)) hr rfl D_q11.mgx D_q11.fn.kp D_q11.bd .nil pass0 (pa_cons (pv 3) (pa_cons (pe_op op_sub (pv 0) pe_int) pa_nil))) (pe_op op_sub (pv 0) pe_int) (nomark _)) (pw_or1 (pt_not (pt_val (pe_call (G_q27.mono (by decide)) hr rfl D_q27.mgx D_q27.fn.kp D_q27.bd .nil pass0 (pa_cons (pv 2) (pa_cons (pv 0) pa_nil)))))))) (pss_one (ps_ret pe_bl)) pss_nil) (pss_cons (ps_for PassesOwn.never rfl (pi_tup (pv 3)) (pg_name (i := 4) sc_q33.nd rfl (by subst_eqs)) (pss_one (ps_if (pt_cmpR op_eq (pe_call (G_q34.mono (by decide)) hr rfl D_q34.mgx D_q34.fn.kp D_q34.bd .nil pass0 (pa_cons (pv 2) (pa_cons (pe_op op_fdivB (pe_op op_sub (pv 0) pe_int) (pe_ix ix_tup (pv 4) pe_int (fun _ _ => rfl))) (pa_cons (pv 0) pa_nil)))) pe_int (nomark _)) (pss_one (ps_ret pe_bl)) pss_nil))) (pss_one (ps_ret pe_bl)))))), ?_⟩
    have e0 : L2.start ["n", "paper", "base", "rows", "row"] [.int n, .ref a] = [some (.int n), some (.ref a), none, none, none] := rfl
    rw [e0]; clear e0
    rename_i tSl tPart tNoPart
    refine ⟨_, .inr ha, ?_⟩
    rw [if_neg (fun z => z rfl)]
    refine ⟨a, _, rfl, ha, by show ¬ (HT.sIx 3 0 (some 1) = 0 ∧ HT.sIx 3 3 none = 3); decide, fun p hp => ?_⟩
    rw [show cutV [V.str z, V.int b, V.ref c] (some 1) none = [V.int b, V.ref c] from rfl]
    have S : Same H (upd H p (.tup [V.int b, V.ref c])) := fun q o e => keep e hp
    have hp1 : (upd H p (.tup [V.int b, V.ref c])) p = some (.tup [V.int b, V.ref c]) := upd_same
    generalize upd H p (.tup [V.int b, V.ref c]) = H1 at S hp1 ⊢
    refine ⟨p, rfl, _, SqT.of hp1, rfl, _, _, rfl, _, _, rfl, rfl, ?_⟩
    have R6 := Rep.mono S.tk (.tup (rows.map rwD)) nl R3
    have R7 := RepL.mono S.tk _ nl R5
    have hc1 := S.tk.sq hc
    have all := O.all
    refine ⟨rows, c, n - 1, rfl, R6, ⟨O.ne, O.up, by omega, by omega⟩, rfl, ?_⟩
    rw [if_neg (by rw [all]; exact fun z => z rfl)]
    refine ⟨b, n, rfl, ⟨b1, bn, by omega⟩, O.home, _, rfl, ?_⟩
    rw [if_neg (by decide)]
    refine ⟨_, rfl, c, rfl, ⟨ys, hc1⟩, for_tup (xs := ys) (fun j σ H2 => H2 = H1 ∧ ∃ v, σ = [some (.int n), some (.ref a), some (.int b), some (.ref c), v]) ⟨rfl, none, rfl⟩ (fun _ _ _ _ h => by rw [h.1]; exact hc1) ?_ ?_⟩
    · rintro j x σ H2 hx ⟨rfl, v, rfl⟩
      obtain ⟨r, hr2, Rr⟩ := row_get R7 hx
      have rm := List.mem_of_getElem? hr2
      have r2 := (asc_pos O.up r rm).1
      have of := O.off r rm
      obtain ⟨c2, zs, rfl, hc2, _, _, rfl, rfl, _, _, rfl, rfl, z2, _, rfl, R8, rfl⟩ := Rr
      bv_omega
      have rle := prd_mem O.up rm
      refine ⟨c2, _, _, _, rfl, rfl, hc2, rfl, _, rfl, ⟨by omega, by omega⟩, b, (n - 1) / r.1, n, rfl, ⟨by omega, Int.ediv_nonneg (by omega) (by omega), by omega, by omega⟩, rfl, ?_⟩
      rw [if_neg (fun z => of (V.int.inj z))]
      exact ⟨rfl, _, rfl⟩
    · rintro σ H2 ⟨rfl, v, rfl⟩
      bv_omega
      exact k _ S
abbrev O_q33 (P : Program) (w : World) (K : PySem.W.Frag) (mg : Str → Option Value) (base : Heap) : Prop := ∃ f fd, Df_q33 K mg f fd ∧ FnOk P w K mg base CX0 4 f fd ["n", "paper"] ((spFull K))
abbrev s_q16 : Stmt := top 48
theorem sc_q16 : FnScope ["n", "paper", "base", "rows", "row"] ["n", "paper"] (defScope s_q16) := ⟨rfl, rfl, rfl, by decide +kernel, rfl, by decide +kernel, by decide +kernel⟩
abbrev Df_q16 (K : PySem.W.Frag) (mg : Str → Option Value) (f : Addr) (fd : FuncData) : Prop := Def K mg "shows_share" s_q16 ["n", "paper"] f fd
def spShare (K : PySem.W.Frag) : Sp := fun vs H Q _ => ∃ (n b : Int) (rows : List Row) (z : Str) (a : Addr), vs = [.int n, .ref a] ∧ Rep K H (.tup [.str z, .int b, .tup (rows.map rwD)]) (.ref a) ∧ ShareOk n b rows ∧ (n ≤ 10 ^ 30 ∧ noLL (rows.map rwD) = true) ∧ ∀ H', Same H H' → Q (.bl true) H'
theorem ok_q16 (D : Df_q16 K mg f fd) (T : Txt K mg t1 t2 cl) (o1 : O_q11 P w K mg base) (o2 : O_q27 P w K mg base) (o3 : O_q34 P w K mg base) (o4 : O_q5 P w K mg base) (o5 : O_q0 P w K mg base) : FnOk P w K mg base CX0 4 f fd ["n", "paper"] (spShare K) := by
  obtain ⟨_, _, D_q11, G_q11⟩ := o1
  obtain ⟨_, _, D_q27, G_q27⟩ := o2
  obtain ⟨_, _, D_q34, G_q34⟩ := o3
  obtain ⟨_, _, D_q5, G_q5⟩ := o4
  obtain ⟨_, _, D_q0, G_q0⟩ := o5
  refine D.fn.ok sc_q16 (fun vs H Q E h => ?_) (fun cdv A outer s H vs Q E hr h => ?_)
  · obtain ⟨n, b, rows, z, a, rfl, _⟩ := h
    rfl
  · obtain ⟨n, b, rows, z, a, rfl, Rp, O, ⟨n30, nl⟩, k⟩ := h
    obtain ⟨_, xs, e, ha, x1, _, rfl, e1, x2, _, rfl, e2, x3, _, rfl, R3, rfl⟩ := Rp
    cases e
    cases e1
    cases e2
    have R4 := R3
    obtain ⟨c, ys, rfl, hc, R5⟩ := R4
    have p1 := prd_ge1 (by decide) O.up
    have b1 := O.b1
    have bn := O.bn
    refine ⟨_, (pss_cons (ps_if (PW.pt (pw_or (pt_cmpR op_ne (pe_callB call_len_seq (by rfl) T.no_len PySem.boot_len (pa_cons (pv 1) pa_nil)) pe_int (nomark _)) (pw_or1 (pt_cmpR op_eq (pe_op op_mod (pv 0) pe_int) pe_int (nomark _))))) (pss_one (ps_ret pe_bl)) pss_nil) (pss_cons (ps_asg (pe_slice sl_tup (pv 1) (po_some pe_int) po_none) (pg_tup rfl (pgs_cons (pg_name (i := 2) sc_q16.nd rfl (by subst_eqs)) (pgs_cons (pg_name (i := 3) sc_q16.nd rfl (by subst_eqs)) pgs_nil)))) (pss_cons (ps_if (PW.pt (pw_or (pt_not (pt_val (pe_call (G_q5.mono (by decide)) hr rfl D_q5.mgx D_q5.fn.kp D_q5.bd .nil pass0 (pa_cons (pe_call (G_q11.mono (by decide)) hr rfl D_q11.mgx D_q11.fn.kp D_q11.bd .nil pass0 (pa_cons (pv 3) (pa_cons (pe_op op_sub (pv 0) pe_int) pa_nil))) (pa_cons (pv 0) pa_nil))))) (pw_or1 (pt_not (pt_val (pe_call (G_q27.mono (by decide)) hr rfl D_q27.mgx D_q27.fn.kp D_q27.bd .nil pass0 (pa_cons (pv 2) (pa_cons (pv 0) pa_nil)))))))) (pss_one (ps_ret pe_bl)) pss_nil) (pss_cons (ps_for PassesOwn.never rfl (pi_tup (pv 3)) (pg_name (i := 4) sc_q16.nd rfl (by subst_eqs)) (pss_one (ps_if (pt_cmpR op_ne (pe_call (G_q0.mono (by decide)) hr rfl D_q0.mgx D_q0.fn.kp D_q0.bd .nil pass0 (pa_cons (pe_op op_sub (pe_call (G_q34.mono (by decide)) hr rfl D_q34.mgx D_q34.fn.kp D_q34.bd .nil pass0 (pa_cons (pv 2) (pa_cons (pe_op op_fdivB (pe_op op_sub (pv 0) pe_int) (pe_ix ix_tup (pv 4) pe_int (fun _ _ => rfl))) (pa_cons (pv 0) pa_nil)))) pe_int) (pa_cons (pv 0) pa_nil))) pe_int (nomark _)) (pss_one (ps_ret pe_bl)) pss_nil))) (pss_one (ps_ret pe_bl)))))), ?_⟩
    have e0 : L2.start ["n", "paper", "base", "rows", "row"] [.int n, .ref a] = [some (.int n), some (.ref a), none, none, none] := rfl
    rw [e0]; clear e0
    rename_i tSl tPart tNoPart
    refine ⟨_, .inr ha, ?_⟩
    rw [if_neg (fun z => z rfl)]
    refine ⟨by decide, ?_⟩
    have od := O.odd
    rw [if_neg (by omega)]
    have all := Int.le_of_dvd (show 0 < n - 1 by omega) (Int.dvd_of_emod_eq_zero O.dv)
    refine ⟨a, _, rfl, ha, by show ¬ (HT.sIx 3 0 (some 1) = 0 ∧ HT.sIx 3 3 none = 3); decide, fun p hp => ?_⟩
    rw [show cutV [V.str z, V.int b, V.ref c] (some 1) none = [V.int b, V.ref c] from rfl]
    have S : Same H (upd H p (.tup [V.int b, V.ref c])) := fun q o e => keep e hp
    have hp1 : (upd H p (.tup [V.int b, V.ref c])) p = some (.tup [V.int b, V.ref c]) := upd_same
    generalize upd H p (.tup [V.int b, V.ref c]) = H1 at S hp1 ⊢
    refine ⟨p, rfl, _, SqT.of hp1, rfl, _, _, rfl, _, _, rfl, rfl, ?_⟩
    have R6 := Rep.mono S.tk (.tup (rows.map rwD)) nl R3
    have R7 := RepL.mono S.tk _ nl R5
    have hc1 := S.tk.sq hc
    refine ⟨rows, c, n - 1, rfl, R6, ⟨O.ne, O.up, by omega, by omega⟩, _, n, rfl, ⟨p1, by omega, by omega⟩, ⟨O.dv, O.big⟩, _, rfl, ?_⟩
    rw [if_neg (by decide)]
    refine ⟨b, n, rfl, ⟨b1, bn, by omega⟩, O.home, _, rfl, ?_⟩
    rw [if_neg (by decide)]
    refine ⟨_, rfl, c, rfl, ⟨ys, hc1⟩, for_tup (xs := ys) (fun j σ H2 => H2 = H1 ∧ ∃ v, σ = [some (.int n), some (.ref a), some (.int b), some (.ref c), v]) ⟨rfl, none, rfl⟩ (fun _ _ _ _ h => by rw [h.1]; exact hc1) ?_ ?_⟩
    · rintro j x σ H2 hx ⟨rfl, v, rfl⟩
      obtain ⟨r, hr2, Rr⟩ := row_get R7 hx
      have rm := List.mem_of_getElem? hr2
      have r2 := (asc_pos O.up r rm).1
      have of := O.off r rm
      obtain ⟨c2, zs, rfl, hc2, _, _, rfl, rfl, _, _, rfl, rfl, z2, _, rfl, R8, rfl⟩ := Rr
      bv_omega
      have rle := prd_mem O.up rm
      refine ⟨c2, _, _, _, rfl, rfl, hc2, rfl, _, rfl, ⟨by omega, by omega⟩, b, (n - 1) / r.1, n, rfl, ⟨by omega, Int.ediv_nonneg (by omega) (by omega), by omega, by omega⟩, ?_⟩
      bv_omega
      have q0 := Int.emod_nonneg (b ^ ((n - 1) / r.1).toNat) (show n ≠ 0 by omega)
      have q1 := Int.emod_lt_of_pos (b ^ ((n - 1) / r.1).toNat) (show 0 < n by omega)
      refine ⟨_, n, rfl, ⟨by omega, by omega⟩, rfl, ?_⟩
      rw [if_neg (by rw [of]; exact fun z => z rfl)]
      exact ⟨rfl, _, rfl⟩
    · rintro σ H2 ⟨rfl, v, rfl⟩
      bv_omega
      exact k _ S
abbrev O_q16 (P : Program) (w : World) (K : PySem.W.Frag) (mg : Str → Option Value) (base : Heap) : Prop := ∃ f fd, Df_q16 K mg f fd ∧ FnOk P w K mg base CX0 4 f fd ["n", "paper"] ((spShare K))
abbrev s_q58 : Stmt := top 55
theorem sc_q58 : FnScope ["n", "paper", "look"] ["n", "paper"] (defScope s_q58) := ⟨rfl, rfl, rfl, by decide +kernel, rfl, by decide +kernel, by decide +kernel⟩
abbrev Df_q58 (K : PySem.W.Frag) (mg : Str → Option Value) (f : Addr) (fd : FuncData) : Prop := Def K mg "shows" s_q58 ["n", "paper"] f fd
def spShows (K : PySem.W.Frag) : Sp := fun vs H Q _ => ∃ (n : Int) (v : V), vs = [.int n, v] ∧ (∀ H', Same H H' → Q (.bl true) H') ∧ ((n = 2 ∧ Rep K H (.tup [.str (Str.ofString "two")]) v) ∨ (∃ b rows, Rep K H (.tup [.str (Str.ofString "full"), .int b, .tup (rows.map rwD)]) v ∧ FullOk n b rows ∧ (n ≤ 10 ^ 30 ∧ noLL (rows.map rwD) = true)) ∨ ∃ b rows, Rep K H (.tup [.str (Str.ofString "share"), .int b, .tup (rows.map rwD)]) v ∧ ShareOk n b rows ∧ (n ≤ 10 ^ 30 ∧ noLL (rows.map rwD) = true))
theorem ok_q58 (D : Df_q58 K mg f fd) (T : Txt K mg t1 t2 cl) (lk : LkOk P w K cl) (o1 : O_q42 P w K mg base) (o2 : O_q33 P w K mg base) (o3 : O_q16 P w K mg base) : FnOk P w K mg base CX0 5 f fd ["n", "paper"] (spShows K) := by
  obtain ⟨f1, _, D1, G1⟩ := o1
  obtain ⟨f2, _, D2, G2⟩ := o2
  obtain ⟨f3, _, D3, G3⟩ := o3
  have m1 := D1.mgx
  rw [T.mg_shows_two] at m1
  cases m1
  have m2 := D2.mgx
  rw [T.mg_shows_full] at m2
  cases m2
  have m3 := D3.mgx
  rw [T.mg_shows_share] at m3
  cases m3
  refine D.fn.ok sc_q58 (fun vs H Q E h => ?_) (fun cdv A outer s H vs Q E hr h => ?_)
  · obtain ⟨n, v, rfl, _⟩ := h
    rfl
  · obtain ⟨n, v, rfl, k, h⟩ := h
    refine ⟨_, (pss_cons (ps_set (i := 2) sc_q58.nd rfl (by subst_eqs) (pe_ix (show IxR _ (rIxD P w K) from ix_dictK) (pe_glob (v := .ref _) rfl T.mg_LOOKS rfl) (pe_ix ix_tup (pv 1) pe_int (fun _ _ => rfl)) (fun _ _ => rfl))) (pss_one (ps_ret (pe_callN (k := 4) (i := 2) pass0 rfl (Or.inl rfl) hr (pa_cons (pv 0) (pa_cons (pv 1) pa_nil)))))), ?_⟩
    have e0 : L2.start ["n", "paper", "look"] [.int n, v] = [some (.int n), some (v), none] := rfl
    rw [e0]; clear e0
    bv_omega
    rcases h with ⟨rfl, R⟩ | ⟨b, rows, R, O, hh⟩ | ⟨b, rows, R, O, hh⟩
    · obtain ⟨a, xs, rfl, ha, x1, _, rfl, e1, rfl⟩ := R
      cases e1
      refine ⟨a, _, _, _, rfl, rfl, ha, at0, cl.lk, .inr _, _, _, rfl, rfl, lk, rfl, ?_⟩
      refine ⟨cl.s2, _, _, _, rfl, D1.fn.kp, G1.mono (by decide), D1.bd, ?_⟩
      exact ⟨_, rfl, _, rfl, a, _, rfl, ha, rfl, k _ (Same.refl H)⟩
    · have R' := R
      obtain ⟨a, xs, rfl, ha, x1, _, rfl, e1, _⟩ := R'
      cases e1
      refine ⟨a, _, _, _, rfl, rfl, ha, at0, cl.lk, .inr _, _, _, rfl, rfl, lk, rfl, ?_⟩
      refine ⟨cl.sf, _, _, _, rfl, D2.fn.kp, G2.mono (by decide), D2.bd, ?_⟩
      exact ⟨_, rfl, _, rfl, n, b, rows, _, a, rfl, R, O, hh, k⟩
    · have R' := R
      obtain ⟨a, xs, rfl, ha, x1, _, rfl, e1, _⟩ := R'
      cases e1
      refine ⟨a, _, _, _, rfl, rfl, ha, at0, cl.lk, .inr _, _, _, rfl, rfl, lk, rfl, ?_⟩
      refine ⟨cl.ss, _, _, _, rfl, D3.fn.kp, G3.mono (by decide), D3.bd, ?_⟩
      exact ⟨_, rfl, _, rfl, n, b, rows, _, a, rfl, R, O, hh, k⟩
abbrev O_q58 (P : Program) (w : World) (K : PySem.W.Frag) (mg : Str → Option Value) (base : Heap) : Prop := ∃ f fd, Df_q58 K mg f fd ∧ FnOk P w K mg base CX0 5 f fd ["n", "paper"] ((spShows K))
end
section
variable {P : Program} {w : World} {K : PySem.W.Frag} {mg : Str → Option Value} {base : Heap} {t1 t2 : Tok} {cl : Cl} {f : Addr} {fd : FuncData}
abbrev s_q55 : Stmt := top 42
theorem sc_q55 : FnScope ["paper"] ["paper"] (defScope s_q55) := ⟨rfl, rfl, rfl, by decide +kernel, rfl, by decide +kernel, by decide +kernel⟩
abbrev Df_q55 (K : PySem.W.Frag) (mg : Str → Option Value) (f : Addr) (fd : FuncData) : Prop := Def K mg "rows_of" s_q55 ["paper"] f fd
def spRowsOf (K : PySem.W.Frag) : Sp := fun vs H Q _ => ∃ (a : Addr) (z : Str) (xs : List V), vs = [.ref a] ∧ SqT K H a (.str z :: xs) ∧ (z = Str.ofString "two" → ∀ r H', Same H H' → SqT K H' r [] → Q (.ref r) H') ∧ (z ≠ Str.ofString "two" → ∃ b v, xs = [b, v] ∧ Q v H)
theorem ok_q55 (D : Df_q55 K mg f fd) (T : Txt K mg t1 t2 cl) : FnOk P w K mg base CX0 1 f fd ["paper"] (spRowsOf K) := by
  refine D.fn.ok sc_q55 (fun vs H Q E h => ?_) (fun cdv A outer s H vs Q E hr h => ?_)
  · obtain ⟨a, z, xs, rfl, _⟩ := h
    rfl
  · obtain ⟨a, z, xs, rfl, ha, k1, k2⟩ := h
    refine ⟨_, (pss_one (ps_ret (pe_ifExp (pt_cmpR op_eq (pe_ix ix_tup (pv 0) pe_int (fun _ _ => rfl)) pe_str (nomark _)) (pe_tup pa_nil) (pe_ix ix_tup (pv 0) (pe_un un_neg pe_int) (fun _ _ => rfl))))), ?_⟩
    have e0 : L2.start ["paper"] [.ref a] = [some (.ref a)] := rfl
    rw [e0]; clear e0
    bv_omega
    refine ⟨a, _, _, _, rfl, rfl, ha, at0, rfl, ?_⟩
    by_cases e : z = Str.ofString "two"
    · rw [if_pos (by rw [e])]
      exact ⟨by show 0 ≤ sizeLine; decide, fun p hp => k1 e p _ (fun q o h => keep h hp) (SqT.of upd_same)⟩
    · rw [if_neg (fun h => e (V.str.inj h))]
      obtain ⟨b, v, rfl, q⟩ := k2 e
      exact ⟨a, _, _, _, rfl, rfl, ha, atI_last [V.str z, b] v, q⟩
abbrev O_q55 (P : Program) (w : World) (K : PySem.W.Frag) (mg : Str → Option Value) (base : Heap) : Prop := ∃ f fd, Df_q55 K mg f fd ∧ FnOk P w K mg base CX0 1 f fd ["paper"] ((spRowsOf K))
abbrev s_q7 : Stmt := top 40
theorem sc_q7 : FnScope ["n", "thing", "words", "left", "number", "paper", "wanted", "within", "row"] ["n", "thing", "words"] (defScope s_q7) := ⟨rfl, rfl, rfl, by decide +kernel, rfl, by decide +kernel, by decide +kernel⟩
abbrev Df_q7 (K : PySem.W.Frag) (mg : Str → Option Value) (f : Addr) (fd : FuncData) : Prop := Def K mg "is_paper_with" s_q7 ["n", "thing", "words"] f fd
def wordsF : Bool → List Str
  | true => [Str.ofString "two", Str.ofString "full"]
  | false => [Str.ofString "two", Str.ofString "full", Str.ofString "share", Str.ofString "other"]
structure Ent where
  n : Int
  d : Dt
  fl : Bool
def HeadIn (d : Dt) (ws : List Str) : Prop := ∀ z r, d = .tup (.str z :: r) → z ∈ ws
def WrdsOk (K : PySem.W.Frag) (H : Hp) (c : Addr) (d : Dt) : Prop := ∃ ws : List Str, SqT K H c (ws.map V.str) ∧ HeadIn d ws
theorem WrdsOk.mono {K : PySem.W.Frag} {H H' : Hp} {c : Addr} {d : Dt} (t : TK H H') (h : WrdsOk K H c d) : WrdsOk K H' c d := by
  obtain ⟨ws, h1, h2⟩ := h
  exact ⟨ws, t.sq h1, h2⟩
def EntOk (K : PySem.W.Frag) (H : Hp) (e : Ent) (v : V) : Prop := ∃ (p c : Addr) (u : V) (k : Nat), v = .ref p ∧ SqT K H p [.int e.n, u, .ref c] ∧ Rep K H e.d u ∧ noL e.d = true ∧ RP k e.fl e.n e.d ∧ e.n ≤ 10 ^ 30 ∧ WrdsOk K H c e.d
def spIPW (K : PySem.W.Frag) : Sp := fun vs H Q _ => ∃ (e : Ent) (u : V) (c : Addr) (k : Nat), vs = [.int e.n, u, .ref c] ∧ (Rep K H e.d u ∧ noL e.d = true ∧ RP k e.fl e.n e.d ∧ e.n ≤ 10 ^ 30 ∧ WrdsOk K H c e.d) ∧ ∀ H', Same H H' → Q (.bl true) H'
theorem EntOk.mono {H H' : Hp} (t : TK H H') {e : Ent} {v : V} (h : EntOk K H e v) : EntOk K H' e v := by
  obtain ⟨p, c, u, k, rfl, hp, R, nl, rp, n30, hc⟩ := h
  exact ⟨p, c, u, k, rfl, t.sq hp, Rep.mono t _ nl R, nl, rp, n30, hc.mono t⟩
def Ents (K : PySem.W.Frag) (H : Hp) : List Ent → List V → Prop
  | [], xs => xs = []
  | e :: es, xs => ∃ x r, xs = x :: r ∧ EntOk K H e x ∧ Ents K H es r
theorem Ents.mono {H H' : Hp} (t : TK H H') : ∀ {es : List Ent} {xs : List V}, Ents K H es xs → Ents K H' es xs
  | [], _, h => h
  | e :: es, _, h => by
    obtain ⟨x, r, rfl, h1, h2⟩ := h
    exact ⟨x, r, rfl, h1.mono t, h2.mono t⟩
theorem Ents.app {H : Hp} : ∀ {es fs : List Ent} {xs ys : List V}, Ents K H es xs → Ents K H fs ys → Ents K H (es ++ fs) (xs ++ ys)
  | [], _, _, _, h, g => by cases (show _ = [] from h); exact g
  | e :: es, _, _, _, h, g => by
    obtain ⟨x, r, rfl, h1, h2⟩ := h
    exact ⟨x, _, rfl, h1, h2.app g⟩
theorem Ents.last {H : Hp} : ∀ {es : List Ent} {ys : List V} {y : V}, Ents K H es (ys ++ [y]) → ∃ fs e, es = fs ++ [e] ∧ Ents K H fs ys ∧ EntOk K H e y
  | [], ys, y, h => by simp [Ents] at h
  | e :: es, [], y, h => by
    obtain ⟨x, r, hx, h1, h2⟩ := h
    cases hx
    cases es with
    | nil => exact ⟨[], e, rfl, rfl, h1⟩
    | cons a as => obtain ⟨_, _, z, _⟩ := h2; cases z
  | e :: es, z :: zs, y, h => by
    obtain ⟨x, r, hx, h1, h2⟩ := h
    cases hx
    obtain ⟨fs, g, rfl, q1, q2⟩ := Ents.last h2
    exact ⟨e :: fs, g, rfl, ⟨_, _, rfl, h1, q1⟩, q2⟩
def cnE : List Ent → Nat
  | [] => 0
  | e :: es => cnD e.d + cnE es
theorem cnE_app : ∀ es fs : List Ent, cnE (es ++ fs) = cnE es + cnE fs
  | [], fs => by simp [cnE]
  | e :: es, fs => by
    show cnD e.d + cnE (es ++ fs) = cnD e.d + cnE es + cnE fs
    rw [cnE_app es fs]; omega
theorem cnE_rows (fl : Bool) : ∀ rows : List Row, cnE (rows.map fun r => ⟨r.1, r.2.2, fl⟩) ≤ cnR rows
  | [] => Nat.le_refl _
  | r :: rs => by
    have := cnE_rows fl rs
    show cnD r.2.2 + cnE (rs.map fun r => ⟨r.1, r.2.2, fl⟩) ≤ 1 + cnD r.2.2 + cnR rs
    omega
theorem rp_head {k : Nat} {fl : Bool} {n : Int} {d : Dt} (h : RP k fl n d) : 1 ≤ cnD d := by
  cases h <;> simp [cnD] <;> omega
theorem Ents.len_cn {H : Hp} : ∀ {es : List Ent} {xs : List V}, Ents K H es xs → xs.length ≤ cnE es
  | [], _, h => by cases (show _ = [] from h); exact Nat.le_refl _
  | e :: es, _, h => by
    obtain ⟨x, r, rfl, h1, h2⟩ := h
    have := h2.len_cn
    obtain ⟨_, _, _, _, _, _, _, _, rp, _⟩ := h1
    have := rp_head rp
    show r.length + 1 ≤ cnD e.d + cnE es
    omega
def ShowsD (K : PySem.W.Frag) (H : Hp) (n : Int) (v : V) : Prop := (n = 2 ∧ Rep K H (.tup [.str (Str.ofString "two")]) v) ∨ (∃ b rows, Rep K H (.tup [.str (Str.ofString "full"), .int b, .tup (rows.map rwD)]) v ∧ FullOk n b rows ∧ (n ≤ 10 ^ 30 ∧ noLL (rows.map rwD) = true)) ∨ ∃ b rows, Rep K H (.tup [.str (Str.ofString "share"), .int b, .tup (rows.map rwD)]) v ∧ ShareOk n b rows ∧ (n ≤ 10 ^ 30 ∧ noLL (rows.map rwD) = true)
structure RowsOk (fl : Bool) (rows : List Row) : Prop where
  nl : noLL (rows.map rwD) = true
  rp : ∃ k, ∀ r ∈ rows, RP k fl r.1 r.2.2
  le : ∀ r ∈ rows, r.1 ≤ 10 ^ 30
structure View (K : PySem.W.Frag) (H : Hp) (n : Int) (d : Dt) (f : Bool) (a : Addr) (z : Str) (xs : List V) : Prop where
  sq : SqT K H a (.str z :: xs)
  mem : ∃ r, d = .tup (.str z :: r)
  sh : ShowsD K H n (.ref a)
  c1 : 1 ≤ cnD d
  rw2 : z ≠ Str.ofString "two" → ∃ b t ys rows, xs = [b, .ref t] ∧ SqT K H t ys ∧ RepL K H (rows.map rwD) ys ∧ RowsOk (decide (z = Str.ofString "full")) rows ∧ 1 + cnR rows ≤ cnD d
theorem noLL_mem : ∀ {rows : List Row}, noLL (rows.map rwD) = true → ∀ r ∈ rows, noL r.2.2 = true
  | [], _, r, h => by cases h
  | a :: as, h, r, hr => by
    have h : ((true && (true && (noL a.2.2 && true))) && noLL (as.map rwD)) = true := h
    simp only [Bool.true_and, Bool.and_true, Bool.and_eq_true] at h
    rcases List.mem_cons.mp hr with e | hr
    · subst e; exact h.1
    · exact noLL_mem h.2 r hr
theorem rp_words {k : Nat} {fl : Bool} {n : Int} {d : Dt} (h : RP k fl n d) : HeadIn d (wordsF fl) := by
  intro z r e
  cases h <;> cases e <;> (try cases fl) <;> simp [wordsF]
theorem rp_view {K : PySem.W.Frag} {H : Hp} {k : Nat} {f : Bool} {n : Int} {d : Dt} {u : V} (h : RP k f n d) (n30 : n ≤ 10 ^ 30) (R : Rep K H d u) : ∃ a z xs, u = .ref a ∧ View K H n d f a z xs := by
  have R0 := R
  have nl := h.nl
  have c1 := rp_head h
  cases h with
  | two =>
    obtain ⟨a, xs, rfl, ha, x1, _, rfl, e1, rfl⟩ := R
    cases e1
    exact ⟨a, _, _, rfl, ha, ⟨_, rfl⟩, .inl ⟨rfl, R0⟩, c1, fun z => absurd rfl z⟩
  | @full k f n b rows n3 pr O c =>
    obtain ⟨a, xs, rfl, ha, x1, _, rfl, e1, x2, _, rfl, e2, x3, _, rfl, R3, rfl⟩ := R
    cases e1
    cases e2
    obtain ⟨t, ys, rfl, ht, R5⟩ := R3
    have nl2 : noLL (rows.map rwD) = true := by
      have h : (true && (true && (noLL (rows.map rwD) && true))) = true := nl
      simpa using h
    refine ⟨a, _, _, rfl, ha, ⟨_, rfl⟩, .inr (.inl ⟨b, rows, R0, O, n30, nl2⟩), c1, fun _ => ⟨_, t, ys, rows, rfl, ht, R5, ⟨nl2, ⟨k, ?_⟩, fun r hr => ?_⟩, ?_⟩⟩
    · rw [decide_eq_true rfl]; exact c
    · have := prd_mem O.up hr
      have := O.all
      omega
    · rw [cn_paper]; omega
  | @share k n b rows n3 pr O c =>
    obtain ⟨a, xs, rfl, ha, x1, _, rfl, e1, x2, _, rfl, e2, x3, _, rfl, R3, rfl⟩ := R
    cases e1
    cases e2
    obtain ⟨t, ys, rfl, ht, R5⟩ := R3
    have nl2 : noLL (rows.map rwD) = true := by
      have h : (true && (true && (noLL (rows.map rwD) && true))) = true := nl
      simpa using h
    refine ⟨a, _, _, rfl, ha, ⟨_, rfl⟩, .inr (.inr ⟨b, rows, R0, O, n30, nl2⟩), c1, fun _ => ⟨_, t, ys, rows, rfl, ht, R5, ⟨nl2, ⟨k, ?_⟩, fun r hr => ?_⟩, ?_⟩⟩
    · rw [decide_eq_false (by decide)]; exact c
    · have := prd_mem O.up hr
      have := Int.le_of_dvd (show 0 < n - 1 by omega) (Int.dvd_of_emod_eq_zero O.dv)
      omega
    · rw [cn_paper]; omega
theorem rows_gen {K : PySem.W.Frag} {H : Hp} {n : Int} {d : Dt} {f : Bool} {a : Addr} {z : Str} {xs : List V} {Q : VK} (v : View K H n d f a z xs)
    (h : ∀ t ys rows H', Same H H' → SqT K H' t ys → RepL K H' (rows.map rwD) ys → RowsOk (decide (z = Str.ofString "full")) rows → 1 + cnR rows ≤ cnD d → Q (.ref t) H') :
    (z = Str.ofString "two" → ∀ r H', Same H H' → SqT K H' r [] → Q (.ref r) H') ∧ (z ≠ Str.ofString "two" → ∃ b v, xs = [b, v] ∧ Q v H) := by
  refine ⟨fun e r H' S hr => h r [] [] H' S hr rfl ⟨rfl, ⟨0, fun _ z => by cases z⟩, fun _ z => by cases z⟩ v.c1, fun e => ?_⟩
  obtain ⟨b, t, ys, rows, rfl, ht, R, O, c⟩ := v.rw2 e
  exact ⟨b, _, rfl, h t ys rows H (Same.refl H) ht R O c⟩
end
section
variable {P : Program} {w : World} {K : PySem.W.Frag} {mg : Str → Option Value} {base : Heap} {t1 t2 : Tok} {cl : Cl} {f : Addr} {fd : FuncData}
theorem pr2 : IsPr 2 := ⟨by omega, fun d h1 h2 => by
  have := Int.mul_le_mul h1 h1 (by omega) (by omega)
  omega⟩
def tWithin (K : PySem.W.Frag) (cl : Cl) : TE := fun σ H Q => ∃ a z xs, σ[5]? = some (some (.ref a)) ∧ SqT K H a (.str z :: xs) ∧ ∀ c, (∀ H, SqT K H c ((wordsF (decide (z = Str.ofString "full"))).map V.str)) → Q (.ref c) H
theorem View.same {K : PySem.W.Frag} {H H' : Hp} {n : Int} {d : Dt} {f : Bool} {a : Addr} {z : Str} {xs : List V} (v : View K H n d f a z xs) (S : TK H H') : View K H' n d f a z xs := by
  refine ⟨S.sq v.sq, v.mem, ?_, v.c1, fun e => ?_⟩
  · rcases v.sh with ⟨e, R⟩ | ⟨b, rows, R, O, n1, nl⟩ | ⟨b, rows, R, O, n1, nl⟩
    · exact .inl ⟨e, Rep.mono S _ rfl R⟩
    · exact .inr (.inl ⟨b, rows, Rep.mono S _ (by show (true && (true && (noLL (rows.map rwD) && true))) = true; rw [nl]; rfl) R, O, n1, nl⟩)
    · exact .inr (.inr ⟨b, rows, Rep.mono S _ (by show (true && (true && (noLL (rows.map rwD) && true))) = true; rw [nl]; rfl) R, O, n1, nl⟩)
  · obtain ⟨b, t, ys, rows, e1, ht, R, O, c⟩ := v.rw2 e
    exact ⟨b, t, ys, rows, e1, S.sq ht, R.mono S _ O.nl, O, c⟩
theorem rowsOf_gen {K : PySem.W.Frag} {H : Hp} {n : Int} {d : Dt} {f : Bool} {a : Addr} {z : Str} {xs : List V} {Q : VK} {E : XK} (v : View K H n d f a z xs)
    (h : ∀ t ys rows H', Same H H' → SqT K H' t ys → RepL K H' (rows.map rwD) ys → RowsOk (decide (z = Str.ofString "full")) rows → 1 + cnR rows ≤ cnD d → Q (.ref t) H') : spRowsOf K [.ref a] H Q E := ⟨a, z, xs, rfl, v.sq, rows_gen v h⟩
theorem for_rows {K : PySem.W.Frag} {sp : Sp} {E : XK} {i : Nat} {v : V} {g : TG} {tb : TS} {D : Ends} {σ : St} {H : Hp} (e : σ[i]? = some (some v))
    (h : sp [v] H (fun x H1 => ∃ a, x = .ref a ∧ (∃ xs, SqT K H1 a xs) ∧ tFor (fun _ H R => R (Itt K a) H) g tb D σ H1) E) : tFor (iTup K (tCall sp [] E (tCons (tVar i) tNil))) g tb D σ H := ⟨v, e, h⟩
theorem cnR_take : ∀ (rows : List Row) (i : Nat), cnR (rows.take i) ≤ cnR rows
  | [], i => by simp [cnR]
  | r :: rs, 0 => by simp [cnR]
  | r :: rs, i + 1 => by
    have := cnR_take rs i
    show 1 + cnD r.2.2 + cnR (rs.take i) ≤ 1 + cnD r.2.2 + cnR rs
    omega
theorem ok_q7 (D : Df_q7 K mg f fd) (T : Txt K mg t1 t2 cl) (o1 : O_q18 P w K mg base) (o2 : O_q58 P w K mg base) (o3 : O_q55 P w K mg base) : FnOk P w K mg base CX0 6 f fd ["n", "thing", "words"] (spIPW K) := by
  obtain ⟨_, _, D_q18, G_q18⟩ := o1
  obtain ⟨_, _, D_q58, G_q58⟩ := o2
  obtain ⟨_, _, D_q55, G_q55⟩ := o3
  refine D.fn.ok sc_q7 (fun vs H Q E h => ?_) (fun cdv A outer s H vs Q E hr h => ?_)
  · obtain ⟨e, u, c, k, rfl, _⟩ := h
    rfl
  · obtain ⟨e, u, c, kk, rfl, hh, k⟩ := h
    refine ⟨_, (pss_cons (ps_set (i := 3) sc_q7.nd rfl (by subst_eqs) (pe_lst (pa_cons (pe_tup (pa_cons (pv 0) (pa_cons (pv 1) (pa_cons (pv 2) pa_nil)))) pa_nil))) (pss_cons (ps_while PassesOwn.never (pt_cmpR op_gt (pe_callB call_len_seq (by rfl) T.no_len PySem.boot_len (pa_cons (pv 3) pa_nil)) pe_int (nomark _)) (pss_cons (ps_asg (pe_bm0 PySem.F.plainAttrs_list PySem.F.slot_list_pop PySem.F.type_list_pop mt_pop (pv 3)) (pg_tup rfl (pgs_cons (pg_name (i := 4) sc_q7.nd rfl (by subst_eqs)) (pgs_cons (pg_name (i := 5) sc_q7.nd rfl (by subst_eqs)) (pgs_cons (pg_name (i := 6) sc_q7.nd rfl (by subst_eqs)) pgs_nil))))) (pss_cons (ps_if (PW.pt (pw_or (pt_not (pt_val (pe_call (G_q18.mono (by decide)) hr rfl D_q18.mgx D_q18.fn.kp D_q18.bd .nil pass0 (pa_cons (pv 5) (pa_cons (pv 6) pa_nil))))) (pw_or1 (pt_not (pt_val (pe_call (G_q58.mono (by decide)) hr rfl D_q58.mgx D_q58.fn.kp D_q58.bd .nil pass0 (pa_cons (pv 4) (pa_cons (pv 5) pa_nil)))))))) (pss_one (ps_ret pe_bl)) pss_nil) (pss_cons (ps_set (i := 7) sc_q7.nd rfl (by subst_eqs) (pe_imp (t' := (tWithin K cl)) (pe_ifExp (pt_cmpR op_eq (pe_ix ix_tup (pv 5) pe_int (fun _ _ => rfl)) pe_str (nomark _)) (pe_glob (v := .ref _) rfl T.mg_FULL_WORDS rfl) (pe_glob (v := .ref _) rfl T.mg_ALL_WORDS rfl)) (by rintro σ H Q ⟨a, z, xs, e, ha, q⟩; refine ⟨_, e, a, _, _, _, rfl, rfl, ha, at0, rfl, _, rfl, ?_⟩; exact dite (z = Str.ofString "full") (fun ez => by rw [decide_eq_true (by rw [ez])]; exact q _ (by rw [decide_eq_true ez]; exact T.fw)) (fun ez => by rw [decide_eq_false (fun h => ez (V.str.inj h))]; exact q _ (by rw [decide_eq_false ez]; exact T.aw))))) (pss_one (ps_for PassesOwn.never rfl (pi_tup (pe_call (G_q55.mono (by decide)) hr rfl D_q55.mgx D_q55.fn.kp D_q55.bd .nil pass0 (pa_cons (pv 5) pa_nil))) (pg_name (i := 8) sc_q7.nd rfl (by subst_eqs)) (pss_one (ps_expr (pe_bm PySem.F.plainAttrs_list PySem.F.slot_list_append PySem.F.type_list_append mt_append (pv 3) (pa_cons (pe_tup (pa_cons (pe_ix ix_tup (pv 8) pe_int (fun _ _ => rfl)) (pa_cons (pe_ix ix_tup (pv 8) pe_int (fun _ _ => rfl)) (pa_cons (pv 7) pa_nil)))) pa_nil)))))))))) (pss_one (ps_ret pe_bl)))), ?_⟩
    have e0 : L2.start ["n", "thing", "words", "left", "number", "paper", "wanted", "within", "row"] [.int e.n, u, .ref c] = [some (.int e.n), some (u), some (.ref c), none, none, none, none, none, none] := rfl
    rw [e0]; clear e0
    bv_omega
    obtain ⟨R, nl, rp, n30, hc⟩ := hh
    refine ⟨by show 3 ≤ sizeLine; decide, fun p hp => ⟨by show 1 ≤ sizeLine; decide, fun L hL => ?_⟩⟩
    have S0 : Same H (upd (upd H p (HO.tup [V.int e.n, u, V.ref c])) L (HO.lst [V.ref p])) := fun q o h => keep (keep h hp) hL
    have hp1 : (upd (upd H p (HO.tup [V.int e.n, u, V.ref c])) L (HO.lst [V.ref p])) p = some (HO.tup [V.int e.n, u, V.ref c]) := keep upd_same hL
    have hL1 : (upd (upd H p (HO.tup [V.int e.n, u, V.ref c])) L (HO.lst [V.ref p])) L = some (HO.lst [V.ref p]) := upd_same
    have HL : H L = none := by
      cases h : H L with
      | none => rfl
      | some o => rw [keep h hp] at hL; cases hL
    generalize upd (upd H p (HO.tup [V.int e.n, u, V.ref c])) L (HO.lst [V.ref p]) = H1 at S0 hp1 hL1 ⊢
    obtain ⟨W, hW⟩ : ∃ W : Nat → St → Hp → Prop, ∀ m σ H', W m σ H' ↔ ∃ es xs v4 v5 v6 v7 v8, m = cnE es ∧ σ = [some (.int e.n), some u, some (.ref c), some (.ref L), v4, v5, v6, v7, v8] ∧ Same H H' ∧ H' L = some (.lst xs) ∧ Ents K H' es xs ∧ cnE es ≤ 500 := ⟨_, fun _ _ _ => Iff.rfl⟩
    refine ⟨W, ⟨_, (hW _ _ _).mpr ⟨[e], _, _, _, _, _, _, rfl, rfl, S0, hL1, ⟨_, _, rfl, ⟨p, c, u, kk, rfl, SqT.of hp1, Rep.mono S0.tk _ nl R, nl, rp, n30, hc.mono S0.tk⟩, rfl⟩, ?_⟩⟩, ?_⟩
    · have cn := rp.cn pr2
      by_cases e2 : e.n = 2
      · have := cn.1 e2
        show cnD e.d + 0 ≤ 500
        omega
      · have h := cn.2 e2
        have h5 := pow5_mono (show 0 ≤ e.n by have := rp.n2; omega) n30
        have hb : ((10 : Int) ^ 30) ^ 5 < 2 ^ 499 := by decide +kernel
        refine Classical.byContradiction fun w => ?_
        have w : ¬ cnD e.d + 0 ≤ 500 := w
        have := pow_mono1 (show (1 : Int) ≤ 2 by decide) (show 499 ≤ cnD e.d + 3 by omega)
        omega
    intro m σ H2 hw
    obtain ⟨es, xs, v4, v5, v6, v7, v8, rfl, rfl, S, hL2, E, e5⟩ := (hW _ _ _).mp hw
    clear hw
    bv_omega
    refine ⟨_, .inl (SqL.of hL2), ?_⟩
    refine ite2 (fun hl => ?_) (fun hl => ?_)
    · have hne : xs ≠ [] := fun z => by rw [z] at hl; simp at hl
      obtain ⟨ys, y, rfl⟩ : ∃ ys y, xs = ys ++ [y] := ⟨xs.dropLast, xs.getLast hne, (List.dropLast_concat_getLast hne).symm⟩
      obtain ⟨fs, g, rfl, E1, g1⟩ := E.last
      obtain ⟨pe, ce, ue, ke, rfl, hpe, Re, nle, rpe, ge, hce⟩ := g1
      rw [cnE_app] at e5
      have e5' : cnE fs + (cnD g.d + 0) ≤ 500 := e5
      refine ⟨fun σ' H' => ∃ m', m' < cnE (fs ++ [g]) ∧ W m' σ' H', fun _ _ h => h, ?_⟩
      rw [cnE_app]
      (try dsimp only [tBM0, rPop]); bv_omega
      refine ⟨.inl ⟨_, SqL.of hL2⟩, _, hL2, .ref pe, by simp, ?_⟩
      rw [List.dropLast_concat]
      have tk3 : TK H2 (upd H2 L (.lst ys)) := TK.lst hL2
      have S3 : Same H (upd H2 L (.lst ys)) := fun b o h => by rw [upd_ne (ne_of_none h HL)]; exact S _ _ h
      have hL3 : (upd H2 L (.lst ys)) L = some (.lst ys) := upd_same
      have E3 := E1.mono tk3
      have hpe3 := tk3.sq hpe
      have Re3 := Rep.mono tk3 _ nle Re
      obtain ⟨wsc, hce, hws⟩ := hce
      have hce3 := tk3.sq hce
      generalize upd H2 L (.lst ys) = H3 at tk3 S3 hL3 E3 hpe3 Re3 hce3 ⊢
      obtain ⟨a, z, zs, rfl, V1⟩ := rp_view rpe ge Re3
      refine ⟨pe, rfl, _, hpe3, rfl, _, _, rfl, _, _, rfl, _, _, rfl, rfl, ?_⟩
      refine ⟨a, ce, z, zs, _, rfl, V1.sq, hce3, hws _ _ V1.mem.choose_spec, _, rfl, ?_⟩
      rw [if_neg (by decide)]
      refine ⟨g.n, _, rfl, fun H4 S4 => ⟨_, rfl, ?_⟩, V1.sh⟩
      rw [if_neg (by decide)]
      have V4 := V1.same S4.tk
      have E4 := E3.mono S4.tk
      have hL4 := S4 _ _ hL3
      have S04 := S3.trans S4
      refine ⟨a, z, zs, rfl, V4.sq, fun cw hcw => ?_⟩
      clear V1 E3 hL3 S3 tk3 hpe3 Re3 hce3 S4
      bv_omega
      refine for_rows (K := K) (v := .ref a) rfl ?_
      refine rowsOf_gen V4 fun t tys rows H5 S5 ht R5 RO cR => ?_
      refine ⟨t, rfl, ⟨_, ht⟩, ?_⟩
      have E5 := E4.mono S5.tk
      have hL5 := S5 _ _ hL4
      have S05 := S04.trans S5
      obtain ⟨kr, rpr⟩ := RO.rp
      have elen : tys.length = rows.length := by rw [← R5.length, List.length_map]
      obtain ⟨Pv, hPv⟩ : ∃ Pv : Nat → St → Hp → Prop, ∀ i σ H', Pv i σ H' ↔ ∃ xs v8, σ = [some (.int e.n), some u, some (.ref c), some (.ref L), some (.int g.n), some (.ref a), some (.ref ce), some (.ref cw), v8] ∧ Same H H' ∧ TK H5 H' ∧ H' L = some (.lst xs) ∧ Ents K H' (fs ++ (rows.take i).map fun r => ⟨r.1, r.2.2, decide (z = Str.ofString "full")⟩) xs := ⟨_, fun _ _ _ => Iff.rfl⟩
      refine for_tup (xs := tys) Pv ((hPv _ _ _).mpr ⟨_, _, rfl, S05, TK.refl _, hL5, by simpa using E5⟩) (fun i σ H' _ h => ?_) ?_ ?_
      · obtain ⟨_, _, _, _, t6, _⟩ := (hPv _ _ _).mp h
        exact t6.sq ht
      · intro i x σ H' hx h
        obtain ⟨xs, v8, rfl, S6, t6, hL6, E6⟩ := (hPv _ _ _).mp h
        obtain ⟨r, hr, Rr⟩ := row_get (R5.mono t6 _ RO.nl) hx
        bv_omega
        obtain ⟨c2, zs2, rfl, hc2, _, _, rfl, rfl, _, _, rfl, rfl, v3, _, rfl, R8, rfl⟩ := Rr
        have hm := List.mem_of_getElem? hr
        have lt : xs.length ≤ 500 := by
          have a1 := E6.len_cn
          rw [cnE_app] at a1
          have a2 := cnE_rows (decide (z = Str.ofString "full")) (rows.take i)
          have a3 := cnR_take rows i
          omega
        refine ⟨.inl ⟨_, SqL.of hL6⟩, c2, _, _, _, rfl, rfl, hc2, rfl, c2, _, _, _, rfl, rfl, hc2, rfl, by show 3 ≤ sizeLine; decide, fun p hp => ⟨xs, keep hL6 hp, small1000 (by omega), ?_⟩⟩
        have nLp : L ≠ p := ne_of_none hL6 hp
        have t7 : TK H' (upd (upd H' p (.tup [.int r.1, v3, .ref cw])) L (.lst (xs ++ [.ref p]))) := (TK.new hp).trans (TK.lst (keep hL6 hp))
        refine (hPv _ _ _).mpr ⟨_, _, rfl, fun b o e => ?_, t6.trans t7, upd_same, ?_⟩
        · rw [upd_ne (ne_of_none e HL)]
          exact keep (S6 _ _ e) hp
        · rw [List.take_succ, hr, List.map_append, ← List.append_assoc]
          have nlr := noLL_mem RO.nl r hm
          refine (E6.mono t7).app ⟨_, [], rfl, ⟨p, cw, v3, kr, rfl, SqT.of (by rw [upd_ne nLp.symm, upd_same]), Rep.mono t7 _ nlr R8, nlr, rpr r hm, RO.le r hm, ⟨_, hcw _, rp_words (rpr r hm)⟩⟩, rfl⟩
      · intro σ H' h
        obtain ⟨xs, v8, rfl, S6, t6, hL6, E6⟩ := (hPv _ _ _).mp h
        rw [elen, List.take_length] at E6
        have c1 := cnE_rows (decide (z = Str.ofString "full")) rows
        refine ⟨_, ?_, (hW _ _ _).mpr ⟨_, xs, _, _, _, _, _, rfl, rfl, S6, hL6, E6, ?_⟩⟩
        · rw [cnE_app]
          show cnE fs + _ < cnE fs + (cnD g.d + 0)
          omega
        · rw [cnE_app]
          omega
    · exact k _ S
abbrev O_q7 (P : Program) (w : World) (K : PySem.W.Frag) (mg : Str → Option Value) (base : Heap) : Prop := ∃ f fd, Df_q7 K mg f fd ∧ FnOk P w K mg base CX0 6 f fd ["n", "thing", "words"] ((spIPW K))
end
section
variable {P : Program} {w : World} {K : PySem.W.Frag} {mg : Str → Option Value} {base : Heap} {t1 t2 : Tok} {cl : Cl} {f : Addr} {fd : FuncData}
abbrev s_q9 : Stmt := top 17
theorem sc_q9 : FnScope ["thing", "least", "most", "name"] ["thing", "least", "most", "name"] (defScope s_q9) := ⟨rfl, rfl, rfl, by decide +kernel, rfl, by decide +kernel, by decide +kernel⟩
abbrev Df_q9 (K : PySem.W.Frag) (mg : Str → Option Value) (f : Addr) (fd : FuncData) : Prop := Def K mg "want_between" s_q9 ["thing", "least", "most", "name"] f fd
def spWantB (K : PySem.W.Frag) (cl : Cl) : Sp := fun vs H Q E => ∃ (x : V) (n : String) (lo hi : Int) (nm : Str), vs = [x, .int lo, .int hi, .str nm] ∧ TyOf K H x (.type n) ∧ (lo.natAbs < 10 ^ 100 ∧ hi.natAbs < 10 ^ 100 ∧ nm.length ≤ 100) ∧ (isBet x lo hi = true → Q .non H) ∧ (isBet x lo hi = false → E (.ref cl.nn) none H)
theorem ok_q9 (D : Df_q9 K mg f fd) (T : Txt K mg t1 t2 cl) (o1 : O_q23 P w K mg base) : FnOk P w K mg base (CXE P w) 3 f fd ["thing", "least", "most", "name"] (spWantB K cl) := by
  obtain ⟨_, _, D_q23, G_q23⟩ := o1
  refine D.fn.okX sc_q9 (fun vs H Q E h => ?_) (fun cdv A outer s H vs Q E hr h => ?_)
  · obtain ⟨x, n, lo, hi, nm, rfl, _⟩ := h
    rfl
  · obtain ⟨x, n, lo, hi, nm, rfl, ty, ⟨b1, b2, b3⟩, k1, k2⟩ := h
    refine ⟨_, (pss_one (ps_if (pt_not (pt_val (pe_call (G_q23.mono (by decide)) hr rfl D_q23.mgx D_q23.fn.kp D_q23.bd .nil pass0 (pa_cons (pv 0) (pa_cons (pv 1) (pa_cons (pv 2) pa_nil)))))) (pss_one (ps_raise raises_cx rfl rfl T.mg_NoNumber T.xc_NoNumber (pe_imp (t' := tMsg) (pe_joined (pj_cons (pe_fmt (pv 3)) (pj_cons pe_str (pj_cons (pe_fmt (pv 1)) (pj_cons pe_str (pj_cons (pe_fmt (pv 2)) pj_nil)))))) (msg_imp (by decide) (by decide))))) pss_nil)), ?_⟩
    have e0 : L2.start ["thing", "least", "most", "name"] [x, .int lo, .int hi, .str nm] = [some (x), some (.int lo), some (.int hi), some (.str nm)] := rfl
    rw [e0]; clear e0
    bv_omega
    refine ⟨x, n, lo, hi, rfl, ty, _, rfl, ?_⟩
    cases e : isBet x lo hi with
    | true => rw [if_neg (by decide)]; exact k1 e
    | false =>
      rw [if_pos rfl]
      exact ⟨_, _, _, rfl, rfl, rfl, ⟨b3, b1, b2⟩, fun _ => k2 e⟩
abbrev O_q9 (P : Program) (w : World) (K : PySem.W.Frag) (mg : Str → Option Value) (base : Heap) (cl : Cl) : Prop := ∃ f fd, Df_q9 K mg f fd ∧ FnOk P w K mg base (CXE P w) 3 f fd ["thing", "least", "most", "name"] (spWantB K cl)
theorem isBet_int {x : V} {lo hi : Int} (h : isBet x lo hi = true) : ∃ i, x = .int i ∧ lo ≤ i ∧ i ≤ hi := by
  cases x with
  | int i => simp only [isBet, Bool.and_eq_true, decide_eq_true_eq] at h; exact ⟨i, rfl, h⟩
  | _ => cases h
theorem isBet_of {i lo hi : Int} (h1 : lo ≤ i) (h2 : i ≤ hi) : isBet (.int i) lo hi = true := by simp [isBet, h1, h2]
def spWant (K : PySem.W.Frag) (cl : Cl) (lo hi : Int) : Sp := fun vs H Q E => ∃ (x : V) (n : String) (nm : Str), vs = [x, .str nm] ∧ TyOf K H x (.type n) ∧ nm.length ≤ 100 ∧ (isBet x lo hi = true → Q .non H) ∧ (isBet x lo hi = false → E (.ref cl.nn) none H)
abbrev s_q25 : Stmt := top 19
theorem sc_q25 : FnScope ["thing", "name"] ["thing", "name"] (defScope s_q25) := ⟨rfl, rfl, rfl, by decide +kernel, rfl, by decide +kernel, by decide +kernel⟩
abbrev Df_q25 (K : PySem.W.Frag) (mg : Str → Option Value) (f : Addr) (fd : FuncData) : Prop := Def K mg "want_tried" s_q25 ["thing", "name"] f fd
theorem ok_q25 (D : Df_q25 K mg f fd) (T : Txt K mg t1 t2 cl) (o1 : O_q9 P w K mg base cl) : FnOk P w K mg base (CXE P w) 4 f fd ["thing", "name"] (spWant K cl 1 1000000000) := by
  obtain ⟨_, _, D_q9, G_q9⟩ := o1
  refine D.fn.okX sc_q25 (fun vs H Q E h => ?_) (fun cdv A outer s H vs Q E hr h => ?_)
  · obtain ⟨x, n, nm, rfl, _⟩ := h
    rfl
  · obtain ⟨x, n, nm, rfl, ty, hb, k1, k2⟩ := h
    refine ⟨_, (pss_one (ps_expr (pe_call (G_q9.mono (by decide)) hr rfl D_q9.mgx D_q9.fn.kp D_q9.bd .nil (passes_cx (fun _ _ _ h => h)) (pa_cons (pv 0) (pa_cons pe_int (pa_cons (pe_glob (v := .int _) rfl T.mg_MOST_TRIED ⟨_, rfl⟩) (pa_cons (pv 1) pa_nil))))))), ?_⟩
    have e0 : L2.start ["thing", "name"] [x, .str nm] = [some (x), some (.str nm)] := rfl
    rw [e0]; clear e0
    bv_omega
    exact ⟨x, n, _, _, nm, rfl, ty, ⟨by decide, by decide, hb⟩, k1, k2⟩
abbrev O_q25 (P : Program) (w : World) (K : PySem.W.Frag) (mg : Str → Option Value) (base : Heap) (cl : Cl) : Prop := ∃ f fd, Df_q25 K mg f fd ∧ FnOk P w K mg base (CXE P w) 4 f fd ["thing", "name"] (spWant K cl 1 1000000000)
abbrev s_q29 : Stmt := top 26
theorem sc_q29 : FnScope ["number", "start", "tried"] ["number", "start"] (defScope s_q29) := ⟨rfl, rfl, rfl, by decide +kernel, rfl, by decide +kernel, by decide +kernel⟩
abbrev Df_q29 (K : PySem.W.Frag) (mg : Str → Option Value) (f : Addr) (fd : FuncData) : Prop := Def K mg "least_part" s_q29 ["number", "start"] f fd
def LpInv (n s t : Int) : Prop := s ≤ t ∧ ∀ d, s ≤ d → d < t → n % d ≠ 0
def spLeast : Sp := fun vs H Q _ => ∃ (n s : Int), vs = [.int n, .int s] ∧ (0 ≤ n ∧ n ≤ 10 ^ 9 ∧ 2 ≤ s ∧ s ≤ 10 ^ 9 + 1) ∧ ∀ r, LpEnd n s r → Q (.int r) H
theorem ok_q29 (D : Df_q29 K mg f fd) (T : Txt K mg t1 t2 cl) : FnOk P w K mg base CX0 1 f fd ["number", "start"] spLeast := by
  refine D.fn.ok sc_q29 (fun vs H Q E h => ?_) (fun cdv A outer s H vs Q E hr h => ?_)
  · obtain ⟨a, n, rfl, _⟩ := h
    rfl
  · obtain ⟨n, s, rfl, ⟨h0, h1, h2, h3⟩, k⟩ := h
    refine ⟨_, (pss_cons (ps_set (i := 2) sc_q29.nd rfl (by subst_eqs) (pv 1)) (pss_cons (ps_while PassesOwn.never (pt_cmpR op_le (pe_op op_mulB (pv 2) (pv 2)) (pv 0) (nomark _)) (pss_cons (ps_if (pt_cmpR op_eq (pe_op op_mod (pv 0) (pv 2)) pe_int (nomark _)) (pss_one (ps_ret (pv 2))) pss_nil) (pss_one (ps_aug (i := 2) sc_q29.nd rfl (Or.inl rfl) pe_int ip_add)))) (pss_one (ps_ret (pv 0))))), ?_⟩
    have e0 : L2.start ["number", "start", "tried"] [.int n, .int s] = [some (.int n), some (.int s), none] := rfl
    rw [e0]; clear e0
    bv_omega
    obtain ⟨W, hW⟩ : ∃ W : Nat → St → Hp → Prop, ∀ m σ H', W m σ H' ↔ ∃ t, m = (10 ^ 10 - t).toNat ∧ σ = [some (.int n), some (.int s), some (.int t)] ∧ LpInv n s t ∧ t ≤ 10 ^ 9 + 2 ∧ H' = H := ⟨_, fun _ _ _ => Iff.rfl⟩
    refine ⟨W, ⟨_, (hW _ _ _).mpr ⟨_, rfl, rfl, ⟨Int.le_refl _, fun d a b => by omega⟩, by omega, rfl⟩⟩, ?_⟩
    intro m σ H' hw
    obtain ⟨t, rfl, rfl, ⟨I1, I2⟩, I3, rfl⟩ := (hW _ _ _).mp hw
    clear hw
    bv_omega
    refine ⟨.inr ⟨by omega, by omega⟩, ?_⟩
    refine ite2 (fun hl => ?_) (fun hl => ?_)
    · refine ⟨fun σ' H2 => ∃ m', m' < (10 ^ 10 - t).toNat ∧ W m' σ' H2, fun _ _ h => h, ?_⟩
      have t2 : t ≤ n := by
        have := Int.mul_le_mul_of_nonneg_right (show (1 : Int) ≤ t by omega) (show 0 ≤ t by omega)
        omega
      refine ⟨by omega, ?_⟩
      refine ite2 (fun hd => ?_) (fun hd => ?_)
      · exact k t (.inr ⟨I1, hl, hd, I2⟩)
      · refine ⟨_, by omega, (hW _ _ _).mpr ⟨t + 1, rfl, rfl, ⟨by omega, fun d a b => ?_⟩, by omega, rfl⟩⟩
        by_cases e : d = t
        · rw [e]; exact hd
        · exact I2 d a (by omega)
    · refine k n (.inl ⟨rfl, fun d a b => I2 d a ?_⟩)
      refine Classical.byContradiction fun hc => hl ?_
      have := sq_mono (show 0 ≤ t by omega) (show t ≤ d by omega)
      omega
abbrev O_q29 (P : Program) (w : World) (K : PySem.W.Frag) (mg : Str → Option Value) (base : Heap) : Prop := ∃ f fd, Df_q29 K mg f fd ∧ FnOk P w K mg base CX0 1 f fd ["number", "start"] (spLeast)
abbrev s_q51 : Stmt := top 22
theorem sc_q51 : FnScope ["number", "found", "left", "tried", "often"] ["number"] (defScope s_q51) := ⟨rfl, rfl, rfl, by decide +kernel, rfl, by decide +kernel, by decide +kernel⟩
abbrev Df_q51 (K : PySem.W.Frag) (mg : Str → Option Value) (f : Addr) (fd : FuncData) : Prop := Def K mg "parts_of" s_q51 ["number"] f fd
def spParts (K : PySem.W.Frag) (cl : Cl) : Sp := fun vs H Q E => ∃ (x : V) (nx : String), vs = [x] ∧ TyOf K H x (.type nx) ∧ (isBet x 1 1000000000 = false → E (.ref cl.nn) none H) ∧ ∀ n : Int, x = .int n → 1 ≤ n → n ≤ 1000000000 → ∀ l p xs H', Parts n l → Same H H' → H' p = some (.tup xs) → RepL K H' (l.map pD) xs → Q (.ref p) H'
theorem ok_q51 (D : Df_q51 K mg f fd) (T : Txt K mg t1 t2 cl) (o1 : O_q25 P w K mg base cl) (o2 : O_q29 P w K mg base) : FnOk P w K mg base (CXE P w) 5 f fd ["number"] (spParts K cl) := by
  obtain ⟨_, _, D_q25, G_q25⟩ := o1
  obtain ⟨_, _, D_q29, G_q29⟩ := o2
  refine D.fn.okX sc_q51 (fun vs H Q E h => ?_) (fun cdv A outer s H vs Q E hr h => ?_)
  · obtain ⟨x, nx, rfl, _⟩ := h
    rfl
  · obtain ⟨x, nx, rfl, tx, ke, kq⟩ := h
    refine ⟨_, (pss_cons (ps_expr (pe_call (G_q25.mono (by decide)) hr rfl D_q25.mgx D_q25.fn.kp D_q25.bd .nil (passes_cx (fun _ _ _ h => h)) (pa_cons (pv 0) (pa_cons pe_str pa_nil)))) (pss_cons (ps_set (i := 1) sc_q51.nd rfl (by subst_eqs) (pe_lst pa_nil)) (pss_cons (ps_set (i := 2) sc_q51.nd rfl (by subst_eqs) (pv 0)) (pss_cons (ps_set (i := 3) sc_q51.nd rfl (by subst_eqs) pe_int) (pss_cons (PS.nox (ps_while PassesOwn.never (pt_cmpR op_gt (pv 2) pe_int (nomark _)) (pss_cons (ps_set (i := 3) sc_q51.nd rfl (by subst_eqs) (pe_call (G_q29.mono (by decide)) hr rfl D_q29.mgx D_q29.fn.kp D_q29.bd .nil pass0 (pa_cons (pv 2) (pa_cons (pv 3) pa_nil)))) (pss_cons (ps_set (i := 4) sc_q51.nd rfl (by subst_eqs) pe_int) (pss_cons (ps_while PassesOwn.never (pt_cmpR op_eq (pe_op op_mod (pv 2) (pv 3)) pe_int (nomark _)) (pss_cons (ps_set (i := 2) sc_q51.nd rfl (by subst_eqs) (pe_op op_fdivB (pv 2) (pv 3))) (pss_one (ps_aug (i := 4) sc_q51.nd rfl (Or.inl rfl) pe_int ip_add)))) (pss_one (ps_expr (pe_bm PySem.F.plainAttrs_list PySem.F.slot_list_append PySem.F.type_list_append mt_append (pv 1) (pa_cons (pe_tup (pa_cons (pv 3) (pa_cons (pv 4) pa_nil))) pa_nil))))))))) (pss_one (ps_ret (pe_callTy call_tuple_of (by rfl) T.no_tuple PyProof.Rows.boot_tuple (pa_cons (pv 1) pa_nil))))))))), ?_⟩
    have e0 : L2.start ["number", "found", "left", "tried", "often"] [x] = [some (x), none, none, none, none] := rfl
    rw [e0]; clear e0
    bv_omega
    refine ⟨x, nx, _, rfl, tx, by decide, fun hx => ?_, ke⟩
    obtain ⟨n, rfl, hb1, hb2⟩ := isBet_int hx
    have hb : 1 ≤ n ∧ n ≤ 10 ^ 9 := ⟨hb1, by omega⟩
    have k := kq n rfl hb1 hb2
    refine ⟨Nat.zero_le _, fun p hp => ?_⟩
    obtain ⟨W, hW⟩ : ∃ W : Nat → St → Hp → Prop, ∀ m σ H', W m σ H' ↔ ∃ l left t o xs, m = left.toNat ∧ σ = [some (.int n), some (.ref p), some (.int left), some (.int t), o] ∧ PtInv n l left t ∧ t ≤ 10 ^ 9 ∧ Same H H' ∧ H' p = some (.lst xs) ∧ RepL K H' (l.map pD) xs := ⟨_, fun _ _ _ => Iff.rfl⟩
    have s0 : Same H (upd H p (.lst [])) := fun b o e => by rw [upd_ne (ne_of_none e hp)]; exact e
    refine ⟨W, ⟨_, (hW _ _ _).mpr ⟨[], n, 2, none, [], rfl, rfl, pt_start hb.1, by omega, s0, upd_same, rfl⟩⟩, ?_⟩
    intro m σ H' hw
    obtain ⟨l, left, t, o, xs, rfl, rfl, I, tb, S, hl, R⟩ := (hW _ _ _).mp hw
    clear hw
    have i1 := I.l1; have i2 := I.t2; have i3 := pt_le I
    bv_omega
    refine ite2 (fun h1 => ?_) (fun h1 => ?_)
    · refine ⟨fun σ' H2 => ∃ m', m' < left.toNat ∧ W m' σ' H2, fun _ _ h => h, ?_⟩
      refine ⟨left, t, rfl, ⟨by omega, by omega, by omega, by omega⟩, fun r hr => ?_⟩
      obtain ⟨pr, tr, rle, rd, ra⟩ := lp_next h1 i2 I.lo hr
      have r2 := pr.1
      obtain ⟨W2, hW2⟩ : ∃ W : Nat → St → Hp → Prop, ∀ m σ H2, W m σ H2 ↔ ∃ left' oft, m = left'.toNat ∧ σ = [some (.int n), some (.ref p), some (.int left'), some (.int r), some (.int oft)] ∧ DivInv left r left' oft ∧ H2 = H' := ⟨_, fun _ _ _ => Iff.rfl⟩
      refine ⟨W2, ⟨_, (hW2 _ _ _).mpr ⟨left, 0, rfl, rfl, div_start (by omega), rfl⟩⟩, ?_⟩
      intro m2 σ2 H2 hw2
      obtain ⟨left', oft, rfl, rfl, J, rfl⟩ := (hW2 _ _ _).mp hw2
      clear hw2
      have j1 := J.l1
      have j2 := div_le r2 J
      bv_omega
      refine ⟨by omega, ?_⟩
      refine ite2 (fun hd => ?_) (fun hd => ?_)
      · refine ⟨fun σ' H2 => ∃ m', m' < left'.toNat ∧ W2 m' σ' H2, fun _ _ h => h, ?_⟩
        obtain ⟨J2, jl⟩ := div_turn r2 J hd
        have j3 := J2.l1
        exact ⟨⟨by omega, by omega⟩, _, by omega, (hW2 _ _ _).mpr ⟨_, _, rfl, rfl, J2, rfl⟩⟩
      · obtain ⟨I2, o1, lt⟩ := pt_turn I pr tr rd ra J hd
        refine ⟨.inl ⟨_, SqL.of hl⟩, ?_⟩
        refine ⟨by show 2 ≤ sizeLine; decide, fun a ha => ?_⟩
        have npa : p ≠ a := ne_of_none hl ha
        have hlen : xs.length < sizeLine := by
          have e := R.length
          rw [List.length_map] at e
          have e2 := parts_len I.ok.pr (by have := I.eq; have := prod_pos I.ok.pr; have := Int.mul_le_mul_of_nonneg_left i1 (show 0 ≤ prod l by omega); omega)
          exact small1000 (by omega)
        refine ⟨_, by rw [upd_ne npa]; exact hl, hlen, _, by omega, (hW _ _ _).mpr ⟨l ++ [(r, oft)], left', r, _, _, rfl, rfl, I2, by omega, ?_, upd_same, ?_⟩⟩
        · intro b u e
          have e1 : b ≠ p := ne_of_none e hp
          have e2 : b ≠ a := ne_of_none (S b u e) ha
          rw [upd_ne e1, upd_ne e2]
          exact S b u e
        · have tk : TK H2 (upd (upd H2 a (.tup [.int r, .int oft])) p (.lst (xs ++ [.ref a]))) := (TK.new ha).trans (TK.lst (xs := xs) (by rw [upd_ne npa]; exact hl))
          rw [List.map_append]
          refine (R.mono tk _ (noLL_pD l)).append ⟨_, [], rfl, rep_pair ?_, rfl⟩
          rw [upd_ne npa.symm, upd_same]
    · refine ⟨xs, .inl ⟨SqL.of hl, fun a ha => ?_⟩⟩
      refine k l a xs _ (pt_end I h1) (fun b u e => ?_) upd_same (R.mono (TK.new ha) _ (noLL_pD l))
      rw [upd_ne (ne_of_none (S b u e) ha)]
      exact S b u e
abbrev O_q51 (P : Program) (w : World) (K : PySem.W.Frag) (mg : Str → Option Value) (base : Heap) (cl : Cl) : Prop := ∃ f fd, Df_q51 K mg f fd ∧ FnOk P w K mg base (CXE P w) 5 f fd ["number"] (spParts K cl)
abbrev s_q20 : Stmt := top 18
theorem sc_q20 : FnScope ["thing", "name"] ["thing", "name"] (defScope s_q20) := ⟨rfl, rfl, rfl, by decide +kernel, rfl, by decide +kernel, by decide +kernel⟩
abbrev Df_q20 (K : PySem.W.Frag) (mg : Str → Option Value) (f : Addr) (fd : FuncData) : Prop := Def K mg "want_number" s_q20 ["thing", "name"] f fd
theorem ok_q20 (D : Df_q20 K mg f fd) (T : Txt K mg t1 t2 cl) (o1 : O_q9 P w K mg base cl) : FnOk P w K mg base (CXE P w) 4 f fd ["thing", "name"] (spWant K cl 1 1000000000000000000000000000000) := by
  obtain ⟨_, _, D_q9, G_q9⟩ := o1
  refine D.fn.okX sc_q20 (fun vs H Q E h => ?_) (fun cdv A outer s H vs Q E hr h => ?_)
  · obtain ⟨x, n, nm, rfl, _⟩ := h
    rfl
  · obtain ⟨x, n, nm, rfl, ty, hb, k1, k2⟩ := h
    refine ⟨_, (pss_one (ps_expr (pe_call (G_q9.mono (by decide)) hr rfl D_q9.mgx D_q9.fn.kp D_q9.bd .nil (passes_cx (fun _ _ _ h => h)) (pa_cons (pv 0) (pa_cons pe_int (pa_cons (pe_glob (v := .int _) rfl T.mg_MOST ⟨_, rfl⟩) (pa_cons (pv 1) pa_nil))))))), ?_⟩
    have e0 : L2.start ["thing", "name"] [x, .str nm] = [some (x), some (.str nm)] := rfl
    rw [e0]; clear e0
    bv_omega
    exact ⟨x, n, _, _, nm, rfl, ty, ⟨by decide, by decide, hb⟩, k1, k2⟩
abbrev O_q20 (P : Program) (w : World) (K : PySem.W.Frag) (mg : Str → Option Value) (base : Heap) (cl : Cl) : Prop := ∃ f fd, Df_q20 K mg f fd ∧ FnOk P w K mg base (CXE P w) 4 f fd ["thing", "name"] (spWant K cl 1 1000000000000000000000000000000)
abbrev s_q49 : Stmt := top 21
theorem sc_q49 : FnScope ["number"] ["number"] (defScope s_q49) := ⟨rfl, rfl, rfl, by decide +kernel, rfl, by decide +kernel, by decide +kernel⟩
abbrev Df_q49 (K : PySem.W.Frag) (mg : Str → Option Value) (f : Addr) (fd : FuncData) : Prop := Def K mg "is_prime" s_q49 ["number"] f fd
def spIsPrime (K : PySem.W.Frag) (cl : Cl) : Sp := fun vs H Q E => ∃ (x : V) (nx : String), vs = [x] ∧ TyOf K H x (.type nx) ∧ (isBet x 0 1000000000 = false → E (.ref cl.nn) none H) ∧ (∀ n : Int, x = .int n → 0 ≤ n → n ≤ 1000000000 → Q (.bl (isPrB n)) H)
theorem lp_prime {n r : Int} (hn : 1 < n) (h : LpEnd n 2 r) : r = n ↔ IsPr n := by
  constructor
  · intro e
    rcases h with ⟨_, h⟩ | ⟨h1, h2, h3, h4⟩
    · exact ⟨by omega, h⟩
    · subst e
      have := Int.mul_le_mul_of_nonneg_right (show (2 : Int) ≤ r by omega) (show 0 ≤ r by omega)
      omega
  · intro hp
    rcases h with ⟨h, _⟩ | ⟨h1, h2, h3, h4⟩
    · exact h
    · exact absurd h3 (hp.2 r h1 h2)
theorem ok_q49 (D : Df_q49 K mg f fd) (T : Txt K mg t1 t2 cl) (o1 : O_q9 P w K mg base cl) (o2 : O_q29 P w K mg base) : FnOk P w K mg base (CXE P w) 5 f fd ["number"] (spIsPrime K cl) := by
  obtain ⟨_, _, D_q9, G_q9⟩ := o1
  obtain ⟨_, _, D_q29, G_q29⟩ := o2
  refine D.fn.okX sc_q49 (fun vs H Q E h => ?_) (fun cdv A outer s H vs Q E hr h => ?_)
  · obtain ⟨x, nx, rfl, _⟩ := h
    rfl
  · obtain ⟨x, nx, rfl, tx, ke, kq⟩ := h
    refine ⟨_, (pss_cons (ps_expr (pe_call (G_q9.mono (by decide)) hr rfl D_q9.mgx D_q9.fn.kp D_q9.bd .nil (passes_cx (fun _ _ _ h => h)) (pa_cons (pv 0) (pa_cons pe_int (pa_cons (pe_glob (v := .int _) rfl T.mg_MOST_TRIED ⟨_, rfl⟩) (pa_cons pe_str pa_nil)))))) (pss_one (ps_ret (pe_and (pe_cmpR op_gt (pv 0) pe_int (nomark _)) (pe_one (pe_cmpR op_eq (pe_call (G_q29.mono (by decide)) hr rfl D_q29.mgx D_q29.fn.kp D_q29.bd .nil pass0 (pa_cons (pv 0) (pa_cons pe_int pa_nil))) (pv 0) (nomark _))))))), ?_⟩
    have e0 : L2.start ["number"] [x] = [some (x)] := rfl
    rw [e0]; clear e0
    bv_omega
    refine ⟨x, nx, 0, _, _, rfl, tx, ⟨by decide, by decide, by decide⟩, fun hx => ?_, ke⟩
    obtain ⟨n, rfl, x1, x2⟩ := isBet_int hx
    have k := kq n rfl x1 x2
    bv_omega
    refine ite2 (fun hl => ?_) (fun hl => ?_)
    · refine ⟨n, 2, rfl, ⟨by omega, by omega, by omega, by omega⟩, fun r hr => ?_⟩
      bv_omega
      have e := lp_prime hl hr
      by_cases hp : IsPr n
      · rw [isPrB_of hp] at k
        rw [decide_eq_true (e.mpr hp)]
        exact k
      · rw [isPrB_not hp] at k
        rw [decide_eq_false (fun z => hp (e.mp z))]
        exact k
    · have e : ¬ IsPr n := fun h => by have := h.1; omega
      rw [isPrB_not e] at k
      exact k
abbrev O_q49 (P : Program) (w : World) (K : PySem.W.Frag) (mg : Str → Option Value) (base : Heap) (cl : Cl) : Prop := ∃ f fd, Df_q49 K mg f fd ∧ FnOk P w K mg base (CXE P w) 5 f fd ["number"] (spIsPrime K cl)
abbrev s_q41 : Stmt := top 25
theorem sc_q41 : FnScope ["number"] ["number"] (defScope s_q41) := ⟨rfl, rfl, rfl, by decide +kernel, rfl, by decide +kernel, by decide +kernel⟩
abbrev Df_q41 (K : PySem.W.Frag) (mg : Str → Option Value) (f : Addr) (fd : FuncData) : Prop := Def K mg "primes_of" s_q41 ["number"] f fd
def prV (l : List (Int × Int)) : List V := l.map fun q => .int q.1
def spPrimes : Sp := fun vs H Q _ => ∃ (n : Int), vs = [.int n] ∧ (1 ≤ n ∧ n ≤ 10 ^ 9) ∧ ∀ l p H', Parts n l → Same H H' → H' p = some (.lst (prV l)) → Q (.ref p) H'
theorem ok_q41 (D : Df_q41 K mg f fd) (T : Txt K mg t1 t2 cl) (o1 : O_q51 P w K mg base cl) : FnOk P w K mg base CX0 6 f fd ["number"] spPrimes := by
  obtain ⟨_, _, D_q51, G_q51⟩ := o1
  refine D.fn.ok sc_q41 (fun vs H Q E h => ?_) (fun cdv A outer s H vs Q E hr h => ?_)
  · obtain ⟨n, rfl, _⟩ := h
    rfl
  · obtain ⟨n, rfl, hb, k⟩ := h
    refine ⟨_, (pss_one (ps_ret (pe_compD (N := ["prime", "often"]) (js := [none, none]) (by rfl) rfl (fun _ => rfl) (pi_tup (pe_call (G_q51.mono (by decide)) hr rfl D_q51.mgx D_q51.fn.kp D_q51.bd .nil passE0 (pa_cons (pv 0) pa_nil))) (by intro b _ _ _ _; exact (pg_tupK (K := K) (n := 2) rfl rfl (pgs_cons (pg_name (i := 0) (show List.Nodup (["prime", "often"] : List Str) by decide) rfl (by subst_eqs)) (pgs_cons (pg_name (i := 1) (show List.Nodup (["prime", "often"] : List Str) by decide) rfl (by subst_eqs)) pgs_nil)))) (by intro b _ _ _ _; exact pifs_nil) (by intro b _ _ _ _; exact (pv 0))))), ?_⟩
    have e0 : L2.start ["number"] [.int n] = [some (.int n)] := rfl
    rw [e0]; clear e0
    bv_omega
    refine ⟨_, rfl, .int n, _, rfl, .int _, fun h => (by rw [isBet_of (by omega) (by omega)] at h; cases h), fun n' en _ _ l p xs H' hl S hp R => ?_⟩
    cases en
    refine ⟨p, rfl, ⟨xs, SqT.of hp⟩, fun b D hc hD => ?_⟩
    have len : l.length < 30 := parts_len hl.1.pr (by rw [hl.2]; omega)
    have elen : xs.length = l.length := by rw [← R.length, List.length_map]
    have npD : p ≠ D := ne_of_none hp hD
    obtain ⟨Pv, hPv⟩ : ∃ Pv : Nat → St → Hp → Prop, ∀ i σ H2, Pv i σ H2 ↔ (∃ v1 v2, σ = [v1, v2]) ∧ H2 = upd H' D (.lst (prV (l.take i))) := ⟨_, fun _ _ _ => Iff.rfl⟩
    refine comp_tup (xs := xs) Pv ((hPv _ _ _).mpr ⟨⟨_, _, rfl⟩, rfl⟩) (fun i σ H2 hi h => ?_) ?_ ?_
    · obtain ⟨_, rfl⟩ := (hPv _ _ _).mp h
      exact SqT.of (by rw [upd_ne npD]; exact hp)
    · intro i x σ H2 hx h
      obtain ⟨⟨v1, v2, rfl⟩, rfl⟩ := (hPv _ _ _).mp h
      obtain ⟨q, c, hq, rfl, hcc⟩ := repL_pD_get R hx
      have hcc' : SqT K (upd H' D (.lst (prV (l.take i)))) c [.int q.1, .int q.2] := (TK.new hD).sq hcc
      (try dsimp only [CT, tYes]); bv_omega
      refine ⟨_, hcc', rfl, ?_⟩
      bv_omega
      refine ⟨_, upd_same, ?_, (hPv _ _ _).mpr ⟨⟨_, _, rfl⟩, ?_⟩⟩
      · refine small1000 ?_
        unfold prV
        rw [List.length_map, List.length_take]
        omega
      · have e : prV (l.take (i + 1)) = prV (l.take i) ++ [.int q.1] := by
          unfold prV
          rw [List.take_succ, hq, List.map_append]; rfl
        rw [e]
        funext c
        by_cases z : c = D
        · subst z; rw [upd_same, upd_same]
        · rw [upd_ne z, upd_ne z, upd_ne z]
    · intro σ H2 h
      obtain ⟨⟨v1, v2, rfl⟩, rfl⟩ := (hPv _ _ _).mp h
      rw [elen, List.take_length]
      refine k l D _ hl (fun b o e => ?_) upd_same
      rw [upd_ne (ne_of_none (S b o e) hD)]
      exact S b o e
abbrev O_q41 (P : Program) (w : World) (K : PySem.W.Frag) (mg : Str → Option Value) (base : Heap) : Prop := ∃ f fd, Df_q41 K mg f fd ∧ FnOk P w K mg base CX0 6 f fd ["number"] (spPrimes)
abbrev s_q56 : Stmt := top 32
theorem sc_q56 : FnScope ["base", "p", "primes", "prime"] ["base", "p", "primes"] (defScope s_q56) := ⟨rfl, rfl, rfl, by decide +kernel, rfl, by decide +kernel, by decide +kernel⟩
abbrev Df_q56 (K : PySem.W.Frag) (mg : Str → Option Value) (f : Addr) (fd : FuncData) : Prop := Def K mg "is_base" s_q56 ["base", "p", "primes"] f fd
def spBase : Sp := fun vs H Q _ => ∃ (b p : Int) (c : Addr) (l : List (Int × Int)), vs = [.int b, .int p, .ref c] ∧ H c = some (.lst (prV l)) ∧ (0 ≤ b ∧ b ≤ 10 ^ 9 ∧ IsPr p ∧ p ≤ 10 ^ 9 ∧ ∀ q ∈ l, 2 ≤ q.1 ∧ q.1 ≤ 10 ^ 9) ∧ Q (.bl (baseB b p l)) H
theorem ok_q56 (D : Df_q56 K mg f fd) (T : Txt K mg t1 t2 cl) (o1 : O_q34 P w K mg base) : FnOk P w K mg base CX0 2 f fd ["base", "p", "primes"] spBase := by
  obtain ⟨_, _, D_q34, G_q34⟩ := o1
  refine D.fn.ok sc_q56 (fun vs H Q E h => ?_) (fun cdv A outer s H vs Q E hr h => ?_)
  · obtain ⟨b, p, c, l, rfl, _⟩ := h
    rfl
  · obtain ⟨b, p, c, l, rfl, hc, ⟨b0, b1, hp, p1, hl⟩, k⟩ := h
    have p2 := hp.1
    have one : (1 : Int) % p = 1 := Int.emod_eq_of_lt (by omega) (by omega)
    refine ⟨_, (pss_cons (ps_for PassesOwn.never rfl (pi_list (pv 2)) (pg_name (i := 3) sc_q56.nd rfl (by subst_eqs)) (pss_one (ps_if (pt_cmpR op_eq (pe_call (G_q34.mono (by decide)) hr rfl D_q34.mgx D_q34.fn.kp D_q34.bd .nil pass0 (pa_cons (pv 0) (pa_cons (pe_op op_fdivB (pe_op op_sub (pv 1) pe_int) (pv 3)) (pa_cons (pv 1) pa_nil)))) pe_int (nomark _)) (pss_one (ps_ret pe_bl)) pss_nil))) (pss_one (ps_ret pe_bl))), ?_⟩
    have e0 : L2.start ["base", "p", "primes", "prime"] [.int b, .int p, .ref c] = [some (.int b), some (.int p), some (.ref c), none] := rfl
    rw [e0]; clear e0
    bv_omega
    refine ⟨_, rfl, c, rfl, ⟨_, SqL.of hc⟩, for_list (xs := prV l) (fun j σ H' => H' = H ∧ ∃ v, σ = [some (.int b), some (.int p), some (.ref c), v] ∧ BaseOk b p (l.take j)) ⟨rfl, none, rfl, fun q hq => by simp at hq⟩ (fun _ _ _ _ h => by rw [h.1]; exact SqL.of hc) ?_ ?_⟩
    · rintro j x σ H' hx ⟨rfl, v, rfl, I⟩
      unfold prV at hx
      rw [List.getElem?_map] at hx
      obtain ⟨q, hq⟩ : ∃ q, l[j]? = some q := by
        cases e : l[j]? with
        | none => rw [e] at hx; cases hx
        | some q => exact ⟨q, rfl⟩
      rw [hq] at hx
      cases hx
      have hm : q ∈ l := List.mem_of_getElem? hq
      have q2 := hl q hm
      have dn := Int.ediv_nonneg (a := p - 1) (b := q.1) (by omega) (by omega)
      bv_omega
      refine ⟨⟨by omega, by omega⟩, b, _, p, rfl, ⟨by omega, by omega, by omega, by omega⟩, ?_⟩
      bv_omega
      refine ite2 (fun h1 => ?_) (fun h1 => ?_)
      · have nb : ¬ BaseOk b p l := fun z => z q hm (cg_one.mp (by rw [h1, one]))
        have e : baseB b p l = false := by unfold baseB; exact @decide_eq_false _ (Classical.propDecidable _) nb
        rw [e] at k
        exact k
      · have J : BaseOk b p (l.take (j + 1)) := by
          rw [List.take_succ, hq]
          intro y hy
          rcases List.mem_append.mp hy with hy | hy
          · exact I y hy
          · have hy : y = q := by simpa using hy
            rw [hy]
            exact fun z => h1 (by rw [cg_eq z, one])
        first | exact ⟨rfl, _, rfl, J⟩ | exact J
    · rintro σ H' ⟨rfl, v, rfl, I⟩
      have e : (prV l).length = l.length := by unfold prV; rw [List.length_map]
      rw [e, List.take_length] at I
      have e : baseB b p l = true := by unfold baseB; exact @decide_eq_true _ (Classical.propDecidable _) I
      rw [e] at k
      bv_omega
      exact k
abbrev O_q56 (P : Program) (w : World) (K : PySem.W.Frag) (mg : Str → Option Value) (base : Heap) : Prop := ∃ f fd, Df_q56 K mg f fd ∧ FnOk P w K mg base CX0 2 f fd ["base", "p", "primes"] (spBase)
abbrev s_q26 : Stmt := top 31
theorem sc_q26 : FnScope ["p", "primes", "base"] ["p", "primes"] (defScope s_q26) := ⟨rfl, rfl, rfl, by decide +kernel, rfl, by decide +kernel, by decide +kernel⟩
abbrev Df_q26 (K : PySem.W.Frag) (mg : Str → Option Value) (f : Addr) (fd : FuncData) : Prop := Def K mg "least_base" s_q26 ["p", "primes"] f fd
def spLBase : Sp := fun vs H Q _ => ∃ (p : Int) (c : Addr) (l : List (Int × Int)), vs = [.int p, .ref c] ∧ H c = some (.lst (prV l)) ∧ (IsPr p ∧ p ≤ 10 ^ 9 ∧ (∀ q ∈ l, 2 ≤ q.1 ∧ q.1 ≤ 10 ^ 9) ∧ ∃ g, 1 ≤ g ∧ g < p ∧ BaseOk g p l) ∧ ∀ b, LBs p b l → Q (.int b) H
theorem ok_q26 (D : Df_q26 K mg f fd) (T : Txt K mg t1 t2 cl) (o1 : O_q56 P w K mg base) : FnOk P w K mg base CX0 3 f fd ["p", "primes"] spLBase := by
  obtain ⟨_, _, D_q56, G_q56⟩ := o1
  refine D.fn.ok sc_q26 (fun vs H Q E h => ?_) (fun cdv A outer s H vs Q E hr h => ?_)
  · obtain ⟨p, c, l, rfl, _⟩ := h
    rfl
  · obtain ⟨p, c, l, rfl, hc, ⟨hp, p1, hlb, g, g1, g2, hg⟩, k⟩ := h
    have p2 := hp.1
    refine ⟨_, (pss_cons (ps_set (i := 2) sc_q26.nd rfl (by subst_eqs) pe_int) (pss_cons (ps_while PassesOwn.never (pt_not (pt_val (pe_call (G_q56.mono (by decide)) hr rfl D_q56.mgx D_q56.fn.kp D_q56.bd .nil pass0 (pa_cons (pv 2) (pa_cons (pv 0) (pa_cons (pv 1) pa_nil)))))) (pss_one (ps_aug (i := 2) sc_q26.nd rfl (Or.inl rfl) pe_int ip_add))) (pss_one (ps_ret (pv 2))))), ?_⟩
    have e0 : L2.start ["p", "primes", "base"] [.int p, .ref c] = [some (.int p), some (.ref c), none] := rfl
    rw [e0]; clear e0
    bv_omega
    obtain ⟨W, hW⟩ : ∃ W : Nat → St → Hp → Prop, ∀ m σ H', W m σ H' ↔ ∃ b : Int, m = (g - b).toNat ∧ σ = [some (.int p), some (.ref c), some (.int b)] ∧ (1 ≤ b ∧ b ≤ g ∧ ∀ x, 1 ≤ x → x < b → ¬ BaseOk x p l) ∧ H' = H := ⟨_, fun _ _ _ => Iff.rfl⟩
    refine ⟨W, ⟨_, (hW _ _ _).mpr ⟨1, rfl, rfl, ⟨Int.le_refl _, g1, fun x a b => by omega⟩, rfl⟩⟩, ?_⟩
    intro m σ H' hw
    obtain ⟨b, rfl, rfl, ⟨b1, b2, bn⟩, rfl⟩ := (hW _ _ _).mp hw
    clear hw
    bv_omega
    refine ⟨b, p, c, l, rfl, hc, ⟨by omega, by omega, hp, p1, hlb⟩, ?_⟩
    by_cases hb : BaseOk b p l
    · rw [baseB_of hb]
      refine ⟨_, rfl, ?_⟩
      rw [if_neg (by decide)]
      exact k b ⟨b1, by omega, hb, bn⟩
    · rw [baseB_not hb]
      refine ⟨_, rfl, ?_⟩
      rw [if_pos rfl]
      have lt : b < g := by
        by_cases e : b = g
        · rw [e] at hb; exact absurd hg hb
        · omega
      refine ⟨fun σ' H2 => ∃ m', m' < (g - b).toNat ∧ W m' σ' H2, fun _ _ h => h, ?_⟩
      refine ⟨_, by omega, (hW _ _ _).mpr ⟨b + 1, rfl, rfl, ⟨by omega, by omega, fun x x1 x2 => ?_⟩, rfl⟩⟩
      by_cases e : x = b
      · rw [e]; exact hb
      · exact bn x x1 (by omega)
abbrev O_q26 (P : Program) (w : World) (K : PySem.W.Frag) (mg : Str → Option Value) (base : Heap) : Prop := ∃ f fd, Df_q26 K mg f fd ∧ FnOk P w K mg base CX0 3 f fd ["p", "primes"] (spLBase)
def iOr (a b : TI) : TI := fun σ H R => a σ H R ∨ b σ H R
theorem pi_or {X : Cx} {tg l : Expr} {a b : TI} (h1 : PI X tg l a) (h2 : PI X tg l b) : PI X tg l (iOr a b) := fun pins s σ H R I h => h.elim (h1 pins s σ H R I) (h2 pins s σ H R I)
theorem iOr_of {A B : Prop} {a b : TI} {σ : St} {H : Hp} {R : It → Hp → Prop} (h : A ∨ B) (f : A → a σ H R) (g : B → b σ H R) : iOr a b σ H R := h.elim (fun z => .inl (f z)) fun z => .inr (g z)
abbrev s_q8 : Stmt := top 57
theorem sc_q8 : FnScope ["p"] ["p"] (defScope s_q8) := ⟨rfl, rfl, rfl, by decide +kernel, rfl, by decide +kernel, by decide +kernel⟩
abbrev Df_q8 (K : PySem.W.Frag) (mg : Str → Option Value) (f : Addr) (fd : FuncData) : Prop := Def K mg "full_of_prime" s_q8 ["p"] f fd
abbrev s_q40 : Stmt := top 58
theorem sc_q40 : FnScope ["parts"] ["parts"] (defScope s_q40) := ⟨rfl, rfl, rfl, by decide +kernel, rfl, by decide +kernel, by decide +kernel⟩
abbrev Df_q40 (K : PySem.W.Frag) (mg : Str → Option Value) (f : Addr) (fd : FuncData) : Prop := Def K mg "full_rows" s_q40 ["parts"] f fd
def spFP (j : Nat) (K : PySem.W.Frag) : Sp := fun vs H Q _ => ∃ (p : Int), vs = [.int p] ∧ (IsPr p ∧ p ≤ 10 ^ 9 ∧ p ≤ 2 ^ j) ∧ ∀ v H', Same H H' → Rep K H' (pap j p) v → Q v H'
def spFR (j : Nat) (K : PySem.W.Frag) : Sp := fun vs H Q _ => ∃ (c : Addr) (l : List (Int × Int)) (xs : List V), vs = [.ref c] ∧ (H c = some (.tup xs) ∨ H c = some (.lst xs)) ∧ RepL K H (l.map pD) xs ∧ (l.length < 30 ∧ ∀ q ∈ l, IsPr q.1 ∧ q.1 ≤ 10 ^ 9 ∧ q.1 ≤ 2 ^ j) ∧ ∀ tl ys H', Same H H' → H' tl = some (.tup ys) → RepL K H' (l.map (rowD j)) ys → Q (.ref tl) H'
theorem ok_frs (D : Df_q40 K mg f fd) (T : Txt K mg t1 t2 cl) {j m : Nat} {f1 fd1} (D_q8 : Df_q8 K mg f1 fd1) (B_q8 : ∀ b, FnOk P w K mg b CX0 m f1 fd1 ["p"] (spFP j K)) : FnOk P w K mg base CX0 (m + 1) f fd ["parts"] (spFR j K) := by
  refine D.fn.ok sc_q40 (fun vs H Q E h => ?_) (fun cdv A outer s H vs Q E hr h => ?_)
  · obtain ⟨c, l, xs, rfl, _⟩ := h
    rfl
  · obtain ⟨c, l, xs, rfl, hc, R, ⟨len, hl⟩, k⟩ := h
    have elen : xs.length = l.length := by rw [← R.length, List.length_map]
    refine ⟨_, (pss_one (ps_ret (pe_callTy call_tuple_of (by rfl) T.no_tuple PyProof.Rows.boot_tuple (pa_cons (pe_compD (N := ["prime", "often"]) (js := [none, none]) (by rfl) rfl (fun _ => rfl) (pi_or (pi_tup (pv 0)) (pi_list (pv 0))) (by intro b _ _ _ _; exact (pg_tupK (K := K) (n := 2) rfl rfl (pgs_cons (pg_name (i := 0) (show List.Nodup (["prime", "often"] : List Str) by decide) rfl (by subst_eqs)) (pgs_cons (pg_name (i := 1) (show List.Nodup (["prime", "often"] : List Str) by decide) rfl (by subst_eqs)) pgs_nil)))) (by intro b _ _ _ _; exact pifs_nil) (by intro b _ _ _ _; exact (pe_tup (pa_cons (pv 0) (pa_cons (pv 1) (pa_cons (pe_call ((B_q8 b).mono (by omega)) hr rfl D_q8.mgx D_q8.fn.kp D_q8.bd .nil pass0 (pa_cons (pv 0) pa_nil)) pa_nil)))))) pa_nil)))), ?_⟩
    have e0 : L2.start ["parts"] [.ref c] = [some (.ref c)] := rfl
    rw [e0]; clear e0
    bv_omega
    refine tCompC_of ?_
    refine iOr_of hc (fun hc => ⟨_, rfl, c, rfl, ⟨xs, SqT.of hc⟩, ?_⟩) (fun hc => ⟨_, rfl, c, rfl, ⟨xs, SqL.of hc⟩, ?_⟩)
    · intro b D hcb hD
      obtain ⟨Pv, hPv⟩ : ∃ Pv : Nat → St → Hp → Prop, ∀ i σ H2, Pv i σ H2 ↔ (∃ v1 v2, σ = [v1, v2]) ∧ Same H H2 ∧ ∃ ys, H2 D = some (.lst ys) ∧ RepL K H2 ((l.take i).map (rowD j)) ys := ⟨_, fun _ _ _ => Iff.rfl⟩
      refine comp_tup (xs := xs) Pv ((hPv _ _ _).mpr ⟨⟨_, _, rfl⟩, fun b o e => keep e hD, [], upd_same, rfl⟩) (fun i σ H2 hi h => ?_) ?_ ?_
      · obtain ⟨_, s2, _⟩ := (hPv _ _ _).mp h
        exact SqT.of (s2 _ _ hc)
      · intro i x σ H2 hx h
        obtain ⟨⟨v1, v2, rfl⟩, s2, ys, eD, RD'⟩ := (hPv _ _ _).mp h
        have il : i < xs.length := (List.getElem?_eq_some_iff.mp hx).1
        obtain ⟨q, cc, hq, rfl, hcc⟩ := repL_pD_get (R.mono s2.tk _ (noLL_pD l)) hx
        have hmem : q ∈ l := List.mem_of_getElem? hq
        have yl : ys.length ≤ l.length := by
          have := RD'.length
          rw [List.length_map, List.length_take] at this
          omega
        (try dsimp only [CT, tYes]); bv_omega
        refine ⟨_, hcc, rfl, ?_⟩
        bv_omega
        refine ⟨q.1, rfl, hl q hmem, fun v H3 S3 Rv => ⟨by show 3 ≤ sizeLine; decide, fun r hr' => ?_⟩⟩
        have eD3 := S3 _ _ eD
        have nrD : D ≠ r := ne_of_none eD3 hr'
        have tk3 : TK H3 (upd (upd H3 r (.tup [.int q.1, .int q.2, v])) D (.lst (ys ++ [.ref r]))) := (TK.new hr').trans (TK.lst (keep eD3 hr'))
        refine ⟨ys, keep eD3 hr', small1000 (by omega), (hPv _ _ _).mpr ⟨⟨_, _, rfl⟩, fun b o e => ?_, _, upd_same, ?_⟩⟩
        · rw [upd_ne (ne_of_none e hD)]
          exact keep (S3 _ _ (s2 _ _ e)) hr'
        · rw [List.take_succ, hq, List.map_append]
          refine (RD'.mono (S3.tk.trans tk3) _ (noL_rows _ _)).append ⟨_, [], rfl, ⟨r, _, rfl, SqT.of (by rw [upd_ne nrD.symm, upd_same]), _, _, rfl, rfl, _, _, rfl, rfl, _, _, rfl, Rep.mono tk3 _ (noL_pap _ _) Rv, rfl⟩, rfl⟩
      · intro σ H2 h
        obtain ⟨⟨v1, v2, rfl⟩, s2, ys, eD, RD'⟩ := (hPv _ _ _).mp h
        rw [elen, List.take_length] at RD'
        try bv_omega
        refine ⟨ys, .inl ⟨SqL.of eD, fun tl htl => ?_⟩⟩
        exact k tl ys _ (fun b o e => keep (s2 _ _ e) htl) upd_same (RD'.mono (TK.new htl) _ (noL_rows _ _))
    · intro b D hcb hD
      obtain ⟨Pv, hPv⟩ : ∃ Pv : Nat → St → Hp → Prop, ∀ i σ H2, Pv i σ H2 ↔ (∃ v1 v2, σ = [v1, v2]) ∧ Same H H2 ∧ ∃ ys, H2 D = some (.lst ys) ∧ RepL K H2 ((l.take i).map (rowD j)) ys := ⟨_, fun _ _ _ => Iff.rfl⟩
      refine comp_list (xs := xs) Pv ((hPv _ _ _).mpr ⟨⟨_, _, rfl⟩, fun b o e => keep e hD, [], upd_same, rfl⟩) (fun i σ H2 hi h => ?_) ?_ ?_
      · obtain ⟨_, s2, _⟩ := (hPv _ _ _).mp h
        exact SqL.of (s2 _ _ hc)
      · intro i x σ H2 hx h
        obtain ⟨⟨v1, v2, rfl⟩, s2, ys, eD, RD'⟩ := (hPv _ _ _).mp h
        have il : i < xs.length := (List.getElem?_eq_some_iff.mp hx).1
        obtain ⟨q, cc, hq, rfl, hcc⟩ := repL_pD_get (R.mono s2.tk _ (noLL_pD l)) hx
        have hmem : q ∈ l := List.mem_of_getElem? hq
        have yl : ys.length ≤ l.length := by
          have := RD'.length
          rw [List.length_map, List.length_take] at this
          omega
        (try dsimp only [CT, tYes]); bv_omega
        refine ⟨_, hcc, rfl, ?_⟩
        bv_omega
        refine ⟨q.1, rfl, hl q hmem, fun v H3 S3 Rv => ⟨by show 3 ≤ sizeLine; decide, fun r hr' => ?_⟩⟩
        have eD3 := S3 _ _ eD
        have nrD : D ≠ r := ne_of_none eD3 hr'
        have tk3 : TK H3 (upd (upd H3 r (.tup [.int q.1, .int q.2, v])) D (.lst (ys ++ [.ref r]))) := (TK.new hr').trans (TK.lst (keep eD3 hr'))
        refine ⟨ys, keep eD3 hr', small1000 (by omega), (hPv _ _ _).mpr ⟨⟨_, _, rfl⟩, fun b o e => ?_, _, upd_same, ?_⟩⟩
        · rw [upd_ne (ne_of_none e hD)]
          exact keep (S3 _ _ (s2 _ _ e)) hr'
        · rw [List.take_succ, hq, List.map_append]
          refine (RD'.mono (S3.tk.trans tk3) _ (noL_rows _ _)).append ⟨_, [], rfl, ⟨r, _, rfl, SqT.of (by rw [upd_ne nrD.symm, upd_same]), _, _, rfl, rfl, _, _, rfl, rfl, _, _, rfl, Rep.mono tk3 _ (noL_pap _ _) Rv, rfl⟩, rfl⟩
      · intro σ H2 h
        obtain ⟨⟨v1, v2, rfl⟩, s2, ys, eD, RD'⟩ := (hPv _ _ _).mp h
        rw [elen, List.take_length] at RD'
        try bv_omega
        refine ⟨ys, .inl ⟨SqL.of eD, fun tl htl => ?_⟩⟩
        exact k tl ys _ (fun b o e => keep (s2 _ _ e) htl) upd_same (RD'.mono (TK.new htl) _ (noL_rows _ _))
theorem ok_fp0 {m : Nat} : FnOk P w K mg base CX0 m f fd ["p"] (spFP 0 K) :=
  ⟨fun vs H Q E h => by obtain ⟨p, rfl, _⟩ := h; rfl, fun A outer s H args us vs Q E hr e hb hv h => by
    obtain ⟨p, _, ⟨hp, _, h1⟩, _⟩ := h
    have := hp.1
    rw [Int.pow_zero] at h1
    omega⟩
theorem ok_fps (D : Df_q8 K mg f fd) (T : Txt K mg t1 t2 cl) (o1 : O_q51 P w K mg base cl) (o2 : O_q41 P w K mg base) (o3 : O_q26 P w K mg base) {j m : Nat} {f1 fd1} (D_q40 : Df_q40 K mg f1 fd1) (G_q40 : FnOk P w K mg base CX0 (m + 7) f1 fd1 ["parts"] (spFR j K)) : FnOk P w K mg base CX0 (m + 8) f fd ["p"] (spFP (j + 1) K) := by
  obtain ⟨_, _, D_q51, G_q51⟩ := o1
  obtain ⟨_, _, D_q41, G_q41⟩ := o2
  obtain ⟨_, _, D_q26, G_q26⟩ := o3
  refine D.fn.ok sc_q8 (fun vs H Q E h => ?_) (fun cdv A outer s H vs Q E hr h => ?_)
  · obtain ⟨p, rfl, _⟩ := h
    rfl
  · obtain ⟨p, rfl, ⟨hp, p9, pj⟩, k⟩ := h
    have p2 := hp.1
    refine ⟨_, (pss_cons (ps_if (pt_cmpR op_eq (pv 0) pe_int (nomark _)) (pss_one (ps_ret (pe_tup (pa_cons pe_str pa_nil)))) pss_nil) (pss_one (ps_ret (pe_tup (pa_cons pe_str (pa_cons (pe_call (G_q26.mono (by omega)) hr rfl D_q26.mgx D_q26.fn.kp D_q26.bd .nil pass0 (pa_cons (pv 0) (pa_cons (pe_call (G_q41.mono (by omega)) hr rfl D_q41.mgx D_q41.fn.kp D_q41.bd .nil pass0 (pa_cons (pe_op op_sub (pv 0) pe_int) pa_nil)) pa_nil))) (pa_cons (pe_call (G_q40.mono (by omega)) hr rfl D_q40.mgx D_q40.fn.kp D_q40.bd .nil pass0 (pa_cons (pe_call (G_q51.mono (by omega)) hr rfl D_q51.mgx D_q51.fn.kp D_q51.bd .nil passE0 (pa_cons (pe_op op_sub (pv 0) pe_int) pa_nil)) pa_nil)) pa_nil))))))), ?_⟩
    have e0 : L2.start ["p"] [.int p] = [some (.int p)] := rfl
    rw [e0]; clear e0
    bv_omega
    refine ite2 (fun e2 => ?_) (fun e2 => ?_)
    · subst e2
      refine ⟨by show 1 ≤ sizeLine; decide, fun r hr' => k (.ref r) _ (fun b o e => keep e hr') ?_⟩
      rw [pap_two]
      exact ⟨r, _, rfl, SqT.of upd_same, _, _, rfl, rfl, rfl⟩
    · refine ⟨p - 1, rfl, ⟨by omega, by omega⟩, fun l2 c2 H1 hl2 S1 hc2 => ?_⟩
      obtain ⟨g, g1, g2, hg⟩ := prim_root hp
      refine ⟨p, c2, l2, rfl, hc2, ⟨hp, p9, fun q hq => ⟨(hl2.1.pr q hq).1.1, by have := (parts_le hl2 hq).1; omega⟩, g, g1, g2, (base_ord hp hl2 g1 g2).mpr hg⟩, fun rt hrt => ?_⟩
      replace hrt := hrt.root hp hl2
      try bv_omega
      refine ⟨.int (p - 1), _, rfl, .int _, fun h => (by rw [isBet_of (by omega) (by omega)] at h; cases h), fun n' en _ _ l c xs H2 hl S2 hc R => ?_⟩
      cases en
      have len : l.length < 30 := parts_len hl.1.pr (by rw [hl.2]; omega)
      refine ⟨c, l, xs, rfl, .inl hc, R, ⟨len, fun q hq => ⟨(hl.1.pr q hq).1, by have := (parts_le hl hq).1; omega, part_half hp pj hl hq⟩⟩, fun tl ys H3 S3 htl RY => ⟨by show 3 ≤ sizeLine; decide, fun r hr' => ?_⟩⟩
      refine k (.ref r) _ (fun b o e => keep (S3 _ _ (S2 _ _ (S1 _ _ e))) hr') ?_
      rw [pap_step e2 hl, lroot_eq hrt]
      exact ⟨r, _, rfl, SqT.of upd_same, _, _, rfl, rfl, _, _, rfl, rfl, _, _, rfl, ⟨tl, ys, rfl, SqT.of (keep htl hr'), RY.mono (TK.new hr') _ (noL_rows _ _)⟩, rfl⟩
theorem ok_full (D : Df_q8 K mg f fd) (T : Txt K mg t1 t2 cl) (o1 : ∀ b, O_q51 P w K mg b cl) (o2 : ∀ b, O_q41 P w K mg b) (o3 : ∀ b, O_q26 P w K mg b) {f1 fd1} (D1 : Df_q40 K mg f1 fd1) : ∀ (j : Nat) (b : Heap), FnOk P w K mg b CX0 (2 * j + 6) f fd ["p"] (spFP j K)
  | 0, _ => ok_fp0
  | j + 1, b => ok_fps (m := 2 * j) D T (o1 b) (o2 b) (o3 b) D1 (ok_frs (m := 2 * j + 6) D1 T D (ok_full D T o1 o2 o3 D1 j))
abbrev O_q8 (P : Program) (w : World) (K : PySem.W.Frag) (mg : Str → Option Value) (base : Heap) : Prop := ∃ f fd, Df_q8 K mg f fd ∧ FnOk P w K mg base CX0 66 f fd ["p"] (spFP 30 K)
abbrev s_q30 : Stmt := top 23
theorem sc_q30 : FnScope ["thing", "name"] ["thing", "name"] (defScope s_q30) := ⟨rfl, rfl, rfl, by decide +kernel, rfl, by decide +kernel, by decide +kernel⟩
abbrev Df_q30 (K : PySem.W.Frag) (mg : Str → Option Value) (f : Addr) (fd : FuncData) : Prop := Def K mg "want_prime" s_q30 ["thing", "name"] f fd
def spWantPr (K : PySem.W.Frag) (cl : Cl) : Sp := fun vs H Q E => ∃ (x : V) (n : String) (nm : Str), vs = [x, .str nm] ∧ TyOf K H x (.type n) ∧ nm.length ≤ 100 ∧ (isBet x 1 1000000000 = false → E (.ref cl.nn) none H) ∧ (∀ i, x = .int i → 1 ≤ i → i ≤ 1000000000 → (IsPr i → Q .non H) ∧ (¬ IsPr i → E (.ref cl.np) none H))
theorem ok_q30 (D : Df_q30 K mg f fd) (T : Txt K mg t1 t2 cl) (o1 : O_q25 P w K mg base cl) (o2 : O_q49 P w K mg base cl) : FnOk P w K mg base (CXE P w) 6 f fd ["thing", "name"] (spWantPr K cl) := by
  obtain ⟨_, _, D_q25, G_q25⟩ := o1
  obtain ⟨_, _, D_q49, G_q49⟩ := o2
  refine D.fn.okX sc_q30 (fun vs H Q E h => ?_) (fun cdv A outer s H vs Q E hr h => ?_)
  · obtain ⟨x, n, nm, rfl, _⟩ := h
    rfl
  · obtain ⟨x, n, nm, rfl, ty, b3, k1, k2⟩ := h
    refine ⟨_, (pss_cons (ps_expr (pe_call (G_q25.mono (by decide)) hr rfl D_q25.mgx D_q25.fn.kp D_q25.bd .nil (passes_cx (fun _ _ _ h => h)) (pa_cons (pv 0) (pa_cons (pv 1) pa_nil)))) (pss_one (ps_if (pt_not (pt_val (pe_call (G_q49.mono (by decide)) hr rfl D_q49.mgx D_q49.fn.kp D_q49.bd .nil (passes_cx (fun _ _ _ h => h)) (pa_cons (pv 0) pa_nil)))) (pss_one (ps_raise raises_cx rfl rfl T.mg_NoPrime T.xc_NoPrime (pe_joined (pj_cons (pe_fmt (pv 1)) (pj_cons pe_str pj_nil))))) pss_nil))), ?_⟩
    have e0 : L2.start ["thing", "name"] [x, .str nm] = [some (x), some (.str nm)] := rfl
    rw [e0]; clear e0
    bv_omega
    refine ⟨x, n, nm, rfl, ty, b3, fun hx => ?_, k1⟩
    obtain ⟨i, rfl, i1, i2⟩ := isBet_int hx
    obtain ⟨q1, q2⟩ := k2 i rfl i1 i2
    refine ⟨_, _, rfl, .int _, fun h => ?_, fun j ej _ _ => ?_⟩
    · rw [isBet_of (by omega) i2] at h; cases h
    cases ej
    bv_omega
    by_cases hp : IsPr i
    · rw [isPrB_of hp]
      bv_omega
      exact q1 hp
    · rw [isPrB_not hp]
      bv_omega
      have e0 : Str.empty.length = 0 := rfl
      have e1 : (Str.ofString " is no prime").length = 12 := by rfl
      refine .inl ⟨?_, ?_, ?_, ?_, q2 hp⟩ <;> (try simp only [Str.length_append, e0, e1]) <;> exact Nat.le_of_lt (small1000 (by omega))
abbrev O_q30 (P : Program) (w : World) (K : PySem.W.Frag) (mg : Str → Option Value) (base : Heap) (cl : Cl) : Prop := ∃ f fd, Df_q30 K mg f fd ∧ FnOk P w K mg base (CXE P w) 6 f fd ["thing", "name"] (spWantPr K cl)
abbrev s_q6 : Stmt := top 24
theorem sc_q6 : FnScope ["thing", "name"] ["thing", "name"] (defScope s_q6) := ⟨rfl, rfl, rfl, by decide +kernel, rfl, by decide +kernel, by decide +kernel⟩
abbrev Df_q6 (K : PySem.W.Frag) (mg : Str → Option Value) (f : Addr) (fd : FuncData) : Prop := Def K mg "want_odd_prime" s_q6 ["thing", "name"] f fd
def spWantOP (K : PySem.W.Frag) (cl : Cl) : Sp := fun vs H Q E => ∃ (x : V) (n : String) (nm : Str), vs = [x, .str nm] ∧ TyOf K H x (.type n) ∧ nm.length ≤ 100 ∧ (isBet x 1 1000000000 = false → E (.ref cl.nn) none H) ∧ (∀ i, x = .int i → 1 ≤ i → i ≤ 1000000000 → (IsPr i ∧ 3 ≤ i → Q .non H) ∧ (¬ (IsPr i ∧ 3 ≤ i) → E (.ref cl.np) none H))
theorem ok_q6 (D : Df_q6 K mg f fd) (T : Txt K mg t1 t2 cl) (o1 : O_q30 P w K mg base cl) : FnOk P w K mg base (CXE P w) 7 f fd ["thing", "name"] (spWantOP K cl) := by
  obtain ⟨_, _, D_q30, G_q30⟩ := o1
  refine D.fn.okX sc_q6 (fun vs H Q E h => ?_) (fun cdv A outer s H vs Q E hr h => ?_)
  · obtain ⟨x, n, nm, rfl, _⟩ := h
    rfl
  · obtain ⟨x, n, nm, rfl, ty, b3, k1, k2⟩ := h
    refine ⟨_, (pss_cons (ps_expr (pe_call (G_q30.mono (by decide)) hr rfl D_q30.mgx D_q30.fn.kp D_q30.bd .nil (passes_cx (fun _ _ _ h => h)) (pa_cons (pv 0) (pa_cons (pv 1) pa_nil)))) (pss_one (ps_if (pt_cmpR op_eq (pv 0) pe_int (nomark _)) (pss_one (ps_raise raises_cx rfl rfl T.mg_NoPrime T.xc_NoPrime (pe_joined (pj_cons (pe_fmt (pv 1)) (pj_cons pe_str pj_nil))))) pss_nil))), ?_⟩
    have e0 : L2.start ["thing", "name"] [x, .str nm] = [some (x), some (.str nm)] := rfl
    rw [e0]; clear e0
    bv_omega
    refine ⟨x, n, nm, rfl, ty, b3, k1, fun i ei i1 i2 => ⟨fun hp => ?_, fun hp => (k2 i ei i1 i2).2 fun z => hp z.1⟩⟩
    subst ei
    obtain ⟨q1, q2⟩ := k2 i rfl i1 i2
    have hp2 := hp.1
    refine ⟨rfl, ?_⟩
    by_cases e2 : i = 2
    · rw [if_pos (by rw [e2])]
      have e0 : Str.empty.length = 0 := rfl
      have e1 : (Str.ofString " is no odd prime").length = 16 := by rfl
      refine .inl ⟨?_, ?_, ?_, ?_, q2 (by omega)⟩ <;> (try simp only [Str.length_append, e0, e1]) <;> exact Nat.le_of_lt (small1000 (by omega))
    · rw [if_neg (fun z => e2 (by cases z; rfl))]
      exact q1 ⟨hp, by omega⟩
abbrev O_q6 (P : Program) (w : World) (K : PySem.W.Frag) (mg : Str → Option Value) (base : Heap) (cl : Cl) : Prop := ∃ f fd, Df_q6 K mg f fd ∧ FnOk P w K mg base (CXE P w) 7 f fd ["thing", "name"] (spWantOP K cl)
abbrev s_q54 : Stmt := top 60
theorem sc_q54 : FnScope ["n", "thing"] ["n", "thing"] (defScope s_q54) := ⟨rfl, rfl, rfl, by decide +kernel, rfl, by decide +kernel, by decide +kernel⟩
abbrev Df_q54 (K : PySem.W.Frag) (mg : Str → Option Value) (f : Addr) (fd : FuncData) : Prop := Def K mg "is_share" s_q54 ["n", "thing"] f fd
def spIsShare (K : PySem.W.Frag) (cl : Cl) : Sp := fun vs H Q E => ∃ (x u : V) (nx : String), vs = [x, u] ∧ TyOf K H x (.type nx) ∧ (isBet x 1 1000000000000000000000000000000 = false → E (.ref cl.nn) none H) ∧ ∀ n : Int, x = .int n → 1 ≤ n → n ≤ 10 ^ 30 → ∃ (d : Dt) (k : Nat), (Rep K H d u ∧ RP k false n d ∧ HeadIn d [Str.ofString "share"]) ∧ ∀ H', Same H H' → Q (.bl true) H'
theorem ok_q54 (D : Df_q54 K mg f fd) (T : Txt K mg t1 t2 cl) (o1 : O_q20 P w K mg base cl) (o2 : O_q7 P w K mg base) : FnOk P w K mg base (CXE P w) 7 f fd ["n", "thing"] (spIsShare K cl) := by
  obtain ⟨_, _, D_q20, G_q20⟩ := o1
  obtain ⟨_, _, D_q7, G_q7⟩ := o2
  refine D.fn.okX sc_q54 (fun vs H Q E h => ?_) (fun cdv A outer s H vs Q E hr h => ?_)
  · obtain ⟨x, u, nx, rfl, _⟩ := h
    rfl
  · obtain ⟨x, u, nx, rfl, tx, ke, kq⟩ := h
    refine ⟨_, (pss_cons (ps_expr (pe_call (G_q20.mono (by decide)) hr rfl D_q20.mgx D_q20.fn.kp D_q20.bd .nil (passes_cx (fun _ _ _ h => h)) (pa_cons (pv 0) (pa_cons pe_str pa_nil)))) (pss_one (ps_ret (pe_call (G_q7.mono (by decide)) hr rfl D_q7.mgx D_q7.fn.kp D_q7.bd .nil pass0 (pa_cons (pv 0) (pa_cons (pv 1) (pa_cons (pe_tup (pa_cons pe_str pa_nil)) pa_nil))))))), ?_⟩
    have e0 : L2.start ["n", "thing"] [x, u] = [some (x), some (u)] := rfl
    rw [e0]; clear e0
    bv_omega
    refine ⟨x, _, _, rfl, tx, by decide, fun hx => ?_, ke⟩
    obtain ⟨n, rfl, hb1, hb2⟩ := isBet_int hx
    obtain ⟨d, kk, ⟨R, rp, hd⟩, k⟩ := kq n rfl hb1 (by omega)
    refine ⟨by show 1 ≤ sizeLine; decide, fun p hp => ?_⟩
    have S : Same H (upd H p (.tup [.str (Str.ofString "share")])) := fun b o e => keep e hp
    exact ⟨⟨n, d, false⟩, u, p, kk, rfl, ⟨Rep.mono S.tk _ rp.nl R, rp.nl, rp, by show n ≤ 10 ^ 30; omega, ⟨[Str.ofString "share"], SqT.of upd_same, hd⟩⟩, fun H' S' => k _ (S.trans S')⟩
abbrev O_q54 (P : Program) (w : World) (K : PySem.W.Frag) (mg : Str → Option Value) (base : Heap) (cl : Cl) : Prop := ∃ f fd, Df_q54 K mg f fd ∧ FnOk P w K mg base (CXE P w) 7 f fd ["n", "thing"] (spIsShare K cl)
end
section
variable {P : Program} {w : World} {K : PySem.W.Frag} {mg : Str → Option Value} {base : Heap} {t1 t2 : Tok} {cl : Cl} {f : Addr} {fd : FuncData}
abbrev s_q2 : Stmt := top 65
theorem sc_q2 : FnScope ["p"] ["p"] (defScope s_q2) := ⟨rfl, rfl, rfl, by decide +kernel, rfl, by decide +kernel, by decide +kernel⟩
abbrev Df_q2 (K : PySem.W.Frag) (mg : Str → Option Value) (f : Addr) (fd : FuncData) : Prop := Def K mg "powers_of_parts" s_q2 ["p"] f fd
abbrev OB_q34 (P : Program) (w : World) (K : PySem.W.Frag) (mg : Str → Option Value) (cl : Cl) : Prop := ∃ f fd, Df_q34 K mg f fd ∧ ∀ b, FnOk P w K mg b CX0 1 f fd ["base", "often", "n"] spPower
def triD (q : Int × Int) : Dt := .tup [.int (pwq q), .int q.1, .int q.2]
theorem noLL_tri : ∀ l : List (Int × Int), noLL (l.map triD) = true
  | [] => rfl
  | q :: r => noLL_tri r
def spPows (K : PySem.W.Frag) : Sp := fun vs H Q _ => ∃ (p : Int), vs = [.int p] ∧ (IsPr p ∧ 3 ≤ p ∧ p ≤ 10 ^ 9) ∧ ∀ D ys H', Same H H' → H' D = some (.lst ys) → RepL K H' ((pl (p - 1)).map triD) ys → Q (.ref D) H'
theorem ok_q2 (D : Df_q2 K mg f fd) (T : Txt K mg t1 t2 cl) (o1 : O_q51 P w K mg base cl) (o2 : OB_q34 P w K mg cl) : FnOk P w K mg base CX0 6 f fd ["p"] (spPows K) := by
  obtain ⟨_, _, D_q51, G_q51⟩ := o1
  obtain ⟨_, _, D_q34, B_q34⟩ := o2
  refine D.fn.ok sc_q2 (fun vs H Q E h => ?_) (fun cdv A outer s H vs Q E hr h => ?_)
  · obtain ⟨p, rfl, _⟩ := h
    rfl
  · obtain ⟨p, rfl, ⟨hp, p3, p9⟩, k⟩ := h
    refine ⟨_, (pss_one (ps_ret (pe_compD (N := ["prime", "often", "p"]) (js := [none, none, some 0]) (by rfl) rfl (fun _ => rfl) (pi_tup (pe_call (G_q51.mono (by decide)) hr rfl D_q51.mgx D_q51.fn.kp D_q51.bd .nil passE0 (pa_cons (pe_op op_sub (pv 0) pe_int) pa_nil))) (by intro b _ _ _ _; exact (pg_tupK (K := K) (n := 2) rfl rfl (pgs_cons (pg_name (i := 0) (show List.Nodup (["prime", "often", "p"] : List Str) by decide) rfl (by subst_eqs)) (pgs_cons (pg_name (i := 1) (show List.Nodup (["prime", "often", "p"] : List Str) by decide) rfl (by subst_eqs)) pgs_nil)))) (by intro b _ _ _ _; exact pifs_nil) (by intro b _ _ _ _; exact (pe_tup (pa_cons (pe_call ((B_q34 b).mono (by decide)) hr rfl D_q34.mgx D_q34.fn.kp D_q34.bd .nil pass0 (pa_cons (pv 0) (pa_cons (pv 1) (pa_cons (pv 2) pa_nil)))) (pa_cons (pv 0) (pa_cons (pv 1) pa_nil)))))))), ?_⟩
    have e0 : L2.start ["p"] [.int p] = [some (.int p)] := rfl
    rw [e0]; clear e0
    bv_omega
    refine tCompC_of ?_
    refine ⟨_, rfl, p, 1, rfl, rfl, .int (p - 1), _, rfl, .int _, fun h => (by rw [isBet_of (by omega) (by omega)] at h; cases h), fun n' en _ _ l c xs H' hl S hc R => ?_⟩
    cases en
    have epl := pl_eq hl
    refine ⟨c, rfl, ⟨xs, SqT.of hc⟩, fun b D hcb hD => ?_⟩
    have len : l.length < 30 := parts_len hl.1.pr (by rw [hl.2]; omega)
    have elen : xs.length = l.length := by rw [← R.length, List.length_map]
    obtain ⟨Pv, hPv⟩ : ∃ Pv : Nat → St → Hp → Prop, ∀ i σ H2, Pv i σ H2 ↔ (∃ v1 v2, σ = [v1, v2, some (.int p)]) ∧ Same H' H2 ∧ ∃ ys, H2 D = some (.lst ys) ∧ RepL K H2 ((l.take i).map triD) ys := ⟨_, fun _ _ _ => Iff.rfl⟩
    refine comp_tup (xs := xs) Pv ((hPv _ _ _).mpr ⟨⟨_, _, rfl⟩, fun b o e => keep e hD, [], upd_same, rfl⟩) (fun i σ H2 hi h => ?_) ?_ ?_
    · obtain ⟨_, s2, _⟩ := (hPv _ _ _).mp h
      exact SqT.of (s2 _ _ hc)
    · intro i x σ H2 hx h
      obtain ⟨⟨v1, v2, rfl⟩, s2, ys, eD, RD'⟩ := (hPv _ _ _).mp h
      have il : i < xs.length := (List.getElem?_eq_some_iff.mp hx).1
      obtain ⟨q, cc, hq, rfl, hcc⟩ := repL_pD_get (R.mono s2.tk _ (noLL_pD l)) hx
      have hmem : q ∈ l := List.mem_of_getElem? hq
      have yl : ys.length ≤ l.length := by
        have := RD'.length
        rw [List.length_map, List.length_take] at this
        omega
      have q2 := hl.1.pr q hmem
      have qq := q2.1.1
      have ql := (parts_le hl hmem)
      have pw1 : 1 ≤ pwq q := pow_pos' (by omega) _
      have pwl : pwq q ≤ p - 1 := by
        rw [← hl.2]
        obtain ⟨a, b, rfl⟩ := List.append_of_mem hmem
        have pa : Pos (a ++ b) := fun x hx => pow_pos' (by have := (hl.1.pr x (List.mem_append.mpr ((List.mem_append.mp hx).imp id (List.mem_cons_of_mem _)))).1.1; omega) _
        have := pos_prod pa
        rw [prod_perm List.perm_middle, prod_cons']
        exact le_mul1 (by omega) this
      have ew : q.1 ^ q.2.toNat % p = pwq q := Int.emod_eq_of_lt (show 0 ≤ pwq q by omega) (show pwq q < p by omega)
      (try dsimp only [CT, tYes]); bv_omega
      refine ⟨_, hcc, rfl, ?_⟩
      bv_omega
      refine ⟨q.1, q.2, p, rfl, ⟨by omega, by omega, by omega, by omega⟩, ?_⟩
      rw [ew]
      refine ⟨by show 3 ≤ sizeLine; decide, fun r hr' => ?_⟩
      have nrD : D ≠ r := ne_of_none eD hr'
      have tk3 : TK H2 (upd (upd H2 r (.tup [.int (pwq q), .int q.1, .int q.2])) D (.lst (ys ++ [.ref r]))) := (TK.new hr').trans (TK.lst (keep eD hr'))
      refine ⟨ys, keep eD hr', small1000 (by omega), (hPv _ _ _).mpr ⟨⟨_, _, rfl⟩, fun b o e => ?_, _, upd_same, ?_⟩⟩
      · rw [upd_ne (ne_of_none e hD)]
        exact keep (s2 _ _ e) hr'
      · rw [List.take_succ, hq, List.map_append]
        refine (RD'.mono tk3 _ (noLL_tri _)).append ⟨_, [], rfl, ⟨r, _, rfl, SqT.of (by rw [upd_ne nrD.symm, upd_same]), _, _, rfl, rfl, _, _, rfl, rfl, _, _, rfl, rfl, rfl⟩, rfl⟩
    · intro σ H2 h
      obtain ⟨⟨v1, v2, rfl⟩, s2, ys, eD, RD'⟩ := (hPv _ _ _).mp h
      rw [elen, List.take_length, ← epl] at RD'
      exact k D ys H2 (S.trans s2) eD RD'
abbrev O_q2 (P : Program) (w : World) (K : PySem.W.Frag) (mg : Str → Option Value) (base : Heap) : Prop := ∃ f fd, Df_q2 K mg f fd ∧ FnOk P w K mg base CX0 6 f fd ["p"] ((spPows K))
end
section
variable {P : Program} {w : World} {K : PySem.W.Frag} {mg : Str → Option Value} {base : Heap} {t1 t2 : Tok} {cl : Cl} {f : Addr} {fd : FuncData}
theorem ix_tupK {X : Cx} {K : PySem.W.Frag} (hK : X.K = K) : IxR X (rIxT K) := by subst hK; exact ix_tup
abbrev s_q12 : Stmt := top 64
theorem sc_q12 : FnScope ["p", "taken", "product", "power", "prime", "often"] ["p"] (defScope s_q12) := ⟨rfl, rfl, rfl, by decide +kernel, rfl, by decide +kernel, by decide +kernel⟩
abbrev Df_q12 (K : PySem.W.Frag) (mg : Str → Option Value) (f : Addr) (fd : FuncData) : Prop := Def K mg "fewest_parts" s_q12 ["p"] f fd
theorem fst_of {K : PySem.W.Frag} {H : Hp} {α : Type} {f : α → Dt} {g : α → Int} {r : α → List Dt} (hf : ∀ a, f a = .tup (.int (g a) :: r a)) : ∀ {l : List α} {ys : List V}, RepL K H (l.map f) ys → Fst K H ys (l.map g) := by
  intro l
  induction l with
  | nil =>
    intro ys R
    cases (show ys = [] from R)
    exact ⟨rfl, fun i y e => by cases e⟩
  | cons a l ih =>
    intro ys R
    obtain ⟨x, r', rfl, R1, R2⟩ := R
    obtain ⟨e1, e2⟩ := ih R2
    refine ⟨by rw [List.map_cons, List.length_cons, List.length_cons, e1], fun i y e => ?_⟩
    cases i with
    | zero =>
      cases e
      rw [hf] at R1
      obtain ⟨c, zs, rfl, hc, z1, zr, rfl, rfl, _⟩ := R1
      exact ⟨c, zr, rfl, hc⟩
    | succ i => exact e2 i y e
theorem repL_getD {K : PySem.W.Frag} {H : Hp} {d0 : Dt} : ∀ {ds : List Dt} {xs : List V}, RepL K H ds xs → ∀ i, i < ds.length → Rep K H (ds.getD i d0) (xs.getD i .non)
  | [], _, _, i, hi => absurd hi (Nat.not_lt_zero _)
  | d :: ds, _, ⟨x, r, e, R1, R2⟩, 0, _ => by subst e; exact R1
  | d :: ds, _, ⟨x, r, e, R1, R2⟩, i + 1, hi => by subst e; exact repL_getD R2 i (Nat.lt_of_succ_lt_succ hi)
theorem repL_at {K : PySem.W.Frag} {H : Hp} {α : Type} {f : α → Dt} {a0 : α} {l : List α} {xs : List V} (R : RepL K H (l.map f) xs) : ∀ {q : List Nat}, (∀ i ∈ q, i < l.length) → RepL K H ((q.map fun i => l.getD i a0).map f) (q.map fun i => xs.getD i .non)
  | [], _ => rfl
  | i :: q, h => by
    have hi := h i List.mem_cons_self
    have e := repL_getD (d0 := f a0) R i (by rw [List.length_map]; exact hi)
    refine ⟨_, _, rfl, ?_, repL_at R fun j hj => h j (List.mem_cons_of_mem _ hj)⟩
    rw [List.getD_eq_getElem?_getD, List.getElem?_map, List.getElem?_eq_getElem hi] at e
    show Rep K H (f (l.getD i a0)) _
    rw [List.getD_eq_getElem?_getD, List.getElem?_eq_getElem hi]
    exact e
theorem perm_at {α : Type} {a0 : α} {l : List α} {q : List Nat} (h : q.Perm (List.range l.length)) : (q.map fun i => l.getD i a0).Perm l := by
  have e : ((List.range l.length).map fun i => l.getD i a0) = l := by
    refine List.ext_getElem (by simp) fun i h1 h2 => ?_
    rw [List.getElem_map, List.getElem_range, List.getD_eq_getElem?_getD, List.getElem?_eq_getElem h2]; rfl
  have := h.map fun i => l.getD i a0
  rwa [e] at this
theorem keys_at {α : Type} {a0 : α} {g : α → Int} {l : List α} {q : List Nat} (h : ∀ i ∈ q, i < l.length) : (q.map fun i => (l.map g).getD i 0) = (q.map fun i => l.getD i a0).map g := by
  rw [List.map_map]
  refine List.map_congr_left fun i hi => ?_
  have := h i hi
  show (l.map g).getD i 0 = g (l.getD i a0)
  rw [List.getD_eq_getElem?_getD, List.getD_eq_getElem?_getD, List.getElem?_map, List.getElem?_eq_getElem this]; rfl
theorem nd_pw {n : Int} {l : List (Int × Int)} (h : Parts n l) : (l.map pwq).Nodup := by
  show (l.map pwq).Pairwise (· ≠ ·)
  rw [List.pairwise_map]
  refine h.1.up.imp_of_mem fun {a b} ha hb hab e => ?_
  have := pwq_inj h ha hb e
  rw [this] at hab
  omega
theorem nd_fst {l : List (Int × Int)} {R : Int × Int → Int × Int → Prop} (h : l.Pairwise R) (hr : ∀ a ∈ l, ∀ b ∈ l, R a b → a.1 ≠ b.1) : (l.map Prod.fst).Nodup := by
  show (l.map Prod.fst).Pairwise (· ≠ ·)
  rw [List.pairwise_map]
  exact h.imp_of_mem fun {a b} ha hb hab => hr a ha b hb hab
def spFew (K : PySem.W.Frag) : Sp := fun vs H Q _ => ∃ (p : Int), vs = [.int p] ∧ (IsPr p ∧ 3 ≤ p ∧ p ≤ 10 ^ 9) ∧ ∀ l' m D ys H', Few p l' m → Same H H' → H' D = some (.lst ys) → RepL K H' ((l'.take m).map pD) ys → Q (.ref D) H'
theorem ok_q12 (D : Df_q12 K mg f fd) (T : Txt K mg t1 t2 cl) (o1 : O_q2 P w K mg base) : FnOk P w K mg base CX0 7 f fd ["p"] (spFew K) := by
  obtain ⟨_, _, D_q2, G_q2⟩ := o1
  refine D.fn.ok sc_q12 (fun vs H Q E h => ?_) (fun cdv A outer s H vs Q E hr h => ?_)
  · obtain ⟨p, rfl, _⟩ := h
    rfl
  · obtain ⟨p, rfl, ⟨hp, p3, p9⟩, k⟩ := h
    have hl := pl_ok (show 1 ≤ p - 1 by omega)
    have len : (pl (p - 1)).length < 30 := parts_len hl.1.pr (by rw [hl.2]; omega)
    refine ⟨_, (pss_cons (ps_set (i := 1) sc_q12.nd rfl (by subst_eqs) (pe_lst pa_nil)) (pss_cons (ps_set (i := 2) sc_q12.nd rfl (by subst_eqs) pe_int) (pss_cons (ps_for PassesOwn.never rfl (pi_list (pe_srtR rfl (by rfl) T.no_sorted (pa_cons (pe_call (G_q2.mono (by decide)) hr rfl D_q2.mgx D_q2.fn.kp D_q2.bd .nil pass0 (pa_cons (pv 0) pa_nil)) pa_nil))) (pg_tup rfl (pgs_cons (pg_name (i := 3) sc_q12.nd rfl (by subst_eqs)) (pgs_cons (pg_name (i := 4) sc_q12.nd rfl (by subst_eqs)) (pgs_cons (pg_name (i := 5) sc_q12.nd rfl (by subst_eqs)) pgs_nil)))) (pss_one (ps_if (pt_cmpR op_le (pe_op op_mulB (pv 2) (pv 2)) (pv 0) (nomark _)) (pss_cons (ps_set (i := 2) sc_q12.nd rfl (by subst_eqs) (pe_op op_mulB (pv 2) (pv 3))) (pss_one (ps_expr (pe_bm PySem.F.plainAttrs_list PySem.F.slot_list_append PySem.F.type_list_append mt_append (pv 1) (pa_cons (pe_tup (pa_cons (pv 4) (pa_cons (pv 5) pa_nil))) pa_nil))))) pss_nil))) (pss_one (ps_ret (pv 1)))))), ?_⟩
    have e0 : L2.start ["p", "taken", "product", "power", "prime", "often"] [.int p] = [some (.int p), none, none, none, none, none] := rfl
    rw [e0]; clear e0
    refine tSeq_gen fun R0 hR0 => ?_
    bv_omega
    refine ⟨Nat.zero_le _, fun tk htk => ?_⟩
    subst hR0
    refine tSeq_gen fun R0 hR0 => ?_
    bv_omega
    subst hR0
    refine tSeq_gen fun R0 hR0 => ?_
    dsimp only [tSeq]
    refine tFor_list ?_
    bv_omega
    refine ⟨p, rfl, ⟨hp, p3, p9⟩, fun D ys H1 S1 hD R => ?_⟩
    have htk1 : H1 tk = some (.lst []) := S1 _ _ upd_same
    have yl : ys.length = (pl (p - 1)).length := by rw [← R.length, List.length_map]
    refine ⟨D, ys, (pl (p - 1)).map pwq, rfl, hD, fst_of (f := triD) (g := pwq) (r := fun q => [.int q.1, .int q.2]) (fun _ => rfl) R, nd_pw hl, by omega, fun sp q hsp hq hk => ?_⟩
    have ns : sp ≠ tk := fun e => by rw [e, htk1] at hsp; cases hsp
    rw [yl] at hq
    have qb : ∀ i ∈ q, i < (pl (p - 1)).length := fun i hi => List.mem_range.mp (hq.mem_iff.mp hi)
    rw [keys_at (a0 := (0, 0)) qb] at hk
    have R2 := repL_at (a0 := (0, 0)) (R.mono (TK.new (o := .lst (q.map fun i => ys.getD i .non)) hsp) _ (noLL_tri _)) qb
    have pm := perm_at (a0 := ((0, 0) : Int × Int)) hq
    have zl : (q.map fun i => ys.getD i V.non).length = (q.map fun i => (pl (p - 1)).getD i ((0, 0) : Int × Int)).length := by rw [List.length_map, List.length_map]
    generalize hl' : (q.map fun i => (pl (p - 1)).getD i ((0, 0) : Int × Int)) = l' at hk R2 pm zl
    have hsp2 : (upd H1 sp (.lst (q.map fun i => ys.getD i .non))) sp = some (.lst (q.map fun i => ys.getD i .non)) := upd_same
    have S2 : Same H1 (upd H1 sp (.lst (q.map fun i => ys.getD i .non))) := fun b o e => keep e hsp
    have htk2 := S2 _ _ htk1
    generalize (q.map fun i => ys.getD i .non) = zs at R2 hsp2 S2 htk2 zl ⊢
    generalize upd H1 sp (.lst zs) = H2 at R2 hsp2 S2 htk2 ⊢
    have ds : dsc l' := by
      have := (List.pairwise_map.mp hk).imp (S := fun x y => pwq y < pwq x) fun {a b} h => by simpa using h
      exact this
    have po : Pos l' := fun x hx => pow_pos' (by have := (hl.1.pr x (pm.mem_iff.mp hx)).1.1; omega) _
    have ll : l'.length < 30 := by rw [pm.length_eq]; exact len
    have tot : prod l' = p - 1 := by rw [prod_perm pm, hl.2]
    have ple : ∀ i, 1 ≤ prod (l'.take i) ∧ prod (l'.take i) ≤ p - 1 := fun i => by
      have a := pos_prod (l := l'.take i) fun x hx => po x (List.mem_of_mem_take hx)
      have b := pos_prod (l := l'.drop i) fun x hx => po x (List.mem_of_mem_drop hx)
      have e : prod (l'.take i ++ l'.drop i) = prod (l'.take i) * prod (l'.drop i) := prod_app32 _ _
      rw [List.take_append_drop, tot] at e
      have := le_mul1 (show 0 ≤ prod (l'.take i) by omega) b
      exact ⟨a, by omega⟩
    have S02 : Same (upd H tk (.lst [])) H2 := S1.trans S2
    have S0 : Same H H2 := fun b o e => S02 _ _ (keep e htk)
    have Htk : H tk = none := htk
    refine ⟨sp, rfl, ⟨_, SqL.of hsp2⟩, ?_⟩
    obtain ⟨Pf, hPf⟩ : ∃ Pf : Nat → St → Hp → Prop, ∀ i σ H', Pf i σ H' ↔ ∃ m v3 v4 v5 xs, σ = [some (.int p), some (.ref tk), some (.int (prod (l'.take m))), v3, v4, v5] ∧ m ≤ i ∧ (m = i ∨ p < prod (l'.take m) * prod (l'.take m)) ∧ (∀ j, j < m → prod (l'.take j) * prod (l'.take j) ≤ p) ∧ Same H H' ∧ TK H2 H' ∧ H' sp = some (.lst zs) ∧ H' tk = some (.lst xs) ∧ RepL K H' ((l'.take m).map pD) xs := ⟨_, fun _ _ _ => Iff.rfl⟩
    refine fl_of (xs := zs) Pf ((hPf _ _ _).mpr ⟨0, none, none, none, [], rfl, Nat.le_refl _, .inl rfl, fun j hj => absurd hj (Nat.not_lt_zero _), S0, TK.refl _, hsp2, htk2, rfl⟩) (fun i σ H' _ h => ?_) ?_ ?_
    · obtain ⟨m, v3, v4, v5, xs, rfl, _, _, _, _, _, h, _⟩ := (hPf _ _ _).mp h
      exact SqL.of h
    · intro i x σ H' hx h
      obtain ⟨m, v3, v4, v5, xs, rfl, mi, md, ms, S3, t3, hs3, ht3, R3⟩ := (hPf _ _ _).mp h
      have il : i < l'.length := by have := (List.getElem?_eq_some_iff.mp hx).1; omega
      have Rx : Rep K H' (triD (l'.getD i (0, 0))) x := by
        have a := repL_getD (d0 := triD (0, 0)) (R2.mono t3 _ (noLL_tri _)) i (by rw [List.length_map]; exact il)
        rw [List.getD_eq_getElem?_getD, List.getElem?_map, List.getElem?_eq_getElem il, List.getD_eq_getElem?_getD, hx] at a
        rw [List.getD_eq_getElem?_getD, List.getElem?_eq_getElem il]
        exact a
      have gi : l'[i]? = some (l'.getD i (0, 0)) := by rw [List.getD_eq_getElem?_getD, List.getElem?_eq_getElem il]; rfl
      generalize l'.getD i (0, 0) = qi at Rx gi
      obtain ⟨c2, zs2, rfl, hc2, _, _, rfl, rfl, _, _, rfl, rfl, _, _, rfl, rfl, rfl⟩ := Rx
      have p1 := ple m
      bv_omega
      refine ⟨_, hc2, rfl, ?_⟩
      bv_omega
      refine ⟨.inr ⟨by omega, by omega⟩, ?_⟩
      refine ite2 (fun hg => ?_) (fun hg => ?_)
      · have em : m = i := by
          rcases md with h | h
          · exact h
          · omega
        subst em
        have et : l'.take (m + 1) = l'.take m ++ [qi] := by rw [List.take_succ, gi]; rfl
        have p2 := ple (m + 1)
        have ep : prod (l'.take (m + 1)) = prod (l'.take m) * pwq qi := by rw [et, prod_snoc']
        have xl : xs.length ≤ 30 := by
          have := R3.length
          rw [List.length_map, List.length_take] at this
          omega
        have qp := po qi (List.mem_of_getElem? gi)
        have ql : pwq qi ≤ p - 1 := by
          have := Int.mul_le_mul_of_nonneg_right p1.1 (show 0 ≤ pwq qi by omega)
          omega
        refine ⟨.inr ⟨by omega, by omega⟩, .inl ⟨_, SqL.of ht3⟩, by show 2 ≤ sizeLine; decide, fun r hr' => ?_⟩
        have nrt : tk ≠ r := ne_of_none ht3 hr'
        refine ⟨xs, keep ht3 hr', small1000 (by omega), (hPf _ _ _).mpr ⟨m + 1, _, _, _, _, by rw [ep], Nat.le_refl _, .inl rfl, fun j hj => ?_, fun b o e => ?_, t3.trans ((TK.new hr').trans (TK.lst (keep ht3 hr'))), ?_, upd_same, ?_⟩⟩
        · by_cases e : j = m
          · subst e; exact hg
          · exact ms j (by omega)
        · rw [upd_ne (ne_of_none e Htk)]
          exact keep (S3 _ _ e) hr'
        · rw [upd_ne ns]
          exact keep hs3 hr'
        · rw [et, List.map_append]
          have tk3 : TK H' (upd (upd H' r (.tup [.int qi.1, .int qi.2])) tk (.lst (xs ++ [.ref r]))) := (TK.new hr').trans (TK.lst (keep ht3 hr'))
          exact (R3.mono tk3 _ (noLL_pD _)).append ⟨_, [], rfl, rep_pair (by rw [upd_ne nrt.symm, upd_same]), rfl⟩
      · refine (hPf _ _ _).mpr ⟨m, _, _, _, xs, rfl, by omega, .inr (by omega), ms, S3, t3, hs3, ht3, R3⟩
    · intro σ H' h
      obtain ⟨m, v3, v4, v5, xs, rfl, mi, md, ms, S3, t3, hs3, ht3, R3⟩ := (hPf _ _ _).mp h
      rw [zl] at mi md
      subst hR0
      bv_omega
      refine k l' m tk xs _ ⟨pm, ds, mi, ?_, ms⟩ S3 ht3 R3
      rcases md with h | h
      · subst h
        rw [List.take_length, tot]
        have := Int.mul_le_mul_of_nonneg_left (show (2 : Int) ≤ p - 1 by omega) (show 0 ≤ p - 1 by omega)
        omega
      · exact h
abbrev O_q12 (P : Program) (w : World) (K : PySem.W.Frag) (mg : Str → Option Value) (base : Heap) : Prop := ∃ f fd, Df_q12 K mg f fd ∧ FnOk P w K mg base CX0 7 f fd ["p"] ((spFew K))
abbrev s_q28 : Stmt := top 62
theorem sc_q28 : FnScope ["p", "rows"] ["p", "rows"] (defScope s_q28) := ⟨rfl, rfl, rfl, by decide +kernel, rfl, by decide +kernel, by decide +kernel⟩
abbrev Df_q28 (K : PySem.W.Frag) (mg : Str → Option Value) (f : Addr) (fd : FuncData) : Prop := Def K mg "share_with" s_q28 ["p", "rows"] f fd
abbrev O_q40 (P : Program) (w : World) (K : PySem.W.Frag) (mg : Str → Option Value) (base : Heap) : Prop := ∃ f fd, Df_q40 K mg f fd ∧ FnOk P w K mg base CX0 67 f fd ["parts"] (spFR 30 K)
theorem ok_q40 (D : Df_q40 K mg f fd) (T : Txt K mg t1 t2 cl) {f1 fd1} (D1 : Df_q8 K mg f1 fd1) (B : ∀ b, FnOk P w K mg b CX0 66 f1 fd1 ["p"] (spFP 30 K)) : FnOk P w K mg base CX0 67 f fd ["parts"] (spFR 30 K) := ok_frs (m := 66) D T D1 B
def spSW (K : PySem.W.Frag) : Sp := fun vs H Q _ => ∃ (p : Int) (tl : Addr) (l : List (Int × Int)) (ys : List V), vs = [.int p, .ref tl] ∧ H tl = some (.tup ys) ∧ RepL K H (l.map (rowD 30)) ys ∧ (IsPr p ∧ 3 ≤ p ∧ p ≤ 10 ^ 9 ∧ l.length < 30 ∧ ∀ q ∈ l, q ∈ pl (p - 1)) ∧ ∀ b v H', LBs p b l → Same H H' → Rep K H' (spD b l) v → Q v H'
theorem ok_q28 (D : Df_q28 K mg f fd) (T : Txt K mg t1 t2 cl) (o1 : O_q26 P w K mg base) : FnOk P w K mg base CX0 4 f fd ["p", "rows"] (spSW K) := by
  obtain ⟨_, _, D_q26, G_q26⟩ := o1
  refine D.fn.ok sc_q28 (fun vs H Q E h => ?_) (fun cdv A outer s H vs Q E hr h => ?_)
  · obtain ⟨p, tl, l, ys, rfl, _⟩ := h
    rfl
  · obtain ⟨p, tl, l, ys, rfl, htl, R, ⟨hp, p3, p9, len, hm⟩, k⟩ := h
    have hl := pl_ok (show 1 ≤ p - 1 by omega)
    have elen : ys.length = l.length := by rw [← R.length, List.length_map]
    refine ⟨_, (pss_one (ps_ret (pe_tup (pa_cons pe_str (pa_cons (pe_call (G_q26.mono (by decide)) hr rfl D_q26.mgx D_q26.fn.kp D_q26.bd .nil pass0 (pa_cons (pv 0) (pa_cons (pe_compD (N := ["row"]) (js := [none]) (by rfl) rfl (fun _ => rfl) (pi_tup (pv 1)) (by intro b _ _ _ _; exact (pg_name (i := 0) (show List.Nodup (["row"] : List Str) by decide) rfl (by subst_eqs))) (by intro b _ _ _ _; exact pifs_nil) (by intro b _ _ _ _; exact (pe_ix (ix_tupK (K := K) rfl) (pv 0) pe_int (fun _ _ => rfl)))) pa_nil))) (pa_cons (pv 1) pa_nil)))))), ?_⟩
    have e0 : L2.start ["p", "rows"] [.int p, .ref tl] = [some (.int p), some (.ref tl)] := rfl
    rw [e0]; clear e0
    bv_omega
    refine tCompC_of ?_
    refine ⟨_, rfl, tl, rfl, ⟨ys, SqT.of htl⟩, fun b D hcb hD => ?_⟩
    obtain ⟨Pv, hPv⟩ : ∃ Pv : Nat → St → Hp → Prop, ∀ i σ H2, Pv i σ H2 ↔ (∃ v1, σ = [v1]) ∧ Same H H2 ∧ H2 D = some (.lst (prV (l.take i))) := ⟨_, fun _ _ _ => Iff.rfl⟩
    refine comp_tup (xs := ys) Pv ((hPv _ _ _).mpr ⟨⟨_, rfl⟩, fun b o e => keep e hD, upd_same⟩) (fun i σ H2 hi h => ?_) ?_ ?_
    · obtain ⟨_, s2, _⟩ := (hPv _ _ _).mp h
      exact SqT.of (s2 _ _ htl)
    · intro i x σ H2 hx h
      obtain ⟨⟨v1, rfl⟩, s2, eD⟩ := (hPv _ _ _).mp h
      have il : i < l.length := by have := (List.getElem?_eq_some_iff.mp hx).1; omega
      have Rx : Rep K H2 (rowD 30 (l.getD i (0, 0))) x := by
        have a := repL_getD (d0 := rowD 30 (0, 0)) (R.mono s2.tk _ (noL_rows _ _)) i (by rw [List.length_map]; exact il)
        rw [List.getD_eq_getElem?_getD, List.getElem?_map, List.getElem?_eq_getElem il, List.getD_eq_getElem?_getD, hx] at a
        rw [List.getD_eq_getElem?_getD, List.getElem?_eq_getElem il]
        exact a
      have gi : l[i]? = some (l.getD i (0, 0)) := by rw [List.getD_eq_getElem?_getD, List.getElem?_eq_getElem il]; rfl
      generalize l.getD i (0, 0) = q at Rx gi
      obtain ⟨c2, zs2, rfl, hc2, _, _, rfl, rfl, _, _, rfl, rfl, z3, _, rfl, R8, rfl⟩ := Rx
      (try dsimp only [CT, tYes]); bv_omega
      refine ⟨c2, _, _, _, rfl, rfl, hc2, rfl, ?_⟩
      refine ⟨_, eD, ?_, (hPv _ _ _).mpr ⟨⟨_, rfl⟩, fun b o e => ?_, ?_⟩⟩
      · refine small1000 ?_
        unfold prV
        rw [List.length_map, List.length_take]
        omega
      · rw [upd_ne (ne_of_none e hD)]
        exact s2 _ _ e
      · rw [upd_same]
        unfold prV
        rw [List.take_succ, gi, List.map_append]; rfl
    · intro σ H2 h
      obtain ⟨⟨v1, rfl⟩, s2, eD⟩ := (hPv _ _ _).mp h
      rw [elen, List.take_length] at eD
      obtain ⟨g, g1, g2, hg⟩ := prim_root hp
      have hb := (base_ord hp hl g1 g2).mpr hg
      try bv_omega
      refine ⟨p, D, l, rfl, eD, ⟨hp, p9, fun q hq => ⟨(hl.1.pr q (hm q hq)).1.1, by have := (parts_le hl (hm q hq)).1; omega⟩, g, g1, g2, fun q hq => hb q (hm q hq)⟩, fun b2 hb2 => ⟨by show 3 ≤ sizeLine; decide, fun r hr' => ?_⟩⟩
      refine k b2 (.ref r) _ hb2 (fun b o e => keep (s2 _ _ e) hr') ?_
      exact ⟨r, _, rfl, SqT.of upd_same, _, _, rfl, rfl, _, _, rfl, rfl, _, _, rfl, ⟨tl, ys, rfl, SqT.of (keep (s2 _ _ htl) hr'), R.mono (s2.tk.trans (TK.new hr')) _ (noL_rows _ _)⟩, rfl⟩
abbrev O_q28 (P : Program) (w : World) (K : PySem.W.Frag) (mg : Str → Option Value) (base : Heap) : Prop := ∃ f fd, Df_q28 K mg f fd ∧ FnOk P w K mg base CX0 4 f fd ["p", "rows"] ((spSW K))
abbrev s_q19 : Stmt := top 61
theorem sc_q19 : FnScope ["n"] ["n"] (defScope s_q19) := ⟨rfl, rfl, rfl, by decide +kernel, rfl, by decide +kernel, by decide +kernel⟩
abbrev Df_q19 (K : PySem.W.Frag) (mg : Str → Option Value) (f : Addr) (fd : FuncData) : Prop := Def K mg "share_paper" s_q19 ["n"] f fd
def spShP (K : PySem.W.Frag) (cl : Cl) : Sp := fun vs H Q E => ∃ (x : V) (nx : String), vs = [x] ∧ TyOf K H x (.type nx) ∧ (isBet x 1 1000000000 = false → E (.ref cl.nn) none H) ∧ ∀ n : Int, x = .int n → 1 ≤ n → n ≤ 1000000000 → (¬ (IsPr n ∧ 3 ≤ n) → Q .non H) ∧ (IsPr n → 3 ≤ n → ∀ l' m l b v H', SPd n l' m l b → Same H H' → Rep K H' (spD b l) v → Q v H')
theorem ok_q19 (D : Df_q19 K mg f fd) (T : Txt K mg t1 t2 cl) (o1 : O_q25 P w K mg base cl) (o2 : O_q49 P w K mg base cl) (o3 : O_q12 P w K mg base) (o4 : O_q40 P w K mg base) (o5 : O_q28 P w K mg base) : FnOk P w K mg base (CXE P w) 68 f fd ["n"] (spShP K cl) := by
  obtain ⟨_, _, D_q25, G_q25⟩ := o1
  obtain ⟨_, _, D_q49, G_q49⟩ := o2
  obtain ⟨_, _, D_q12, G_q12⟩ := o3
  obtain ⟨_, _, D_q40, G_q40⟩ := o4
  obtain ⟨_, _, D_q28, G_q28⟩ := o5
  refine D.fn.okX sc_q19 (fun vs H Q E h => ?_) (fun cdv A outer s H vs Q E hr h => ?_)
  · obtain ⟨x, nx, rfl, _⟩ := h
    rfl
  · obtain ⟨x, nx, rfl, tx, ke, kq⟩ := h
    refine ⟨_, (pss_cons (ps_expr (pe_call (G_q25.mono (by decide)) hr rfl D_q25.mgx D_q25.fn.kp D_q25.bd .nil (passes_cx (fun _ _ _ h => h)) (pa_cons (pv 0) (pa_cons pe_str pa_nil)))) (pss_cons (ps_if (PW.pt (pw_or (pt_cmpR op_eq (pv 0) pe_int (nomark _)) (pw_or1 (pt_not (pt_val (pe_call (G_q49.mono (by decide)) hr rfl D_q49.mgx D_q49.fn.kp D_q49.bd .nil (passes_cx (fun _ _ _ h => h)) (pa_cons (pv 0) pa_nil))))))) (pss_one (ps_ret pe_non)) pss_nil) (pss_one (ps_ret (pe_call (G_q28.mono (by decide)) hr rfl D_q28.mgx D_q28.fn.kp D_q28.bd .nil pass0 (pa_cons (pv 0) (pa_cons (pe_call (G_q40.mono (by decide)) hr rfl D_q40.mgx D_q40.fn.kp D_q40.bd .nil pass0 (pa_cons (pe_callB call_srt (by rfl) T.no_sorted PyProof.Rows.boot_sorted (pa_cons (pe_call (G_q12.mono (by decide)) hr rfl D_q12.mgx D_q12.fn.kp D_q12.bd .nil pass0 (pa_cons (pv 0) pa_nil)) pa_nil)) pa_nil)) pa_nil))))))), ?_⟩
    have e0 : L2.start ["n"] [x] = [some (x)] := rfl
    rw [e0]; clear e0
    refine tSeq_gen fun R0 hR0 => ?_
    bv_omega
    refine ⟨x, nx, _, rfl, tx, by decide, fun hx => ?_, ke⟩
    obtain ⟨n, rfl, hb1, hb2⟩ := isBet_int hx
    obtain ⟨kn, kp⟩ := kq n rfl hb1 hb2
    subst hR0
    refine tSeq_gen fun R0 hR0 => ?_
    bv_omega
    by_cases hn : IsPr n ∧ 3 ≤ n
    · obtain ⟨hp, n3⟩ := hn
      refine ite2 (fun e => by omega) (fun _ => ?_)
      refine ⟨.int n, _, rfl, .int _, fun h => (by rw [isBet_of (by omega) hb2] at h; cases h), fun n' en _ _ => ?_⟩
      cases en
      rw [isPrB_of hp]
      bv_omega
      subst hR0
      bv_omega
      refine ⟨n, rfl, ⟨hp, n3, by omega⟩, fun l' m D ys H1 hf S1 hD R => ?_⟩
      have n9 : n ≤ 10 ^ 9 := by omega
      have hl := pl_ok (show 1 ≤ n - 1 by omega)
      have ll : (l'.take m).length < 30 := by
        have := parts_len hl.1.pr (show prod (pl (n - 1)) ≤ 10 ^ 9 by rw [hl.2]; omega)
        rw [List.length_take, hf.pm.length_eq]
        omega
      have mem : ∀ q ∈ l'.take m, q ∈ pl (n - 1) := fun q hq => hf.pm.mem_iff.mp (List.mem_of_mem_take hq)
      have nd : ((l'.take m).map Prod.fst).Nodup := nd_fst (R := fun x y => pwq y < pwq x) (hf.ds.sublist (List.take_sublist _ _)) fun a ha b hb hab e => by
        have := up_inj hl.1.up (mem a ha) (mem b hb) e
        rw [this] at hab
        omega
      have yl : ys.length = (l'.take m).length := by rw [← R.length, List.length_map]
      refine ⟨D, ys, (l'.take m).map Prod.fst, rfl, hD, fst_of (f := pD) (g := Prod.fst) (r := fun q => [.int q.2]) (fun _ => rfl) R, nd, by omega, fun sp q hsp hq hk => ?_⟩
      rw [yl] at hq
      have qb : ∀ i ∈ q, i < (l'.take m).length := fun i hi => List.mem_range.mp (hq.mem_iff.mp hi)
      rw [keys_at (a0 := (0, 0)) qb] at hk
      have R2 := repL_at (a0 := (0, 0)) (R.mono (TK.new (o := .lst (q.map fun i => ys.getD i .non)) hsp) _ (noLL_pD _)) qb
      have pm := perm_at (a0 := ((0, 0) : Int × Int)) hq
      generalize hll : (q.map fun i => (l'.take m).getD i ((0, 0) : Int × Int)) = l at hk R2 pm
      have hsp2 : (upd H1 sp (.lst (q.map fun i => ys.getD i .non))) sp = some (.lst (q.map fun i => ys.getD i .non)) := upd_same
      have S2 : Same H1 (upd H1 sp (.lst (q.map fun i => ys.getD i .non))) := fun b o e => keep e hsp
      generalize (q.map fun i => ys.getD i .non) = zs at R2 hsp2 S2 ⊢
      generalize upd H1 sp (.lst zs) = H2 at R2 hsp2 S2 ⊢
      have up : l.Pairwise fun x y => x.1 < y.1 := (List.pairwise_map.mp hk).imp (S := fun x y => x.1 < y.1) fun {a b} h => by simpa using h
      have meml : ∀ q ∈ l, q ∈ pl (n - 1) := fun q hq => mem q (pm.mem_iff.mp hq)
      have lln : l.length < 30 := by rw [pm.length_eq]; exact ll
      have h30 : (10 : Int) ^ 9 < 2 ^ 30 := by decide
      refine ⟨sp, l, zs, rfl, .inr hsp2, R2, ⟨lln, fun q hq => ⟨(hl.1.pr q (meml q hq)).1, by have := (parts_le hl (meml q hq)).1; omega, by have := (parts_le hl (meml q hq)).1; omega⟩⟩, fun tl rs H3 S3 htl RY => ?_⟩
      refine ⟨n, tl, l, rs, rfl, htl, RY, ⟨hp, n3, n9, lln, meml⟩, fun b v H4 hb S4 Rv => ?_⟩
      exact kp hp n3 l' m l b v H4 ⟨hf, pm, up, hb⟩ (S1.trans (S2.trans (S3.trans S4))) Rv
    · refine ite2 (fun e => kn hn) (fun e2 => ?_)
      refine ⟨.int n, _, rfl, .int _, fun h => (by rw [isBet_of (by omega) hb2] at h; cases h), fun n' en _ _ => ?_⟩
      cases en
      rw [isPrB_not (fun z => hn ⟨z, by have := z.1; omega⟩)]
      bv_omega
      exact kn hn
abbrev O_q19 (P : Program) (w : World) (K : PySem.W.Frag) (mg : Str → Option Value) (base : Heap) (cl : Cl) : Prop := ∃ f fd, Df_q19 K mg f fd ∧ FnOk P w K mg base (CXE P w) 68 f fd ["n"] (spShP K cl)
abbrev s_q14 : Stmt := top 63
theorem sc_q14 : FnScope ["n"] ["n"] (defScope s_q14) := ⟨rfl, rfl, rfl, by decide +kernel, rfl, by decide +kernel, by decide +kernel⟩
abbrev Df_q14 (K : PySem.W.Frag) (mg : Str → Option Value) (f : Addr) (fd : FuncData) : Prop := Def K mg "fewest_rows" s_q14 ["n"] f fd
def spFRw (K : PySem.W.Frag) (cl : Cl) : Sp := fun vs H Q E => ∃ (x : V) (nx : String), vs = [x] ∧ TyOf K H x (.type nx) ∧ (isBet x 1 1000000000 = false → E (.ref cl.nn) none H) ∧ ∀ n : Int, x = .int n → 1 ≤ n → n ≤ 1000000000 → (¬ (IsPr n ∧ 3 ≤ n) → E (.ref cl.np) none H) ∧ (IsPr n → 3 ≤ n → ∀ l' m H', Few n l' m → Same H H' → Q (.int m) H')
theorem ok_q14 (D : Df_q14 K mg f fd) (T : Txt K mg t1 t2 cl) (o1 : O_q6 P w K mg base cl) (o2 : O_q12 P w K mg base) : FnOk P w K mg base (CXE P w) 8 f fd ["n"] (spFRw K cl) := by
  obtain ⟨_, _, D_q6, G_q6⟩ := o1
  obtain ⟨_, _, D_q12, G_q12⟩ := o2
  refine D.fn.okX sc_q14 (fun vs H Q E h => ?_) (fun cdv A outer s H vs Q E hr h => ?_)
  · obtain ⟨x, nx, rfl, _⟩ := h
    rfl
  · obtain ⟨x, nx, rfl, tx, ke, kq⟩ := h
    refine ⟨_, (pss_cons (ps_expr (pe_call (G_q6.mono (by decide)) hr rfl D_q6.mgx D_q6.fn.kp D_q6.bd .nil (passes_cx (fun _ _ _ h => h)) (pa_cons (pv 0) (pa_cons pe_str pa_nil)))) (pss_one (ps_ret (pe_callB call_len_seq (by rfl) T.no_len PySem.boot_len (pa_cons (pe_call (G_q12.mono (by decide)) hr rfl D_q12.mgx D_q12.fn.kp D_q12.bd .nil pass0 (pa_cons (pv 0) pa_nil)) pa_nil))))), ?_⟩
    have e0 : L2.start ["n"] [x] = [some (x)] := rfl
    rw [e0]; clear e0
    refine tSeq_gen fun R0 hR0 => ?_
    bv_omega
    refine ⟨x, nx, _, rfl, tx, by decide, ke, fun n en n1 n9 => ⟨fun hn => ?_, fun hn => (kq n en n1 n9).1 hn⟩⟩
    subst en
    obtain ⟨hp, n3⟩ := hn
    subst hR0
    bv_omega
    refine ⟨n, rfl, ⟨hp, n3, by omega⟩, fun l' m D ys H1 hf S1 hD R => ?_⟩
    refine ⟨_, rfl, _, .inl (SqL.of hD), ?_⟩
    have e : (ys.length : Int) = m := by
      rw [← R.length, List.length_map, List.length_take]
      have := hf.ml
      omega
    rw [e]
    exact (kq n rfl n1 n9).2 hp n3 l' m H1 hf S1
abbrev O_q14 (P : Program) (w : World) (K : PySem.W.Frag) (mg : Str → Option Value) (base : Heap) (cl : Cl) : Prop := ∃ f fd, Df_q14 K mg f fd ∧ FnOk P w K mg base (CXE P w) 8 f fd ["n"] (spFRw K cl)
end
section
variable {P : Program} {w : World} {K : PySem.W.Frag} {mg : Str → Option Value} {base : Heap} {t1 t2 : Tok} {cl : Cl} {f : Addr} {fd : FuncData}
def StAt (H : Hp) (a : Addr) : Prop := ∃ x y, H a = some (.lst [.int x, .int y]) ∧ 0 ≤ y ∧ y < 2 ^ 32
def But (a : Addr) (H H' : Hp) : Prop := ∀ b o, b ≠ a → H b = some o → H' b = some o
structure Step (a : Addr) (H H' : Hp) : Prop where
  st : StAt H' a
  but : But a H H'
theorem Step.trans {a : Addr} {H H1 H2 : Hp} (x : Step a H H1) (y : Step a H1 H2) : Step a H H2 := ⟨y.st, fun b o hb e => y.but b o hb (x.but b o hb e)⟩
theorem StAt.upd {H : Hp} {a p : Addr} {o : HO} (h : StAt H a) (hp : H p = none) : StAt (upd H p o) a := by
  obtain ⟨x, y, e, r⟩ := h
  exact ⟨x, y, by rw [upd_ne (ne_of_none e hp)]; exact e, r⟩
theorem Step.new {a p : Addr} {H H1 : Hp} {o : HO} (x : Step a H H1) (hp : H1 p = none) : Step a H (upd H1 p o) :=
  ⟨x.st.upd hp, fun b u hb e => by rw [upd_ne (ne_of_none (x.but b u hb e) hp)]; exact x.but b u hb e⟩
theorem Step.refl {a : Addr} {H : Hp} (h : StAt H a) : Step a H H := ⟨h, fun _ _ _ e => e⟩
theorem nb_mod (a : Int) {m : Int} (h0 : 0 < m) (h1 : m < 10 ^ 99) : (a % m).natAbs < 10 ^ 100 := by
  have := Int.emod_nonneg a (show m ≠ 0 by omega)
  have := Int.emod_lt_of_pos a h0
  omega
abbrev s_q15 : Stmt := top 67
theorem sc_q15 : FnScope ["_law_script", "_law_k"] ["_law_script", "_law_k"] (defScope s_q15) := ⟨rfl, rfl, rfl, by decide +kernel, rfl, by decide +kernel, by decide +kernel⟩
abbrev Df_q15 (K : PySem.W.Frag) (mg : Str → Option Value) (f : Addr) (fd : FuncData) : Prop := Def K mg "_law_cell_at" s_q15 ["_law_script", "_law_k"] f fd
def spCell (K : PySem.W.Frag) : Sp := fun vs H Q _ => ∃ (a : Addr) (ns : List Int) (k : Int), vs = [.ref a, .int k] ∧ SqL K H a (ns.map V.int) ∧ ns.length ≤ 63 ∧ 0 ≤ k ∧ ∀ v, Q (.int v) H
theorem ok_q15 (D : Df_q15 K mg f fd) (T : Txt K mg t1 t2 cl) : FnOk P w K mg base CX0 1 f fd ["_law_script", "_law_k"] (spCell K) := by
  refine D.fn.ok sc_q15 (fun vs H Q E h => ?_) (fun cdv A outer s H vs Q E hr h => ?_)
  · obtain ⟨a, ns, k, rfl, _⟩ := h
    rfl
  · obtain ⟨a, ns, k, rfl, hS, hl, h0, q⟩ := h
    refine ⟨_, (pss_cons (ps_if (pt_cmpR op_lt (pv 1) (pe_callB call_len_seq (by rfl) T.no_len PySem.boot_len (pa_cons (pv 0) pa_nil)) (nomark _)) (pss_one (ps_ret (pe_ix ix_list (pv 0) (pv 1) (fun _ _ => rfl)))) pss_nil) (pss_one (ps_ret pe_int))), ?_⟩
    have e0 : L2.start ["_law_script", "_law_k"] [.ref a, .int k] = [some (.ref a), some (.int k)] := rfl
    rw [e0]; clear e0
    bv_omega
    refine ⟨_, .inl hS, ?_⟩
    rw [List.length_map]
    refine ite2 (fun hk => ?_) (fun _ => q 0)
    obtain ⟨j, rfl⟩ := Int.eq_ofNat_of_zero_le h0
    have hj : j < ns.length := by omega
    refine ⟨_, hS, .int (ns[j]), atI_nat ?_, q _⟩
    rw [List.getElem?_map, List.getElem?_eq_getElem hj]
    rfl
abbrev O_q15 (P : Program) (w : World) (K : PySem.W.Frag) (mg : Str → Option Value) (base : Heap) : Prop := ∃ f fd, Df_q15 K mg f fd ∧ FnOk P w K mg base CX0 1 f fd ["_law_script", "_law_k"] (spCell K)
abbrev s_q37 : Stmt := top 68
theorem sc_q37 : FnScope ["_law_script", "_law_k", "_law_cell"] ["_law_script", "_law_k"] (defScope s_q37) := ⟨rfl, rfl, rfl, by decide +kernel, rfl, by decide +kernel, by decide +kernel⟩
abbrev Df_q37 (K : PySem.W.Frag) (mg : Str → Option Value) (f : Addr) (fd : FuncData) : Prop := Def K mg "_law_state" s_q37 ["_law_script", "_law_k"] f fd
def spState (K : PySem.W.Frag) : Sp := fun vs H Q _ => ∃ (a : Addr) (ns : List Int) (k : Int), vs = [.ref a, .int k] ∧ SqL K H a (ns.map V.int) ∧ ns.length ≤ 63 ∧ 0 ≤ k ∧ ∀ p x y, 0 ≤ y → y < 2 ^ 32 → H p = none → Q (.ref p) (upd H p (.lst [.int x, .int y]))
theorem ok_q37 (D : Df_q37 K mg f fd) (T : Txt K mg t1 t2 cl) (o1 : O_q15 P w K mg base) : FnOk P w K mg base CX0 2 f fd ["_law_script", "_law_k"] (spState K) := by
  obtain ⟨_, _, D_q15, G_q15⟩ := o1
  refine D.fn.ok sc_q37 (fun vs H Q E h => ?_) (fun cdv A outer s H vs Q E hr h => ?_)
  · obtain ⟨a, ns, k, rfl, _⟩ := h
    rfl
  · obtain ⟨a, ns, k, rfl, hS, hl, h0, q⟩ := h
    refine ⟨_, (pss_cons (ps_set (i := 2) sc_q37.nd rfl (by subst_eqs) (pe_call (G_q15.mono (by decide)) hr rfl D_q15.mgx D_q15.fn.kp D_q15.bd .nil pass0 (pa_cons (pv 0) (pa_cons (pv 1) pa_nil)))) (pss_one (ps_ret (pe_lst (pa_cons (pe_callB (call_max2 rfl) (by rfl) T.no_max PyProof.Rows.boot_max (pa_cons pe_int (pa_cons (pe_op op_sub (pv 2) (pe_op op_pow pe_int pe_int)) pa_nil))) (pa_cons (pe_op op_mod (pv 2) pe_int) pa_nil)))))), ?_⟩
    have e0 : L2.start ["_law_script", "_law_k", "_law_cell"] [.ref a, .int k] = [some (.ref a), some (.int k), none] := rfl
    rw [e0]; clear e0
    bv_omega
    refine ⟨a, ns, k, rfl, hS, hl, h0, fun v => ?_⟩
    bv_omega
    refine ⟨⟨by decide, by decide, by decide⟩, by decide, by show 2 ≤ sizeLine; decide, fun p hp => q p _ _ ?_ ?_ hp⟩ <;> omega
abbrev O_q37 (P : Program) (w : World) (K : PySem.W.Frag) (mg : Str → Option Value) (base : Heap) : Prop := ∃ f fd, Df_q37 K mg f fd ∧ FnOk P w K mg base CX0 2 f fd ["_law_script", "_law_k"] (spState K)
abbrev s_q31 : Stmt := top 69
theorem sc_q31 : FnScope ["_law_state_here", "_law_many", "_law_found", "_law_mixed"] ["_law_state_here", "_law_many"] (defScope s_q31) := ⟨rfl, rfl, rfl, by decide +kernel, rfl, by decide +kernel, by decide +kernel⟩
abbrev Df_q31 (K : PySem.W.Frag) (mg : Str → Option Value) (f : Addr) (fd : FuncData) : Prop := Def K mg "_law_choice" s_q31 ["_law_state_here", "_law_many"] f fd
def spTake : Sp := fun vs H Q _ => ∃ (a : Addr) (m : Int), vs = [.ref a, .int m] ∧ (0 < m ∧ m < 10 ^ 90) ∧ StAt H a ∧ ∀ r H', 0 ≤ r → r < m → Step a H H' → Q (.int r) H'
theorem ok_q31 (D : Df_q31 K mg f fd) (T : Txt K mg t1 t2 cl) : FnOk P w K mg base CX0 1 f fd ["_law_state_here", "_law_many"] spTake := by
  refine D.fn.ok sc_q31 (fun vs H Q E h => ?_) (fun cdv A outer s H vs Q E hr h => ?_)
  · obtain ⟨a, m, rfl, _⟩ := h
    rfl
  · obtain ⟨a, m, rfl, ⟨m0, m1⟩, ⟨x, y, hH, y0, y1⟩, q⟩ := h
    refine ⟨_, (pss_cons (ps_if (pt_cmpR op_gt (pe_ix ix_list (pv 0) pe_int (fun _ _ => rfl)) pe_int (nomark _)) (pss_cons (ps_set (i := 2) sc_q31.nd rfl (by subst_eqs) (pe_op op_mod (pe_ix ix_list (pv 0) pe_int (fun _ _ => rfl)) (pv 1))) (pss_cons (ps_asg (pe_op op_fdivB (pe_ix ix_list (pv 0) pe_int (fun _ _ => rfl)) (pv 1)) (pg_sub (pv 0) pe_int set_list)) (pss_one (ps_ret (pv 2))))) pss_nil) (pss_cons (ps_asg (pe_op op_mod (pe_op op_add (pe_op op_mulB (pe_ix ix_list (pv 0) pe_int (fun _ _ => rfl)) pe_int) pe_int) pe_int) (pg_sub (pv 0) pe_int set_list)) (pss_cons (ps_set (i := 3) sc_q31.nd rfl (by subst_eqs) (pe_op op_mod (pe_op op_add (pe_op op_add (pe_op op_mulB (pe_ix ix_list (pv 0) pe_int (fun _ _ => rfl)) (pe_ix ix_list (pv 0) pe_int (fun _ _ => rfl))) (pe_op op_mulB pe_int (pe_ix ix_list (pv 0) pe_int (fun _ _ => rfl)))) pe_int) pe_int)) (pss_cons (ps_set (i := 3) sc_q31.nd rfl (by subst_eqs) (pe_op op_mod (pe_op op_add (pe_op op_mulB (pv 3) (pv 3)) (pe_op op_mulB pe_int (pv 3))) pe_int)) (pss_one (ps_ret (pe_op op_mod (pe_op op_fdivB (pv 3) pe_int) (pv 1)))))))), ?_⟩
    have e0 : L2.start ["_law_state_here", "_law_many", "_law_found", "_law_mixed"] [.ref a, .int m] = [some (.ref a), some (.int m), none, none] := rfl
    rw [e0]; clear e0
    refine tSeq_gen fun R hR => ?_
    bv_omega
    refine ⟨_, SqL.of hH, _, rfl, _, rfl, ?_⟩
    refine ite2 (fun hx => ?_) (fun hx => ?_)
    · refine ⟨_, SqL.of hH, _, rfl, _, rfl, m0, _, SqL.of hH, _, rfl, _, rfl, ⟨m0, by omega⟩, _, hH, _, rfl, q _ _ (Int.emod_nonneg _ (by omega)) (Int.emod_lt_of_pos _ m0) ⟨⟨_, _, upd_same, y0, y1⟩, fun b o hb e => by rw [upd_ne hb]; exact e⟩⟩
    · subst hR
      refine tSeq_gen fun R hR => ?_
      bv_omega
      refine ⟨_, SqL.of hH, _, rfl, _, rfl, .inr ⟨by omega, by omega⟩, by decide, _, hH, _, rfl, ?_⟩
      obtain ⟨z, hz, e1, e2⟩ : ∃ z, (y * 48271 + 29) % 2147483647 = z ∧ 0 ≤ z ∧ z < 2147483647 := ⟨_, rfl, Int.emod_nonneg _ (by decide), Int.emod_lt_of_pos _ (by decide)⟩
      rw [hz]
      clear hz
      have S1 : Step a H (upd H a (.lst ([V.int x, V.int y].set (Int.toNat 1) (.int z)))) := ⟨⟨_, _, upd_same, e1, by omega⟩, fun b o hb e => by rw [upd_ne hb]; exact e⟩
      have h1 : (upd H a (.lst ([V.int x, V.int y].set (Int.toNat 1) (.int z)))) a = some (.lst [V.int x, V.int z]) := upd_same
      generalize upd H a (.lst ([V.int x, V.int y].set (Int.toNat 1) (.int z))) = H1 at S1 h1 ⊢
      subst hR
      refine tSeq_gen fun R hR => ?_
      bv_omega
      have zb : z.natAbs < 10 ^ 100 := by omega
      refine ⟨_, SqL.of h1, _, rfl, _, SqL.of h1, _, rfl, _, rfl, _, rfl, .inr ⟨zb, zb⟩, _, SqL.of h1, _, rfl, _, rfl, .inr ⟨by decide, zb⟩, by decide, ?_⟩
      obtain ⟨u, hu, ub⟩ : ∃ u, (z * z + 39373 * z + 7) % 2147483629 = u ∧ u.natAbs < 10 ^ 100 := ⟨_, rfl, nb_mod _ (by decide) (by decide)⟩
      rw [hu]
      clear hu
      subst hR
      refine tSeq_gen fun R hR => ?_
      bv_omega
      refine ⟨.inr ⟨ub, ub⟩, .inr ⟨by decide, ub⟩, by decide, ?_⟩
      generalize (u * u + 16807 * u) % 2147483587 = v
      subst hR
      bv_omega
      exact ⟨⟨by decide, by decide⟩, m0, q _ _ (Int.emod_nonneg _ (by omega)) (Int.emod_lt_of_pos _ m0) S1⟩
abbrev O_q31 (P : Program) (w : World) (K : PySem.W.Frag) (mg : Str → Option Value) (base : Heap) : Prop := ∃ f fd, Df_q31 K mg f fd ∧ FnOk P w K mg base CX0 1 f fd ["_law_state_here", "_law_many"] (spTake)
theorem nb40 {d n : Int} (h0 : 0 ≤ d) (h1 : d < n) (h2 : n ≤ 10 ^ 40) : d.natAbs < 10 ^ 100 := by omega
theorem half_lt {l : Int} (h : 0 < l) : (l / 2).toNat < l.toNat := by omega
abbrev s_q38 : Stmt := top 73
theorem sc_q38 : FnScope ["_law_base", "_law_often", "_law_n", "_law_found", "_law_square", "_law_left"] ["_law_base", "_law_often", "_law_n"] (defScope s_q38) := ⟨rfl, rfl, rfl, by decide +kernel, rfl, by decide +kernel, by decide +kernel⟩
abbrev Df_q38 (K : PySem.W.Frag) (mg : Str → Option Value) (f : Addr) (fd : FuncData) : Prop := Def K mg "_law_power" s_q38 ["_law_base", "_law_often", "_law_n"] f fd
theorem ok_q38 (D : Df_q38 K mg f fd) (T : Txt K mg t1 t2 cl) : FnOk P w K mg base CX0 1 f fd ["_law_base", "_law_often", "_law_n"] spPower := by
  refine D.fn.ok sc_q38 (fun vs H Q E h => ?_) (fun cdv A outer s H vs Q E hr h => ?_)
  · obtain ⟨b, o, n, rfl, _⟩ := h
    rfl
  · obtain ⟨b, o, n, rfl, ⟨hb, ho, hn, hn2⟩, k⟩ := h
    refine ⟨_, (pss_cons (ps_par3 (i := 3) (j := 4) (l := 5) rfl sc_q38.nd rfl rfl rfl (by decide) (by decide) (by decide) rfl rfl rfl (pa_cons (pe_op op_mod pe_int (pv 2)) (pa_cons (pe_op op_mod (pv 0) (pv 2)) (pa_cons (pv 1) pa_nil))) (by first | rfl | with_unfolding_all rfl)) (pss_cons (ps_while PassesOwn.never (pt_cmpR op_gt (pv 5) pe_int (nomark _)) (pss_cons (ps_if (pt_cmpR op_eq (pe_op op_mod (pv 5) pe_int) pe_int (nomark _)) (pss_one (ps_set (i := 3) sc_q38.nd rfl (by subst_eqs) (pe_op op_mod (pe_op op_mulB (pv 3) (pv 4)) (pv 2)))) pss_nil) (pss_one (ps_par (i := 4) (j := 5) rfl sc_q38.nd rfl rfl (by decide) rfl rfl (pa_cons (pe_op op_mod (pe_op op_mulB (pv 4) (pv 4)) (pv 2)) (pa_cons (pe_op op_fdivB (pv 5) pe_int) pa_nil)) (by first | rfl | with_unfolding_all rfl))))) (pss_one (ps_ret (pv 3))))), ?_⟩
    have e0 : L2.start ["_law_base", "_law_often", "_law_n", "_law_found", "_law_square", "_law_left"] [.int b, .int o, .int n] = [some (.int b), some (.int o), some (.int n), none, none, none] := rfl
    rw [e0]; clear e0
    bv_omega
    refine ⟨hn, hn, ?_⟩
    obtain ⟨W, hW⟩ : ∃ W : Nat → St → Hp → Prop, ∀ m σ H', W m σ H' ↔ ∃ d q l, m = l.toNat ∧ σ = [some (.int b), some (.int o), some (.int n), some (.int d), some (.int q), some (.int l)] ∧ PowInv b o n d q l ∧ H' = H := ⟨_, fun _ _ _ => Iff.rfl⟩
    refine ⟨W, ⟨_, (hW _ _ _).mpr ⟨_, _, _, rfl, rfl, pow_start hn ho, rfl⟩⟩, ?_⟩
    intro m σ H' hw
    obtain ⟨d, q, l, rfl, rfl, I, rfl⟩ := (hW _ _ _).mp hw
    clear hw
    bv_omega
    refine ite2 (fun hl => ?_) (fun hl => ?_)
    · refine ⟨fun σ' H2 => ∃ m', m' < l.toNat ∧ W m' σ' H2, fun _ _ h => h, ?_⟩
      have c1 : CMulB d q := .inr ⟨nb40 I.d0 I.d1 hn2, nb40 I.s0 I.s1 hn2⟩
      have c2 : CMulB q q := .inr ⟨nb40 I.s0 I.s1 hn2, nb40 I.s0 I.s1 hn2⟩
      have c3 : CDivB l 2 := ⟨by decide, by decide⟩
      refine ⟨by decide, ?_⟩
      refine ite2 (fun ho => ?_) (fun ho => ?_)
      · exact ⟨c1, hn, c2, hn, c3, _, half_lt hl, (hW _ _ _).mpr ⟨_, _, _, rfl, rfl, pow_odd hn I ho, rfl⟩⟩
      · exact ⟨c2, hn, c3, _, half_lt hl, (hW _ _ _).mpr ⟨_, _, _, rfl, rfl, pow_even hn I ho, rfl⟩⟩
    · have e := pow_end I hl
      rw [← e] at k
      exact k
abbrev O_q38 (P : Program) (w : World) (K : PySem.W.Frag) (mg : Str → Option Value) (base : Heap) : Prop := ∃ f fd, Df_q38 K mg f fd ∧ FnOk P w K mg base CX0 1 f fd ["_law_base", "_law_often", "_law_n"] (spPower)
abbrev s_q22 : Stmt := top 74
theorem sc_q22 : FnScope ["_law_one", "_law_other"] ["_law_one", "_law_other"] (defScope s_q22) := ⟨rfl, rfl, rfl, by decide +kernel, rfl, by decide +kernel, by decide +kernel⟩
abbrev Df_q22 (K : PySem.W.Frag) (mg : Str → Option Value) (f : Addr) (fd : FuncData) : Prop := Def K mg "_law_common" s_q22 ["_law_one", "_law_other"] f fd
theorem ok_q22 (D : Df_q22 K mg f fd) (T : Txt K mg t1 t2 cl) : FnOk P w K mg base CX0 1 f fd ["_law_one", "_law_other"] spGreat := by
  refine D.fn.ok sc_q22 (fun vs H Q E h => ?_) (fun cdv A outer s H vs Q E hr h => ?_)
  · obtain ⟨a, b, rfl, _⟩ := h
    rfl
  · obtain ⟨a, b, rfl, ⟨ha, hb⟩, k⟩ := h
    refine ⟨_, (pss_cons (ps_par (i := 0) (j := 1) rfl sc_q22.nd rfl rfl (by decide) rfl rfl (pa_cons (pe_callB (call_max2 rfl) (by rfl) T.no_max PyProof.Rows.boot_max (pa_cons (pv 0) (pa_cons (pe_op op_sub pe_int (pv 0)) pa_nil))) (pa_cons (pe_callB (call_max2 rfl) (by rfl) T.no_max PyProof.Rows.boot_max (pa_cons (pv 1) (pa_cons (pe_op op_sub pe_int (pv 1)) pa_nil))) pa_nil)) (by first | rfl | with_unfolding_all rfl)) (pss_cons (ps_while PassesOwn.never (pt_cmpR op_gt (pv 1) pe_int (nomark _)) (pss_one (ps_par (i := 0) (j := 1) rfl sc_q22.nd rfl rfl (by decide) rfl rfl (pa_cons (pv 1) (pa_cons (pe_op op_mod (pv 0) (pv 1)) pa_nil)) (by first | rfl | with_unfolding_all rfl)))) (pss_one (ps_ret (pv 0))))), ?_⟩
    have e0 : L2.start ["_law_one", "_law_other"] [.int a, .int b] = [some (.int a), some (.int b)] := rfl
    rw [e0]; clear e0
    bv_omega
    have ab : ∀ x : Int, (if 0 - x > x then 0 - x else x) = (if x < 0 then -x else x) := fun x => by split <;> split <;> omega
    obtain ⟨W, hW⟩ : ∃ W : Nat → St → Hp → Prop, ∀ m σ H', W m σ H' ↔ ∃ g s, m = s.toNat ∧ σ = [some (.int g), some (.int s)] ∧ GcdInv a b g s ∧ H' = H := ⟨_, fun _ _ _ => Iff.rfl⟩
    refine ⟨W, ⟨_, (hW _ _ _).mpr ⟨_, _, rfl, ?_, gcd_start a b, rfl⟩⟩, ?_⟩
    · first | rfl | (simp only [ab]) | simp [ab]
    intro m σ H' hw
    obtain ⟨g, s', rfl, rfl, I, rfl⟩ := (hW _ _ _).mp hw
    clear hw
    bv_omega
    refine ite2 (fun hl => ?_) (fun hl => ?_)
    · refine ⟨fun σ' H2 => ∃ m', m' < s'.toNat ∧ W m' σ' H2, fun _ _ h => h, ?_⟩
      exact ⟨hl, _, mod_lt hl, (hW _ _ _).mpr ⟨_, _, rfl, rfl, gcd_turn I hl, rfl⟩⟩
    · have e := gcd_end I hl
      rw [← e] at k
      exact k
abbrev O_q22 (P : Program) (w : World) (K : PySem.W.Frag) (mg : Str → Option Value) (base : Heap) : Prop := ∃ f fd, Df_q22 K mg f fd ∧ FnOk P w K mg base CX0 1 f fd ["_law_one", "_law_other"] (spGreat)
abbrev s_q45 : Stmt := top 80
theorem sc_q45 : FnScope ["_law_thing", "_law_low", "_law_high"] ["_law_thing", "_law_low", "_law_high"] (defScope s_q45) := ⟨rfl, rfl, rfl, by decide +kernel, rfl, by decide +kernel, by decide +kernel⟩
abbrev Df_q45 (K : PySem.W.Frag) (mg : Str → Option Value) (f : Addr) (fd : FuncData) : Prop := Def K mg "_law_whole" s_q45 ["_law_thing", "_law_low", "_law_high"] f fd
def spLW : Sp := fun vs H Q _ => ∃ (x lo hi : Int), vs = [.int x, .int lo, .int hi] ∧ (lo ≤ x ∧ x ≤ hi) ∧ Q (.bl true) H
theorem ok_q45 (D : Df_q45 K mg f fd) (T : Txt K mg t1 t2 cl) : FnOk P w K mg base CX0 1 f fd ["_law_thing", "_law_low", "_law_high"] spLW := by
  refine D.fn.ok sc_q45 (fun vs H Q E h => ?_) (fun cdv A outer s H vs Q E hr h => ?_)
  · obtain ⟨x, lo, hi, rfl, _⟩ := h
    rfl
  · obtain ⟨x, lo, hi, rfl, ⟨h1, h2⟩, k⟩ := h
    refine ⟨_, (pss_one (ps_ret (pe_and (pe_callB call_isinst (by rfl) T.no_isinstance PyProof.Rows.boot_isinstance (pa_cons (pv 0) (pa_cons (pe_bltn (v := .ty "int") rfl T.no_int PyProof.Rows.boot_int rfl) pa_nil))) (pe_and (pe_not (pe_callB call_isinst (by rfl) T.no_isinstance PyProof.Rows.boot_isinstance (pa_cons (pv 0) (pa_cons (pe_bltn (v := .ty "bool") rfl T.no_bool PyProof.Rows.boot_bool rfl) pa_nil)))) (pe_one (pe_chain op_le op_le (pv 1) (pv 0) (pv 2))))))), ?_⟩
    have e0 : L2.start ["_law_thing", "_law_low", "_law_high"] [.int x, .int lo, .int hi] = [some (.int x), some (.int lo), some (.int hi)] := rfl
    rw [e0]; clear e0
    bv_omega
    refine isi (.int _) ⟨_, rfl, ?_⟩
    rw [if_pos (by decide)]
    refine isi (.int _) ⟨_, rfl, ?_⟩
    rw [if_pos (by decide), if_pos h1, decide_eq_true h2]
    exact k
abbrev O_q45 (P : Program) (w : World) (K : PySem.W.Frag) (mg : Str → Option Value) (base : Heap) : Prop := ∃ f fd, Df_q45 K mg f fd ∧ FnOk P w K mg base CX0 1 f fd ["_law_thing", "_law_low", "_law_high"] (spLW)
abbrev s_q21 : Stmt := top 81
theorem sc_q21 : FnScope ["_law_rows", "_law_most", "_law_found", "_law_last", "_law_row", "_law_turn"] ["_law_rows", "_law_most"] (defScope s_q21) := ⟨rfl, rfl, rfl, by decide +kernel, rfl, by decide +kernel, by decide +kernel⟩
abbrev Df_q21 (K : PySem.W.Frag) (mg : Str → Option Value) (f : Addr) (fd : FuncData) : Prop := Def K mg "_law_product" s_q21 ["_law_rows", "_law_most"] f fd
def spLP (K : PySem.W.Frag) : Sp := fun vs H Q _ => ∃ (rows : List Row) (a : Addr) (m : Int), vs = [.ref a, .int m] ∧ Rep K H (.tup (rows.map rwD)) (.ref a) ∧ (rows ≠ [] ∧ asc 1 rows ∧ prd rows ≤ m ∧ m ≤ 10 ^ 40 ∧ depL (rows.map rwD) ≤ 100 ∧ noLL (rows.map rwD) = true) ∧ ∀ H', Same H H' → Q (.int (prd rows)) H'
theorem ok_q21 (D : Df_q21 K mg f fd) (T : Txt K mg t1 t2 cl) (o1 : O_q45 P w K mg base) : FnOk P w K mg base CX0 2 f fd ["_law_rows", "_law_most"] (spLP K) := by
  obtain ⟨_, _, D_q45, G_q45⟩ := o1
  refine D.fn.ok sc_q21 (fun vs H Q E h => ?_) (fun cdv A outer s H vs Q E hr h => ?_)
  · obtain ⟨rows, a, m, rfl, _⟩ := h
    rfl
  · obtain ⟨rows, a, m, rfl, R0, ⟨ne, up, pm, m40, dp, nl⟩, k⟩ := h
    have R1 := R0
    obtain ⟨_, xs, e, ha, R⟩ := R1
    cases e
    have xl : xs.length = rows.length := by rw [← R.length, List.length_map]
    refine ⟨_, (pss_cons (ps_if (PW.pt (pw_or (pt_not (pt_val (pe_callB call_isinstS (by rfl) T.no_isinstance PyProof.Rows.boot_isinstance (pa_cons (pv 0) (pa_cons (pe_bltn (v := .ty "tuple") rfl T.no_tuple PyProof.Rows.boot_tuple rfl) pa_nil))))) (pw_or1 (pt_cmpR (op_eqS (hu150 hr)) (pv 0) (pe_tup pa_nil) (nomark _))))) (pss_one (ps_ret pe_int)) pss_nil) (pss_cons (ps_asg (pe_tup (pa_cons pe_int (pa_cons pe_int pa_nil))) (pg_tup rfl (pgs_cons (pg_name (i := 2) sc_q21.nd rfl (by subst_eqs)) (pgs_cons (pg_name (i := 3) sc_q21.nd rfl (by subst_eqs)) pgs_nil)))) (pss_cons (ps_for PassesOwn.never rfl (pi_tup (pv 0)) (pg_name (i := 4) sc_q21.nd rfl (by subst_eqs)) (pss_cons (ps_if (PW.pt (pw_or (pt_not (pt_val (pe_callB call_isinstS (by rfl) T.no_isinstance PyProof.Rows.boot_isinstance (pa_cons (pv 4) (pa_cons (pe_bltn (v := .ty "tuple") rfl T.no_tuple PyProof.Rows.boot_tuple rfl) pa_nil))))) (pw_or (pt_cmpR op_ne (pe_callB call_len_seq (by rfl) T.no_len PySem.boot_len (pa_cons (pv 4) pa_nil)) pe_int (nomark _)) (pw_or1 (pt_not (pt_val (pe_call (G_q45.mono (by decide)) hr rfl D_q45.mgx D_q45.fn.kp D_q45.bd .nil pass0 (pa_cons (pe_ix ix_tup (pv 4) pe_int (fun _ _ => rfl)) (pa_cons (pe_op op_add (pv 3) pe_int) (pa_cons (pv 1) pa_nil)))))))))) (pss_one (ps_ret pe_int)) pss_nil) (pss_cons (ps_if (pt_not (pt_val (pe_call (G_q45.mono (by decide)) hr rfl D_q45.mgx D_q45.fn.kp D_q45.bd .nil pass0 (pa_cons (pe_ix ix_tup (pv 4) pe_int (fun _ _ => rfl)) (pa_cons pe_int (pa_cons pe_int pa_nil)))))) (pss_one (ps_ret pe_int)) pss_nil) (pss_cons (ps_for PassesOwn.never rfl (pi_range1 rfl T.no_range (pa_cons (pe_ix ix_tup (pv 4) pe_int (fun _ _ => rfl)) pa_nil)) (pg_name (i := 5) sc_q21.nd rfl (by subst_eqs)) (pss_one (ps_set (i := 2) sc_q21.nd rfl (by subst_eqs) (pe_op op_mulB (pv 2) (pe_ix ix_tup (pv 4) pe_int (fun _ _ => rfl)))))) (pss_cons (ps_if (pt_cmpR op_gt (pv 2) (pv 1) (nomark _)) (pss_one (ps_ret pe_int)) pss_nil) (pss_one (ps_set (i := 3) sc_q21.nd rfl (by subst_eqs) (pe_ix ix_tup (pv 4) pe_int (fun _ _ => rfl))))))))) (pss_one (ps_ret (pv 2)))))), ?_⟩
    have e0 : L2.start ["_law_rows", "_law_most", "_law_found", "_law_last", "_law_row", "_law_turn"] [.ref a, .int m] = [some (.ref a), some (.int m), none, none, none, none] := rfl
    rw [e0]; clear e0
    bv_omega
    refine ⟨a, _, _, rfl, ha, by decide, _, rfl, ?_⟩
    rw [if_neg (by decide)]
    refine ⟨Nat.zero_le _, fun p hp => ?_⟩
    have S1 : Same H (upd H p (.tup [])) := fun b o e => keep e hp
    have hp1 : (upd H p (.tup [])) p = some (.tup []) := upd_same
    generalize upd H p (.tup []) = H1 at S1 hp1 ⊢
    have R1 := Rep.mono S1.tk (.tup (rows.map rwD)) nl R0
    have R2 := RepL.mono S1.tk _ nl R
    have ha1 := S1.tk.sq ha
    refine ⟨_, [], .inl ⟨R1, p, [], rfl, SqT.of hp1, rfl⟩, dp, ?_⟩
    have e0 : eqDL (rows.map rwD) [] = false := by
      cases rows with
      | nil => exact absurd rfl ne
      | cons r rs => rfl
    rw [e0]
    refine ⟨_, rfl, ?_⟩
    rw [if_neg (by decide)]
    refine ⟨by show 2 ≤ sizeLine; decide, fun p2 hp2 => ?_⟩
    have S2 : Same H1 (upd H1 p2 (.tup [.int 1, .int 1])) := fun b o e => keep e hp2
    have hp3 : (upd H1 p2 (.tup [.int 1, .int 1])) p2 = some (.tup [.int 1, .int 1]) := upd_same
    generalize upd H1 p2 (.tup [.int 1, .int 1]) = H3 at S2 hp3 ⊢
    refine ⟨_, SqT.of hp3, rfl, _, _, rfl, _, _, rfl, rfl, ?_⟩
    have R3 := RepL.mono S2.tk _ nl R2
    have ha3 := S2.tk.sq ha1
    refine ⟨_, rfl, a, rfl, ⟨xs, ha3⟩, for_tup (xs := xs) (fun j σ H2 => H2 = H3 ∧ ∃ last v v', σ = [some (.ref a), some (.int m), some (.int (prd (rows.take j))), some (.int last), v, v'] ∧ asc last (rows.drop j)) ⟨rfl, 1, none, none, rfl, up⟩ (fun _ _ _ _ h => by rw [h.1]; exact ha3) ?_ ?_⟩
    · rintro j x σ H2 hx ⟨rfl, last, v, v', rfl, hd⟩
      obtain ⟨r, hr2, Rr⟩ := row_get R3 hx
      bv_omega
      obtain ⟨jl, ej⟩ := List.getElem?_eq_some_iff.mp hr2
      have e1 : rows.drop j = r :: rows.drop (j + 1) := by rw [← ej]; exact List.drop_eq_getElem_cons jl
      have e2 : rows.take (j + 1) = rows.take j ++ [r] := by rw [List.take_succ, hr2]; rfl
      have e3 : rows.take j ++ r :: rows.drop (j + 1) = rows := by rw [← e1]; exact List.take_append_drop j rows
      rw [e1] at hd
      obtain ⟨d1, d2, d3, d4⟩ := hd
      have st : ∀ i, i ≤ r.2.1.toNat → 1 ≤ prd (rows.take j) ∧ prd (rows.take j) * r.1 ^ i ≤ prd rows ∧ r.1 ≤ prd rows := fun i hi => by
        have := prd_step (a := rows.take j) (b := rows.drop (j + 1)) (r := r) (i := i) (by rw [e3]; exact up) hi
        rw [e3] at this
        exact this
      have r2 := (asc_pos up r (List.mem_of_getElem? hr2)).1
      obtain ⟨c, ys, rfl, hc, _, _, rfl, rfl, _, _, rfl, rfl, z, _, rfl, R4, rfl⟩ := Rr
      have st0 := st 0 (Nat.zero_le _)
      refine ⟨c, _, _, rfl, hc, by decide, _, rfl, ?_⟩
      rw [if_neg (by decide)]
      refine ⟨c, rfl, _, .inr hc, ?_⟩
      rw [if_neg (fun z => z rfl)]
      refine ⟨c, _, _, _, rfl, rfl, hc, rfl, _, _, _, rfl, ⟨by omega, by omega⟩, _, rfl, ?_⟩
      rw [if_neg (by decide)]
      refine ⟨c, _, _, _, rfl, rfl, hc, rfl, _, _, _, rfl, ⟨d2, d3⟩, _, rfl, ?_⟩
      rw [if_neg (by decide)]
      refine ⟨_, rfl, c, _, _, _, rfl, rfl, hc, rfl, _, rfl, by omega, by omega, for_range (n := r.2.1.toNat) (fun i σ H' => H' = H2 ∧ ∃ v', σ = [some (.ref a), some (.int m), some (.int (prd (rows.take j) * r.1 ^ i)), some (.int last), some (.ref c), v']) ⟨rfl, v', by rw [Int.pow_zero, Int.mul_one]⟩ ?_ ?_⟩
      · rintro i σ H' hi ⟨rfl, v2, rfl⟩
        bv_omega
        have s1 := st i (by omega)
        have s0 : 0 ≤ prd (rows.take j) * r.1 ^ i := Int.mul_nonneg (by omega) (Int.le_of_lt (by have := pow_ge1 (show 1 ≤ r.1 by omega) i; omega))
        refine ⟨c, _, _, _, rfl, rfl, hc, rfl, _, rfl, .inr ⟨by omega, by omega⟩, ?_⟩
        exact ⟨rfl, by rw [Int.pow_succ, Int.mul_assoc], _, rfl⟩
      · rintro σ H' ⟨rfl, v2, rfl⟩
        bv_omega
        have s1 := st r.2.1.toNat (Nat.le_refl _)
        rw [if_neg (by omega)]
        refine ⟨c, _, _, _, rfl, rfl, hc, rfl, rfl, ?_⟩
        exact ⟨by rw [e2, prd_snoc], _, rfl, d4⟩
    · rintro σ H2 ⟨rfl, last, v, v', rfl, hd⟩
      bv_omega
      rw [xl, List.take_length]
      exact k _ (S1.trans S2)
abbrev O_q21 (P : Program) (w : World) (K : PySem.W.Frag) (mg : Str → Option Value) (base : Heap) : Prop := ∃ f fd, Df_q21 K mg f fd ∧ FnOk P w K mg base CX0 2 f fd ["_law_rows", "_law_most"] ((spLP K))
abbrev s_q47 : Stmt := top 70
theorem sc_q47 : FnScope ["_law_found", "_law_due"] ["_law_found", "_law_due"] (defScope s_q47) := ⟨rfl, rfl, rfl, by decide +kernel, rfl, by decide +kernel, by decide +kernel⟩
abbrev Df_q47 (K : PySem.W.Frag) (mg : Str → Option Value) (f : Addr) (fd : FuncData) : Prop := Def K mg "_law_same" s_q47 ["_law_found", "_law_due"] f fd
def spSame : Sp := fun vs H Q _ => ∃ x r, vs = [x, x] ∧ reprV x = some r ∧ (∀ i, x = .int i → i.natAbs < 10 ^ 100) ∧ Q (.bl true) H
theorem ok_q47 (D : Df_q47 K mg f fd) (T : Txt K mg t1 t2 cl) : FnOk P w K mg base CX0 1 f fd ["_law_found", "_law_due"] spSame := by
  refine D.fn.ok sc_q47 (fun vs H Q E h => ?_) (fun cdv A outer s H vs Q E hr h => ?_)
  · obtain ⟨x, r, rfl, _⟩ := h
    rfl
  · obtain ⟨x, r, rfl, hr', hz, k⟩ := h
    refine ⟨_, (pss_one (ps_ret (pe_cmpR op_eq (pe_callB call_repr (by rfl) T.no_repr PyProof.Rows.boot_repr (pa_cons (pv 0) pa_nil)) (pe_callB call_repr (by rfl) T.no_repr PyProof.Rows.boot_repr (pa_cons (pv 1) pa_nil)) (nomark _)))), ?_⟩
    have e0 : L2.start ["_law_found", "_law_due"] [x, x] = [some (x), some (x)] := rfl
    rw [e0]; clear e0
    bv_omega
    have z : ∀ i, x = .int i → i.natAbs.log2 < 1920 := fun i e => Nat.lt_trans (log2_small (hz i e)) (by decide)
    refine ⟨r, hr', z, r, hr', z, ?_⟩
    bv_omega
    exact k
abbrev O_q47 (P : Program) (w : World) (K : PySem.W.Frag) (mg : Str → Option Value) (base : Heap) : Prop := ∃ f fd, Df_q47 K mg f fd ∧ FnOk P w K mg base CX0 1 f fd ["_law_found", "_law_due"] (spSame)
abbrev s_q44 : Stmt := top 75
theorem sc_q44 : FnScope ["_law_number", "_law_found", "_law_left", "_law_prime", "_law_often"] ["_law_number"] (defScope s_q44) := ⟨rfl, rfl, rfl, by decide +kernel, rfl, by decide +kernel, by decide +kernel⟩
abbrev Df_q44 (K : PySem.W.Frag) (mg : Str → Option Value) (f : Addr) (fd : FuncData) : Prop := Def K mg "_law_parts" s_q44 ["_law_number"] f fd
def spLParts (K : PySem.W.Frag) : Sp := fun vs H Q _ => ∃ (n : Int), vs = [.int n] ∧ (1 ≤ n ∧ n ≤ 10 ^ 9) ∧ ∀ l p xs H', Parts n l → Same H H' → H' p = some (.lst xs) → RepL K H' (l.map pD) xs → Q (.ref p) H'
theorem ok_q44 (D : Df_q44 K mg f fd) (T : Txt K mg t1 t2 cl) : FnOk P w K mg base CX0 1 f fd ["_law_number"] (spLParts K) := by
  refine D.fn.ok sc_q44 (fun vs H Q E h => ?_) (fun cdv A outer s H vs Q E hr h => ?_)
  · obtain ⟨n, rfl, _⟩ := h
    rfl
  · obtain ⟨n, rfl, hb, k⟩ := h
    refine ⟨_, (pss_cons (ps_par3 (i := 1) (j := 2) (l := 3) rfl sc_q44.nd rfl rfl rfl (by decide) (by decide) (by decide) rfl rfl rfl (pa_cons (pe_lst pa_nil) (pa_cons (pv 0) (pa_cons pe_int pa_nil))) (by first | rfl | with_unfolding_all rfl)) (pss_cons (ps_while PassesOwn.never (pt_cmpR op_gt (pv 2) pe_int (nomark _)) (pss_cons (ps_if (pt_cmpR op_gt (pe_op op_mulB (pv 3) (pv 3)) (pv 2) (nomark _)) (pss_one (ps_set (i := 3) sc_q44.nd rfl (by subst_eqs) (pv 2))) pss_nil) (pss_cons (ps_set (i := 4) sc_q44.nd rfl (by subst_eqs) pe_int) (pss_cons (ps_while PassesOwn.never (pt_cmpR op_eq (pe_op op_mod (pv 2) (pv 3)) pe_int (nomark _)) (pss_one (ps_par (i := 2) (j := 4) rfl sc_q44.nd rfl rfl (by decide) rfl rfl (pa_cons (pe_op op_fdivB (pv 2) (pv 3)) (pa_cons (pe_op op_add (pv 4) pe_int) pa_nil)) (by first | rfl | with_unfolding_all rfl)))) (pss_cons (ps_if (pt_cmpR op_gt (pv 4) pe_int (nomark _)) (pss_one (ps_expr (pe_bm PySem.F.plainAttrs_list PySem.F.slot_list_append PySem.F.type_list_append mt_append (pv 1) (pa_cons (pe_tup (pa_cons (pv 3) (pa_cons (pv 4) pa_nil))) pa_nil)))) pss_nil) (pss_one (ps_set (i := 3) sc_q44.nd rfl (by subst_eqs) (pe_op op_add (pv 3) pe_int)))))))) (pss_one (ps_ret (pv 1))))), ?_⟩
    have e0 : L2.start ["_law_number", "_law_found", "_law_left", "_law_prime", "_law_often"] [.int n] = [some (.int n), none, none, none, none] := rfl
    rw [e0]; clear e0
    bv_omega
    refine ⟨Nat.zero_le _, fun p hp => ?_⟩
    obtain ⟨W, hW⟩ : ∃ W : Nat → St → Hp → Prop, ∀ m σ H', W m σ H' ↔ ∃ l left t o xs, m = (left - t + 2).toNat ∧ σ = [some (.int n), some (.ref p), some (.int left), some (.int t), o] ∧ LtInv n l left t ∧ Same H H' ∧ H' p = some (.lst xs) ∧ RepL K H' (l.map pD) xs := ⟨_, fun _ _ _ => Iff.rfl⟩
    have s0 : Same H (upd H p (.lst [])) := fun b o e => by rw [upd_ne (ne_of_none e hp)]; exact e
    refine ⟨W, ⟨_, (hW _ _ _).mpr ⟨[], n, 2, none, [], rfl, rfl, lt_start hb.1, s0, upd_same, rfl⟩⟩, ?_⟩
    intro m σ H' hw
    obtain ⟨l, left, t, o, xs, rfl, rfl, I, S, hl, R⟩ := (hW _ _ _).mp hw
    clear hw
    have i1 := I.l1; have i2 := I.t2; have i3 := lt_le I
    bv_omega
    refine ite2 (fun h1 => ?_) (fun h1 => ?_)
    · have itb := I.tb h1
      refine ⟨fun σ' H2 => ∃ m', m' < (left - t + 2).toNat ∧ W m' σ' H2, fun _ _ h => h, ?_⟩
      have inner : ∀ t' : Int, LtInv n l left t' → t ≤ t' → t' ≤ left → tWhile (tTest (tOp rEq (tOp (rI (fun _ j => 0 < j) fun i j => V.int (i % j)) (tVar 2) (tVar 3)) (tC (V.int 0))))
          (tPar 2 4 (tCons (tOp (rI CDivB fun i j => V.int (i / j)) (tVar 2) (tVar 3)) (tCons (tOp (rI0 fun i j => V.int (i + j)) (tVar 4) (tC (V.int 1))) tNil)))
          { nx := tSeq (tIfS (tTest (tOp (rI0 fun i j => V.bl (decide (j < i))) (tVar 4) (tC (V.int 0)))) (tDrop (tBM K "list" rAppend (tVar 1) (tCons (tTup (tCons (tVar 3) (tCons (tVar 4) tNil))) tNil))) tNext) (tAsg (tOp (rI0 fun i j => V.int (i + j)) (tVar 3) (tC (V.int 1))) (gName 3))
              { nx := fun σ' H2 => ∃ m', m' < (left - t + 2).toNat ∧ W m' σ' H2, rt := Q, bk := tRet (tVar 1) { nx := fun x H' => Q V.non H', rt := Q }, ct := fun σ' H2 => ∃ m', m' < (left - t + 2).toNat ∧ W m' σ' H2 }, rt := Q, bk := tRet (tVar 1) { nx := fun x H' => Q V.non H', rt := Q }, ct := fun σ' H2 => ∃ m', m' < (left - t + 2).toNat ∧ W m' σ' H2 }
          [some (.int n), some (.ref p), some (.int left), some (.int t'), some (.int 0)] H' := by
        intro t' I' tt tl
        have t2 := I'.t2
        obtain ⟨W2, hW2⟩ : ∃ W : Nat → St → Hp → Prop, ∀ m σ H2, W m σ H2 ↔ ∃ left' oft, m = left'.toNat ∧ σ = [some (.int n), some (.ref p), some (.int left'), some (.int t'), some (.int oft)] ∧ DivInv left t' left' oft ∧ H2 = H' := ⟨_, fun _ _ _ => Iff.rfl⟩
        refine ⟨W2, ⟨_, (hW2 _ _ _).mpr ⟨left, 0, rfl, rfl, div_start (by omega), rfl⟩⟩, ?_⟩
        intro m2 σ2 H2 hw2
        obtain ⟨left', oft, rfl, rfl, J, rfl⟩ := (hW2 _ _ _).mp hw2
        clear hw2
        have j1 := J.l1
        have j2 := div_le t2 J
        bv_omega
        refine ⟨by omega, ?_⟩
        refine ite2 (fun hd => ?_) (fun hd => ?_)
        · refine ⟨fun σ' H2 => ∃ m', m' < left'.toNat ∧ W2 m' σ' H2, fun _ _ h => h, ?_⟩
          obtain ⟨J2, jl⟩ := div_turn t2 J hd
          have j3 := J2.l1
          exact ⟨⟨by omega, by omega⟩, _, by omega, (hW2 _ _ _).mpr ⟨_, _, rfl, rfl, J2, rfl⟩⟩
        · obtain ⟨I2, lle⟩ := lt_turn I' J hd
          refine ite2 (fun ho => ?_) (fun ho => ?_)
          · rw [if_pos ho] at I2
            refine ⟨.inl ⟨_, SqL.of hl⟩, ?_⟩
            refine ⟨by show 2 ≤ sizeLine; decide, fun a ha => ?_⟩
            have npa : p ≠ a := ne_of_none hl ha
            have hlen : xs.length < sizeLine := by
              have e := R.length
              rw [List.length_map] at e
              have e2 := parts_len I.ok.pr (by have := I.eq; have := prod_pos I.ok.pr; have := Int.mul_le_mul_of_nonneg_left i1 (show 0 ≤ prod l by omega); omega)
              exact small1000 (by omega)
            refine ⟨_, by rw [upd_ne npa]; exact hl, hlen, _, by omega, (hW _ _ _).mpr ⟨l ++ [(t', oft)], left', t' + 1, _, _, rfl, rfl, I2, ?_, upd_same, ?_⟩⟩
            · intro b u e
              have e1 : b ≠ p := ne_of_none e hp
              have e2 : b ≠ a := ne_of_none (S b u e) ha
              rw [upd_ne e1, upd_ne e2]
              exact S b u e
            · have tk : TK H2 (upd (upd H2 a (.tup [.int t', .int oft])) p (.lst (xs ++ [.ref a]))) := (TK.new ha).trans (TK.lst (xs := xs) (by rw [upd_ne npa]; exact hl))
              rw [List.map_append]
              refine (R.mono tk _ (noLL_pD l)).append ⟨_, [], rfl, rep_pair ?_, rfl⟩
              rw [upd_ne npa.symm, upd_same]
          · rw [if_neg ho] at I2
            exact ⟨_, by omega, (hW _ _ _).mpr ⟨l, left', t' + 1, _, xs, rfl, rfl, I2, S, hl, R⟩⟩
      refine ⟨.inr ⟨by omega, by omega⟩, ?_⟩
      refine ite2 (fun hs => ?_) (fun hs => ?_)
      · exact inner left (lt_jump I h1 hs).1 itb (Int.le_refl _)
      · exact inner t I (Int.le_refl _) itb
    · exact k l p xs H' (lt_end I h1) S hl R
abbrev O_q44 (P : Program) (w : World) (K : PySem.W.Frag) (mg : Str → Option Value) (base : Heap) : Prop := ∃ f fd, Df_q44 K mg f fd ∧ FnOk P w K mg base CX0 1 f fd ["_law_number"] ((spLParts K))
abbrev s_q13 : Stmt := top 76
theorem sc_q13 : FnScope ["_law_number", "_law_part"] ["_law_number"] (defScope s_q13) := ⟨rfl, rfl, rfl, by decide +kernel, rfl, by decide +kernel, by decide +kernel⟩
abbrev Df_q13 (K : PySem.W.Frag) (mg : Str → Option Value) (f : Addr) (fd : FuncData) : Prop := Def K mg "_law_is_prime" s_q13 ["_law_number"] f fd
def spLPrime : Sp := fun vs H Q _ => ∃ (n : Int), vs = [.int n] ∧ (0 ≤ n ∧ n ≤ 10 ^ 9) ∧ Q (.bl (isPrB n)) H
theorem ok_q13 (D : Df_q13 K mg f fd) (T : Txt K mg t1 t2 cl) : FnOk P w K mg base CX0 1 f fd ["_law_number"] spLPrime := by
  refine D.fn.ok sc_q13 (fun vs H Q E h => ?_) (fun cdv A outer s H vs Q E hr h => ?_)
  · obtain ⟨n, rfl, _⟩ := h
    rfl
  · obtain ⟨n, rfl, ⟨h0, h1⟩, k⟩ := h
    refine ⟨_, (pss_cons (ps_set (i := 1) sc_q13.nd rfl (by subst_eqs) pe_int) (pss_cons (ps_while PassesOwn.never (pt_cmpR op_le (pe_op op_mulB (pv 1) (pv 1)) (pv 0) (nomark _)) (pss_cons (ps_if (pt_cmpR op_eq (pe_op op_mod (pv 0) (pv 1)) pe_int (nomark _)) (pss_one (ps_ret pe_bl)) pss_nil) (pss_one (ps_set (i := 1) sc_q13.nd rfl (by subst_eqs) (pe_op op_add (pv 1) pe_int))))) (pss_one (ps_ret (pe_cmpR op_gt (pv 0) pe_int (nomark _)))))), ?_⟩
    have e0 : L2.start ["_law_number", "_law_part"] [.int n] = [some (.int n), none] := rfl
    rw [e0]; clear e0
    bv_omega
    obtain ⟨W, hW⟩ : ∃ W : Nat → St → Hp → Prop, ∀ m σ H', W m σ H' ↔ ∃ t, m = (10 ^ 10 - t).toNat ∧ σ = [some (.int n), some (.int t)] ∧ LpInv n 2 t ∧ t ≤ 10 ^ 9 + 2 ∧ H' = H := ⟨_, fun _ _ _ => Iff.rfl⟩
    refine ⟨W, ⟨_, (hW _ _ _).mpr ⟨_, rfl, rfl, ⟨Int.le_refl _, fun d a b => by omega⟩, by decide, rfl⟩⟩, ?_⟩
    intro m σ H' hw
    obtain ⟨t, rfl, rfl, ⟨I1, I2⟩, I3, rfl⟩ := (hW _ _ _).mp hw
    clear hw
    bv_omega
    refine ⟨.inr ⟨by omega, by omega⟩, ?_⟩
    refine ite2 (fun hl => ?_) (fun hl => ?_)
    · refine ⟨fun σ' H2 => ∃ m', m' < (10 ^ 10 - t).toNat ∧ W m' σ' H2, fun _ _ h => h, ?_⟩
      have t2 : t ≤ n := by
        have := Int.mul_le_mul_of_nonneg_right (show (1 : Int) ≤ t by omega) (show 0 ≤ t by omega)
        omega
      refine ⟨by omega, ?_⟩
      refine ite2 (fun hd => ?_) (fun hd => ?_)
      · rw [isPrB_not (fun h => h.2 t I1 hl hd)] at k
        exact k
      · refine ⟨_, by omega, (hW _ _ _).mpr ⟨t + 1, rfl, rfl, ⟨by omega, fun d a b => ?_⟩, by omega, rfl⟩⟩
        by_cases e : d = t
        · rw [e]; exact hd
        · exact I2 d a (by omega)
    · by_cases h2 : 1 < n
      · have hp : IsPr n := ⟨by omega, fun d a b => I2 d a (by
          refine Classical.byContradiction fun hc => hl ?_
          have := sq_mono (show 0 ≤ t by omega) (show t ≤ d by omega)
          omega)⟩
        rw [isPrB_of hp] at k
        rw [decide_eq_true (show n > 1 from h2)]
        exact k
      · rw [isPrB_not (fun h => by have := h.1; omega)] at k
        rw [decide_eq_false (show ¬ n > 1 from h2)]
        exact k
abbrev O_q13 (P : Program) (w : World) (K : PySem.W.Frag) (mg : Str → Option Value) (base : Heap) : Prop := ∃ f fd, Df_q13 K mg f fd ∧ FnOk P w K mg base CX0 1 f fd ["_law_number"] (spLPrime)
abbrev s_q48 : Stmt := top 77
theorem sc_q48 : FnScope ["_law_number"] ["_law_number"] (defScope s_q48) := ⟨rfl, rfl, rfl, by decide +kernel, rfl, by decide +kernel, by decide +kernel⟩
abbrev Df_q48 (K : PySem.W.Frag) (mg : Str → Option Value) (f : Addr) (fd : FuncData) : Prop := Def K mg "_law_next" s_q48 ["_law_number"] f fd
def spNext : Sp := fun vs H Q _ => ∃ (n z : Int), vs = [.int n] ∧ (0 ≤ n ∧ n ≤ z ∧ IsPr z ∧ z ≤ 10 ^ 9) ∧ ∀ r, IsPr r → n ≤ r → r ≤ z → Q (.int r) H
theorem ok_q48 (D : Df_q48 K mg f fd) (T : Txt K mg t1 t2 cl) (o1 : O_q13 P w K mg base) : FnOk P w K mg base CX0 2 f fd ["_law_number"] spNext := by
  obtain ⟨_, _, D_q13, G_q13⟩ := o1
  refine D.fn.ok sc_q48 (fun vs H Q E h => ?_) (fun cdv A outer s H vs Q E hr h => ?_)
  · obtain ⟨n, z, rfl, _⟩ := h
    rfl
  · obtain ⟨n0, z, rfl, ⟨m0, nz, hz, z9⟩, k⟩ := h
    refine ⟨_, (pss_cons (ps_while PassesOwn.never (pt_not (pt_val (pe_call (G_q13.mono (by decide)) hr rfl D_q13.mgx D_q13.fn.kp D_q13.bd .nil pass0 (pa_cons (pv 0) pa_nil)))) (pss_one (ps_set (i := 0) sc_q48.nd rfl (by subst_eqs) (pe_op op_add (pv 0) pe_int)))) (pss_one (ps_ret (pv 0)))), ?_⟩
    have e0 : L2.start ["_law_number"] [.int n0] = [some (.int n0)] := rfl
    rw [e0]; clear e0
    bv_omega
    obtain ⟨W, hW⟩ : ∃ W : Nat → St → Hp → Prop, ∀ j σ H', W j σ H' ↔ ∃ n : Int, j = (z - n).toNat ∧ σ = [some (.int n)] ∧ (n0 ≤ n ∧ n ≤ z) ∧ H' = H := ⟨_, fun _ _ _ => Iff.rfl⟩
    refine ⟨W, ⟨_, (hW _ _ _).mpr ⟨_, rfl, rfl, ⟨Int.le_refl _, nz⟩, rfl⟩⟩, ?_⟩
    intro j σ H' hw
    obtain ⟨n, rfl, rfl, nb, rfl⟩ := (hW _ _ _).mp hw
    clear hw
    bv_omega
    refine ⟨n, rfl, ⟨by omega, by omega⟩, ?_⟩
    bv_omega
    cases e : isPrB n with
    | false =>
      refine ite2 (fun _ => ?_) (fun h => absurd rfl h)
      refine ⟨fun σ' H2 => ∃ m', m' < (z - n).toNat ∧ W m' σ' H2, fun _ _ h => h, ?_⟩
      have ne : n ≠ z := fun h => by rw [h, isPrB_of hz] at e; cases e
      exact ⟨_, by omega, (hW _ _ _).mpr ⟨_, rfl, rfl, ⟨by omega, by omega⟩, rfl⟩⟩
    | true =>
      refine ite2 (fun h => absurd h (by decide)) (fun _ => ?_)
      exact k n (isPrB_iff.mp e) nb.1 nb.2
abbrev O_q48 (P : Program) (w : World) (K : PySem.W.Frag) (mg : Str → Option Value) (base : Heap) : Prop := ∃ f fd, Df_q48 K mg f fd ∧ FnOk P w K mg base CX0 2 f fd ["_law_number"] (spNext)
end
section
variable {P : Program} {w : World} {K : PySem.W.Frag} {mg : Str → Option Value} {base : Heap} {t1 t2 : Tok} {cl : Cl} {f : Addr} {fd : FuncData}
abbrev s_q53 : Stmt := top 82
theorem sc_q53 : FnScope ["_law_n", "_law_thing", "_law_whole_here", "_law_d", "_law_row", "_law_x", "_law_y", "_law_powers"] ["_law_n", "_law_thing", "_law_whole_here"] (defScope s_q53) := ⟨rfl, rfl, rfl, by decide +kernel, rfl, by decide +kernel, by decide +kernel⟩
abbrev Df_q53 (K : PySem.W.Frag) (mg : Str → Option Value) (f : Addr) (fd : FuncData) : Prop := Def K mg "_law_goes" s_q53 ["_law_n", "_law_thing", "_law_whole_here"] f fd
abbrev OB_q38 (P : Program) (w : World) (K : PySem.W.Frag) (mg : Str → Option Value) (cl : Cl) : Prop := ∃ f fd, Df_q38 K mg f fd ∧ ∀ b, FnOk P w K mg b CX0 1 f fd ["_law_base", "_law_often", "_law_n"] spPower
abbrev OB_q22 (P : Program) (w : World) (K : PySem.W.Frag) (mg : Str → Option Value) (cl : Cl) : Prop := ∃ f fd, Df_q22 K mg f fd ∧ ∀ b, FnOk P w K mg b CX0 1 f fd ["_law_one", "_law_other"] spGreat
def spLG (K : PySem.W.Frag) : Sp := fun vs H Q _ => ∃ (n b wh : Int) (rows : List Row) (z : Str) (a : Addr), vs = [.int n, .ref a, .int wh] ∧ Rep K H (.tup [.str z, .int b, .tup (rows.map rwD)]) (.ref a) ∧ ((z = Str.ofString "full" ∧ FullOk n b rows) ∨ (z = Str.ofString "share" ∧ ShareOk n b rows)) ∧ (3 ≤ n ∧ n ≤ 10 ^ 30 ∧ noLL (rows.map rwD) = true ∧ rows.length ≤ 500) ∧ ∀ H', Same H H' → Q (.bl true) H'
def pwR (b n : Int) (rows : List Row) : List Int := rows.map fun r => b ^ ((n - 1) / r.1).toNat % n
theorem flat_ints : ∀ ns : List Int, (ns.map V.int).all flatV = true
  | [] => rfl
  | n :: r => flat_ints r
theorem ok_q53 (D : Df_q53 K mg f fd) (T : Txt K mg t1 t2 cl) (o1 : OB_q38 P w K mg cl) (o2 : OB_q22 P w K mg cl) : FnOk P w K mg base CX0 2 f fd ["_law_n", "_law_thing", "_law_whole_here"] (spLG K) := by
  obtain ⟨_, _, D_q38, B_q38⟩ := o1
  obtain ⟨_, _, D_q22, B_q22⟩ := o2
  have G_q38 := B_q38 base
  refine D.fn.ok sc_q53 (fun vs H Q E h => ?_) (fun cdv A outer s H vs Q E hr h => ?_)
  · obtain ⟨n, b, wh, rows, z, a, rfl, _⟩ := h
    rfl
  · obtain ⟨n, b, wh, rows, z, a, rfl, R0, hz, ⟨n3, n30, nl, rl⟩, k⟩ := h
    have Hk : HeadOk n b rows := hz.elim (fun h => h.2.toHeadOk) (fun h => h.2.toHeadOk)
    obtain ⟨_, xs, e, ha, x1, _, rfl, e1, x2, _, rfl, e2, x3, _, rfl, R3, rfl⟩ := R0
    cases e
    cases e1
    cases e2
    obtain ⟨c, ys, rfl, hc, R⟩ := R3
    have xl : ys.length = rows.length := by rw [← R.length, List.length_map]
    have b1 := Hk.b1
    have bn := Hk.bn
    refine ⟨_, (pss_cons (ps_if (pt_cmpR op_eq (pe_ix (ix_tupK (K := K) rfl) (pv 1) pe_int (fun _ _ => rfl)) pe_str (nomark _)) pss_no pss_nil) (pss_cons (ps_if (pt_cmpR op_ne (pe_call (G_q38.mono (by decide)) hr rfl D_q38.mgx D_q38.fn.kp D_q38.bd .nil pass0 (pa_cons (pe_ix (ix_tupK (K := K) rfl) (pv 1) pe_int (fun _ _ => rfl)) (pa_cons (pe_op op_sub (pv 0) pe_int) (pa_cons (pv 0) pa_nil)))) pe_int (nomark _)) (pss_one (ps_ret pe_bl)) pss_nil) (pss_cons (ps_setD (iv := 7) sc_q53.nd rfl (by subst_eqs) (N := ["_law_row", "_law_n", "_law_thing"]) (js := [none, some 0, some 1]) (by rfl) rfl (fun _ => rfl) (pi_tup (pe_ix (ix_tupK (K := K) rfl) (pv 1) pe_int (fun _ _ => rfl))) (by intro b _ _ _ _; exact (pg_name (i := 0) (show List.Nodup (["_law_row", "_law_n", "_law_thing"] : List Str) by decide) rfl (by subst_eqs))) (by intro b _ _ _ _; exact pifs_nil) (by intro b _ _ _ _; exact (pe_call ((B_q38 b).mono (by decide)) hr rfl D_q38.mgx D_q38.fn.kp D_q38.bd .nil pass0 (pa_cons (pe_ix (ix_tupK (K := K) rfl) (pv 2) pe_int (fun _ _ => rfl)) (pa_cons (pe_op op_fdivB (pe_op op_sub (pv 1) pe_int) (pe_ix (ix_tupK (K := K) rfl) (pv 0) pe_int (fun _ _ => rfl))) (pa_cons (pv 1) pa_nil)))))) (pss_cons (ps_if (pt_cmpR op_eq (pe_ix (ix_tupK (K := K) rfl) (pv 1) pe_int (fun _ _ => rfl)) pe_str (nomark _)) (pss_one (ps_ret (pe_cmpR op_notIn_seq pe_int (pv 7) (by with_unfolding_all rfl)))) pss_nil) (pss_one (ps_ret (pe_cmpR (op_eqS (hu150 hr)) (pe_compD (N := ["_law_power_here", "_law_n"]) (js := [none, some 0]) (by rfl) rfl (fun _ => rfl) (pi_list (pv 7)) (by intro b _ _ _ _; exact (pg_name (i := 0) (show List.Nodup (["_law_power_here", "_law_n"] : List Str) by decide) rfl (by subst_eqs))) (by intro b _ _ _ _; exact pifs_one (pt_cmpR op_ne (pe_call ((B_q22 b).mono (by decide)) hr rfl D_q22.mgx D_q22.fn.kp D_q22.bd .nil pass0 (pa_cons (pe_op op_sub (pv 0) pe_int) (pa_cons (pv 1) pa_nil))) pe_int (nomark _))) (by intro b _ _ _ _; exact (pv 0))) (pe_lst pa_nil) (nomark _)))))))), ?_⟩
    have e0 : L2.start ["_law_n", "_law_thing", "_law_whole_here", "_law_d", "_law_row", "_law_x", "_law_y", "_law_powers"] [.int n, .ref a, .int wh] = [some (.int n), some (.ref a), some (.int wh), none, none, none, none, none] := rfl
    rw [e0]; clear e0
    bv_omega
    have zo : V.str z ≠ V.str (Str.ofString "other") := fun h => by
      have := V.str.inj h
      rcases hz with ⟨h, _⟩ | ⟨h, _⟩
      · rw [h] at this; exact absurd this (by decide)
      · rw [h] at this; exact absurd this (by decide)
    refine ⟨a, _, _, _, rfl, rfl, ha, at0, rfl, ?_⟩
    rw [if_neg zo]
    refine ⟨a, _, _, _, rfl, rfl, ha, rfl, b, n - 1, n, rfl, ⟨by omega, by omega, by omega, by omega⟩, rfl, ?_⟩
    rw [if_neg (by rw [Hk.home]; exact fun z => z rfl)]
    refine tCompC_of ?_
    refine ⟨_, rfl, a, _, _, _, rfl, rfl, ha, rfl, c, rfl, ⟨ys, hc⟩, fun bs D hcb hD => ?_⟩
    obtain ⟨Pv, hPv⟩ : ∃ Pv : Nat → St → Hp → Prop, ∀ i σ H2, Pv i σ H2 ↔ (∃ v1, σ = [v1, some (.int n), some (.ref a)]) ∧ Same H H2 ∧ H2 D = some (.lst ((pwR b n (rows.take i)).map V.int)) := ⟨_, fun _ _ _ => Iff.rfl⟩
    refine comp_tup (xs := ys) Pv ((hPv _ _ _).mpr ⟨⟨none, rfl⟩, fun b o e => keep e hD, upd_same⟩) (fun i σ H' hi h => ((hPv _ _ _).mp h).2.1.tk.sq hc) ?_ ?_
    · intro j x σ H2 hx h
      obtain ⟨⟨v1, rfl⟩, s2, d2⟩ := (hPv _ _ _).mp h
      obtain ⟨r, hr2, Rr⟩ := row_get (R.mono s2.tk _ nl) hx
      have rm := List.mem_of_getElem? hr2
      have r2 := (asc_pos Hk.up r rm).1
      have rle := prd_mem Hk.up rm
      have jl : j < rows.length := (List.getElem?_eq_some_iff.mp hr2).1
      have ple : prd rows ≤ n - 1 := Int.le_of_dvd (by omega) (Int.dvd_of_emod_eq_zero Hk.dv)
      obtain ⟨c2, zs, rfl, hc2, _, _, rfl, rfl, _, _, rfl, rfl, z2, _, rfl, R8, rfl⟩ := Rr
      (try dsimp only [CT, tYes]); bv_omega
      refine ⟨a, _, _, _, rfl, rfl, s2.tk.sq ha, rfl, c2, _, _, _, rfl, rfl, hc2, rfl, _, rfl, ⟨by omega, by omega⟩, b, (n - 1) / r.1, n, rfl, ⟨by omega, Int.ediv_nonneg (by omega) (by omega), by omega, by omega⟩, ?_⟩
      refine ⟨_, d2, small1000 (by unfold pwR; rw [List.length_map, List.length_map, List.length_take]; omega), (hPv _ _ _).mpr ⟨⟨_, rfl⟩, fun b o e => by rw [upd_ne (ne_of_none e hD)]; exact s2 _ _ e, ?_⟩⟩
      rw [upd_same, List.take_succ, hr2]
      unfold pwR
      rw [List.map_append, List.map_append]
      rfl
    · intro σ H2 h
      obtain ⟨⟨v1, rfl⟩, s2, d2⟩ := (hPv _ _ _).mp h
      rw [xl, List.take_length] at d2
      try bv_omega
      refine ⟨a, _, _, _, rfl, rfl, s2.tk.sq ha, at0, rfl, ?_⟩
      rcases hz with ⟨rfl, O⟩ | ⟨rfl, O⟩
      · rw [if_pos rfl]
        refine ⟨D, _, rfl, .inl (SqL.of d2), rfl, flat_ints _, ?_⟩
        have e : inV (V.int 1) ((pwR b n rows).map V.int) = false := by
          refine Bool.eq_false_iff.mpr fun w => ?_
          obtain ⟨y, hy, ey⟩ := List.any_eq_true.mp w
          obtain ⟨i, hi, rfl⟩ := List.mem_map.mp hy
          unfold pwR at hi
          obtain ⟨r, hr, rfl⟩ := List.mem_map.mp hi
          exact O.off r hr (of_decide_eq_true ey)
        rw [e]
        exact k _ s2
      · rw [if_neg (by decide)]
        refine tCompC_of ?_
        refine ⟨_, rfl, D, rfl, ⟨_, SqL.of d2⟩, fun bs2 D2 hcb2 hD2 => ?_⟩
        obtain ⟨Pw, hPw⟩ : ∃ Pw : Nat → St → Hp → Prop, ∀ i σ H3, Pw i σ H3 ↔ (∃ v1, σ = [v1, some (.int n)]) ∧ Same H2 H3 ∧ H3 D2 = some (.lst []) := ⟨_, fun _ _ _ => Iff.rfl⟩
        refine comp_list (xs := (pwR b n rows).map V.int) Pw ((hPw _ _ _).mpr ⟨⟨none, rfl⟩, fun b o e => keep e hD2, upd_same⟩) (fun i σ H' hi h => SqL.of (((hPw _ _ _).mp h).2.1 _ _ d2)) ?_ ?_
        · intro j x σ H3 hx h
          obtain ⟨⟨v1, rfl⟩, s3, d3⟩ := (hPw _ _ _).mp h
          obtain ⟨i, hi, rfl⟩ := List.mem_map.mp (List.mem_of_getElem? hx)
          unfold pwR at hi
          obtain ⟨r, hr', rfl⟩ := List.mem_map.mp hi
          have q0 := Int.emod_nonneg (b ^ ((n - 1) / r.1).toNat) (show n ≠ 0 by omega)
          have q1 := Int.emod_lt_of_pos (b ^ ((n - 1) / r.1).toNat) (show 0 < n by omega)
          rename_i CT
          refine ⟨_, n, rfl, ⟨by omega, by omega⟩, rfl, ?_⟩
          rw [if_neg (by rw [O.off r hr']; exact fun z => z rfl)]
          exact (hPw _ _ _).mpr ⟨⟨_, rfl⟩, s3, d3⟩
        · intro σ H3 h
          obtain ⟨⟨v1, rfl⟩, s3, d3⟩ := (hPw _ _ _).mp h
          refine ⟨Nat.zero_le _, fun p hp => ?_⟩
          exact ⟨[], [], .inr ⟨⟨D2, [], rfl, SqL.of (keep d3 hp), rfl⟩, ⟨p, [], rfl, SqL.of upd_same, rfl⟩⟩, Nat.zero_le _, k _ fun b o e => keep (s3 _ _ (s2 _ _ e)) hp⟩
abbrev O_q53 (P : Program) (w : World) (K : PySem.W.Frag) (mg : Str → Option Value) (base : Heap) : Prop := ∃ f fd, Df_q53 K mg f fd ∧ FnOk P w K mg base CX0 2 f fd ["_law_n", "_law_thing", "_law_whole_here"] ((spLG K))
abbrev s_q36 : Stmt := top 83
theorem sc_q36 : FnScope ["_law_n", "_law_thing", "_law_full", "_law_whole_here", "_law_part", "_law_pair", "_law_norm"] ["_law_n", "_law_thing", "_law_full"] (defScope s_q36) := ⟨rfl, rfl, rfl, by decide +kernel, rfl, by decide +kernel, by decide +kernel⟩
abbrev Df_q36 (K : PySem.W.Frag) (mg : Str → Option Value) (f : Addr) (fd : FuncData) : Prop := Def K mg "_law_holds" s_q36 ["_law_n", "_law_thing", "_law_full"] f fd
def spLH (j : Nat) (K : PySem.W.Frag) : Sp := fun vs H Q _ => ∃ (n : Int) (d : Dt) (u : V) (fl : Bool), vs = [.int n, u, .bl fl] ∧ (Rep K H d u ∧ RP j fl n d ∧ n ≤ 10 ^ 30) ∧ ∀ H', Same H H' → Q (.bl true) H'
theorem ok_lh0 {m : Nat} : FnOk P w K mg base CX0 m f fd ["_law_n", "_law_thing", "_law_full"] (spLH 0 K) :=
  ⟨fun vs H Q E h => by obtain ⟨n, d, u, fl, rfl, _⟩ := h; rfl, fun A outer s H args us vs Q E hr e hb hv h => by
    obtain ⟨n, d, u, fl, _, ⟨_, rp, _⟩, _⟩ := h
    cases rp⟩
structure Kind (j : Nat) (fl : Bool) (n : Int) (z : Str) (b : Int) (rows : List Row) : Prop where
  n3 : 3 ≤ n
  ok : (z = Str.ofString "full" ∧ FullOk n b rows) ∨ (z = Str.ofString "share" ∧ ShareOk n b rows)
  fl : fl = true → z = Str.ofString "full"
  rp : ∀ r ∈ rows, RP j (decide (z = Str.ofString "full")) r.1 r.2.2
theorem rp_kind {j : Nat} {fl : Bool} {n : Int} {d : Dt} (h : RP (j + 1) fl n d) : (n = 2 ∧ d = .tup [.str (Str.ofString "two")]) ∨ ∃ z b rows, d = .tup [.str z, .int b, .tup (rows.map rwD)] ∧ Kind j fl n z b rows := by
  cases h with
  | two => exact .inl ⟨rfl, rfl⟩
  | full n3 pr O c => exact .inr ⟨_, _, _, rfl, n3, .inl ⟨rfl, O⟩, fun _ => rfl, by rw [decide_eq_true rfl]; exact c⟩
  | share n3 pr O c => exact .inr ⟨_, _, _, rfl, n3, .inr ⟨rfl, O⟩, (fun z => by cases z), (by rw [decide_eq_false (by decide)]; exact c)⟩
theorem Kind.ne {j : Nat} {fl : Bool} {n : Int} {z y : Str} {b : Int} {rows : List Row} (h : Kind j fl n z b rows) (h1 : Str.ofString "full" ≠ y) (h2 : Str.ofString "share" ≠ y) : V.str z ≠ V.str y := fun e => by
  have := V.str.inj e
  rcases h.ok with ⟨w, _⟩ | ⟨w, _⟩
  · rw [w] at this; exact h1 this
  · rw [w] at this; exact h2 this
theorem cnR_len : ∀ rows : List Row, rows.length ≤ cnR rows
  | [] => Nat.le_refl _
  | r :: rs => by
    have := cnR_len rs
    show rs.length + 1 ≤ 1 + cnD r.2.2 + cnR rs
    omega
theorem all_true (n : Nat) : (List.replicate n true).all id = true := by
  rw [List.all_eq_true]
  intro x hx
  rw [(List.mem_replicate.mp hx).2]; rfl
theorem ok_lhs (D : Df_q36 K mg f fd) (T : Txt K mg t1 t2 cl) (o1 : O_q45 P w K mg base) (o2 : O_q21 P w K mg base) (o3 : O_q53 P w K mg base) {j m : Nat} (j33 : j < 33) (B_q36 : ∀ b, FnOk P w K mg b CX0 (m + 2) f fd ["_law_n", "_law_thing", "_law_full"] (spLH j K)) : FnOk P w K mg base CX0 (m + 3) f fd ["_law_n", "_law_thing", "_law_full"] (spLH (j + 1) K) := by
  obtain ⟨_, _, D_q45, G_q45⟩ := o1
  obtain ⟨_, _, D_q21, G_q21⟩ := o2
  obtain ⟨_, _, D_q53, G_q53⟩ := o3
  have D_q36 := D
  refine D.fn.ok sc_q36 (fun vs H Q E h => ?_) (fun cdv A outer s H vs Q E hr h => ?_)
  · obtain ⟨n, d, u, fl, rfl, _⟩ := h
    rfl
  · obtain ⟨n, d, u, fl, rfl, ⟨R0, rp, n30⟩, k⟩ := h
    have dp := rp.dep
    have nl := rp.nl
    have cn := rp.cn500 pr2 n30
    refine ⟨_, (pss_cons (ps_if (PW.pt (pw_or (pt_not (pt_val (pe_callB call_isinstS (by rfl) T.no_isinstance PyProof.Rows.boot_isinstance (pa_cons (pv 1) (pa_cons (pe_bltn (v := .ty "tuple") rfl T.no_tuple PyProof.Rows.boot_tuple rfl) pa_nil))))) (pw_or (pt_cmpR (op_eqS (hu150 hr)) (pv 1) (pe_tup pa_nil) (nomark _)) (pw_or1 (pt_not (pt_val (pe_callB call_isinst (by rfl) T.no_isinstance PyProof.Rows.boot_isinstance (pa_cons (pe_ix (ix_tupK (K := K) rfl) (pv 1) pe_int (fun _ _ => rfl)) (pa_cons (pe_bltn (v := .ty "str") rfl T.no_str PyProof.Rows.boot_str rfl) pa_nil))))))))) (pss_one (ps_ret pe_bl)) pss_nil) (pss_cons (ps_if (pt_cmpR op_eq (pe_ix (ix_tupK (K := K) rfl) (pv 1) pe_int (fun _ _ => rfl)) pe_str (nomark _)) (pss_one (ps_ret (pe_and (pe_cmpR (op_eqS (hu150 hr)) (pv 1) (pe_tup (pa_cons pe_str pa_nil)) (nomark _)) (pe_one (pe_cmpR op_eq (pv 0) pe_int (nomark _)))))) pss_nil) (pss_cons (ps_if (PW.pt (pw_or (pt_cmpR op_notIn_seq (pe_ix (ix_tupK (K := K) rfl) (pv 1) pe_int (fun _ _ => rfl)) (pe_ix ix_list (pe_lst (pa_cons (pe_lst (pa_cons pe_str (pa_cons pe_str (pa_cons pe_str pa_nil)))) (pa_cons (pe_lst (pa_cons pe_str pa_nil)) pa_nil))) (pe_callTy call_int_bl (by rfl) T.no_int PyProof.Rows.boot_int (pa_cons (pv 2) pa_nil)) (fun _ _ => rfl)) (by with_unfolding_all rfl)) (pw_or1 (pt_cmpR op_lt (pv 0) pe_int (nomark _))))) (pss_one (ps_ret pe_bl)) pss_nil) (pss_cons (ps_if (PW.pt (pw_or (pt_cmpR op_ne (pe_callB call_len_seq (by rfl) T.no_len PySem.boot_len (pa_cons (pv 1) pa_nil)) (pe_op op_add pe_int (pe_callTy call_int_bl (by rfl) T.no_int PyProof.Rows.boot_int (pa_cons (pe_cmpR op_eq (pe_ix (ix_tupK (K := K) rfl) (pv 1) pe_int (fun _ _ => rfl)) pe_str (nomark _)) pa_nil))) (nomark _)) (pw_or1 (pt_not (pt_val (pe_call (G_q45.mono (by omega)) hr rfl D_q45.mgx D_q45.fn.kp D_q45.bd .nil pass0 (pa_cons (pe_ix (ix_tupK (K := K) rfl) (pv 1) pe_int (fun _ _ => rfl)) (pa_cons pe_int (pa_cons (pe_op op_sub (pv 0) pe_int) pa_nil))))))))) (pss_one (ps_ret pe_bl)) pss_nil) (pss_cons (ps_set (i := 3) sc_q36.nd rfl (by subst_eqs) (pe_op op_add (pe_op op_sub (pv 0) pe_int) (pe_op op_mulB pe_int (pe_callTy call_int_bl (by rfl) T.no_int PyProof.Rows.boot_int (pa_cons (pe_cmpR op_eq (pe_ix (ix_tupK (K := K) rfl) (pv 1) pe_int (fun _ _ => rfl)) pe_str (nomark _)) pa_nil))))) (pss_cons (ps_set (i := 4) sc_q36.nd rfl (by subst_eqs) (pe_call (G_q21.mono (by omega)) hr rfl D_q21.mgx D_q21.fn.kp D_q21.bd .nil pass0 (pa_cons (pe_ix (ix_tupK (K := K) rfl) (pv 1) (pe_un un_neg pe_int) (fun _ _ => rfl)) (pa_cons (pv 3) pa_nil)))) (pss_cons (ps_if (PW.pt (pw_or (pt_cmpR op_eq (pv 4) pe_int (nomark _)) (pw_or1 (pt_cmpR op_ne (pe_op op_mod (pv 3) (pv 4)) pe_int (nomark _))))) (pss_one (ps_ret pe_bl)) pss_nil) (pss_cons (ps_if (PW.pt (pw_and (pt_cmpR op_ne (pe_ix (ix_tupK (K := K) rfl) (pv 1) pe_int (fun _ _ => rfl)) pe_str (nomark _)) (pw_and1 (pt_cmpR op_ne (pv 4) (pv 3) (nomark _))))) (pss_one (ps_ret pe_bl)) pss_nil) (pss_cons (ps_if (PW.pt (pw_or (PW.pt (pw_and (pt_cmpR op_ne (pe_ix (ix_tupK (K := K) rfl) (pv 1) pe_int (fun _ _ => rfl)) pe_str (nomark _)) (pw_and1 (pt_cmpR op_eq (pe_op op_mod (pv 0) pe_int) pe_int (nomark _))))) (pw_or1 (PW.pt (pw_and (pt_cmpR op_eq (pe_ix (ix_tupK (K := K) rfl) (pv 1) pe_int (fun _ _ => rfl)) pe_str (nomark _)) (pw_and1 (pt_cmpR op_le (pe_op op_mulB (pv 4) (pv 4)) (pv 0) (nomark _)))))))) (pss_one (ps_ret pe_bl)) pss_nil) (pss_cons (ps_if (pt_cmpR op_eq (pe_ix (ix_tupK (K := K) rfl) (pv 1) pe_int (fun _ _ => rfl)) pe_str (nomark _)) pss_no pss_nil) (pss_cons (ps_if (pt_not (pt_val (pe_call (G_q53.mono (by omega)) hr rfl D_q53.mgx D_q53.fn.kp D_q53.bd .nil pass0 (pa_cons (pv 0) (pa_cons (pv 1) (pa_cons (pv 3) pa_nil)))))) (pss_one (ps_ret pe_bl)) pss_nil) (pss_one (ps_ret (pe_callB (call_all rfl) (by rfl) T.no_all PyProof.Rows.boot_all (pa_cons (pe_compD (N := ["_law_row", "_law_thing"]) (js := [none, some 1]) (by rfl) rfl (fun _ => rfl) (pi_tup (pe_ix (ix_tupK (K := K) rfl) (pv 1) (pe_un un_neg pe_int) (fun _ _ => rfl))) (by intro b _ _ _ _; exact (pg_name (i := 0) (show List.Nodup (["_law_row", "_law_thing"] : List Str) by decide) rfl (by subst_eqs))) (by intro b _ _ _ _; exact pifs_nil) (by intro b _ _ _ _; exact (pe_call ((B_q36 b).mono (by omega)) hr rfl D_q36.mgx D_q36.fn.kp D_q36.bd .nil pass0 (pa_cons (pe_ix (ix_tupK (K := K) rfl) (pv 0) pe_int (fun _ _ => rfl)) (pa_cons (pe_ix (ix_tupK (K := K) rfl) (pv 0) pe_int (fun _ _ => rfl)) (pa_cons (pe_cmpR op_eq (pe_ix (ix_tupK (K := K) rfl) (pv 1) pe_int (fun _ _ => rfl)) pe_str (nomark _)) pa_nil)))))) pa_nil))))))))))))))), ?_⟩
    have e0 : L2.start ["_law_n", "_law_thing", "_law_full", "_law_whole_here", "_law_part", "_law_pair", "_law_norm"] [.int n, u, .bl fl] = [some (.int n), some (u), some (.bl fl), none, none, none, none] := rfl
    rw [e0]; clear e0
    refine tSeq_gen fun R hR => ?_
    bv_omega
    rcases rp_kind rp with ⟨rfl, rfl⟩ | ⟨z, b, rows, rfl, Kd⟩
    · have R1 := R0
      obtain ⟨a, xs, rfl, ha, x1, _, rfl, e1, rfl⟩ := R1
      cases e1
      refine ⟨a, _, _, rfl, ha, by decide, _, rfl, ?_⟩
      rw [if_neg (by decide)]
      refine ⟨Nat.zero_le _, fun p hp => ?_⟩
      have S1 : Same H (upd H p (.tup [])) := fun b o e => keep e hp
      have hp1 : (upd H p (.tup [])) p = some (.tup []) := upd_same
      generalize upd H p (.tup []) = H1 at S1 hp1 ⊢
      have ha1 := S1.tk.sq ha
      refine ⟨_, [], .inl ⟨Rep.mono S1.tk _ nl R0, p, [], rfl, SqT.of hp1, rfl⟩, by decide, _, rfl, ?_⟩
      rw [if_neg (by decide)]
      refine ⟨a, _, _, _, rfl, rfl, ha1, at0, isi (.str _) ⟨_, rfl, ?_⟩⟩
      rw [if_neg (by decide)]
      subst hR
      refine tSeq_gen fun R hR => ?_
      bv_omega
      refine ⟨a, _, _, _, rfl, rfl, ha1, at0, rfl, ?_⟩
      rw [if_pos rfl]
      refine ⟨by show 1 ≤ sizeLine; decide, fun p2 hp2 => ?_⟩
      refine ⟨_, [.str (Str.ofString "two")], .inl ⟨Rep.mono (S1.tk.trans (TK.new hp2)) _ nl R0, p2, _, rfl, SqT.of upd_same, _, _, rfl, rfl, rfl⟩, by decide, _, rfl, ?_⟩
      rw [if_pos (by decide)]
      exact k _ fun b o e => keep (S1 _ _ e) hp2
    · have R1 := R0
      obtain ⟨a, xs, rfl, ha, x1, _, rfl, e1, x2, _, rfl, e2, x3, _, rfl, R3, rfl⟩ := R1
      cases e1
      cases e2
      have R3' := R3
      obtain ⟨c, ys, rfl, hc, RR⟩ := R3'
      have xl : ys.length = rows.length := by rw [← RR.length, List.length_map]
      have n3 := Kd.n3
      have nl2 : noLL (rows.map rwD) = true := by
        have h : (true && (true && (noLL (rows.map rwD) && true))) = true := nl
        simpa using h
      have Hk : HeadOk n b rows := Kd.ok.elim (fun h => h.2.toHeadOk) (fun h => h.2.toHeadOk)
      have ple : prd rows ≤ n - 1 := Int.le_of_dvd (by omega) (Int.dvd_of_emod_eq_zero Hk.dv)
      have pge := prd_ge1 (by decide) Hk.up
      have rl : rows.length ≤ 500 := by
        have := cnR_len rows
        rw [cn_paper] at cn
        omega
      have dp2 : depL (rows.map rwD) ≤ 100 := by
        have e : dep (.tup [.str z, .int b, .tup (rows.map rwD)]) = max 0 (max 0 (max (depL (rows.map rwD) + 1) 0)) + 1 := rfl
        omega
      refine ⟨a, _, _, rfl, ha, by decide, _, rfl, ?_⟩
      rw [if_neg (by decide)]
      refine ⟨Nat.zero_le _, fun p hp => ?_⟩
      have S1 : Same H (upd H p (.tup [])) := fun b o e => keep e hp
      have hp1 : (upd H p (.tup [])) p = some (.tup []) := upd_same
      generalize upd H p (.tup []) = H1 at S1 hp1 ⊢
      have ha1 := S1.tk.sq ha
      refine ⟨_, [], .inl ⟨Rep.mono S1.tk _ nl R0, p, [], rfl, SqT.of hp1, rfl⟩, ?_, _, rfl, ?_⟩
      · show max 0 (max 0 (max (depL (rows.map rwD) + 1) 0)) ≤ 100
        have e : dep (.tup [.str z, .int b, .tup (rows.map rwD)]) = max 0 (max 0 (max (depL (rows.map rwD) + 1) 0)) + 1 := rfl
        omega
      rw [if_neg (fun z => by cases z)]
      refine ⟨a, _, _, _, rfl, rfl, ha1, at0, isi (.str _) ⟨_, rfl, ?_⟩⟩
      rw [if_neg (by decide)]
      subst hR
      refine tSeq_gen fun R hR => ?_
      bv_omega
      refine ⟨a, _, _, _, rfl, rfl, ha1, at0, rfl, ?_⟩
      rw [if_neg (Kd.ne (by decide) (by decide))]
      subst hR
      refine tSeq_gen fun R hR => ?_
      bv_omega
      refine ⟨a, _, _, _, rfl, rfl, ha1, at0, by show 3 ≤ sizeLine; decide, fun p1 hp1 => ⟨by show 1 ≤ sizeLine; decide, fun p2 hp2 => ⟨by show 2 ≤ sizeLine; decide, fun p3 hp3 => ⟨fl, rfl, ?_⟩⟩⟩⟩
      have S4 : Same H1 (upd (upd (upd H1 p1 (.lst [.str (Str.ofString "full"), .str (Str.ofString "share"), .str (Str.ofString "other")])) p2 (.lst [.str (Str.ofString "full")])) p3 (.lst [.ref p1, .ref p2])) := fun b o e => keep (keep (keep e hp1) hp2) hp3
      have l1 : (upd (upd (upd H1 p1 (.lst [.str (Str.ofString "full"), .str (Str.ofString "share"), .str (Str.ofString "other")])) p2 (.lst [.str (Str.ofString "full")])) p3 (.lst [.ref p1, .ref p2])) p1 = some (.lst [.str (Str.ofString "full"), .str (Str.ofString "share"), .str (Str.ofString "other")]) := keep (keep upd_same hp2) hp3
      have l2 : (upd (upd (upd H1 p1 (.lst [.str (Str.ofString "full"), .str (Str.ofString "share"), .str (Str.ofString "other")])) p2 (.lst [.str (Str.ofString "full")])) p3 (.lst [.ref p1, .ref p2])) p2 = some (.lst [.str (Str.ofString "full")]) := keep upd_same hp3
      have l3 : (upd (upd (upd H1 p1 (.lst [.str (Str.ofString "full"), .str (Str.ofString "share"), .str (Str.ofString "other")])) p2 (.lst [.str (Str.ofString "full")])) p3 (.lst [.ref p1, .ref p2])) p3 = some (.lst [.ref p1, .ref p2]) := upd_same
      generalize (upd (upd (upd H1 p1 (.lst [.str (Str.ofString "full"), .str (Str.ofString "share"), .str (Str.ofString "other")])) p2 (.lst [.str (Str.ofString "full")])) p3 (.lst [.ref p1, .ref p2])) = H4 at S4 l1 l2 l3 ⊢
      have S04 := S1.trans S4
      have ha4 := S04.tk.sq ha
      have R4 := Rep.mono S04.tk _ nl R0
      refine ⟨_, _, rfl, SqL.of l3, .ref (if fl = true then p2 else p1), by cases fl <;> rfl, ?_⟩
      refine ⟨_, (if fl = true then [Str.ofString "full"] else [Str.ofString "full", Str.ofString "share", Str.ofString "other"]).map V.str, rfl, .inl (SqL.of (by cases fl; exact l1; exact l2)), rfl, by cases fl <;> rfl, ?_⟩
      have iv : inV (.str z) ((if fl = true then [Str.ofString "full"] else [Str.ofString "full", Str.ofString "share", Str.ofString "other"]).map V.str) = true := by
        refine inV_str ?_
        cases fl with
        | true => rw [Kd.fl rfl]; exact List.mem_cons_self
        | false =>
          rcases Kd.ok with ⟨w, _⟩ | ⟨w, _⟩
          · rw [w]; exact List.mem_cons_self
          · rw [w]; exact List.mem_cons_of_mem _ List.mem_cons_self
      rw [iv]
      refine ⟨_, rfl, ?_⟩
      rw [if_neg (by decide), if_neg (by omega)]
      have zo := Kd.ne (y := Str.ofString "other") (by decide) (by decide)
      subst hR
      refine tSeq_gen fun R hR => ?_
      bv_omega
      refine ⟨_, .inr ha4, a, _, _, _, rfl, rfl, ha4, at0, rfl, false, by rw [decide_eq_false zo], 0, rfl, ?_⟩
      rw [if_neg (fun z => z rfl)]
      refine ⟨a, _, _, _, rfl, rfl, ha4, rfl, b, 1, n - 1, rfl, ⟨Hk.b1, Hk.bn⟩, _, rfl, ?_⟩
      rw [if_neg (by decide)]
      subst hR
      refine tSeq_gen fun R hR => ?_
      bv_omega
      refine ⟨a, _, _, _, rfl, rfl, ha4, at0, rfl, false, by rw [decide_eq_false zo], 0, rfl, .inr ⟨by decide, by decide⟩, ?_⟩
      subst hR
      refine tSeq_gen fun R hR => ?_
      bv_omega
      refine ⟨a, _, _, _, rfl, rfl, ha4, atI_last [V.str z, V.int b] (V.ref c), ?_⟩
      refine ⟨rows, c, n - 1 + 2 * 0, rfl, Rep.mono S04.tk (.tup (rows.map rwD)) nl2 R3, ⟨Hk.ne, Hk.up, by omega, by omega, dp2, nl2⟩, fun H5 S5 => ?_⟩
      rw [show n - 1 + 2 * 0 = n - 1 by omega]
      try bv_omega
      have S05 := S04.trans S5
      have ha5 := S05.tk.sq ha
      have R5 := Rep.mono S05.tk _ nl R0
      subst hR
      refine tSeq_gen fun R hR => ?_
      bv_omega
      rw [if_neg (by omega)]
      refine ⟨by omega, ?_⟩
      rw [if_neg (fun z => z Hk.dv)]
      subst hR
      refine tSeq_gen fun R hR => ?_
      bv_omega
      suffices hg : R { nx := fun x H' => Q V.non H', rt := Q } [some (V.int n), some (V.ref a), some (V.bl fl), some (V.int (n - 1)), some (V.int (prd rows)), none, none] H5 by
        refine ⟨a, _, _, _, rfl, rfl, ha5, at0, rfl, ?_⟩
        rcases Kd.ok with ⟨w, O⟩ | ⟨w, O⟩
        · rw [if_pos (by rw [w]; decide), if_neg (fun z => z O.all)]; exact hg
        · rw [if_neg (by rw [w]; decide)]; exact hg
      subst hR
      refine tSeq_gen fun R hR => ?_
      bv_omega
      suffices hg : R { nx := fun x H' => Q V.non H', rt := Q } [some (V.int n), some (V.ref a), some (V.bl fl), some (V.int (n - 1)), some (V.int (prd rows)), none, none] H5 by
        refine ⟨a, _, _, _, rfl, rfl, ha5, at0, rfl, ?_⟩
        rcases Kd.ok with ⟨w, O⟩ | ⟨w, O⟩
        · rw [if_neg (by rw [w]; decide)]
          refine ⟨a, _, _, _, rfl, rfl, ha5, at0, rfl, ?_⟩
          rw [if_neg (by rw [w]; decide)]; exact hg
        · have od := O.odd
          have bg := O.big
          rw [if_pos (by rw [w]; decide)]
          refine ⟨by decide, ?_⟩
          rw [if_neg (by omega)]
          refine ⟨a, _, _, _, rfl, rfl, ha5, at0, rfl, ?_⟩
          rw [if_pos (by rw [w])]
          refine ⟨.inr ⟨by omega, by omega⟩, ?_⟩
          rw [if_neg (by omega)]; exact hg
      subst hR
      refine tSeq_gen fun R hR => ?_
      bv_omega
      refine ⟨a, _, _, _, rfl, rfl, ha5, at0, rfl, ?_⟩
      rw [if_neg zo]
      subst hR
      refine tSeq_gen fun R hR => ?_
      bv_omega
      refine ⟨n, b, n - 1, rows, z, a, rfl, R5, Kd.ok, ⟨n3, n30, nl2, rl⟩, fun H6 S6 => ⟨_, rfl, ?_⟩⟩
      rw [if_neg (by decide)]
      have S06 := S05.trans S6
      have ha6 := S06.tk.sq ha
      subst hR
      bv_omega
      refine tCompC_of ?_
      refine ⟨_, rfl, 1, rfl, a, _, _, _, rfl, rfl, ha6, atI_last [V.str z, V.int b] (V.ref c), c, rfl, ⟨ys, S06.tk.sq hc⟩, fun bs D hcb hD => ?_⟩
      obtain ⟨Pv, hPv⟩ : ∃ Pv : Nat → St → Hp → Prop, ∀ i σ H2, Pv i σ H2 ↔ (∃ v1, σ = [v1, some (.ref a)]) ∧ Same H6 H2 ∧ H2 D = some (.lst ((List.replicate i true).map V.bl)) := ⟨_, fun _ _ _ => Iff.rfl⟩
      refine comp_tup (xs := ys) Pv ((hPv _ _ _).mpr ⟨⟨none, rfl⟩, fun b o e => keep e hD, upd_same⟩) (fun i σ H' hi h => (S06.trans ((hPv _ _ _).mp h).2.1).tk.sq hc) ?_ ?_
      · intro i x σ H2 hx h
        obtain ⟨⟨v1, rfl⟩, s2, d2⟩ := (hPv _ _ _).mp h
        have s02 := S06.trans s2
        obtain ⟨r, hr2, Rr⟩ := row_get (RR.mono s02.tk _ nl2) hx
        have rm := List.mem_of_getElem? hr2
        have rle := prd_mem Hk.up rm
        have jl : i < rows.length := (List.getElem?_eq_some_iff.mp hr2).1
        obtain ⟨c2, zs, rfl, hc2, _, _, rfl, rfl, _, _, rfl, rfl, z2, _, rfl, R8, rfl⟩ := Rr
        (try dsimp only [CT, tYes]); bv_omega
        refine ⟨c2, _, _, _, rfl, rfl, hc2, rfl, c2, _, _, _, rfl, rfl, hc2, rfl, a, _, _, _, rfl, rfl, s02.tk.sq ha, at0, rfl, r.1, r.2.2, z2, decide (z = Str.ofString "full"), by rw [show decide (V.str z = V.str (Str.ofString "full")) = decide (z = Str.ofString "full") by simp], ⟨R8, Kd.rp r rm, by omega⟩, fun H7 S7 => ⟨_, S7 _ _ d2, small1000 (by simp; omega), (hPv _ _ _).mpr ⟨⟨_, rfl⟩, fun b o e => ?_, ?_⟩⟩⟩
        · rw [upd_ne (ne_of_none e hD)]; exact S7 _ _ (s2 _ _ e)
        · rw [upd_same, List.replicate_succ', List.map_append]; rfl
      · intro σ H2 h
        obtain ⟨⟨v1, rfl⟩, s2, d2⟩ := (hPv _ _ _).mp h
        refine ⟨D, _, rfl, d2, ?_⟩
        rw [all_true]
        exact k _ (S06.trans s2)
theorem ok_q36 (D : Df_q36 K mg f fd) (T : Txt K mg t1 t2 cl) (o1 : ∀ b, O_q45 P w K mg b) (o2 : ∀ b, O_q21 P w K mg b) (o3 : ∀ b, O_q53 P w K mg b) : ∀ (j : Nat) (b : Heap), j ≤ 33 → FnOk P w K mg b CX0 (j + 2) f fd ["_law_n", "_law_thing", "_law_full"] (spLH j K)
  | 0, _, _ => ok_lh0
  | j + 1, b, h => ok_lhs (m := j) D T (o1 b) (o2 b) (o3 b) (by omega) fun b => ok_q36 D T o1 o2 o3 j b (by omega)
abbrev O_q36 (P : Program) (w : World) (K : PySem.W.Frag) (mg : Str → Option Value) (base : Heap) : Prop := ∃ f fd, Df_q36 K mg f fd ∧ FnOk P w K mg base CX0 35 f fd ["_law_n", "_law_thing", "_law_full"] ((spLH 33 K))
end
section
variable {P : Program} {w : World} {K : PySem.W.Frag} {mg : Str → Option Value} {base : Heap} {t1 t2 : Tok} {cl : Cl} {f : Addr} {fd : FuncData}
structure WordC (K : PySem.W.Frag) (cl : Cl) (C : Addr) (i : Nat) : Prop where
  xc : XCls K C
  ex : PySem.W.exmOne K (.ref C) (.ref cl.pe) = some true
  ve : PySem.W.kitOne K (.ref C) (.type "ValueError") = some true
  k0 : PySem.W.kitOne K (.ref C) (.ref cl.nn) = some (decide (i = 0))
  k1 : PySem.W.kitOne K (.ref C) (.ref cl.np) = some (decide (i = 1))
  k2 : PySem.W.kitOne K (.ref C) (.ref cl.pa) = some (decide (i = 2))
  k3 : PySem.W.kitOne K (.ref C) (.ref cl.pp) = some (decide (i = 3))
  k4 : PySem.W.kitOne K (.ref C) (.ref cl.nb) = some (decide (i = 4))
  k5 : PySem.W.kitOne K (.ref C) (.ref cl.nt) = some (decide (i = 5))
  k6 : PySem.W.kitOne K (.ref C) (.ref cl.nl) = some (decide (i = 6))
  k7 : PySem.W.kitOne K (.ref C) (.ref cl.nm) = some (decide (i = 7))
  k8 : PySem.W.kitOne K (.ref C) (.ref cl.nd) = some (decide (i = 8))
  k9 : PySem.W.kitOne K (.ref C) (.ref cl.tg) = some (decide (i = 9))
theorem small1000' {n : Nat} (h : n ≤ 1000) : n ≤ sizeLine := Nat.le_of_lt (small1000 h)
abbrev fsG (p m : Int) : List (Str × V) := [("many", .int p), ("most", .int m)]
def wordOf (i : Nat) : Str := if i = 0 then "number" else "prime"
theorem xdS {H H' : Hp} {dx : Option Addr} (h : ∀ d, dx = some d → ∃ fs, H d = some (.xd fs)) (s : Same H H') : ∀ d, dx = some d → ∃ fs, H' d = some (.xd fs) := fun d e => let ⟨fs, q⟩ := h d e; ⟨fs, s _ _ q⟩
theorem isiX {K : PySem.W.Frag} {H : Hp} {a C : Addr} {dx : Option Addr} {c : V} {u : Value} {b : Bool} {Q : VK} (ha : H a = some (excHo dx a (.ref C))) (hx : ∀ d, dx = some d → ∃ fs, H d = some (.xd fs)) (xc : XCls K C) (ec : clsV c = some u) (hk : PySem.W.kitOne K (.ref C) u = some b) (q : Q (.bl b) H) : rIsiX K [.ref a, c] H Q := ⟨a, C, dx, c, u, b, rfl, ha, hx, xc, ec, hk, q⟩
def marksOf (i : Nat) : List Bool := [decide (i = 0), decide (i = 1), decide (i = 2), decide (i = 3), decide (i = 4), decide (i = 5), decide (i = 6), decide (i = 7), decide (i = 8), decide (i = 9)]
abbrev s_q39 : Stmt := top 71
theorem sc_q39 : FnScope ["_law_e", "_law_some"] ["_law_e"] (defScope s_q39) := ⟨rfl, rfl, rfl, by decide +kernel, rfl, by decide +kernel, by decide +kernel⟩
abbrev Df_q39 (K : PySem.W.Frag) (mg : Str → Option Value) (f : Addr) (fd : FuncData) : Prop := Def K mg "_law_marks" s_q39 ["_law_e"] f fd
def spMarks (K : PySem.W.Frag) (cl : Cl) : Sp := fun vs H Q _ => ∃ (a C : Addr) (dx : Option Addr) (i : Nat), vs = [.ref a] ∧ H a = some (excHo dx a (.ref C)) ∧ (∀ d, dx = some d → ∃ fs, H d = some (.xd fs)) ∧ WordC K cl C i ∧ ∀ p H', Same H H' → H' p = some (.lst ((marksOf i).map V.bl)) → Q (.ref p) H'
theorem ok_q39 (D : Df_q39 K mg f fd) (T : Txt K mg t1 t2 cl) : FnOkM P w K mg base 1 f fd ["_law_e"] (spMarks K cl) := by
  refine D.fn.okM sc_q39 (fun vs H Q E h => ?_) (fun cdv A outer s H vs Q E hr h => ?_)
  · obtain ⟨a, C, dx, i, rfl, _⟩ := h
    rfl
  · obtain ⟨a, C, dx, i, rfl, ha, hx, W, k⟩ := h
    refine ⟨_, (pss_cons (ps_set (i := 1) sc_q39.nd rfl (by subst_eqs) (pe_lst (pa_cons (pe_callB call_isinstX (by rfl) T.no_isinstance PyProof.Rows.boot_isinstance (pa_cons (pv 0) (pa_cons (pe_glob (v := .ref _) rfl T.mg_NoNumber rfl) pa_nil))) (pa_cons (pe_callB call_isinstX (by rfl) T.no_isinstance PyProof.Rows.boot_isinstance (pa_cons (pv 0) (pa_cons (pe_glob (v := .ref _) rfl T.mg_NoPrime rfl) pa_nil))) (pa_cons (pe_callB call_isinstX (by rfl) T.no_isinstance PyProof.Rows.boot_isinstance (pa_cons (pv 0) (pa_cons (pe_glob (v := .ref _) rfl T.mg_NoPair rfl) pa_nil))) (pa_cons (pe_callB call_isinstX (by rfl) T.no_isinstance PyProof.Rows.boot_isinstance (pa_cons (pv 0) (pa_cons (pe_glob (v := .ref _) rfl T.mg_NoPaper rfl) pa_nil))) pa_nil)))))) (pss_cons (ps_set (i := 1) sc_q39.nd rfl (by subst_eqs) (pe_op op_cat (pv 1) (pe_lst (pa_cons (pe_callB call_isinstX (by rfl) T.no_isinstance PyProof.Rows.boot_isinstance (pa_cons (pv 0) (pa_cons (pe_glob (v := .ref _) rfl T.mg_NoBases rfl) pa_nil))) (pa_cons (pe_callB call_isinstX (by rfl) T.no_isinstance PyProof.Rows.boot_isinstance (pa_cons (pv 0) (pa_cons (pe_glob (v := .ref _) rfl T.mg_NoText rfl) pa_nil))) (pa_cons (pe_callB call_isinstX (by rfl) T.no_isinstance PyProof.Rows.boot_isinstance (pa_cons (pv 0) (pa_cons (pe_glob (v := .ref _) rfl T.mg_NoLine rfl) pa_nil))) (pa_cons (pe_callB call_isinstX (by rfl) T.no_isinstance PyProof.Rows.boot_isinstance (pa_cons (pv 0) (pa_cons (pe_glob (v := .ref _) rfl T.mg_NoName rfl) pa_nil))) pa_nil))))))) (pss_one (ps_ret (pe_op op_cat (pv 1) (pe_lst (pa_cons (pe_callB call_isinstX (by rfl) T.no_isinstance PyProof.Rows.boot_isinstance (pa_cons (pv 0) (pa_cons (pe_glob (v := .ref _) rfl T.mg_NoDeed rfl) pa_nil))) (pa_cons (pe_callB call_isinstX (by rfl) T.no_isinstance PyProof.Rows.boot_isinstance (pa_cons (pv 0) (pa_cons (pe_glob (v := .ref _) rfl T.mg_TooGreat rfl) pa_nil))) pa_nil)))))))), ?_⟩
    have e0 : L2.start ["_law_e", "_law_some"] [.ref a] = [some (.ref a), none] := rfl
    rw [e0]; clear e0
    bv_omega
    refine isiX ha hx W.xc rfl W.k0 (isiX ha hx W.xc rfl W.k1 (isiX ha hx W.xc rfl W.k2 (isiX ha hx W.xc rfl W.k3 ⟨by show 4 ≤ sizeLine; decide, fun p hp => ?_⟩)))
    obtain ⟨L1, e1⟩ : ∃ L, [V.bl (decide (i = 0)), V.bl (decide (i = 1)), V.bl (decide (i = 2)), V.bl (decide (i = 3))] = L := ⟨_, rfl⟩
    rw [e1]
    have z1 : L1.length = 4 := by rw [← e1]; rfl
    have h1 := keep (u := .lst L1) ha hp
    have s1 : Same H (upd H p (.lst L1)) := fun b o e => keep e hp
    have m1 : (upd H p (.lst L1)) p = some (.lst L1) := upd_same
    have x1 := xdS hx s1
    generalize upd H p (.lst L1) = H1 at h1 s1 m1 x1 ⊢
    refine isiX h1 x1 W.xc rfl W.k4 (isiX h1 x1 W.xc rfl W.k5 (isiX h1 x1 W.xc rfl W.k6 (isiX h1 x1 W.xc rfl W.k7 ⟨by show 4 ≤ sizeLine; decide, fun p1 hp1 => ?_⟩)))
    obtain ⟨L2, e2⟩ : ∃ L, [V.bl (decide (i = 4)), V.bl (decide (i = 5)), V.bl (decide (i = 6)), V.bl (decide (i = 7))] = L := ⟨_, rfl⟩
    rw [e2]
    have z2 : L2.length = 4 := by rw [← e2]; rfl
    refine ⟨_, keep m1 hp1, _, upd_same, small1000' (by rw [z1, z2]; decide), fun p2 hp2 => ?_⟩
    have h2 := keep (u := .lst (L1 ++ L2)) (keep (u := .lst L2) h1 hp1) hp2
    have s2 : Same H (upd (upd H1 p1 (.lst L2)) p2 (.lst (L1 ++ L2))) := fun b o e => keep (keep (s1 b o e) hp1) hp2
    have m2 : (upd (upd H1 p1 (.lst L2)) p2 (.lst (L1 ++ L2))) p2 = some (.lst (L1 ++ L2)) := upd_same
    have x2 := xdS hx s2
    generalize (upd (upd H1 p1 (.lst L2)) p2 (.lst (L1 ++ L2))) = H2 at h2 s2 m2 x2 ⊢
    refine isiX h2 x2 W.xc rfl W.k8 (isiX h2 x2 W.xc rfl W.k9 ⟨by show 2 ≤ sizeLine; decide, fun p3 hp3 => ?_⟩)
    refine ⟨_, keep m2 hp3, _, upd_same, small1000' (by rw [List.length_append, z1, z2]; exact (show 4 + 4 + 2 ≤ 1000 by decide)), fun p4 hp4 => ?_⟩
    exact k p4 _ (fun b o e => keep (keep (s2 b o e) hp3) hp4) (by rw [← e1, ← e2]; exact upd_same)
abbrev MM_q39 (P : Program) (w : World) (K : PySem.W.Frag) (mg : Str → Option Value) (base : Heap) (cl : Cl) : Prop := ∃ f fd, Df_q39 K mg f fd ∧ FnOkM P w K mg base 1 f fd ["_law_e"] (spMarks K cl)
abbrev s_q52 : Stmt := top 72
theorem sc_q52 : FnScope ["_law_call", "_law_found", "_law_e", "_law_marks_here", "_law_words"] ["_law_call"] (defScope s_q52) := ⟨rfl, rfl, rfl, by decide +kernel, rfl, by decide +kernel, by decide +kernel⟩
abbrev Df_q52 (K : PySem.W.Frag) (mg : Str → Option Value) (f : Addr) (fd : FuncData) : Prop := Def K mg "_law_said" s_q52 ["_law_call"] f fd
def spSaid (P : Program) (w : World) (K : PySem.W.Frag) (mg : Str → Option Value) (cl : Cl) (b : Heap) : Sp := fun vs H Q _ => ∃ (fl : Addr) (fdl : FuncData) (spL : Sp), vs = [.ref fl] ∧ H fl = some (LamO fl fdl) ∧ FnOk P w K mg b (CXE P w) 72 fl fdl [] spL ∧ Binds K fdl [] [] ∧
  ((∃ (C : Addr) (i : Nat), WordC K cl C i ∧ (i = 0 ∨ i = 1) ∧ (∀ R : XK, (∀ H0, Same H H0 → R (.ref C) none H0) → spL [] H (fun _ _ => False) R) ∧ ∀ H'', Same H H'' → Q (.str (wordOf i)) H'') ∨
   (∃ p m : Int, WordC K cl cl.tg 9 ∧ PySem.W.findIn K (.ref cl.tg) "many" = some none ∧ PySem.W.findIn K (.ref cl.tg) "most" = some none ∧ (∀ R : XK, (∀ d H', Same H H' → H' d = some (.xd (fsG p m)) → R (.ref cl.tg) (some d) H') → spL [] H (fun _ _ => False) R) ∧ ∀ q H'', Same H H'' → H'' q = some (.tup [.str "great", .int p, .int m]) → Q (.ref q) H'') ∨
   (∃ told : V → Prop, (∀ Q' : VK, (∀ v H', told v → Same H H' → Q' v H') → spL [] H Q' E0) ∧ ∀ v q H'', told v → Same H H'' → H'' q = some (.tup [.str "told", v]) → Q (.ref q) H''))
theorem ok_q52 (D : Df_q52 K mg f fd) (T : Txt K mg t1 t2 cl) (o1 : MM_q39 P w K mg base cl) : FnOk P w K mg base CX0 73 f fd ["_law_call"] (spSaid P w K mg cl base) := by
  obtain ⟨_, _, D_q39, M_q39⟩ := o1
  refine D.fn.ok sc_q52 (fun vs H Q E h => ?_) (fun cdv A outer s H vs Q E hr h => ?_)
  · obtain ⟨fl, fdl, spL, rfl, _⟩ := h
    rfl
  · obtain ⟨fl, fdl, spL, rfl, hfl, F, hB, h⟩ := h
    refine ⟨_, (pss_cons (PS.or (ps_tryR (ie := 2) sc_q52.nd rfl rfl rfl rfl rfl rfl rfl T.mg_PrimeError (px_set0 (i := 0) rfl (Or.inl rfl) hr) (fun v => (pss_cons (ps_set (i := 3) sc_q52.nd rfl (by subst_eqs) (pe_callM (M_q39.mono (by decide)) (RoomM.of hr) rfl D_q39.mgx D_q39.fn.kp D_q39.bd .nil (pa_cons (pv 2) pa_nil))) (pss_cons (ps_if (PW.pt (pw_or (pt_not (pt_val (pe_callB (call_isinstXK (K := K) rfl) (by rfl) T.no_isinstance PyProof.Rows.boot_isinstance (pa_cons (pv 2) (pa_cons (pe_bltn (v := .ty "ValueError") rfl T.no_ValueError PyProof.Rows.Boot.«ValueError» rfl) pa_nil))))) (pw_or1 (pt_cmpR op_ne (pe_bmK (K := K) rfl PySem.F.plainAttrs_list PySem.F.slot_list_count PySem.F.type_list_count mt_count (pv 3) (pa_cons pe_bl pa_nil)) pe_int (nomark _))))) (pss_one (ps_ret pe_str)) pss_nil) (pss_cons (ps_if (pt_val (pe_ix (ix_listK (K := K) rfl) (pv 3) pe_int (fun _ _ => rfl))) (pss_one (ps_ret (pe_tup (pa_cons pe_str (pa_cons (pe_fldXK (K := K) rfl (pv 2) rfl) (pa_cons (pe_fldXK (K := K) rfl (pv 2) rfl) pa_nil)))))) pss_nil) (pss_cons (ps_set (i := 4) sc_q52.nd rfl (by subst_eqs) (pe_lst (pa_cons pe_str (pa_cons pe_str (pa_cons pe_str (pa_cons pe_str (pa_cons pe_str (pa_cons pe_str (pa_cons pe_str (pa_cons pe_str (pa_cons pe_str pa_nil))))))))))) (pss_one (ps_ret (pe_ix (ix_listK (K := K) rfl) (pv 4) (pe_bmK (K := K) rfl PySem.F.plainAttrs_list PySem.F.slot_list_index PySem.F.type_list_index mt_index (pv 3) (pa_cons pe_bl pa_nil)) (fun _ _ => rfl)))))))))) (ps_tryN (pss_one (ps_set (i := 1) sc_q52.nd rfl (by subst_eqs) (pe_callV0 (i := 0) rfl (Or.inl rfl) hr))))) (pss_one (ps_ret (pe_tup (pa_cons pe_str (pa_cons (pv 1) pa_nil)))))), ?_⟩
    have e0 : L2.start ["_law_call", "_law_found", "_law_e", "_law_marks_here", "_law_words"] [.ref fl] = [some (.ref fl), none, none, none, none] := rfl
    rw [e0]; clear e0
    refine tSeq_gen fun R hR => ?_
    dsimp only [tSeq]
    rcases h with ⟨C, i, W, hi, kE, k⟩ | ⟨p, m, W, n1, n2, kE, k⟩ | ⟨told, kE, k⟩
    · left
      (try dsimp only [tTryR, xCall0]); bv_omega
      refine ⟨fdl, hfl, spL, F, hB, kE _ fun H0 s0 => ⟨W.ex, fun a ha => ?_⟩⟩
      have s1 : Same H (upd H0 a (excH a (.ref C))) := fun b o e => keep (s0 b o e) ha
      have e1 : (upd H0 a (excH a (.ref C))) a = some (excH a (.ref C)) := upd_same
      generalize upd H0 a (excH a (.ref C)) = H1 at s1 e1 ⊢
      refine ⟨a, C, none, i, rfl, e1, (fun _ z => nomatch z), W, fun p H2 s2 m2 => ?_⟩
      have e2 := s2 _ _ e1
      bv_omega
      refine isiX e2 (fun _ z => nomatch z) W.xc rfl W.ve ⟨_, rfl, ?_⟩
      rw [if_neg (by decide)]
      refine ⟨.inl ⟨_, SqL.of m2⟩, marksOf i, m2, ?_⟩
      have ct : ((marksOf i).countP id : Nat) = 1 := by rcases hi with rfl | rfl <;> rfl
      rw [ct, if_neg (fun h => h rfl)]
      refine ⟨_, SqL.of m2, V.bl (decide (i = 9)), rfl, _, rfl, ?_⟩
      rw [if_neg (by rcases hi with rfl | rfl <;> decide)]
      refine ⟨by show 9 ≤ sizeLine; decide, fun p6 hp6 => ?_⟩
      have m6 := keep (u := .lst [V.str (Str.ofString "number"), V.str (Str.ofString "prime"), V.str (Str.ofString "pair"), V.str (Str.ofString "paper"), V.str (Str.ofString "bases"), V.str (Str.ofString "text"), V.str (Str.ofString "line"), V.str (Str.ofString "name"), V.str (Str.ofString "deed")]) m2 hp6
      refine ⟨.inl ⟨_, SqL.of m6⟩, marksOf i, m6, i, ?_, ?_, ?_, _, SqL.of upd_same, V.str (wordOf i), ?_, k _ (fun b o e => keep (s2 b o (s1 b o e)) hp6)⟩
      · rcases hi with rfl | rfl <;> rfl
      · intro m hm
        rcases hi with rfl | rfl
        · omega
        · have : m = 0 := by omega
          rcases this with rfl
          rfl
      · omega
      · rcases hi with rfl | rfl <;> rfl
    · left
      (try dsimp only [tTryR, xCall0]); bv_omega
      refine ⟨fdl, hfl, spL, F, hB, kE _ fun d H0 s0 hd => ⟨W.ex, fun a ha => ?_⟩⟩
      have s1 : Same H (upd H0 a (excHo (some d) a (.ref cl.tg))) := fun b o e => keep (s0 b o e) ha
      have e1 : (upd H0 a (excHo (some d) a (.ref cl.tg))) a = some (excHo (some d) a (.ref cl.tg)) := upd_same
      have d1 := keep (u := excHo (some d) a (.ref cl.tg)) hd ha
      generalize upd H0 a (excHo (some d) a (.ref cl.tg)) = H1 at s1 e1 d1 ⊢
      refine ⟨a, cl.tg, some d, 9, rfl, e1, (fun _ z => by cases z; exact ⟨_, d1⟩), W, fun pm H2 s2 m2 => ?_⟩
      have e2 := s2 _ _ e1
      have d2 := s2 _ _ d1
      bv_omega
      refine isiX e2 (fun _ z => by cases z; exact ⟨_, d2⟩) W.xc rfl W.ve ⟨_, rfl, ?_⟩
      rw [if_neg (by decide)]
      refine ⟨.inl ⟨_, SqL.of m2⟩, marksOf 9, m2, ?_⟩
      have ct : ((marksOf 9).countP id : Nat) = 1 := rfl
      rw [ct, if_neg (fun h => h rfl)]
      refine ⟨_, SqL.of m2, V.bl true, rfl, _, rfl, ?_⟩
      rw [if_pos rfl]
      dsimp only [tFldX, tVar]
      refine ⟨_, rfl, a, cl.tg, d, _, _, rfl, e2, d2, W.xc, n1, rfl, _, rfl, a, cl.tg, d, _, _, rfl, e2, d2, W.xc, n2, rfl, by show 3 ≤ sizeLine; decide, fun q hq => ?_⟩
      exact k q _ (fun b o e => keep (s2 b o (s1 b o e)) hq) upd_same
    · right
      subst hR
      rename_i tCallV0
      refine ⟨fdl, hfl, spL, F, hB, kE _ fun v H' hv s0 => ⟨by show 2 ≤ sizeLine; decide, fun q hq => ?_⟩⟩
      exact k v q _ hv (fun b o e => keep (s0 b o e) hq) upd_same
theorem Step.same {a : Addr} {H H1 H2 : Hp} (x : Step a H H1) (y : Same H1 H2) : Step a H H2 := by
  obtain ⟨u, v, e, r⟩ := x.st
  exact ⟨⟨u, v, y a _ e, r⟩, fun b o hb e => y b o (x.but b o hb e)⟩
def Tyd (K : PySem.W.Frag) (a : Addr) (H : Hp) (v : V) : Prop := (∃ n, TyOf K H v (.type n)) ∧ ∀ p, v = .ref p → p ≠ a
theorem Step.tab {a Pt : Addr} {q : Str} {H H1 : Hp} (st : StAt H a) (x : Step a H H1) (t : TabOk H Pt q) : TabOk H1 Pt q := t.kept fun b o e n => x.but b o (fun z => by
  obtain ⟨u, v, e', _⟩ := st
  rw [z, e'] at e
  cases e
  exact n _ rfl) e
def qL : Str := ("law" : Str) ++ ".<locals>." ++ "<lambda>"
def KX (Pt pc : Addr) (H H' : Hp) : Prop := ∀ b o, b ≠ Pt → b ≠ pc → H b = some o → H' b = some o
theorem KX.trans {Pt pc : Addr} {H H1 H2 : Hp} (a : KX Pt pc H H1) (b : KX Pt pc H1 H2) : KX Pt pc H H2 := fun c o h1 h2 e => b c o h1 h2 (a c o h1 h2 e)
def Ty2 (K : PySem.W.Frag) (Pt pc : Addr) (H : Hp) (v : V) : Prop := (∃ n, TyOf K H v (.type n)) ∧ ∀ p, v = .ref p → p ≠ Pt ∧ p ≠ pc
theorem TyOf.keepK {K : PySem.W.Frag} {H H' : Hp} {v : V} {n : String} (ty : TyOf K H v (.type n)) (s : ∀ p o, v = .ref p → H p = some o → H' p = some o) : TyOf K H' v (.type n) := by
  cases ty with
  | non => exact .non
  | bl x => exact .bl x
  | int i => exact .int i
  | str x => exact .str x
  | flt x => exact .flt x
  | lst e => exact .lst (s _ _ rfl e)
  | frz e => exact .frz (s _ _ rfl e)
  | tup e => exact .tup (s _ _ rfl e)
  | dK e => exact .dK (s _ _ rfl e)
  | dT e => exact .dT (s _ _ rfl e)
theorem TyOf.has {K : PySem.W.Frag} {H : Hp} {p : Addr} {n : String} (ty : TyOf K H (.ref p) (.type n)) : ∃ o, H p = some o ∧ ∀ ps, o ≠ .tbl ps := by
  cases ty with
  | lst e => exact ⟨_, e, fun _ z => nomatch z⟩
  | frz e => exact ⟨_, e, fun _ z => nomatch z⟩
  | tup e => exact ⟨_, e, fun _ z => nomatch z⟩
  | dK e => exact ⟨_, e, fun _ z => nomatch z⟩
  | dT e => exact ⟨_, e, fun _ z => nomatch z⟩
theorem Ty2.keep {Pt pc : Addr} {H H' : Hp} {v : V} (h : Ty2 K Pt pc H v) (k : KX Pt pc H H') : Ty2 K Pt pc H' v := by
  obtain ⟨⟨n, ty⟩, ne⟩ := h
  exact ⟨⟨n, TyOf.keepK ty fun p o e q => k p o (ne p e).1 (ne p e).2 q⟩, ne⟩
structure Lm (Pt pc : Addr) (q : Str) (H : Hp) (fl : Addr) (fd : FuncData) (c' : Addr) : Prop where
  n1 : fl ≠ Pt
  n2 : fl ≠ pc
  n3 : c' ≠ Pt
  n4 : c' ≠ pc
  lam : H fl = some (LamO fl fd)
  cod : H c' = some (CodO c' q)
theorem Lm.keep {Pt pc : Addr} {q : Str} {H H' : Hp} {fl c' : Addr} {fd : FuncData} (h : Lm Pt pc q H fl fd c') (k : KX Pt pc H H') : Lm Pt pc q H' fl fd c' := ⟨h.n1, h.n2, h.n3, h.n4, k _ _ h.n1 h.n2 h.lam, k _ _ h.n3 h.n4 h.cod⟩
theorem Lm.of {Pt pc : Addr} {q : Str} {H : Hp} {fl c' : Addr} {fd : FuncData} (tb : TabOk H Pt q) (l : H fl = some (LamO fl fd)) (c : H c' = some (CodO c' q)) (np : fl ≠ pc) (nq : c' ≠ pc) : Lm Pt pc q H fl fd c' := by
  obtain ⟨ps, e3, _⟩ := tb
  refine ⟨fun z => ?_, np, fun z => ?_, nq, l, c⟩
  · rw [z, e3] at l; exact nomatch Option.some.inj l
  · rw [z, e3] at c; exact nomatch Option.some.inj c
theorem Lm.first {Pt pc : Addr} {q : Str} {H : Hp} {fl c' : Addr} {fd : FuncData} (tb : TabOk H Pt q) (l : H fl = some (LamO fl fd)) (c : H c' = some (CodO c' q)) (h : H pc = none) : Lm Pt pc q H fl fd c' := .of tb l c (ne_of_none l h) (ne_of_none c h)
theorem Lm.next {Pt pc : Addr} {q : Str} {H : Hp} {fl c' : Addr} {fd : FuncData} {xs : List V} (tb : TabOk H Pt q) (l : H fl = some (LamO fl fd)) (c : H c' = some (CodO c' q)) (h : H pc = some (.lst xs)) : Lm Pt pc q H fl fd c' :=
  .of tb l c (fun z => by rw [z, h] at l; exact nomatch Option.some.inj l) (fun z => by rw [z, h] at c; exact nomatch Option.some.inj c)
end
section
variable {P : Program} {w : World} {K : PySem.W.Frag} {mg : Str → Option Value} {base : Heap} {t1 t2 : Tok} {cl : Cl} {f : Addr} {fd : FuncData}
abbrev s_q32 : Stmt := top 84
theorem sc_q32 : FnScope ["_law_n", "_law_lots", "_law_prime", "_law_often", "_law_whole_here", "_law_turn"] ["_law_n"] (defScope s_q32) := ⟨rfl, rfl, rfl, by decide +kernel, rfl, by decide +kernel, by decide +kernel⟩
abbrev Df_q32 (K : PySem.W.Frag) (mg : Str → Option Value) (f : Addr) (fd : FuncData) : Prop := Def K mg "_law_fewest" s_q32 ["_law_n"] f fd
theorem sub_prod {l s : List (Int × Int)} (hp : Pos l) (h : s.Sublist l) : 1 ≤ prod s ∧ prod s ≤ prod l := by
  have ps : Pos s := fun q hq => hp q (h.subset hq)
  refine ⟨pos_prod ps, ?_⟩
  induction h with
  | slnil => exact Int.le_refl _
  | @cons s l a h ih =>
    have := ih (fun q hq => hp q (List.mem_cons_of_mem _ hq)) ps
    have a1 := hp a List.mem_cons_self
    have := pos_prod ps
    rw [prod_cons', Int.mul_comm]
    exact Int.le_trans ‹prod s ≤ prod l› (le_mul1 (by omega) a1)
  | @cons_cons s l a h ih =>
    have := ih (fun q hq => hp q (List.mem_cons_of_mem _ hq)) (fun q hq => ps q (List.mem_cons_of_mem _ hq))
    have a1 := hp a List.mem_cons_self
    rw [prod_cons', prod_cons']
    exact Int.mul_le_mul_of_nonneg_left this (by omega)
def spLF (K : PySem.W.Frag) : Sp := fun vs H Q _ => ∃ (n : Int), vs = [.int n] ∧ (IsPr n ∧ 3 ≤ n ∧ n ≤ 10 ^ 9) ∧ ∀ r H', (∀ l' m, Few n l' m → r = (m : Int)) → Same H H' → Q (.int r) H'
def lotS (z : Int) (x : Int × Int) : Int × Int := (x.1 + 1, x.2 * z)
theorem ok_q32 (D : Df_q32 K mg f fd) (T : Txt K mg t1 t2 cl) (o1 : O_q44 P w K mg base) : FnOk P w K mg base CX0 2 f fd ["_law_n"] (spLF K) := by
  obtain ⟨_, _, D_q44, G_q44⟩ := o1
  refine D.fn.ok sc_q32 (fun vs H Q E h => ?_) (fun cdv A outer s H vs Q E hr h => ?_)
  · obtain ⟨n, rfl, _⟩ := h
    rfl
  · obtain ⟨n, rfl, ⟨hp, n3, n9⟩, k⟩ := h
    refine ⟨_, (pss_cons (ps_set (i := 1) sc_q32.nd rfl (by subst_eqs) (pe_lst (pa_cons (pe_tup (pa_cons pe_int (pa_cons pe_int pa_nil))) pa_nil))) (pss_cons (ps_for PassesOwn.never rfl (pi_list (pe_call (G_q44.mono (by decide)) hr rfl D_q44.mgx D_q44.fn.kp D_q44.bd .nil pass0 (pa_cons (pe_op op_sub (pv 0) pe_int) pa_nil))) (pg_tup rfl (pgs_cons (pg_name (i := 2) sc_q32.nd rfl (by subst_eqs)) (pgs_cons (pg_name (i := 3) sc_q32.nd rfl (by subst_eqs)) pgs_nil))) (pss_cons (ps_set (i := 4) sc_q32.nd rfl (by subst_eqs) pe_int) (pss_cons (ps_for PassesOwn.never rfl (pi_range1 rfl T.no_range (pa_cons (pv 3) pa_nil)) (pg_name (i := 5) sc_q32.nd rfl (by subst_eqs)) (pss_one (ps_set (i := 4) sc_q32.nd rfl (by subst_eqs) (pe_op op_mulB (pv 4) (pv 2))))) (pss_one (ps_set (i := 1) sc_q32.nd rfl (by subst_eqs) (pe_op op_cat (pv 1) (pe_compD (N := ["_law_many", "_law_part", "_law_whole_here"]) (js := [none, none, some 4]) (by rfl) rfl (fun _ => rfl) (pi_list (pv 1)) (by intro b _ _ _ _; exact (pg_tupK (K := K) (n := 2) rfl rfl (pgs_cons (pg_name (i := 0) (show List.Nodup (["_law_many", "_law_part", "_law_whole_here"] : List Str) by decide) rfl (by subst_eqs)) (pgs_cons (pg_name (i := 1) (show List.Nodup (["_law_many", "_law_part", "_law_whole_here"] : List Str) by decide) rfl (by subst_eqs)) pgs_nil)))) (by intro b _ _ _ _; exact pifs_nil) (by intro b _ _ _ _; exact (pe_tup (pa_cons (pe_op op_add (pv 0) pe_int) (pa_cons (pe_op op_mulB (pv 1) (pv 2)) pa_nil))))))))))) (pss_one (ps_ret (pe_callB (call_minL rfl) (by rfl) T.no_min PyProof.Rows.boot_min (pa_cons (pe_compD (N := ["_law_many", "_law_part", "_law_n"]) (js := [none, none, some 0]) (by rfl) rfl (fun _ => rfl) (pi_list (pv 1)) (by intro b _ _ _ _; exact (pg_tupK (K := K) (n := 2) rfl rfl (pgs_cons (pg_name (i := 0) (show List.Nodup (["_law_many", "_law_part", "_law_n"] : List Str) by decide) rfl (by subst_eqs)) (pgs_cons (pg_name (i := 1) (show List.Nodup (["_law_many", "_law_part", "_law_n"] : List Str) by decide) rfl (by subst_eqs)) pgs_nil)))) (by intro b _ _ _ _; exact pifs_one (pt_cmpR op_gt (pe_op op_mulB (pv 1) (pv 1)) (pv 2) (nomark _))) (by intro b _ _ _ _; exact (pv 0))) pa_nil)))))), ?_⟩
    have e0 : L2.start ["_law_n", "_law_lots", "_law_prime", "_law_often", "_law_whole_here", "_law_turn"] [.int n] = [some (.int n), none, none, none, none, none] := rfl
    rw [e0]; clear e0
    refine tSeq_gen fun R0 hR0 => ?_
    bv_omega
    refine ⟨by show 2 ≤ sizeLine; decide, fun p0 hp0 => ⟨by show 1 ≤ sizeLine; decide, fun pl0 hpl0 => ?_⟩⟩
    have S0 : Same H (upd (upd H p0 (.tup [.int 0, .int 1])) pl0 (.lst [.ref p0])) := fun b o e => keep (keep e hp0) hpl0
    have h0 : (upd (upd H p0 (.tup [.int 0, .int 1])) pl0 (.lst [.ref p0])) pl0 = some (.lst [.ref p0]) := upd_same
    have R1 : RepL K (upd (upd H p0 (.tup [.int 0, .int 1])) pl0 (.lst [.ref p0])) ((lotsW []).map pD) [.ref p0] := ⟨_, [], rfl, rep_pair (keep upd_same hpl0), rfl⟩
    generalize upd (upd H p0 (.tup [.int 0, .int 1])) pl0 (.lst [.ref p0]) = H1 at S0 h0 R1 ⊢
    subst hR0
    refine tSeq_gen fun R0 hR0 => ?_
    dsimp only [tSeq]
    refine tFor_list ?_
    bv_omega
    refine ⟨n - 1, rfl, ⟨by omega, by omega⟩, fun l c xs H2 hl S2 hc R => ?_⟩
    have epl := pl_eq hl
    have len := parts_len19 hl (by omega)
    have po : Pos l := fun q hq => pow_pos' (by have := (hl.1.pr q hq).1.1; omega) _
    have xl : xs.length = l.length := by rw [← R.length, List.length_map]
    refine ⟨c, rfl, ⟨_, SqL.of hc⟩, ?_⟩
    have h02 := S2 _ _ h0
    have R12 := R1.mono S2.tk _ (noLL_pD _)
    have S02 := S0.trans S2
    clear S0 h0 R1 S2
    obtain ⟨Pf, hPf⟩ : ∃ Pf : Nat → St → Hp → Prop, ∀ i σ H', Pf i σ H' ↔ ∃ a ys v2 v3 v4 v5, σ = [some (.int n), some (.ref a), v2, v3, v4, v5] ∧ Same H H' ∧ TK H2 H' ∧ H' c = some (.lst xs) ∧ H' a = some (.lst ys) ∧ RepL K H' ((lotsW (l.take i)).map pD) ys := ⟨_, fun _ _ _ => Iff.rfl⟩
    refine fl_of (xs := xs) Pf ((hPf _ _ _).mpr ⟨pl0, _, none, none, none, none, rfl, S02, TK.refl _, hc, h02, R12⟩) (fun i σ H' _ h => ?_) ?_ ?_
    · obtain ⟨a, ys, _, _, _, _, rfl, _, _, h, _⟩ := (hPf _ _ _).mp h
      exact SqL.of h
    · intro i x σ H' hx h
      obtain ⟨a, ys, v2, v3, v4, v5, rfl, S3, t3, hc3, ha, RL⟩ := (hPf _ _ _).mp h
      obtain ⟨q, cc, hq, rfl, hcc⟩ := repL_pD_get (R.mono t3 _ (noLL_pD _)) hx
      have hm : q ∈ l := List.mem_of_getElem? hq
      have q2 := hl.1.pr q hm
      have qq := q2.1.1
      have il : i < l.length := (List.getElem?_eq_some_iff.mp hq).1
      have et : l.take (i + 1) = l.take i ++ [q] := by rw [List.take_succ, hq]; rfl
      have pw1 : 1 ≤ pwq q := po q hm
      have pwl : pwq q ≤ n - 1 := by
        have := (sub_prod po (List.singleton_sublist.mpr hm)).2
        rw [hl.2] at this
        have e : prod [q] = pwq q := by show pwq q * 1 = _; rw [Int.mul_one]
        rw [e] at this
        exact this
      refine ⟨cc, _, rfl, hcc, rfl, _, _, rfl, _, _, rfl, rfl, ?_⟩
      dsimp only [List.set_cons_zero, List.set_cons_succ]
      refine tSeq_gen fun R1 hR1 => ?_
      bv_omega
      subst hR1
      refine tSeq_gen fun R1 hR1 => ?_
      dsimp only [tSeq]
      refine tFor_rng ?_
      bv_omega
      have q31 : q.2 < 2 ^ 62 := by
        have := pow_ge qq q.2.toNat
        refine Classical.byContradiction fun cc => ?_
        have b : (2 : Int) ^ 62 ≤ 2 ^ q.2.toNat := pow_mono1 (by decide) (by omega)
        unfold pwq at pwl
        omega
      obtain ⟨Pr, hPr⟩ : ∃ Pr : Nat → St → Hp → Prop, ∀ j σ H4, Pr j σ H4 ↔ ∃ v5, σ = [some (.int n), some (.ref a), some (.int q.1), some (.int q.2), some (.int (q.1 ^ j)), v5] ∧ H4 = H' := ⟨_, fun _ _ _ => Iff.rfl⟩
      refine ⟨by omega, by omega, fr_of Pr ((hPr _ _ _).mpr ⟨_, by rw [Int.pow_zero], rfl⟩) ?_ ?_⟩
      · intro j σ H4 hj h
        obtain ⟨v5, rfl, rfl⟩ := (hPr _ _ _).mp h
        dsimp only [gName, List.set_cons_zero, List.set_cons_succ]
        bv_omega
        have b1 := pow_pos' (show 1 ≤ q.1 by omega) j
        have b2 : q.1 ^ j ≤ pwq q := pow_mono1 (by omega) (by omega)
        have b3 : q.1 ≤ pwq q := pow_self1 (by omega) (by omega)
        exact ⟨.inr ⟨by omega, by omega⟩, (hPr _ _ _).mpr ⟨_, by rw [Int.pow_succ], rfl⟩⟩
      · intro σ H4 h
        obtain ⟨v5, rfl, rfl⟩ := (hPr _ _ _).mp h
        subst hR1
        have ew : q.1 ^ q.2.toNat = pwq q := rfl
        rw [ew]
        bv_omega
        refine tCompC_of ?_
        have yl : ys.length = 2 ^ i := by
          rw [← RL.length, List.length_map, lotsW_len, List.length_take]
          congr 1
          omega
        have y19 : 2 ^ i ≤ 2 ^ 19 := Nat.pow_le_pow_right (by decide) (by omega)
        have bnd : ∀ x ∈ lotsW (l.take i), (0 ≤ x.1 ∧ x.1 ≤ 19) ∧ 1 ≤ x.2 ∧ x.2 ≤ n - 1 := fun x hx => by
          obtain ⟨s, hs, rfl⟩ := (mem_lotsW _).mp hx
          have hs2 := hs.trans (List.take_sublist i l)
          have a1 := sub_prod po hs2
          rw [hl.2] at a1
          have := hs2.length_le
          exact ⟨⟨by show (0 : Int) ≤ (s.length : Int); omega, by show (s.length : Int) ≤ 19; omega⟩, a1⟩
        refine ⟨_, rfl, a, rfl, ⟨ys, SqL.of ha⟩, fun b D hcb hD => ?_⟩
        obtain ⟨Pv, hPv⟩ : ∃ Pv : Nat → St → Hp → Prop, ∀ j σ H5, Pv j σ H5 ↔ (∃ v1 v2, σ = [v1, v2, some (.int (pwq q))]) ∧ Same H4 H5 ∧ ∃ zs, H5 D = some (.lst zs) ∧ RepL K H5 ((((lotsW (l.take i)).take j).map (lotS (pwq q))).map pD) zs := ⟨_, fun _ _ _ => Iff.rfl⟩
        refine comp_list (xs := ys) Pv ((hPv _ _ _).mpr ⟨⟨_, _, rfl⟩, fun b o e => keep e hD, [], upd_same, rfl⟩) (fun j σ H5 hj h => SqL.of (((hPv _ _ _).mp h).2.1 _ _ ha)) ?_ ?_
        · intro j x σ H5 hx h
          obtain ⟨⟨v1, v2, rfl⟩, s5, zs, eD, RZ⟩ := (hPv _ _ _).mp h
          obtain ⟨r, c2, hr2, rfl, hc2⟩ := repL_pD_get (RL.mono s5.tk _ (noLL_pD _)) hx
          have br := bnd r (List.mem_of_getElem? hr2)
          have zl : zs.length ≤ 2 ^ 19 := by
            have := RZ.length
            rw [List.length_map, List.length_map, List.length_take, lotsW_len] at this
            have e : (l.take i).length = i := by rw [List.length_take]; omega
            rw [e] at this
            omega
          (try dsimp only [CT, tYes]); bv_omega
          refine ⟨_, hc2, rfl, ?_⟩
          bv_omega
          refine ⟨.inr ⟨by omega, by omega⟩, by show 2 ≤ sizeLine; decide, fun p5 hp5 => ?_⟩
          have nD : D ≠ p5 := ne_of_none eD hp5
          have tk5 : TK H5 (upd (upd H5 p5 (.tup [.int (r.1 + 1), .int (r.2 * pwq q)])) D (.lst (zs ++ [.ref p5]))) := (TK.new hp5).trans (TK.lst (keep eD hp5))
          refine ⟨zs, keep eD hp5, by rw [sizeLine_eq]; omega, (hPv _ _ _).mpr ⟨⟨_, _, rfl⟩, fun b o e => ?_, _, upd_same, ?_⟩⟩
          · rw [upd_ne (ne_of_none e hD)]
            exact keep (s5 _ _ e) hp5
          · rw [List.take_succ, hr2, List.map_append, List.map_append]
            exact (RZ.mono tk5 _ (noLL_pD _)).append ⟨_, [], rfl, rep_pair (by rw [upd_ne nD.symm, upd_same]), rfl⟩
        · intro σ H5 h
          obtain ⟨⟨v1, v2, rfl⟩, s5, zs, eD, RZ⟩ := (hPv _ _ _).mp h
          have e : ys.length = (lotsW (l.take i)).length := by rw [← RL.length, List.length_map]
          rw [e, List.take_length] at RZ
          have zl : zs.length = ys.length := by rw [← RZ.length, List.length_map, List.length_map, e]
          have ha5 := s5 _ _ ha
          refine ⟨D, rfl, ys, ha5, zs, eD, by rw [sizeLine_eq]; omega, fun p6 hp6 => ?_⟩
          have tk6 : TK H5 (upd H5 p6 (.lst (ys ++ zs))) := TK.new hp6
          refine (hPf _ _ _).mpr ⟨p6, _, _, _, _, _, rfl, fun b o e => keep (s5 _ _ (S3 _ _ e)) hp6, t3.trans (s5.tk.trans tk6), keep (s5 _ _ hc3) hp6, upd_same, ?_⟩
          rw [et, lotsW_snoc]
          unfold lotsL
          rw [List.map_append]
          exact (RL.mono (s5.tk.trans tk6) _ (noLL_pD _)).append (RZ.mono tk6 _ (noLL_pD _))
    · intro σ H' h
      obtain ⟨a, ys, v2, v3, v4, v5, rfl, S3, t3, hc3, ha, RL⟩ := (hPf _ _ _).mp h
      rw [xl, List.take_length] at RL
      subst hR0
      bv_omega
      refine tCompC_of ?_
      have yl : ys.length = 2 ^ l.length := by rw [← RL.length, List.length_map, lotsW_len]
      have y19 : 2 ^ l.length ≤ 2 ^ 19 := Nat.pow_le_pow_right (by decide) len
      have bnd : ∀ x ∈ lotsW l, 1 ≤ x.2 ∧ x.2 ≤ n - 1 := fun x hx => by
        obtain ⟨s, hs, rfl⟩ := (mem_lotsW _).mp hx
        have a1 := sub_prod po hs
        rw [hl.2] at a1
        exact a1
      refine ⟨_, rfl, a, rfl, ⟨ys, SqL.of ha⟩, fun b D hcb hD => ?_⟩
      obtain ⟨Pv, hPv⟩ : ∃ Pv : Nat → St → Hp → Prop, ∀ j σ H5, Pv j σ H5 ↔ (∃ v1 v2, σ = [v1, v2, some (.int n)]) ∧ Same H' H5 ∧ H5 D = some (.lst (((((lotsW l).take j).filter fun x => decide (n < x.2 * x.2)).map Prod.fst).map V.int)) := ⟨_, fun _ _ _ => Iff.rfl⟩
      refine comp_list (xs := ys) Pv ((hPv _ _ _).mpr ⟨⟨_, _, rfl⟩, fun b o e => keep e hD, upd_same⟩) (fun j σ H5 hj h => SqL.of (((hPv _ _ _).mp h).2.1 _ _ ha)) ?_ ?_
      · intro j x σ H5 hx h
        obtain ⟨⟨v1, v2, rfl⟩, s5, eD⟩ := (hPv _ _ _).mp h
        obtain ⟨r, c2, hr2, rfl, hc2⟩ := repL_pD_get (RL.mono s5.tk _ (noLL_pD _)) hx
        have br := bnd r (List.mem_of_getElem? hr2)
        have e1 : (lotsW l).take (j + 1) = (lotsW l).take j ++ [r] := by rw [List.take_succ, hr2]; rfl
        rename_i CT
        refine ⟨_, hc2, rfl, ?_⟩
        bv_omega
        refine ⟨.inr ⟨by omega, by omega⟩, ?_⟩
        refine ite2 (fun hg => ?_) (fun hg => ?_)
        · refine ⟨_, eD, ?_, (hPv _ _ _).mpr ⟨⟨_, _, rfl⟩, fun b o e => ?_, ?_⟩⟩
          · have a1 := List.length_filter_le (fun x : Int × Int => decide (n < x.2 * x.2)) ((lotsW l).take j)
            have a2 := List.length_take_le j (lotsW l)
            rw [List.length_map, List.length_map]
            have a3 : ((lotsW l).take j).length ≤ (lotsW l).length := by rw [List.length_take]; omega
            rw [lotsW_len] at a3
            rw [sizeLine_eq]
            omega
          · rw [upd_ne (ne_of_none e hD)]
            exact s5 _ _ e
          · rw [upd_same, e1, List.filter_append, List.filter_cons, if_pos (decide_eq_true (by omega)), List.filter_nil, List.map_append, List.map_append]; rfl
        · refine (hPv _ _ _).mpr ⟨⟨_, _, rfl⟩, s5, ?_⟩
          rw [e1, List.filter_append, List.filter_cons, if_neg (by rw [decide_eq_true_iff]; omega), List.filter_nil, List.append_nil]
          exact eD
      · intro σ H5 h
        obtain ⟨⟨v1, v2, rfl⟩, s5, eD⟩ := (hPv _ _ _).mp h
        have e : ys.length = (lotsW l).length := by rw [← RL.length, List.length_map]
        rw [e, List.take_length] at eD
        have mem : ∀ m, m ∈ ((lotsW l).filter fun x => decide (n < x.2 * x.2)).map Prod.fst ↔ ∃ s : List (Int × Int), s.Sublist l ∧ m = (s.length : Int) ∧ n < prod s * prod s := fun m => by
          constructor
          · intro h
            obtain ⟨x, hx, rfl⟩ := List.mem_map.mp h
            obtain ⟨h1, h2⟩ := List.mem_filter.mp hx
            obtain ⟨s, hs, rfl⟩ := (mem_lotsW _).mp h1
            exact ⟨s, hs, rfl, of_decide_eq_true h2⟩
          · rintro ⟨s, hs, rfl, hb⟩
            exact List.mem_map.mpr ⟨((s.length : Int), prod s), List.mem_filter.mpr ⟨(mem_lotsW _).mpr ⟨s, hs, rfl⟩, decide_eq_true hb⟩, rfl⟩
        have big : n < prod l * prod l := by
          rw [hl.2]
          have := Int.mul_le_mul_of_nonneg_left (show (2 : Int) ≤ n - 1 by omega) (show 0 ≤ n - 1 by omega)
          omega
        refine ⟨D, _, rfl, eD, List.length_pos_of_mem ((mem _).mpr ⟨l, List.Sublist.refl _, rfl, big⟩), fun m hm hall => ?_⟩
        refine k m H5 (fun l' mm hf => ?_) (S3.trans s5)
        obtain ⟨s, hs, rfl, hb⟩ := (mem m).mp hm
        have a1 := hf.least n3 (s := s) (by rw [epl]; exact hs) hb
        obtain ⟨s2, hs2, e2, hb2⟩ := hf.some
        rw [epl] at hs2
        have a2 := hall _ ((mem _).mpr ⟨s2, hs2, rfl, hb2⟩)
        omega
abbrev O_q32 (P : Program) (w : World) (K : PySem.W.Frag) (mg : Str → Option Value) (base : Heap) : Prop := ∃ f fd, Df_q32 K mg f fd ∧ FnOk P w K mg base CX0 2 f fd ["_law_n"] ((spLF K))
end
section
variable {P : Program} {w : World} {K : PySem.W.Frag} {mg : Str → Option Value} {base : Heap} {t1 t2 : Tok} {cl : Cl} {f : Addr}
abbrev s_law : Stmt := top 85
theorem sc_law : FnScope ["_law_script", "_law_k", "_law_state_here", "_law_n", "_law_paper", "_law_none", "_law_odd", "_law_calls"] ["_law_script"] (defScope s_law) := ⟨rfl, rfl, rfl, by decide +kernel, rfl, by decide +kernel, by decide +kernel⟩
abbrev OB_q19 (P : Program) (w : World) (K : PySem.W.Frag) (mg : Str → Option Value) (cl : Cl) : Prop := ∃ f fd, Df_q19 K mg f fd ∧ ∀ b, FnOk P w K mg b (CXE P w) 68 f fd ["n"] (spShP K cl)
abbrev OB_q14 (P : Program) (w : World) (K : PySem.W.Frag) (mg : Str → Option Value) (cl : Cl) : Prop := ∃ f fd, Df_q14 K mg f fd ∧ ∀ b, FnOk P w K mg b (CXE P w) 8 f fd ["n"] (spFRw K cl)
abbrev OB_q54 (P : Program) (w : World) (K : PySem.W.Frag) (mg : Str → Option Value) (cl : Cl) : Prop := ∃ f fd, Df_q54 K mg f fd ∧ ∀ b, FnOk P w K mg b (CXE P w) 7 f fd ["n", "thing"] (spIsShare K cl)
abbrev OB_q52 (P : Program) (w : World) (K : PySem.W.Frag) (mg : Str → Option Value) (cl : Cl) : Prop := ∃ f fd, Df_q52 K mg f fd ∧ ∀ b, FnOk P w K mg b CX0 73 f fd ["_law_call"] (spSaid P w K mg cl b)
def spLaw (K : PySem.W.Frag) (Pt : Addr) : Sp := fun vs H Q _ => ∃ (a : Addr) (ns : List Int), vs = [.ref a] ∧ SqL K H a (ns.map V.int) ∧ ns.length ≤ 63 ∧ H Pt = some (.tbl #[]) ∧ ∀ H', Q (.bl true) H'
theorem pr_big9 : IsPr 999999937 := pr_try (n := 999999937) (k := 31621) (by decide) (by decide) (by decide +kernel)
theorem pr_211 : IsPr 211 := pr_try (n := 211) (k := 13) (by decide) (by decide) (by decide)
theorem pr_5 : IsPr 5 := pr_try (n := 5) (k := 1) (by decide) (by decide) (by decide)
theorem wd_at {c : Int} (h0 : 0 ≤ c) (h1 : c < 3) : ∃ z : Int, atI [V.int 50, V.int 1000000, V.int (1000000000 - 300)] c = some (.int z) ∧ 1 ≤ z ∧ z ≤ 999999700 := by
  have h : c = 0 ∨ c = 1 ∨ c = 2 := by omega
  rcases h with rfl | rfl | rfl <;> exact ⟨_, rfl, by decide, by decide⟩
theorem not_pr {z d : Int} (h2 : 2 ≤ d) (hd : d < z) (h : z % d = 0) : ¬ IsPr z := fun p => by
  have := pr_dvd p h2 (Int.dvd_of_emod_eq_zero h)
  omega
theorem none_at {n b c : Int} {e : Int} (n3 : 3 ≤ n) (n9 : n ≤ 10 ^ 9) (hn : n % 2 = 1) (hb : b = if n = 3 then 1 else 0) (c0 : 0 ≤ c) (c1 : c < 10 ^ 8) (e0 : 0 ≤ e) (e1 : e < 9) : ∃ z : Int, atI [V.int 1, V.int 2, V.int 4, V.int 9, V.int 561, V.int 1000000000, V.int (n - 1 + 2 * b), V.int 341, V.int (2 * (1 + c))] e = some (.int z) ∧ 1 ≤ z ∧ z ≤ 1000000000 ∧ ¬ (IsPr z ∧ 3 ≤ z) := by
  have ev : ∀ z : Int, z % 2 = 0 → ¬ (IsPr z ∧ 3 ≤ z) := fun z h2 ⟨p, h3⟩ => not_pr (by decide) (by omega) h2 p
  have he : e = 0 ∨ e = 1 ∨ e = 2 ∨ e = 3 ∨ e = 4 ∨ e = 5 ∨ e = 6 ∨ e = 7 ∨ e = 8 := by omega
  rcases he with rfl | rfl | rfl | rfl | rfl | rfl | rfl | rfl | rfl
  · exact ⟨_, rfl, by decide, by decide, fun z => by have := z.2; omega⟩
  · exact ⟨_, rfl, by decide, by decide, ev _ (by decide)⟩
  · exact ⟨_, rfl, by decide, by decide, ev _ (by decide)⟩
  · exact ⟨_, rfl, by decide, by decide, fun z => not_pr (d := 3) (by decide) (by decide) (by decide) z.1⟩
  · exact ⟨_, rfl, by decide, by decide, fun z => not_pr (d := 3) (by decide) (by decide) (by decide) z.1⟩
  · exact ⟨_, rfl, by decide, by decide, ev _ (by decide)⟩
  · refine ⟨_, rfl, ?_, ?_, ev _ ?_⟩ <;> rw [hb] <;> split <;> omega
  · exact ⟨_, rfl, by decide, by decide, fun z => not_pr (d := 11) (by decide) (by decide) (by decide) z.1⟩
  · exact ⟨_, rfl, by omega, by omega, ev _ (by omega)⟩
theorem odd_at9 {e : Int} {a q1 q2 : Addr} {HT : Hp} (e0 : 0 ≤ e) (e1 : e < 8) (nq1 : q1 ≠ a) (g1 : HT q1 = some (.tup [V.int 7])) (nq2 : q2 ≠ a) (g2 : HT q2 = some (.lst [V.int 7])) :
    ∃ od, atI [V.int 0, V.int (1000000000 + 1), V.int (-1), V.bl true, V.non, V.str (Str.ofString "7"), V.ref q1, V.ref q2] e = some od ∧ Tyd K a HT od ∧ isBet od 1 1000000000 = false := by
  have si : ∀ i : Int, Tyd K a HT (.int i) := fun i => ⟨⟨_, .int _⟩, fun p e => nomatch e⟩
  have he : e = 0 ∨ e = 1 ∨ e = 2 ∨ e = 3 ∨ e = 4 ∨ e = 5 ∨ e = 6 ∨ e = 7 := by omega
  rcases he with rfl | rfl | rfl | rfl | rfl | rfl | rfl | rfl
  · exact ⟨_, rfl, si _, rfl⟩
  · exact ⟨_, rfl, si _, by decide⟩
  · exact ⟨_, rfl, si _, rfl⟩
  · exact ⟨_, rfl, ⟨⟨_, .bl _⟩, fun p e => nomatch e⟩, rfl⟩
  · exact ⟨_, rfl, ⟨⟨_, .non⟩, fun p e => nomatch e⟩, rfl⟩
  · exact ⟨_, rfl, ⟨⟨_, .str _⟩, fun p e => nomatch e⟩, rfl⟩
  · exact ⟨_, rfl, ⟨⟨_, .tup g1⟩, fun p e => by cases e; exact nq1⟩, rfl⟩
  · exact ⟨_, rfl, ⟨⟨_, .lst g2⟩, fun p e => by cases e; exact nq2⟩, rfl⟩
theorem Tyd.ty2 {a Pt pc : Addr} {q : Str} {H L : Hp} {v : V} (h : Tyd K a H v) (tb : TabOk H Pt q) (s : SameX Pt H L) (hpc : L pc = none) : Ty2 K Pt pc L v := by
  obtain ⟨⟨n, ty⟩, _⟩ := h
  have nP : ∀ p, v = .ref p → p ≠ Pt := fun p e z => by
    subst e
    obtain ⟨o, e1, e2⟩ := TyOf.has ty
    obtain ⟨ps, e3, _⟩ := tb
    rw [z, e3] at e1
    cases e1
    exact e2 _ rfl
  have ty' : TyOf K L v (.type n) := TyOf.keepK ty fun p o e q => s p o (nP p e) q
  refine ⟨⟨n, ty'⟩, fun p e => ⟨nP p e, fun z => ?_⟩⟩
  subst e
  obtain ⟨o, e1, _⟩ := TyOf.has ty'
  rw [z, hpc] at e1
  cases e1
theorem few_is {p : Int} {l0 l1 l' : List (Int × Int)} {m : Nat} (h : Few p l' m) (h0 : Parts (p - 1) l0) (pm : l1.Perm l0) (ds : dsc l1) : l' = l1 := by
  have := h.pm
  rw [pl_eq h0] at this
  exact dsc_unique (this.trans pm.symm) h.ds ds
theorem few3 {l' : List (Int × Int)} {m : Nat} (h : Few 3 l' m) : m = 1 := by
  have h0 : Parts (3 - 1) [(2, 1)] := ⟨⟨fun q hq => by
    have : q = (2, 1) := by simpa using hq
    rw [this]
    exact ⟨isPr2, by decide⟩, by simp⟩, by decide⟩
  have e := few_is h h0 (List.Perm.refl _) (by simp)
  subst e
  have a := h.ml
  have b := h.big
  have a : m ≤ 1 := a
  have hm : m = 0 ∨ m = 1 := by omega
  rcases hm with rfl | rfl
  · exact absurd b (by decide)
  · rfl
theorem few211 {l' : List (Int × Int)} {m : Nat} (h : Few 211 l' m) : m = 2 := by
  have h0 : Parts (211 - 1) [(2, 1), (3, 1), (5, 1), (7, 1)] := ⟨⟨fun q hq => by
    have : q = (2, 1) ∨ q = (3, 1) ∨ q = (5, 1) ∨ q = (7, 1) := by simpa using hq
    rcases this with rfl | rfl | rfl | rfl
    · exact ⟨isPr2, by decide⟩
    · exact ⟨isPr3, by decide⟩
    · exact ⟨pr_5, by decide⟩
    · exact ⟨isPr7, by decide⟩, by simp⟩, by decide⟩
  have pm : [((7 : Int), (1 : Int)), (5, 1), (3, 1), (2, 1)].Perm [(2, 1), (3, 1), (5, 1), (7, 1)] := by
    rw [show [((7 : Int), (1 : Int)), (5, 1), (3, 1), (2, 1)] = [((2 : Int), (1 : Int)), (3, 1), (5, 1), (7, 1)].reverse from rfl]
    exact List.reverse_perm _
  have e := few_is h h0 pm (by simp [dsc, pwq])
  subst e
  have a : m ≤ 4 := h.ml
  have b := h.big
  have hm : m = 0 ∨ m = 1 ∨ m = 2 ∨ 2 < m := by omega
  rcases hm with rfl | rfl | rfl | c
  · exact absurd b (by decide)
  · exact absurd b (by decide)
  · rfl
  · exact absurd (h.sm 2 c) (by decide)
theorem sp_repr {n : Int} {d : Dt} {k : Nat} (n9 : n ≤ 10 ^ 9) (k33 : k ≤ 33) (rp : RP k false n d) : okD d = true ∧ isScB d = false ∧ lenD d ≤ 1000000 ∧ dep d ≤ 100 := by
  have ok := rp.ok (by omega)
  have ln := rp.len
  have cn := rp.cn500 pr2 (by omega)
  have dp := rp.dep
  refine ⟨ok, ?_, by omega, by omega⟩
  cases rp <;> rfl
section
variable {X : Cx} {σ : St} {b : Heap} {M H' : Hp} {Pt pc fl c' : Addr} {q qual : Str} {params : Arguments} {body : Expr} {sc : Scope} {pm ctv : Value} {N : List Str} {js : List Nat} {vs : List V} {sp : Hp → VK → XK → Prop} {Q' : VK}
theorem wrd_of {C : Addr} {i : Nat} (hc : CellsIn X σ b)
    (g : Lm Pt pc q M fl (PySem.W.kla_fn "<lambda>" qual params body sc (clOf sc X.env) pm (.ref c') ctv) c') (sm : Same M H') (W : WordC K cl C i) (hi : i = 0 ∨ i = 1) (hck : lamCk sc X.env.scope N X.N js = true) (hinj : (X.env.cells.map (·.2)).Nodup) (hhas : ∀ x, X.env.scope.names.lookup x = some .cell → ∃ c, X.env.cells.lookup x = some c)
    (hv : vs.length = js.length) (hσ : ∀ (i j : Nat) (v : V), js[i]? = some j → vs[i]? = some v → σ[j]? = some (some v)) (hp : ∀ pm cd ctv, bindArgs (PySem.W.kla_fn "<lambda>" qual params body sc (clOf sc X.env) pm cd ctv) ⟨[], []⟩ = pure [])
    (hbody : ∀ (A : Around) (outer : List Env) (s : Shared) (H : Hp) (Q : VK) (E : XK), Room 71 (A.deeper (PySem.W.envX qual sc s.heap.objs.size fl (.ref c') (clOf sc X.env))) → sp H Q E → ∃ t, PE (cxLam P w K mg b N qual sc fl (.ref c') (clOf sc X.env) A outer s H E) body t ∧ t (vs.map some) H Q)
    (h : ∀ R : XK, (∀ H0, Same H' H0 → R (.ref C) none H0) → sp H' (fun _ _ => False) R) (hQ : ∀ H'', Same H' H'' → Q' (.str (wordOf i)) H'') (hq : qual = q) : spSaid P w K mg cl b [.ref fl] H' Q' E0 := by
  subst hq
  obtain ⟨l1, l2, l3, l4⟩ := lam_facts hck hinj hhas hc hv hσ
  exact ⟨fl, _, _, rfl, sm _ _ g.lam, lam_ok l1 l2 l3 l4 hbody, lam_binds hp, .inl ⟨C, i, W, hi, fun R hR => ⟨rfl, sm _ _ g.lam, sm _ _ g.cod, h R hR⟩, fun H'' s => hQ H'' s⟩⟩
theorem told_of {told : V → Prop} (hc : CellsIn X σ b)
    (g : Lm Pt pc q M fl (PySem.W.kla_fn "<lambda>" qual params body sc (clOf sc X.env) pm (.ref c') ctv) c') (sm : Same M H') (hck : lamCk sc X.env.scope N X.N js = true) (hinj : (X.env.cells.map (·.2)).Nodup) (hhas : ∀ x, X.env.scope.names.lookup x = some .cell → ∃ c, X.env.cells.lookup x = some c)
    (hv : vs.length = js.length) (hσ : ∀ (i j : Nat) (v : V), js[i]? = some j → vs[i]? = some v → σ[j]? = some (some v)) (hp : ∀ pm cd ctv, bindArgs (PySem.W.kla_fn "<lambda>" qual params body sc (clOf sc X.env) pm cd ctv) ⟨[], []⟩ = pure [])
    (hbody : ∀ (A : Around) (outer : List Env) (s : Shared) (H : Hp) (Q : VK) (E : XK), Room 71 (A.deeper (PySem.W.envX qual sc s.heap.objs.size fl (.ref c') (clOf sc X.env))) → sp H Q E → ∃ t, PE (cxLam P w K mg b N qual sc fl (.ref c') (clOf sc X.env) A outer s H E) body t ∧ t (vs.map some) H Q)
    (h : ∀ Q : VK, (∀ v H'', told v → Same H' H'' → Q v H'') → sp H' Q E0) (hQ : ∀ v q H'', told v → Same H' H'' → H'' q = some (.tup [.str "told", v]) → Q' (.ref q) H'') (hq : qual = q) : spSaid P w K mg cl b [.ref fl] H' Q' E0 := by
  subst hq
  obtain ⟨l1, l2, l3, l4⟩ := lam_facts hck hinj hhas hc hv hσ
  exact ⟨fl, _, _, rfl, sm _ _ g.lam, lam_ok l1 l2 l3 l4 hbody, lam_binds hp, .inr (.inr ⟨told, fun Q hq => ⟨rfl, sm _ _ g.lam, sm _ _ g.cod, h Q hq⟩, hQ⟩)⟩
end
theorem ok_law {c Pt : Addr} {oc kV doc pm ct : Value} {od an : Option Addr} {osl : Array (Option Value)}
    (lk : K.lookup f = some ⟨oc, od, .func (PySem.W.fnOf "law" "law" (defArgs s_law) (defBody s_law) (defScope s_law) .none kV doc pm an (.ref c) ct), osl⟩) (hcd : PySem.W.codeIn K (.ref c) "law" = true) (hd : PySem.W.CodeHd base c Pt) (bm : base.BuiltinsAt mg Pt)
    (T : Txt K mg t1 t2 cl) (W0 : WordC K cl cl.nn 0) (W1 : WordC K cl cl.np 1) (o1 : O_q37 P w K mg base) (o2 : O_q31 P w K mg base) (o3 : O_q48 P w K mg base) (o4 : O_q36 P w K mg base) (o5 : O_q47 P w K mg base) (o6 : O_q32 P w K mg base) (o7 : OB_q19 P w K mg cl) (o8 : OB_q14 P w K mg cl) (o9 : OB_q54 P w K mg cl) (o10 : OB_q52 P w K mg cl) : FnOk P w K mg base CX0 75 f (PySem.W.fnOf "law" "law" (defArgs s_law) (defBody s_law) (defScope s_law) .none kV doc pm an (.ref c) ct) ["_law_script"] (spLaw K Pt) := by
  obtain ⟨_, _, D_q37, G_q37⟩ := o1
  obtain ⟨_, _, D_q31, G_q31⟩ := o2
  obtain ⟨_, _, D_q48, G_q48⟩ := o3
  obtain ⟨_, _, D_q36, G_q36⟩ := o4
  obtain ⟨_, _, D_q47, G_q47⟩ := o5
  obtain ⟨_, _, D_q32, G_q32⟩ := o6
  obtain ⟨_, _, D_q19, B_q19⟩ := o7
  obtain ⟨_, _, D_q14, B_q14⟩ := o8
  obtain ⟨_, _, D_q54, B_q54⟩ := o9
  obtain ⟨_, _, D_q52, B_q52⟩ := o10
  have G_q19 := B_q19 base
  have G_q14 := B_q14 base
  have G_q54 := B_q54 base
  refine fn_okC lk hcd sc_law (fun vs H Q E h => ?_) (fun A outer s H vs Q E hr h => ?_)
  · obtain ⟨a, ns, rfl, _⟩ := h
    rfl
  · obtain ⟨sa, ns, rfl, hS, hlen, hT, k⟩ := h
    refine exSS (sss_cons (ss_for PassesOwn.never rfl (si_range1 rfl T.no_range (sa_cons (se_callB (call_max2 rfl) (by rfl) T.no_max PyProof.Rows.boot_max (sa_cons se_int (sa_cons (se_callB (call_min2 rfl) (by rfl) T.no_min PyProof.Rows.boot_min (sa_cons (se_callB call_len_seq (by rfl) T.no_len PySem.boot_len (sa_cons (sv 0) sa_nil)) (sa_cons se_int sa_nil))) sa_nil))) sa_nil)) (pg_name (i := 1) sc_law.nd rfl (by subst_eqs)) (sss_cons (ss_set (i := 2) sc_law.nd rfl (by subst_eqs) (se_call (G_q37.mono (by decide)) hr rfl D_q37.mgx D_q37.fn.kp D_q37.bd .nil pass0 (sa_cons (sv 0) (sa_cons (sv 1) sa_nil)))) (sss_cons (ss_set (i := 3) sc_law.nd rfl (by subst_eqs) (se_call (G_q48.mono (by decide)) hr rfl D_q48.mgx D_q48.fn.kp D_q48.bd .nil pass0 (sa_cons (se_op op_add se_int (se_call (G_q31.mono (by decide)) hr rfl D_q31.mgx D_q31.fn.kp D_q31.bd .nil pass0 (sa_cons (sv 2) (sa_cons (se_ix ix_list (se_lst (sa_cons se_int (sa_cons (se_op op_pow se_int se_int) (sa_cons (se_op op_sub (se_op op_pow se_int se_int) se_int) sa_nil)))) (se_call (G_q31.mono (by decide)) hr rfl D_q31.mgx D_q31.fn.kp D_q31.bd .nil pass0 (sa_cons (sv 2) (sa_cons se_int sa_nil))) (fun _ _ => rfl)) sa_nil)))) sa_nil))) (sss_cons (ss_set (i := 4) sc_law.nd rfl (by subst_eqs) (se_call (G_q19.mono (by decide)) hr rfl D_q19.mgx D_q19.fn.kp D_q19.bd .nil passE0 (sa_cons (sv 3) sa_nil))) (sss_cons (ss_if (SW.st (sw_or (st_not (st_val (se_call (G_q36.mono (by decide)) hr rfl D_q36.mgx D_q36.fn.kp D_q36.bd .nil pass0 (sa_cons (sv 3) (sa_cons (sv 4) (sa_cons se_bl sa_nil)))))) (sw_or (st_cmpR op_ne (se_ix ix_tup (sv 4) se_int (fun _ _ => rfl)) se_str (nomark _)) (sw_or1 (st_cmpR op_isnotB (se_call (G_q54.mono (by decide)) hr rfl D_q54.mgx D_q54.fn.kp D_q54.bd .nil passE0 (sa_cons (sv 3) (sa_cons (sv 4) sa_nil))) se_bl (nomark _)))))) (sss_one (ss_ret se_bl))
 sss_nil) (sss_cons (ss_if (SW.st (sw_or (st_cmpR op_ne (se_callB (call_reprD hr.gd (hu150 hr)) (by rfl) T.no_repr PyProof.Rows.boot_repr (sa_cons (se_call (G_q19.mono (by decide)) hr rfl D_q19.mgx D_q19.fn.kp D_q19.bd .nil passE0 (sa_cons (sv 3) sa_nil)) sa_nil)) (se_callB (call_reprD hr.gd (hu150 hr)) (by rfl) T.no_repr PyProof.Rows.boot_repr (sa_cons (sv 4) sa_nil)) (nomark _)) (sw_or1 (st_not (st_val (se_call (G_q47.mono (by decide)) hr rfl D_q47.mgx D_q47.fn.kp D_q47.bd .nil pass0 (sa_cons (se_call (G_q14.mono (by decide)) hr rfl D_q14.mgx D_q14.fn.kp D_q14.bd .nil passE0 (sa_cons (sv 3) sa_nil)) (sa_cons (se_call (G_q32.mono (by decide)) hr rfl D_q32.mgx D_q32.fn.kp D_q32.bd .nil pass0 (sa_cons (sv 3) sa_nil)) sa_nil)))))))) (sss_one (ss_ret se_bl))
 sss_nil) (sss_cons (ss_set (i := 5) sc_law.nd rfl (by subst_eqs) (se_lst (sa_cvs (k := 5) (by rfl) (sa_cons (se_op op_pow se_int se_int) (sa_cons (se_op op_add (se_op op_sub (sv 3) se_int) (se_op op_mulB se_int (se_callTy call_int_bl (by rfl) T.no_int PyProof.Rows.boot_int (sa_cons (se_cmpR op_eq (sv 3) se_int (nomark _)) sa_nil)))) (sa_cons se_int (sa_cons (se_op op_mulB se_int (se_op op_add se_int (se_call (G_q31.mono (by decide)) hr rfl D_q31.mgx D_q31.fn.kp D_q31.bd .nil pass0 (sa_cons (sv 2) (sa_cons (se_op op_pow se_int se_int) sa_nil))))) sa_nil))))))) (sss_cons (ss_set (i := 5) sc_law.nd rfl (by subst_eqs) (se_ix ix_list (sv 5) (se_call (G_q31.mono (by decide)) hr rfl D_q31.mgx D_q31.fn.kp D_q31.bd .nil pass0 (sa_cons (sv 2) (sa_cons se_int sa_nil))) (fun _ _ => rfl))) (sss_cons (ss_set (i := 6) sc_law.nd rfl (by subst_eqs) (se_ix ix_list (se_lst (sa_cons se_int (sa_cons (se_op op_add (se_op op_pow se_int se_int) se_int) (sa_cvs (k := 4) (by rfl) (sa_cons (se_tup (sa_cons se_int sa_nil)) (sa_cons (se_lst (sa_cons se_int sa_nil)) sa_nil)))))) (se_call (G_q31.mono (by decide)) hr rfl D_q31.mgx D_q31.fn.kp D_q31.bd .nil pass0 (sa_cons (sv 2) (sa_cons se_int sa_nil))) (fun _ _ => rfl))) (sss_cons (ss_set (i := 7) sc_law.nd rfl (by subst_eqs) (se_lst (sa_cons (se_lamD (N := ["_law_none"]) (js := [5]) ⟨rfl, hd, bm⟩ (by rfl) rfl) sa_nil))) (sss_cons (ss_expr (se_bm PySem.F.plainAttrs_list PySem.F.slot_list_append PySem.F.type_list_append mt_append (sv 7) (sa_cons (se_lamD (N := ["_law_none"]) (js := [5]) ⟨rfl, hd, bm⟩ (by rfl) rfl) sa_nil))) (sss_cons (ss_expr (se_bm PySem.F.plainAttrs_list PySem.F.slot_list_append PySem.F.type_list_append mt_append (sv 7) (sa_cons (se_lamD (N := ["_law_odd"]) (js := [6]) ⟨rfl, hd, bm⟩ (by rfl) rfl) sa_nil))) (sss_cons (ss_expr (se_bm PySem.F.plainAttrs_list PySem.F.slot_list_append PySem.F.type_list_append mt_append (sv 7) (sa_cons (se_lamD (N := ["_law_odd"]) (js := [6]) ⟨rfl, hd, bm⟩ (by rfl) rfl) sa_nil))) (sss_cons (ss_expr (se_bm PySem.F.plainAttrs_list PySem.F.slot_list_append PySem.F.type_list_append mt_append (sv 7) (sa_cons (se_lamD (N := []) (js := []) ⟨rfl, hd, bm⟩ (by rfl) rfl) sa_nil))) (sss_one (ss_if (st_cmpR (op_neS (hu150 hr)) (se_compD (N := ["_law_call"]) (js := [none]) (by rfl) rfl (fun _ => rfl) (si_list (sv 7)) (by intro b _ _ _ _; exact (pg_name (i := 0) (show List.Nodup (["_law_call"] : List Str) by decide) rfl (by subst_eqs))) (by intro b _ _ _ _; exact pifs_nil) (by intro b _ _ _ _; exact (pe_call ((B_q52 b).mono (by decide)) hr rfl D_q52.mgx D_q52.fn.kp D_q52.bd .nil pass0 (pa_cons (pv 0) pa_nil)))) (se_lst (sa_cons (se_tup (sa_cons se_str (sa_cons se_non sa_nil))) (sa_cvs (k := 4) (by rfl) sa_nil))) (nomark _)) (sss_one (ss_ret se_bl))
 sss_nil)))))))))))))))) (sss_one (ss_ret (se_and (se_cmpR op_eq (se_call (G_q14.mono (by decide)) hr rfl D_q14.mgx D_q14.fn.kp D_q14.bd .nil passE0 (sa_cons se_int sa_nil)) se_int (nomark _)) (se_and (se_cmpR op_eq (se_call (G_q14.mono (by decide)) hr rfl D_q14.mgx D_q14.fn.kp D_q14.bd .nil passE0 (sa_cons se_int sa_nil)) se_int (nomark _)) (se_one (se_call (G_q36.mono (by decide)) hr rfl D_q36.mgx D_q36.fn.kp D_q36.bd .nil pass0 (sa_cons se_int (sa_cons (se_call (G_q19.mono (by decide)) hr rfl D_q19.mgx D_q19.fn.kp D_q19.bd .nil passE0 (sa_cons se_int sa_nil)) (sa_cons se_bl sa_nil)))))))))) ?_
    have e0 : L2.start ["_law_script", "_law_k", "_law_state_here", "_law_n", "_law_paper", "_law_none", "_law_odd", "_law_calls"] [.ref sa] = [some (.ref sa), none, none, none, none, none, none, none] := rfl
    rw [e0]; clear e0
    refine tSeq_gen fun R0 hR0 => ?_
    dsimp only [tSeq]
    refine tFor_rng ?_
    rename_i tCvs
    refine ⟨_, .inl hS, ?_⟩
    obtain ⟨Pl, hPl⟩ : ∃ Pl : Nat → St → Hp → Prop, ∀ i σ H', Pl i σ H' ↔ SameX Pt H H' ∧ TabOk H' Pt qL ∧ ∃ v1 v2 v3 v4 v5 v6 v7, σ = [some (.ref sa), v1, v2, v3, v4, v5, v6, v7] := ⟨_, fun _ _ _ => Iff.rfl⟩
    refine ⟨?_, ?_, fr_of Pl ((hPl _ _ _).mpr ⟨SameX.refl _ _, tabOk_new hT, none, none, none, none, none, none, none, rfl⟩) ?_ ?_⟩
    · rw [List.length_map]; repeat' split
      all_goals omega
    · rw [List.length_map]; repeat' split
      all_goals omega
    · intro i σ H1 hi hP
      obtain ⟨S, TB, v1, v2, v3, v4, v5, v6, v7, rfl⟩ := (hPl _ _ _).mp hP
      clear hP
      dsimp only [gName, List.set_cons_zero, List.set_cons_succ]
      refine tSeq_gen fun R hR => ?_
      rename_i tCvs
      refine ⟨sa, ns, _, rfl, S.seq hT hS, hlen, by omega, fun a x y y0 y1 ha => ?_⟩
      have S0 : SameX Pt H (upd H1 a (.lst [.int x, .int y])) := fun b o h1 e => by rw [upd_ne (ne_of_none (S b o h1 e) ha)]; exact S b o h1 e
      have nb : ∀ b o, b ≠ Pt → H b = some o → b ≠ a := fun b o h1 e => ne_of_none (S b o h1 e) ha
      have st0 : StAt (upd H1 a (.lst [.int x, .int y])) a := ⟨x, y, upd_same, y0, y1⟩
      have TB0 : TabOk (upd H1 a (.lst [.int x, .int y])) Pt qL := TB.same fun b o e => keep e ha
      generalize upd H1 a (.lst [.int x, .int y]) = H2 at S0 st0 TB0 ⊢
      subst hR
      refine tSeq_gen fun R hR => ?_
      rename_i tCvs
      refine ⟨⟨by decide, by decide, by decide⟩, ⟨by decide, by decide, by decide⟩, by show 3 ≤ sizeLine; decide, fun p hp => ?_⟩
      refine ⟨a, _, rfl, ⟨by decide, by decide⟩, st0.upd hp, fun c1 H3 c10 c11 T1 => ?_⟩
      have np : p ≠ a := by
        obtain ⟨_, _, e, _⟩ := st0
        exact (ne_of_none e hp).symm
      obtain ⟨wd, hw, w1, w9⟩ := wd_at c10 c11
      refine ⟨_, c1, rfl, SqL.of (T1.but p _ np upd_same), _, hw, ?_⟩
      replace T1 := ((Step.refl st0).new hp).trans T1
      clear hw np c10 c11 hp
      refine ⟨a, _, rfl, ⟨by omega, by omega⟩, T1.st, fun c2 H4 c20 c21 T2 => ⟨_, rfl, ?_⟩⟩
      replace T1 := T1.trans T2
      refine ⟨3 + c2, 999999937, rfl, ⟨by omega, by omega, pr_big9, by decide⟩, fun n hn nlo nhi => ?_⟩
      have n3 : 3 ≤ n := by omega
      have n9 : n ≤ 10 ^ 9 := by omega
      have no : n % 2 = 1 := by
        refine Classical.byContradiction fun c => ?_
        have := pr_dvd hn (by decide) (Int.dvd_of_emod_eq_zero (show n % 2 = 0 by omega))
        omega
      clear nlo nhi c20 c21 w1 w9 T2
      subst hR
      refine tSeq_gen fun R hR => ?_
      rename_i tCvs
      refine ⟨.int n, _, rfl, .int _, fun h => (by rw [isBet_of (by omega) (by omega)] at h; cases h), fun n' en _ _ => ⟨fun h => ?_, fun _ _ l' m l b v H5 sp S5 Rv => ?_⟩⟩
      · cases en
        exact absurd ⟨hn, n3⟩ h
      cases en
      replace T1 := T1.same S5
      clear S5
      have rp := sp.rp hn n3 n9
      obtain ⟨rk1, rk2, rk3, rk4⟩ := sp_repr n9 (by decide) rp
      subst hR
      refine tSeq_gen fun R hR => ?_
      rename_i tCvs
      have nl := rp.nl
      have Rv0 := Rv
      unfold spD at Rv0
      obtain ⟨pa, xs, rfl, hpa, x1, xr, rfl, e1, _⟩ := Rv0
      cases e1
      refine ⟨n, spD b l, .ref pa, false, rfl, ⟨Rv, rp.mono (by decide), by omega⟩, fun H6 S6 => ⟨_, rfl, ?_⟩⟩
      rw [if_neg (by decide)]
      refine ⟨pa, _, _, _, rfl, rfl, S6.tk.sq hpa, at0, rfl, ?_⟩
      rw [if_neg (fun h => h rfl)]
      replace T1 := T1.same S6
      replace Rv := Rep.mono S6.tk _ nl Rv
      clear S6 hpa
      refine ⟨.int n, .ref pa, _, rfl, .int _, fun h => (by rw [isBet_of (by omega) (by omega)] at h; cases h), fun n' en _ _ => ⟨spD b l, 31, ⟨Rv, by cases en; exact rp, spD_head⟩, fun H7 S7 => ⟨true, rfl, ?_⟩⟩⟩
      rw [if_neg (by decide)]
      replace T1 := T1.same S7
      replace Rv := Rep.mono S7.tk _ nl Rv
      clear S7
      subst hR
      refine tSeq_gen fun R hR => ?_
      rename_i tCvs
      refine ⟨.int n, _, rfl, .int _, fun h => (by rw [isBet_of (by omega) (by omega)] at h; cases h), fun n' en _ _ => ⟨fun h => ?_, fun _ _ l2 m2 l3 b2 v2 H8 sp2 S8 Rv2 => ?_⟩⟩
      · cases en
        exact absurd ⟨hn, n3⟩ h
      cases en
      obtain ⟨em, ed⟩ := sp2.unique sp
      rw [ed] at Rv2
      replace T1 := T1.same S8
      replace Rv := Rep.mono S8.tk _ nl Rv
      clear S8
      refine ⟨v2, spD b l, rfl, Rv2, rk1, rk2, rk3, rk4, .ref pa, spD b l, rfl, Rv, rk1, rk2, rk3, rk4, rfl, ?_⟩
      rw [if_neg (fun h => h rfl)]
      clear Rv2 ed em sp2 rk1 rk2 rk3 rk4
      refine ⟨.int n, _, rfl, .int _, fun h => (by rw [isBet_of (by omega) (by omega)] at h; cases h), fun n' en _ _ => ⟨fun h => ?_, fun _ _ l4 m4 H9 hf S9 => ?_⟩⟩
      · cases en
        exact absurd ⟨hn, n3⟩ h
      cases en
      refine ⟨n, rfl, ⟨hn, n3, n9⟩, fun r HA hr2 SA => ?_⟩
      have m19 : m4 ≤ 19 := by
        have a1 := parts_len19 (pl_ok (show 1 ≤ n - 1 by omega)) (by omega)
        have a2 := hf.ml
        have a3 := hf.pm.length_eq
        omega
      have er := hr2 _ _ hf
      subst er
      refine ⟨.int m4, _, rfl, rfl, fun i e => (by cases e; omega), ⟨_, rfl, ?_⟩⟩
      rw [if_neg (by decide)]
      replace T1 := (T1.same S9).same SA
      clear S9 SA hr2 hf m19 sp rp Rv nl
      subst hR
      refine tSeq_gen fun R hR => ?_
      rename_i tCvs
      refine ⟨⟨by decide, by decide, by decide⟩, decide (n = 3), rfl, ?_⟩
      obtain ⟨b3, hb3, b31⟩ : ∃ b3 : Int, b3 = (if n = 3 then 1 else 0) ∧ 0 ≤ b3 ∧ b3 ≤ 1 := ⟨_, rfl, by split <;> omega, by split <;> omega⟩
      refine ⟨b3, by rw [hb3]; congr 1; by_cases e : n = 3 <;> simp [e], .inr ⟨by decide, by omega⟩, ⟨by decide, by decide, by decide⟩, ?_⟩
      refine ⟨a, _, rfl, ⟨by decide, by decide⟩, T1.st, fun c3 HB c30 c31 T3 => ⟨_, rfl, .inr ⟨by decide, by omega⟩, by show 9 ≤ sizeLine; decide, fun pn hpn => ?_⟩⟩
      have npn : pn ≠ a := by
        obtain ⟨_, _, e, _⟩ := T3.st
        exact (ne_of_none e hpn).symm
      replace T1 := (T1.trans T3).new (o := .lst [V.int 1, V.int 2, V.int 4, V.int 9, V.int 561, V.int 1000000000, V.int (n - 1 + 2 * b3), V.int 341, V.int (2 * (1 + c3))]) hpn
      have mpn : (upd HB pn (.lst [V.int 1, V.int 2, V.int 4, V.int 9, V.int 561, V.int 1000000000, V.int (n - 1 + 2 * b3), V.int 341, V.int (2 * (1 + c3))])) pn = some (.lst [V.int 1, V.int 2, V.int 4, V.int 9, V.int 561, V.int 1000000000, V.int (n - 1 + 2 * b3), V.int 341, V.int (2 * (1 + c3))]) := upd_same
      generalize upd HB pn (.lst [V.int 1, V.int 2, V.int 4, V.int 9, V.int 561, V.int 1000000000, V.int (n - 1 + 2 * b3), V.int 341, V.int (2 * (1 + c3))]) = HC at T1 mpn ⊢
      clear T3 hpn
      subst hR
      refine tSeq_gen fun R hR => ?_
      rename_i tCvs
      refine ⟨a, _, rfl, ⟨by decide, by decide⟩, T1.st, fun c4 HD c40 c41 T3 => ?_⟩
      obtain ⟨z, hz, z1, z9, zn⟩ := none_at n3 n9 no hb3 c30 (by omega) c40 c41
      refine ⟨_, c4, rfl, SqL.of (T3.but pn _ npn mpn), _, hz, ?_⟩
      replace T1 := T1.trans T3
      clear T3 hz mpn npn c40 c41 hb3 b31 c30 c31
      subst hR
      refine tSeq_gen fun R hR => ?_
      rename_i tCvs
      refine ⟨⟨by decide, by decide, by decide⟩, by show 1 ≤ sizeLine; decide, fun q1 hq1 => ⟨by show 1 ≤ sizeLine; decide, fun q2 hq2 => ⟨by show 8 ≤ sizeLine; decide, fun q3 hq3 => ?_⟩⟩⟩
      refine ⟨a, _, rfl, ⟨by decide, by decide⟩, ((T1.st.upd hq1).upd hq2).upd hq3, fun e HT e0 e1 U1 => ?_⟩
      have nq1 : q1 ≠ a := by
        obtain ⟨_, _, e, _⟩ := T1.st
        exact (ne_of_none e hq1).symm
      have nq2 : q2 ≠ a := by
        obtain ⟨_, _, e, _⟩ := T1.st
        exact (ne_of_none (keep e hq1) hq2).symm
      have nq3 : q3 ≠ a := by
        obtain ⟨_, _, e, _⟩ := T1.st
        exact (ne_of_none (keep (keep e hq1) hq2) hq3).symm
      have g1 := U1.but q1 _ nq1 (keep (keep upd_same hq2) hq3)
      have g2 := U1.but q2 _ nq2 (keep upd_same hq3)
      have g3 := U1.but q3 _ nq3 upd_same
      replace T1 := (((T1.new hq1).new hq2).new hq3).trans U1
      obtain ⟨od, hat, yy, bA⟩ := odd_at9 (K := K) e0 e1 nq1 g1 nq2 g2
      refine ⟨_, e, rfl, SqL.of g3, _, hat, ?_⟩
      clear g1 g2 g3 hat e0 e1 nq1 nq2 nq3 U1 hq1 hq2 hq3
      have TB3 : TabOk HT Pt qL := T1.tab st0 TB0
      subst hR
      refine tSeq_gen fun R hR => ?_
      rename_i tCvs
      refine ⟨TB3, fun f1 c1 ct1 L1 hf1 sx1 tb1 lam1 cod1 => ?_⟩
      refine ⟨by show 1 ≤ sizeLine; decide, fun pc hpc => ?_⟩
      have ty1 : Ty2 K Pt pc L1 od := yy.ty2 TB3 sx1 hpc
      have g1 := Lm.first tb1 lam1 cod1 hpc
      have kx0 : KX Pt pc L1 (upd L1 pc (.lst [.ref f1])) := fun b o _ hb e => by rw [upd_ne hb]; exact e
      replace g1 := g1.keep kx0
      replace ty1 := ty1.keep kx0
      have tbA : TabOk (upd L1 pc (.lst [.ref f1])) Pt qL := tb1.same fun b o e => keep e hpc
      have mA : (upd L1 pc (.lst [.ref f1])) pc = some (.lst [.ref f1]) := upd_same
      have kA : KX Pt pc L1 (upd L1 pc (.lst [.ref f1])) := kx0
      generalize upd L1 pc (.lst [.ref f1]) = M1 at g1 ty1 tbA mA kA ⊢
      clear kx0
      have nPc : pc ≠ Pt := fun z => by
        obtain ⟨ps, e, _⟩ := tbA
        rw [← z, mA] at e
        cases e
      subst hR
      refine tSeq_gen fun R hR => ?_
      rename_i tCvs
      refine ⟨.inl ⟨_, SqL.of mA⟩, tbA, fun f2 c2 ct2 J2 hf2 sx2 tb2 lam2 cod2 => ?_⟩
      have mL2 : J2 pc = some (.lst [.ref f1]) := sx2 pc _ nPc mA
      refine ⟨_, mL2, small1000 (show 1 ≤ 1000 by decide), ?_⟩
      have kx2 : KX Pt pc J2 (upd J2 pc (.lst ([.ref f1] ++ [.ref f2]))) := fun b o _ hb e => by rw [upd_ne hb]; exact e
      have ky2 : KX Pt pc M1 (upd J2 pc (.lst ([.ref f1] ++ [.ref f2]))) := fun b o h1 h2 e => kx2 b o h1 h2 (sx2 b o h1 e)
      have g2 := (Lm.next tb2 lam2 cod2 mL2).keep kx2
      replace g1 := g1.keep ky2
      replace ty1 := ty1.keep ky2
      replace kA := kA.trans ky2
      replace tbA : TabOk (upd J2 pc (.lst ([.ref f1] ++ [.ref f2]))) Pt qL := tb2.kept fun b o e n => by rw [upd_ne (fun z => by rw [z, mL2] at e; cases e; exact n _ rfl)]; exact e
      replace mA : (upd J2 pc (.lst ([.ref f1] ++ [.ref f2]))) pc = some (.lst [.ref f1, .ref f2]) := upd_same
      clear kx2 ky2
      generalize (upd J2 pc (.lst ([.ref f1] ++ [.ref f2]))) = M2 at g1 g2 ty1 tbA mA kA ⊢
      subst hR
      refine tSeq_gen fun R hR => ?_
      rename_i tCvs
      refine ⟨.inl ⟨_, SqL.of mA⟩, tbA, fun f3 c3 ct3 J3 hf3 sx3 tb3 lam3 cod3 => ?_⟩
      have mL3 : J3 pc = some (.lst [.ref f1, .ref f2]) := sx3 pc _ nPc mA
      refine ⟨_, mL3, small1000 (show 2 ≤ 1000 by decide), ?_⟩
      have kx3 : KX Pt pc J3 (upd J3 pc (.lst ([.ref f1, .ref f2] ++ [.ref f3]))) := fun b o _ hb e => by rw [upd_ne hb]; exact e
      have ky3 : KX Pt pc M2 (upd J3 pc (.lst ([.ref f1, .ref f2] ++ [.ref f3]))) := fun b o h1 h2 e => kx3 b o h1 h2 (sx3 b o h1 e)
      have g3 := (Lm.next tb3 lam3 cod3 mL3).keep kx3
      replace g1 := g1.keep ky3
      replace g2 := g2.keep ky3
      replace ty1 := ty1.keep ky3
      replace kA := kA.trans ky3
      replace tbA : TabOk (upd J3 pc (.lst ([.ref f1, .ref f2] ++ [.ref f3]))) Pt qL := tb3.kept fun b o e n => by rw [upd_ne (fun z => by rw [z, mL3] at e; cases e; exact n _ rfl)]; exact e
      replace mA : (upd J3 pc (.lst ([.ref f1, .ref f2] ++ [.ref f3]))) pc = some (.lst [.ref f1, .ref f2, .ref f3]) := upd_same
      clear kx3 ky3
      generalize (upd J3 pc (.lst ([.ref f1, .ref f2] ++ [.ref f3]))) = M3 at g1 g2 g3 ty1 tbA mA kA ⊢
      subst hR
      refine tSeq_gen fun R hR => ?_
      rename_i tCvs
      refine ⟨.inl ⟨_, SqL.of mA⟩, tbA, fun f4 c4 ct4 J4 hf4 sx4 tb4 lam4 cod4 => ?_⟩
      have mL4 : J4 pc = some (.lst [.ref f1, .ref f2, .ref f3]) := sx4 pc _ nPc mA
      refine ⟨_, mL4, small1000 (show 3 ≤ 1000 by decide), ?_⟩
      have kx4 : KX Pt pc J4 (upd J4 pc (.lst ([.ref f1, .ref f2, .ref f3] ++ [.ref f4]))) := fun b o _ hb e => by rw [upd_ne hb]; exact e
      have ky4 : KX Pt pc M3 (upd J4 pc (.lst ([.ref f1, .ref f2, .ref f3] ++ [.ref f4]))) := fun b o h1 h2 e => kx4 b o h1 h2 (sx4 b o h1 e)
      have g4 := (Lm.next tb4 lam4 cod4 mL4).keep kx4
      replace g1 := g1.keep ky4
      replace g2 := g2.keep ky4
      replace g3 := g3.keep ky4
      replace ty1 := ty1.keep ky4
      replace kA := kA.trans ky4
      replace tbA : TabOk (upd J4 pc (.lst ([.ref f1, .ref f2, .ref f3] ++ [.ref f4]))) Pt qL := tb4.kept fun b o e n => by rw [upd_ne (fun z => by rw [z, mL4] at e; cases e; exact n _ rfl)]; exact e
      replace mA : (upd J4 pc (.lst ([.ref f1, .ref f2, .ref f3] ++ [.ref f4]))) pc = some (.lst [.ref f1, .ref f2, .ref f3, .ref f4]) := upd_same
      clear kx4 ky4
      generalize (upd J4 pc (.lst ([.ref f1, .ref f2, .ref f3] ++ [.ref f4]))) = M4 at g1 g2 g3 g4 ty1 tbA mA kA ⊢
      subst hR
      refine tSeq_gen fun R hR => ?_
      rename_i tCvs
      refine ⟨.inl ⟨_, SqL.of mA⟩, tbA, fun f5 c5 ct5 J5 hf5 sx5 tb5 lam5 cod5 => ?_⟩
      have mL5 : J5 pc = some (.lst [.ref f1, .ref f2, .ref f3, .ref f4]) := sx5 pc _ nPc mA
      refine ⟨_, mL5, small1000 (show 4 ≤ 1000 by decide), ?_⟩
      have kx5 : KX Pt pc J5 (upd J5 pc (.lst ([.ref f1, .ref f2, .ref f3, .ref f4] ++ [.ref f5]))) := fun b o _ hb e => by rw [upd_ne hb]; exact e
      have ky5 : KX Pt pc M4 (upd J5 pc (.lst ([.ref f1, .ref f2, .ref f3, .ref f4] ++ [.ref f5]))) := fun b o h1 h2 e => kx5 b o h1 h2 (sx5 b o h1 e)
      have g5 := (Lm.next tb5 lam5 cod5 mL5).keep kx5
      replace g1 := g1.keep ky5
      replace g2 := g2.keep ky5
      replace g3 := g3.keep ky5
      replace g4 := g4.keep ky5
      replace ty1 := ty1.keep ky5
      replace kA := kA.trans ky5
      replace tbA : TabOk (upd J5 pc (.lst ([.ref f1, .ref f2, .ref f3, .ref f4] ++ [.ref f5]))) Pt qL := tb5.kept fun b o e n => by rw [upd_ne (fun z => by rw [z, mL5] at e; cases e; exact n _ rfl)]; exact e
      replace mA : (upd J5 pc (.lst ([.ref f1, .ref f2, .ref f3, .ref f4] ++ [.ref f5]))) pc = some (.lst [.ref f1, .ref f2, .ref f3, .ref f4, .ref f5]) := upd_same
      clear kx5 ky5
      generalize (upd J5 pc (.lst ([.ref f1, .ref f2, .ref f3, .ref f4] ++ [.ref f5]))) = M5 at g1 g2 g3 g4 g5 ty1 tbA mA kA ⊢
      subst hR
      rename_i tCvs
      refine tCompC_of ?_
      refine ⟨_, rfl, pc, rfl, ⟨_, SqL.of mA⟩, fun b D hc hD => ?_⟩
      obtain ⟨due, hdue⟩ : ∃ due, due = [Dt.tup [.str (Str.ofString "told"), .non], .str (Str.ofString "prime"), .str (Str.ofString "number"), .str (Str.ofString "number"), .str (Str.ofString "number")] := ⟨_, rfl⟩
      have nlD : noLL due = true := by rw [hdue]; rfl
      have LW : ∀ (i : Nat) x, [V.ref f1, V.ref f2, V.ref f3, V.ref f4, V.ref f5][i]? = some x → ∀ (H' : Hp) (Q' : VK), Same M5 H' → (∀ d, due[i]? = some d → ∀ v H'', Same H' H'' → Rep K H'' d v → Q' v H'') → spSaid P w K mg cl b [x] H' Q' E0 := by
        intro i x hx H' Q' sm hQ
        rw [hdue] at hQ
        obtain ⟨⟨na, tya⟩, _⟩ := ty1
        have tyA : TyOf K H' od (.type na) := TyOf.keepK tya fun p o _ q => sm p o q
        match i, hx, hQ with
        | 0, hx, hQ =>
          cases hx
          refine told_of (told := fun v => v = .non) hc g1 sm (N := ["_law_none"]) (js := [5]) (vs := [.int z]) rfl (cells_nodup _ _ [] (by simp) (by simp)) (fun x hx => cell_has hx) rfl (fun i j v e1 e2 => match i, e1, e2 with | 0, e1, e2 => by cases e1; cases e2; rfl | _ + 1, e1, _ => by cases e1) (fun _ _ _ => rfl) (sp := fun H Q E => spShP K cl [.int z] H Q E) (fun A outer s H Q E hr hsp => ⟨_, (pe_call ((B_q19 b).mono (by decide)) hr rfl D_q19.mgx D_q19.fn.kp D_q19.bd .nil (passes_lam (fun _ _ _ h => h)) (pa_cons (pv 0) pa_nil)), ⟨_, rfl, hsp⟩⟩) (fun Q hq => ?_) (fun v q H'' tv s2 hq2 => hQ _ rfl _ H'' s2 ?_) rfl
          · exact ⟨.int z, _, rfl, .int _, fun h => (by rw [isBet_of z1 z9] at h; cases h), fun n' en _ _ => by cases en; exact ⟨fun _ => hq .non H' rfl (Same.refl _), fun hp h3 => absurd ⟨hp, h3⟩ zn⟩⟩
          · rw [tv] at hq2
            exact ⟨q, _, rfl, SqT.of hq2, _, _, rfl, rfl, _, _, rfl, rfl, rfl⟩
        | 1, hx, hQ =>
          cases hx
          refine wrd_of hc g2 sm W1 (.inr rfl) (N := ["_law_none"]) (js := [5]) (vs := [.int z]) rfl (cells_nodup _ _ [] (by simp) (by simp)) (fun x hx => cell_has hx) rfl (fun i j v e1 e2 => match i, e1, e2 with | 0, e1, e2 => by cases e1; cases e2; rfl | _ + 1, e1, _ => by cases e1) (fun _ _ _ => rfl) (sp := fun H Q E => spFRw K cl [.int z] H Q E) (fun A outer s H Q E hr hsp => ⟨_, (pe_call ((B_q14 b).mono (by decide)) hr rfl D_q14.mgx D_q14.fn.kp D_q14.bd .nil (passes_lam (fun _ _ _ h => h)) (pa_cons (pv 0) pa_nil)), ⟨_, rfl, hsp⟩⟩) (fun R hR => ?_) (fun H'' s2 => hQ _ rfl _ H'' s2 rfl) rfl
          exact ⟨.int z, _, rfl, .int _, fun h => (by rw [isBet_of z1 z9] at h; cases h), fun n' en _ _ => by cases en; exact ⟨fun _ => hR _ (Same.refl _), fun hp h3 => absurd ⟨hp, h3⟩ zn⟩⟩
        | 2, hx, hQ =>
          cases hx
          refine wrd_of hc g3 sm W0 (.inl rfl) (N := ["_law_odd"]) (js := [6]) (vs := [od]) rfl (cells_nodup _ _ [] (by simp) (by simp)) (fun x hx => cell_has hx) rfl (fun i j v e1 e2 => match i, e1, e2 with | 0, e1, e2 => by cases e1; cases e2; rfl | _ + 1, e1, _ => by cases e1) (fun _ _ _ => rfl) (sp := fun H Q E => spShP K cl [od] H Q E) (fun A outer s H Q E hr hsp => ⟨_, (pe_call ((B_q19 b).mono (by decide)) hr rfl D_q19.mgx D_q19.fn.kp D_q19.bd .nil (passes_lam (fun _ _ _ h => h)) (pa_cons (pv 0) pa_nil)), ⟨_, rfl, hsp⟩⟩) (fun R hR => ?_) (fun H'' s2 => hQ _ rfl _ H'' s2 rfl) rfl
          exact ⟨od, _, rfl, tyA, fun _ => hR _ (Same.refl _), fun n' en h1 h2 => by rw [en, isBet_of h1 h2] at bA; cases bA⟩
        | 3, hx, hQ =>
          cases hx
          refine wrd_of hc g4 sm W0 (.inl rfl) (N := ["_law_odd"]) (js := [6]) (vs := [od]) rfl (cells_nodup _ _ [] (by simp) (by simp)) (fun x hx => cell_has hx) rfl (fun i j v e1 e2 => match i, e1, e2 with | 0, e1, e2 => by cases e1; cases e2; rfl | _ + 1, e1, _ => by cases e1) (fun _ _ _ => rfl) (sp := fun H Q E => spFRw K cl [od] H Q E) (fun A outer s H Q E hr hsp => ⟨_, (pe_call ((B_q14 b).mono (by decide)) hr rfl D_q14.mgx D_q14.fn.kp D_q14.bd .nil (passes_lam (fun _ _ _ h => h)) (pa_cons (pv 0) pa_nil)), ⟨_, rfl, hsp⟩⟩) (fun R hR => ?_) (fun H'' s2 => hQ _ rfl _ H'' s2 rfl) rfl
          exact ⟨od, _, rfl, tyA, fun _ => hR _ (Same.refl _), fun n' en h1 h2 => by rw [en, isBet_of h1 h2] at bA; cases bA⟩
        | 4, hx, hQ =>
          cases hx
          refine wrd_of hc g5 sm W0 (.inl rfl) (N := []) (js := []) (vs := []) rfl (cells_nodup _ _ [] (by simp) (by simp)) (fun x hx => cell_has hx) rfl (fun i j v e1 e2 => by cases i <;> cases e1) (fun _ _ _ => rfl) (sp := fun H Q E => 1 ≤ sizeLine ∧ ∀ p, H p = none → spIsShare K cl [.int 0, .ref p] (upd H p (.tup [.str (Str.ofString "two")])) Q E) (fun A outer s H Q E hr hsp => ⟨_, (pe_call ((B_q54 b).mono (by decide)) hr rfl D_q54.mgx D_q54.fn.kp D_q54.bd .nil (passes_lam (fun _ _ _ h => h)) (pa_cons pe_int (pa_cons (pe_tup (pa_cons pe_str pa_nil)) pa_nil))), hsp⟩) (fun R hR => ?_) (fun H'' s2 => hQ _ rfl _ H'' s2 rfl) rfl
          exact ⟨by decide, fun p hp => ⟨.int 0, .ref p, _, rfl, .int _, fun _ => hR _ (fun b o e => keep e hp), fun n' en h1 _ => by cases en; omega⟩⟩
        | _ + 5, hx, hQ => cases hx
      obtain ⟨Pv, hPv⟩ : ∃ Pv : Nat → St → Hp → Prop, ∀ i σ H', Pv i σ H' ↔ (∃ v, σ = [v]) ∧ Same M5 H' ∧ ∃ zs, H' D = some (.lst zs) ∧ RepL K H' (due.take i) zs := ⟨_, fun _ _ _ => Iff.rfl⟩
      refine comp_list (xs := [V.ref f1, V.ref f2, V.ref f3, V.ref f4, V.ref f5]) Pv ((hPv _ _ _).mpr ⟨⟨none, rfl⟩, fun b o e => keep e hD, [], upd_same, rfl⟩) (fun i σ H' hi h => ?_) ?_ ?_
      · exact SqL.of (((hPv _ _ _).mp h).2.1 _ _ mA)
      · intro i x σ H' hx h
        obtain ⟨⟨v0, rfl⟩, sm, zs, hDl, RZ⟩ := (hPv _ _ _).mp h
        have i5 : i < 5 := (List.getElem?_eq_some_iff.mp hx).1
        have zl : zs.length ≤ 5 := by
          rw [← RZ.length, List.length_take]
          omega
        (try dsimp only [CT, tYes]); bv_omega
        refine LW i x hx H' _ sm fun d hd v H'' s2 Rd => ?_
        have nlt : noLL (due.take i) = true := by
          rw [hdue]
          have h : i = 0 ∨ i = 1 ∨ i = 2 ∨ i = 3 ∨ i = 4 := by omega
          rcases h with rfl | rfl | rfl | rfl | rfl <;> rfl
        have nld : noL d = true := by
          rw [hdue] at hd
          have h : i = 0 ∨ i = 1 ∨ i = 2 ∨ i = 3 ∨ i = 4 := by omega
          rcases h with rfl | rfl | rfl | rfl | rfl <;> cases hd <;> rfl
        have tk : TK H'' (upd H'' D (.lst (zs ++ [v]))) := TK.lst (s2 _ _ hDl)
        refine ⟨_, s2 _ _ hDl, small1000 (by omega), (hPv _ _ _).mpr ⟨⟨_, rfl⟩, fun b o e => ?_, _, upd_same, ?_⟩⟩
        · rw [upd_ne (ne_of_none e hD)]
          exact s2 _ _ (sm b o e)
        · rw [List.take_succ, hd]
          exact (RZ.mono (s2.tk.trans tk) _ nlt).append ⟨_, [], rfl, Rep.mono tk _ nld Rd, rfl⟩
      · intro σ H' h
        obtain ⟨⟨v0, rfl⟩, sm, zs, hDl, RZ⟩ := (hPv _ _ _).mp h
        have RZ : RepL K H' due zs := by
          have e : due.take 5 = due := by rw [hdue]; rfl
          rw [← e]; exact RZ
        refine ⟨by show 2 ≤ sizeLine; decide, fun p8 hp8 => ⟨by show 5 ≤ sizeLine; decide, fun p9 hp9 => ?_⟩⟩
        have sF : Same H' (upd (upd H' p8 (.tup [V.str (Str.ofString "told"), V.non])) p9 (.lst [V.ref p8, V.str (Str.ofString "prime"), V.str (Str.ofString "number"), V.str (Str.ofString "number"), V.str (Str.ofString "number")])) := fun b o e => keep (keep e hp8) hp9
        have t8 : (upd (upd H' p8 (.tup [V.str (Str.ofString "told"), V.non])) p9 (.lst [V.ref p8, V.str (Str.ofString "prime"), V.str (Str.ofString "number"), V.str (Str.ofString "number"), V.str (Str.ofString "number")])) p8 = some (.tup [V.str (Str.ofString "told"), V.non]) := keep upd_same hp9
        refine ⟨due, due, ⟨D, _, rfl, SqL.of (sF _ _ hDl), RZ.mono sF.tk _ nlD⟩, ⟨p9, _, rfl, SqL.of upd_same, ?_⟩, ?_, _, rfl, ?_⟩
        · rw [hdue]
          exact ⟨_, _, rfl, ⟨p8, _, rfl, SqT.of t8, _, _, rfl, rfl, _, _, rfl, rfl, rfl⟩, _, _, rfl, rfl, _, _, rfl, rfl, _, _, rfl, rfl, _, _, rfl, rfl, rfl⟩
        · rw [hdue]; decide
        rw [eqDL_self, if_neg (show ¬ (!true) = true by decide)]
        refine (hPl _ _ _).mpr ⟨fun b o hb e => sF b o (sm b o ?_), tbA.same (sm.trans sF), ?_⟩
        · have e1 := sx1 b o hb (T1.but b o (nb b o hb e) (S0 b o hb e))
          exact kA b o hb (ne_of_none e1 hpc) e1
        · exact ⟨_, _, _, _, _, _, _, rfl⟩
    · intro σ H1 hP
      obtain ⟨S, TB, v1, v2, v3, v4, v5, v6, v7, rfl⟩ := (hPl _ _ _).mp hP
      clear hP
      subst hR0
      rename_i tCvs
      refine ⟨.int 3, _, rfl, .int _, fun h => absurd h (by decide), fun n en _ _ => ⟨fun h => ?_, fun _ _ l1 m1 H2 hf1 _ => ?_⟩⟩
      · cases en
        exact absurd ⟨isPr3, by decide⟩ h
      cases en
      have e1 := few3 hf1
      subst e1
      refine ⟨rfl, ?_⟩
      rw [if_pos (show V.int ((1 : Nat) : Int) = V.int 1 from rfl)]
      refine ⟨.int 211, _, rfl, .int _, fun h => absurd h (by decide), fun n en _ _ => ⟨fun h => ?_, fun _ _ l2 m2 H3 hf2 _ => ?_⟩⟩
      · cases en
        exact absurd ⟨pr_211, by decide⟩ h
      cases en
      have e2 := few211 hf2
      subst e2
      refine ⟨rfl, ?_⟩
      rw [if_pos (show V.int ((2 : Nat) : Int) = V.int 2 from rfl)]
      refine ⟨.int 3, _, rfl, .int _, fun h => absurd h (by decide), fun n en _ _ => ⟨fun h => ?_, fun _ _ l' m l b v H4 sp S4 Rv => ?_⟩⟩
      · cases en
        exact absurd ⟨isPr3, by decide⟩ h
      cases en
      exact ⟨3, spD b l, v, false, rfl, ⟨Rv, (sp.rp isPr3 (by decide) (by decide)).mono (by decide), by decide⟩, fun H5 _ => k _⟩
end
theorem def_mk {K : PySem.W.Frag} {h : Heap} {mg : Str → Option Value} {x : Str} {st : Stmt} {ps : List Str} {f : Addr} {oc : Value} {od an : Option Addr} {osl : Array (Option Value)} {kV doc pm cdv ct : Value} (X : K.In h) (G : h.Ns mainGlobals mg)
    (a : PySem.W.nsIn K mainGlobals x = some (some (.ref f))) (l : K.lookup f = some ⟨oc, od, .func (PySem.W.fnOf x x (defArgs st) (defBody st) (defScope st) .none kV doc pm an cdv ct), osl⟩) (c : PySem.W.codeIn K cdv x = true) (k : PySem.W.keepIn K (.ref f) = true)
    (hb : ∀ (kV doc pm : Value) (an : Option Addr) (cdv ct : Value) (us : List Value), us.length = ps.length → bindArgs (PySem.W.fnOf x x (defArgs st) (defBody st) (defScope st) .none kV doc pm an cdv ct) ⟨us, []⟩ = pure (ps.zip us)) : ∃ fd, Def K mg x st ps f fd := by
  have F := fun_mk (st := st) l c k
  exact ⟨_, F, F.binds hb, PySem.W.mg_of X G a⟩
theorem sqT_in {K : PySem.W.Frag} {a : Addr} {od : Option Addr} {its : Array Value} {n : Nat} {osl : Array (Option Value)} {xs : List V} (h : K.lookup a = some ⟨.type "tuple", od, .seq its n, osl⟩) (hz : its.size ≤ sizeLine) (r : Vals xs its.toList) : ∀ H, SqT K H a xs := fun H => .inr ⟨_, its, n, h, rfl, rfl, hz, r⟩
theorem lk_in {w : World} {K : PySem.W.Frag} {cl : Cl} {t1 t2 t3 t4 : Tok} {h1 h2 h3 h4 : Int} {ep : Nat} (h : K.lookup cl.lk = some ⟨.type "dict", none, .dict #[⟨h1, .str (Str.ofString "two") t1, .ref cl.s2⟩, ⟨h2, .str (Str.ofString "full") t2, .ref cl.sf⟩, ⟨h3, .str (Str.ofString "share") t3, .ref cl.ss⟩, ⟨h4, .str (Str.ofString "other") t4, .ref cl.so⟩] ep, #[]⟩)
    (e1 : h1 = keyH w (.inr (Str.ofString "two"))) (e2 : h2 = keyH w (.inr (Str.ofString "full"))) (e3 : h3 = keyH w (.inr (Str.ofString "share"))) (e4 : h4 = keyH w (.inr (Str.ofString "other"))) : ∀ P : Program, LkOk P w K cl := by
  intro P
  subst e1 e2 e3 e4
  refine ⟨_, _, _, [(.inr (Str.ofString "two"), .ref cl.s2), (.inr (Str.ofString "full"), .ref cl.sf), (.inr (Str.ofString "share"), .ref cl.ss), (.inr (Str.ofString "other"), .ref cl.so)], h, ⟨rfl, rfl, rfl⟩, rfl, ?_, ?_, ?_, ?_⟩
  · intro e he
    have : e = ⟨keyH w (.inr (Str.ofString "two")), .str (Str.ofString "two") t1, .ref cl.s2⟩ ∨ e = ⟨keyH w (.inr (Str.ofString "full")), .str (Str.ofString "full") t2, .ref cl.sf⟩ ∨ e = ⟨keyH w (.inr (Str.ofString "share")), .str (Str.ofString "share") t3, .ref cl.ss⟩ ∨ e = ⟨keyH w (.inr (Str.ofString "other")), .str (Str.ofString "other") t4, .ref cl.so⟩ := by simpa using he
    rcases this with rfl | rfl | rfl | rfl
    · exact ⟨.inr (Str.ofString "two"), keyIs_str _ t1, rfl⟩
    · exact ⟨.inr (Str.ofString "full"), keyIs_str _ t2, rfl⟩
    · exact ⟨.inr (Str.ofString "share"), keyIs_str _ t3, rfl⟩
    · exact ⟨.inr (Str.ofString "other"), keyIs_str _ t4, rfl⟩
  · exact .cons (keyIs_str _ t1) rfl (.cons (keyIs_str _ t2) rfl (.cons (keyIs_str _ t3) rfl (.cons (keyIs_str _ t4) rfl .nil)))
  · show ([.inr (Str.ofString "two"), .inr (Str.ofString "full"), .inr (Str.ofString "share"), .inr (Str.ofString "other")] : List Key).Nodup
    decide
  · exact .cons ⟨rfl, rfl⟩ (.cons ⟨rfl, rfl⟩ (.cons ⟨rfl, rfl⟩ (.cons ⟨rfl, rfl⟩ .nil)))
section
variable {P : Program} {w : World} {K : PySem.W.Frag} {mg : Str → Option Value} {base : Heap}
theorem all_ok {t1 t2 : Tok} {cl : Cl} {fa c Pt : Addr} {oc kV doc pm ct : Value} {od an : Option Addr} {osl : Array (Option Value)}
    (lk : K.lookup fa = some ⟨oc, od, .func (PySem.W.fnOf "law" "law" (defArgs s_law) (defBody s_law) (defScope s_law) .none kV doc pm an (.ref c) ct), osl⟩) (hcd : PySem.W.codeIn K (.ref c) "law" = true) (hd : PySem.W.CodeHd base c Pt) (bm : base.BuiltinsAt mg Pt)
    (T : Txt K mg t1 t2 cl) (W0 : WordC K cl cl.nn 0) (W1 : WordC K cl cl.np 1) (lkk : LkOk P w K cl) (d_q50 : ∃ f fd, Df_q50 K mg f fd) (d_q23 : ∃ f fd, Df_q23 K mg f fd) (d_q9 : ∃ f fd, Df_q9 K mg f fd) (d_q25 : ∃ f fd, Df_q25 K mg f fd) (d_q20 : ∃ f fd, Df_q20 K mg f fd) (d_q29 : ∃ f fd, Df_q29 K mg f fd) (d_q49 : ∃ f fd, Df_q49 K mg f fd) (d_q51 : ∃ f fd, Df_q51 K mg f fd) (d_q30 : ∃ f fd, Df_q30 K mg f fd) (d_q6 : ∃ f fd, Df_q6 K mg f fd) (d_q41 : ∃ f fd, Df_q41 K mg f fd) (d_q34 : ∃ f fd, Df_q34 K mg f fd) (d_q0 : ∃ f fd, Df_q0 K mg f fd) (d_q56 : ∃ f fd, Df_q56 K mg f fd) (d_q26 : ∃ f fd, Df_q26 K mg f fd) (d_q40 : ∃ f fd, Df_q40 K mg f fd) (d_q8 : ∃ f fd, Df_q8 K mg f fd) (d_q35 : ∃ f fd, Df_q35 K mg f fd) (d_q57 : ∃ f fd, Df_q57 K mg f fd) (d_q11 : ∃ f fd, Df_q11 K mg f fd) (d_q42 : ∃ f fd, Df_q42 K mg f fd) (d_q27 : ∃ f fd, Df_q27 K mg f fd) (d_q5 : ∃ f fd, Df_q5 K mg f fd) (d_q33 : ∃ f fd, Df_q33 K mg f fd) (d_q16 : ∃ f fd, Df_q16 K mg f fd) (d_q58 : ∃ f fd, Df_q58 K mg f fd) (d_q18 : ∃ f fd, Df_q18 K mg f fd) (d_q55 : ∃ f fd, Df_q55 K mg f fd) (d_q7 : ∃ f fd, Df_q7 K mg f fd) (d_q54 : ∃ f fd, Df_q54 K mg f fd) (d_q2 : ∃ f fd, Df_q2 K mg f fd) (d_q12 : ∃ f fd, Df_q12 K mg f fd) (d_q28 : ∃ f fd, Df_q28 K mg f fd) (d_q19 : ∃ f fd, Df_q19 K mg f fd) (d_q14 : ∃ f fd, Df_q14 K mg f fd) (d_q15 : ∃ f fd, Df_q15 K mg f fd) (d_q37 : ∃ f fd, Df_q37 K mg f fd) (d_q31 : ∃ f fd, Df_q31 K mg f fd) (d_q47 : ∃ f fd, Df_q47 K mg f fd) (d_q38 : ∃ f fd, Df_q38 K mg f fd) (d_q22 : ∃ f fd, Df_q22 K mg f fd) (d_q44 : ∃ f fd, Df_q44 K mg f fd) (d_q13 : ∃ f fd, Df_q13 K mg f fd) (d_q48 : ∃ f fd, Df_q48 K mg f fd) (d_q45 : ∃ f fd, Df_q45 K mg f fd) (d_q21 : ∃ f fd, Df_q21 K mg f fd) (d_q53 : ∃ f fd, Df_q53 K mg f fd) (d_q36 : ∃ f fd, Df_q36 K mg f fd) (d_q32 : ∃ f fd, Df_q32 K mg f fd) (d_q39 : ∃ f fd, Df_q39 K mg f fd) (d_q52 : ∃ f fd, Df_q52 K mg f fd) : FnOk P w K mg base CX0 75 fa (PySem.W.fnOf "law" "law" (defArgs s_law) (defBody s_law) (defScope s_law) .none kV doc pm an (.ref c) ct) ["_law_script"] (spLaw K Pt) := by
  obtain ⟨f_q50, fd_q50, D_q50⟩ := d_q50
  obtain ⟨f_q23, fd_q23, D_q23⟩ := d_q23
  obtain ⟨f_q9, fd_q9, D_q9⟩ := d_q9
  obtain ⟨f_q25, fd_q25, D_q25⟩ := d_q25
  obtain ⟨f_q20, fd_q20, D_q20⟩ := d_q20
  obtain ⟨f_q29, fd_q29, D_q29⟩ := d_q29
  obtain ⟨f_q49, fd_q49, D_q49⟩ := d_q49
  obtain ⟨f_q51, fd_q51, D_q51⟩ := d_q51
  obtain ⟨f_q30, fd_q30, D_q30⟩ := d_q30
  obtain ⟨f_q6, fd_q6, D_q6⟩ := d_q6
  obtain ⟨f_q41, fd_q41, D_q41⟩ := d_q41
  obtain ⟨f_q34, fd_q34, D_q34⟩ := d_q34
  obtain ⟨f_q0, fd_q0, D_q0⟩ := d_q0
  obtain ⟨f_q56, fd_q56, D_q56⟩ := d_q56
  obtain ⟨f_q26, fd_q26, D_q26⟩ := d_q26
  obtain ⟨f_q40, fd_q40, D_q40⟩ := d_q40
  obtain ⟨f_q8, fd_q8, D_q8⟩ := d_q8
  obtain ⟨f_q35, fd_q35, D_q35⟩ := d_q35
  obtain ⟨f_q57, fd_q57, D_q57⟩ := d_q57
  obtain ⟨f_q11, fd_q11, D_q11⟩ := d_q11
  obtain ⟨f_q42, fd_q42, D_q42⟩ := d_q42
  obtain ⟨f_q27, fd_q27, D_q27⟩ := d_q27
  obtain ⟨f_q5, fd_q5, D_q5⟩ := d_q5
  obtain ⟨f_q33, fd_q33, D_q33⟩ := d_q33
  obtain ⟨f_q16, fd_q16, D_q16⟩ := d_q16
  obtain ⟨f_q58, fd_q58, D_q58⟩ := d_q58
  obtain ⟨f_q18, fd_q18, D_q18⟩ := d_q18
  obtain ⟨f_q55, fd_q55, D_q55⟩ := d_q55
  obtain ⟨f_q7, fd_q7, D_q7⟩ := d_q7
  obtain ⟨f_q54, fd_q54, D_q54⟩ := d_q54
  obtain ⟨f_q2, fd_q2, D_q2⟩ := d_q2
  obtain ⟨f_q12, fd_q12, D_q12⟩ := d_q12
  obtain ⟨f_q28, fd_q28, D_q28⟩ := d_q28
  obtain ⟨f_q19, fd_q19, D_q19⟩ := d_q19
  obtain ⟨f_q14, fd_q14, D_q14⟩ := d_q14
  obtain ⟨f_q15, fd_q15, D_q15⟩ := d_q15
  obtain ⟨f_q37, fd_q37, D_q37⟩ := d_q37
  obtain ⟨f_q31, fd_q31, D_q31⟩ := d_q31
  obtain ⟨f_q47, fd_q47, D_q47⟩ := d_q47
  obtain ⟨f_q38, fd_q38, D_q38⟩ := d_q38
  obtain ⟨f_q22, fd_q22, D_q22⟩ := d_q22
  obtain ⟨f_q44, fd_q44, D_q44⟩ := d_q44
  obtain ⟨f_q13, fd_q13, D_q13⟩ := d_q13
  obtain ⟨f_q48, fd_q48, D_q48⟩ := d_q48
  obtain ⟨f_q45, fd_q45, D_q45⟩ := d_q45
  obtain ⟨f_q21, fd_q21, D_q21⟩ := d_q21
  obtain ⟨f_q53, fd_q53, D_q53⟩ := d_q53
  obtain ⟨f_q36, fd_q36, D_q36⟩ := d_q36
  obtain ⟨f_q32, fd_q32, D_q32⟩ := d_q32
  obtain ⟨f_q39, fd_q39, D_q39⟩ := d_q39
  obtain ⟨f_q52, fd_q52, D_q52⟩ := d_q52
  have O_q50 : ∃ f fd, Df_q50 K mg f fd ∧ FnOk P w K mg base CX0 1 f fd _ _ := ⟨_, _, D_q50, ok_q50 D_q50 T⟩
  have O_q23 : ∃ f fd, Df_q23 K mg f fd ∧ FnOk P w K mg base CX0 2 f fd _ _ := ⟨_, _, D_q23, ok_q23 D_q23 T D_q50⟩
  have O_q9 : ∃ f fd, Df_q9 K mg f fd ∧ FnOk P w K mg base (CXE P w) 3 f fd _ _ := ⟨_, _, D_q9, ok_q9 D_q9 T O_q23⟩
  have O_q25 : ∃ f fd, Df_q25 K mg f fd ∧ FnOk P w K mg base (CXE P w) 4 f fd _ _ := ⟨_, _, D_q25, ok_q25 D_q25 T O_q9⟩
  have O_q20 : ∃ f fd, Df_q20 K mg f fd ∧ FnOk P w K mg base (CXE P w) 4 f fd _ _ := ⟨_, _, D_q20, ok_q20 D_q20 T O_q9⟩
  have O_q29 : ∃ f fd, Df_q29 K mg f fd ∧ FnOk P w K mg base CX0 1 f fd _ _ := ⟨_, _, D_q29, ok_q29 D_q29 T⟩
  have O_q49 : ∃ f fd, Df_q49 K mg f fd ∧ FnOk P w K mg base (CXE P w) 5 f fd _ _ := ⟨_, _, D_q49, ok_q49 D_q49 T O_q9 O_q29⟩
  have O_q51 : ∃ f fd, Df_q51 K mg f fd ∧ FnOk P w K mg base (CXE P w) 5 f fd _ _ := ⟨_, _, D_q51, ok_q51 D_q51 T O_q25 O_q29⟩
  have O_q30 : ∃ f fd, Df_q30 K mg f fd ∧ FnOk P w K mg base (CXE P w) 6 f fd _ _ := ⟨_, _, D_q30, ok_q30 D_q30 T O_q25 O_q49⟩
  have O_q6 : ∃ f fd, Df_q6 K mg f fd ∧ FnOk P w K mg base (CXE P w) 7 f fd _ _ := ⟨_, _, D_q6, ok_q6 D_q6 T O_q30⟩
  have O_q41 : ∃ f fd, Df_q41 K mg f fd ∧ FnOk P w K mg base CX0 6 f fd _ _ := ⟨_, _, D_q41, ok_q41 D_q41 T O_q51⟩
  have O_q34 : ∃ f fd, Df_q34 K mg f fd ∧ FnOk P w K mg base CX0 1 f fd _ _ := ⟨_, _, D_q34, ok_q34 D_q34 T⟩
  have OB_q34 : OB_q34 P w K mg cl := ⟨_, _, D_q34, fun b => ok_q34 D_q34 T⟩
  have O_q0 : ∃ f fd, Df_q0 K mg f fd ∧ FnOk P w K mg base CX0 1 f fd _ _ := ⟨_, _, D_q0, ok_q0 D_q0 T⟩
  have O_q56 : ∃ f fd, Df_q56 K mg f fd ∧ FnOk P w K mg base CX0 2 f fd _ _ := ⟨_, _, D_q56, ok_q56 D_q56 T O_q34⟩
  have O_q26 : ∃ f fd, Df_q26 K mg f fd ∧ FnOk P w K mg base CX0 3 f fd _ _ := ⟨_, _, D_q26, ok_q26 D_q26 T O_q56⟩
  have B_q8 : ∀ b, FnOk P w K mg b CX0 66 f_q8 fd_q8 _ _ := fun b => ok_full D_q8 T (fun b => ⟨_, _, D_q51, ok_q51 D_q51 T ⟨_, _, D_q25, ok_q25 D_q25 T ⟨_, _, D_q9, ok_q9 D_q9 T ⟨_, _, D_q23, ok_q23 D_q23 T D_q50⟩⟩⟩ ⟨_, _, D_q29, ok_q29 D_q29 T⟩⟩) (fun b => ⟨_, _, D_q41, ok_q41 D_q41 T ⟨_, _, D_q51, ok_q51 D_q51 T ⟨_, _, D_q25, ok_q25 D_q25 T ⟨_, _, D_q9, ok_q9 D_q9 T ⟨_, _, D_q23, ok_q23 D_q23 T D_q50⟩⟩⟩ ⟨_, _, D_q29, ok_q29 D_q29 T⟩⟩⟩) (fun b => ⟨_, _, D_q26, ok_q26 D_q26 T ⟨_, _, D_q56, ok_q56 D_q56 T ⟨_, _, D_q34, ok_q34 D_q34 T⟩⟩⟩) D_q40 30 b
  have O_q8 : ∃ f fd, Df_q8 K mg f fd ∧ FnOk P w K mg base CX0 66 f fd _ _ := ⟨_, _, D_q8, B_q8 base⟩
  have O_q40 : O_q40 P w K mg base := ⟨_, _, D_q40, ok_q40 D_q40 T D_q8 B_q8⟩
  have O_q35 : ∃ f fd, Df_q35 K mg f fd ∧ FnOk P w K mg base CX0 1 f fd _ _ := ⟨_, _, D_q35, ok_q35 D_q35 T⟩
  have O_q57 : ∃ f fd, Df_q57 K mg f fd ∧ FnOk P w K mg base CX0 2 f fd _ _ := ⟨_, _, D_q57, ok_q57 D_q57 T O_q50⟩
  have O_q11 : ∃ f fd, Df_q11 K mg f fd ∧ FnOk P w K mg base CX0 3 f fd _ _ := ⟨_, _, D_q11, ok_q11 D_q11 T O_q57 O_q35⟩
  have O_q42 : ∃ f fd, Df_q42 K mg f fd ∧ FnOk P w K mg base CX0 1 f fd _ _ := ⟨_, _, D_q42, ok_q42 D_q42 T⟩
  have O_q27 : ∃ f fd, Df_q27 K mg f fd ∧ FnOk P w K mg base CX0 3 f fd _ _ := ⟨_, _, D_q27, ok_q27 D_q27 T O_q23 O_q34⟩
  have O_q5 : ∃ f fd, Df_q5 K mg f fd ∧ FnOk P w K mg base CX0 1 f fd _ _ := ⟨_, _, D_q5, ok_q5 D_q5 T⟩
  have O_q33 : ∃ f fd, Df_q33 K mg f fd ∧ FnOk P w K mg base CX0 4 f fd _ _ := ⟨_, _, D_q33, ok_q33 D_q33 T O_q11 O_q27 O_q34⟩
  have O_q16 : ∃ f fd, Df_q16 K mg f fd ∧ FnOk P w K mg base CX0 4 f fd _ _ := ⟨_, _, D_q16, ok_q16 D_q16 T O_q11 O_q27 O_q34 O_q5 O_q0⟩
  have O_q58 : ∃ f fd, Df_q58 K mg f fd ∧ FnOk P w K mg base CX0 5 f fd _ _ := ⟨_, _, D_q58, ok_q58 D_q58 T lkk O_q42 O_q33 O_q16⟩
  have O_q18 : ∃ f fd, Df_q18 K mg f fd ∧ FnOk P w K mg base CX0 1 f fd _ _ := ⟨_, _, D_q18, ok_q18 D_q18 T⟩
  have O_q55 : ∃ f fd, Df_q55 K mg f fd ∧ FnOk P w K mg base CX0 1 f fd _ _ := ⟨_, _, D_q55, ok_q55 D_q55 T⟩
  have O_q7 : ∃ f fd, Df_q7 K mg f fd ∧ FnOk P w K mg base CX0 6 f fd _ _ := ⟨_, _, D_q7, ok_q7 D_q7 T O_q18 O_q58 O_q55⟩
  have O_q54 : ∃ f fd, Df_q54 K mg f fd ∧ FnOk P w K mg base (CXE P w) 7 f fd _ _ := ⟨_, _, D_q54, ok_q54 D_q54 T O_q20 O_q7⟩
  have OB_q54 : OB_q54 P w K mg cl := ⟨_, _, D_q54, fun b => ok_q54 D_q54 T ⟨_, _, D_q20, ok_q20 D_q20 T ⟨_, _, D_q9, ok_q9 D_q9 T ⟨_, _, D_q23, ok_q23 D_q23 T D_q50⟩⟩⟩ ⟨_, _, D_q7, ok_q7 D_q7 T ⟨_, _, D_q18, ok_q18 D_q18 T⟩ ⟨_, _, D_q58, ok_q58 D_q58 T lkk ⟨_, _, D_q42, ok_q42 D_q42 T⟩ ⟨_, _, D_q33, ok_q33 D_q33 T ⟨_, _, D_q11, ok_q11 D_q11 T ⟨_, _, D_q57, ok_q57 D_q57 T ⟨_, _, D_q50, ok_q50 D_q50 T⟩⟩ ⟨_, _, D_q35, ok_q35 D_q35 T⟩⟩ ⟨_, _, D_q27, ok_q27 D_q27 T ⟨_, _, D_q23, ok_q23 D_q23 T D_q50⟩ ⟨_, _, D_q34, ok_q34 D_q34 T⟩⟩ ⟨_, _, D_q34, ok_q34 D_q34 T⟩⟩ ⟨_, _, D_q16, ok_q16 D_q16 T ⟨_, _, D_q11, ok_q11 D_q11 T ⟨_, _, D_q57, ok_q57 D_q57 T ⟨_, _, D_q50, ok_q50 D_q50 T⟩⟩ ⟨_, _, D_q35, ok_q35 D_q35 T⟩⟩ ⟨_, _, D_q27, ok_q27 D_q27 T ⟨_, _, D_q23, ok_q23 D_q23 T D_q50⟩ ⟨_, _, D_q34, ok_q34 D_q34 T⟩⟩ ⟨_, _, D_q34, ok_q34 D_q34 T⟩ ⟨_, _, D_q5, ok_q5 D_q5 T⟩ ⟨_, _, D_q0, ok_q0 D_q0 T⟩⟩⟩ ⟨_, _, D_q55, ok_q55 D_q55 T⟩⟩⟩
  have O_q2 : ∃ f fd, Df_q2 K mg f fd ∧ FnOk P w K mg base CX0 6 f fd _ _ := ⟨_, _, D_q2, ok_q2 D_q2 T O_q51 OB_q34⟩
  have O_q12 : ∃ f fd, Df_q12 K mg f fd ∧ FnOk P w K mg base CX0 7 f fd _ _ := ⟨_, _, D_q12, ok_q12 D_q12 T O_q2⟩
  have O_q28 : ∃ f fd, Df_q28 K mg f fd ∧ FnOk P w K mg base CX0 4 f fd _ _ := ⟨_, _, D_q28, ok_q28 D_q28 T O_q26⟩
  have O_q19 : ∃ f fd, Df_q19 K mg f fd ∧ FnOk P w K mg base (CXE P w) 68 f fd _ _ := ⟨_, _, D_q19, ok_q19 D_q19 T O_q25 O_q49 O_q12 O_q40 O_q28⟩
  have OB_q19 : OB_q19 P w K mg cl := ⟨_, _, D_q19, fun b => ok_q19 D_q19 T ⟨_, _, D_q25, ok_q25 D_q25 T ⟨_, _, D_q9, ok_q9 D_q9 T ⟨_, _, D_q23, ok_q23 D_q23 T D_q50⟩⟩⟩ ⟨_, _, D_q49, ok_q49 D_q49 T ⟨_, _, D_q9, ok_q9 D_q9 T ⟨_, _, D_q23, ok_q23 D_q23 T D_q50⟩⟩ ⟨_, _, D_q29, ok_q29 D_q29 T⟩⟩ ⟨_, _, D_q12, ok_q12 D_q12 T ⟨_, _, D_q2, ok_q2 D_q2 T ⟨_, _, D_q51, ok_q51 D_q51 T ⟨_, _, D_q25, ok_q25 D_q25 T ⟨_, _, D_q9, ok_q9 D_q9 T ⟨_, _, D_q23, ok_q23 D_q23 T D_q50⟩⟩⟩ ⟨_, _, D_q29, ok_q29 D_q29 T⟩⟩ ⟨_, _, D_q34, fun b => ok_q34 D_q34 T⟩⟩⟩ ⟨_, _, D_q40, ok_q40 D_q40 T D_q8 B_q8⟩ ⟨_, _, D_q28, ok_q28 D_q28 T ⟨_, _, D_q26, ok_q26 D_q26 T ⟨_, _, D_q56, ok_q56 D_q56 T ⟨_, _, D_q34, ok_q34 D_q34 T⟩⟩⟩⟩⟩
  have O_q14 : ∃ f fd, Df_q14 K mg f fd ∧ FnOk P w K mg base (CXE P w) 8 f fd _ _ := ⟨_, _, D_q14, ok_q14 D_q14 T O_q6 O_q12⟩
  have OB_q14 : OB_q14 P w K mg cl := ⟨_, _, D_q14, fun b => ok_q14 D_q14 T ⟨_, _, D_q6, ok_q6 D_q6 T ⟨_, _, D_q30, ok_q30 D_q30 T ⟨_, _, D_q25, ok_q25 D_q25 T ⟨_, _, D_q9, ok_q9 D_q9 T ⟨_, _, D_q23, ok_q23 D_q23 T D_q50⟩⟩⟩ ⟨_, _, D_q49, ok_q49 D_q49 T ⟨_, _, D_q9, ok_q9 D_q9 T ⟨_, _, D_q23, ok_q23 D_q23 T D_q50⟩⟩ ⟨_, _, D_q29, ok_q29 D_q29 T⟩⟩⟩⟩ ⟨_, _, D_q12, ok_q12 D_q12 T ⟨_, _, D_q2, ok_q2 D_q2 T ⟨_, _, D_q51, ok_q51 D_q51 T ⟨_, _, D_q25, ok_q25 D_q25 T ⟨_, _, D_q9, ok_q9 D_q9 T ⟨_, _, D_q23, ok_q23 D_q23 T D_q50⟩⟩⟩ ⟨_, _, D_q29, ok_q29 D_q29 T⟩⟩ ⟨_, _, D_q34, fun b => ok_q34 D_q34 T⟩⟩⟩⟩
  have O_q15 : ∃ f fd, Df_q15 K mg f fd ∧ FnOk P w K mg base CX0 1 f fd _ _ := ⟨_, _, D_q15, ok_q15 D_q15 T⟩
  have O_q37 : ∃ f fd, Df_q37 K mg f fd ∧ FnOk P w K mg base CX0 2 f fd _ _ := ⟨_, _, D_q37, ok_q37 D_q37 T O_q15⟩
  have O_q31 : ∃ f fd, Df_q31 K mg f fd ∧ FnOk P w K mg base CX0 1 f fd _ _ := ⟨_, _, D_q31, ok_q31 D_q31 T⟩
  have O_q47 : ∃ f fd, Df_q47 K mg f fd ∧ FnOk P w K mg base CX0 1 f fd _ _ := ⟨_, _, D_q47, ok_q47 D_q47 T⟩
  have O_q38 : ∃ f fd, Df_q38 K mg f fd ∧ FnOk P w K mg base CX0 1 f fd _ _ := ⟨_, _, D_q38, ok_q38 D_q38 T⟩
  have OB_q38 : OB_q38 P w K mg cl := ⟨_, _, D_q38, fun b => ok_q38 D_q38 T⟩
  have O_q22 : ∃ f fd, Df_q22 K mg f fd ∧ FnOk P w K mg base CX0 1 f fd _ _ := ⟨_, _, D_q22, ok_q22 D_q22 T⟩
  have OB_q22 : OB_q22 P w K mg cl := ⟨_, _, D_q22, fun b => ok_q22 D_q22 T⟩
  have O_q44 : ∃ f fd, Df_q44 K mg f fd ∧ FnOk P w K mg base CX0 1 f fd _ _ := ⟨_, _, D_q44, ok_q44 D_q44 T⟩
  have O_q13 : ∃ f fd, Df_q13 K mg f fd ∧ FnOk P w K mg base CX0 1 f fd _ _ := ⟨_, _, D_q13, ok_q13 D_q13 T⟩
  have O_q48 : ∃ f fd, Df_q48 K mg f fd ∧ FnOk P w K mg base CX0 2 f fd _ _ := ⟨_, _, D_q48, ok_q48 D_q48 T O_q13⟩
  have O_q45 : ∃ f fd, Df_q45 K mg f fd ∧ FnOk P w K mg base CX0 1 f fd _ _ := ⟨_, _, D_q45, ok_q45 D_q45 T⟩
  have O_q21 : ∃ f fd, Df_q21 K mg f fd ∧ FnOk P w K mg base CX0 2 f fd _ _ := ⟨_, _, D_q21, ok_q21 D_q21 T O_q45⟩
  have O_q53 : ∃ f fd, Df_q53 K mg f fd ∧ FnOk P w K mg base CX0 2 f fd _ _ := ⟨_, _, D_q53, ok_q53 D_q53 T OB_q38 OB_q22⟩
  have B_q36 : ∀ b, FnOk P w K mg b CX0 35 f_q36 fd_q36 _ _ := fun b => ok_q36 D_q36 T (fun b => ⟨_, _, D_q45, ok_q45 D_q45 T⟩) (fun b => ⟨_, _, D_q21, ok_q21 D_q21 T ⟨_, _, D_q45, ok_q45 D_q45 T⟩⟩) (fun b => ⟨_, _, D_q53, ok_q53 D_q53 T ⟨_, _, D_q38, fun b => ok_q38 D_q38 T⟩ ⟨_, _, D_q22, fun b => ok_q22 D_q22 T⟩⟩) 33 b (by decide)
  have O_q36 : ∃ f fd, Df_q36 K mg f fd ∧ FnOk P w K mg base CX0 35 f fd _ _ := ⟨_, _, D_q36, B_q36 base⟩
  have O_q32 : ∃ f fd, Df_q32 K mg f fd ∧ FnOk P w K mg base CX0 2 f fd _ _ := ⟨_, _, D_q32, ok_q32 D_q32 T O_q44⟩
  have MM_q39 : MM_q39 P w K mg base cl := ⟨_, _, D_q39, ok_q39 D_q39 T⟩
  have O_q52 : ∃ f fd, Df_q52 K mg f fd ∧ FnOk P w K mg base CX0 73 f fd _ _ := ⟨_, _, D_q52, ok_q52 D_q52 T MM_q39⟩
  have OB_q52 : OB_q52 P w K mg cl := ⟨_, _, D_q52, fun b => ok_q52 D_q52 T ⟨_, _, D_q39, ok_q39 D_q39 T⟩⟩
  exact ok_law lk hcd hd bm T W0 W1 O_q37 O_q31 O_q48 O_q36 O_q47 O_q32 OB_q19 OB_q14 OB_q54 OB_q52
theorem cl_mk {w : World} {KK : PySem.W.Frag} {h : Heap} {mg : Str → Option Value} {pe nn np pa pp nb nt nl nm nd tg fw aw lk s2 sf ss so : Addr} (X : KK.In h) (G : h.Ns mainGlobals mg) (a0 : PySem.W.nsIn KK mainGlobals "PrimeError" = some (some (.ref pe))) (a1 : PySem.W.nsIn KK mainGlobals "NoNumber" = some (some (.ref nn))) (a2 : PySem.W.nsIn KK mainGlobals "NoPrime" = some (some (.ref np))) (a3 : PySem.W.nsIn KK mainGlobals "NoPair" = some (some (.ref pa))) (a4 : PySem.W.nsIn KK mainGlobals "NoPaper" = some (some (.ref pp))) (a5 : PySem.W.nsIn KK mainGlobals "NoBases" = some (some (.ref nb))) (a6 : PySem.W.nsIn KK mainGlobals "NoText" = some (some (.ref nt))) (a7 : PySem.W.nsIn KK mainGlobals "NoLine" = some (some (.ref nl))) (a8 : PySem.W.nsIn KK mainGlobals "NoName" = some (some (.ref nm))) (a9 : PySem.W.nsIn KK mainGlobals "NoDeed" = some (some (.ref nd))) (a10 : PySem.W.nsIn KK mainGlobals "TooGreat" = some (some (.ref tg))) (a11 : PySem.W.nsIn KK mainGlobals "FULL_WORDS" = some (some (.ref fw))) (a12 : PySem.W.nsIn KK mainGlobals "ALL_WORDS" = some (some (.ref aw))) (a13 : PySem.W.nsIn KK mainGlobals "LOOKS" = some (some (.ref lk))) (a14 : PySem.W.nsIn KK mainGlobals "shows_two" = some (some (.ref s2))) (a15 : PySem.W.nsIn KK mainGlobals "shows_full" = some (some (.ref sf))) (a16 : PySem.W.nsIn KK mainGlobals "shows_share" = some (some (.ref ss))) (a17 : PySem.W.nsIn KK mainGlobals "shows_other" = some (some (.ref so))) (x0 : ExcC KK nn) (x1 : ExcC KK np) (w0 : WordC KK ⟨pe, nn, np, pa, pp, nb, nt, nl, nm, nd, tg, fw, aw, lk, s2, sf, ss, so⟩ nn 0) (w1 : WordC KK ⟨pe, nn, np, pa, pp, nb, nt, nl, nm, nd, tg, fw, aw, lk, s2, sf, ss, so⟩ np 1) (y0 : (∀ H, SqT KK H (⟨pe, nn, np, pa, pp, nb, nt, nl, nm, nd, tg, fw, aw, lk, s2, sf, ss, so⟩ : Cl).fw [V.str (Str.ofString "two"), V.str (Str.ofString "full")])) (y1 : (∀ H, SqT KK H (⟨pe, nn, np, pa, pp, nb, nt, nl, nm, nd, tg, fw, aw, lk, s2, sf, ss, so⟩ : Cl).aw [V.str (Str.ofString "two"), V.str (Str.ofString "full"), V.str (Str.ofString "share"), V.str (Str.ofString "other")])) (y2 : (∀ P : Program, LkOk P w KK (⟨pe, nn, np, pa, pp, nb, nt, nl, nm, nd, tg, fw, aw, lk, s2, sf, ss, so⟩ : Cl))) : ∃ cl : Cl, (mg "PrimeError" = some (.ref cl.pe) ∧ mg "NoNumber" = some (.ref cl.nn) ∧ mg "NoPrime" = some (.ref cl.np) ∧ mg "NoPair" = some (.ref cl.pa) ∧ mg "NoPaper" = some (.ref cl.pp) ∧ mg "NoBases" = some (.ref cl.nb) ∧ mg "NoText" = some (.ref cl.nt) ∧ mg "NoLine" = some (.ref cl.nl) ∧ mg "NoName" = some (.ref cl.nm) ∧ mg "NoDeed" = some (.ref cl.nd) ∧ mg "TooGreat" = some (.ref cl.tg) ∧ mg "FULL_WORDS" = some (.ref cl.fw) ∧ mg "ALL_WORDS" = some (.ref cl.aw) ∧ mg "LOOKS" = some (.ref cl.lk) ∧ mg "shows_two" = some (.ref cl.s2) ∧ mg "shows_full" = some (.ref cl.sf) ∧ mg "shows_share" = some (.ref cl.ss) ∧ mg "shows_other" = some (.ref cl.so)) ∧ ExcC KK cl.nn ∧ ExcC KK cl.np ∧ WordC KK cl cl.nn 0 ∧ WordC KK cl cl.np 1 ∧ (∀ H, SqT KK H cl.fw [V.str (Str.ofString "two"), V.str (Str.ofString "full")]) ∧ (∀ H, SqT KK H cl.aw [V.str (Str.ofString "two"), V.str (Str.ofString "full"), V.str (Str.ofString "share"), V.str (Str.ofString "other")]) ∧ (∀ P : Program, LkOk P w KK cl) :=
  ⟨⟨pe, nn, np, pa, pp, nb, nt, nl, nm, nd, tg, fw, aw, lk, s2, sf, ss, so⟩, ⟨PySem.W.mg_of X G a0, PySem.W.mg_of X G a1, PySem.W.mg_of X G a2, PySem.W.mg_of X G a3, PySem.W.mg_of X G a4, PySem.W.mg_of X G a5, PySem.W.mg_of X G a6, PySem.W.mg_of X G a7, PySem.W.mg_of X G a8, PySem.W.mg_of X G a9, PySem.W.mg_of X G a10, PySem.W.mg_of X G a11, PySem.W.mg_of X G a12, PySem.W.mg_of X G a13, PySem.W.mg_of X G a14, PySem.W.mg_of X G a15, PySem.W.mg_of X G a16, PySem.W.mg_of X G a17⟩, x0, x1, w0, w1, y0, y1, y2⟩
theorem fin_of {Pr : Program} {w : World} {KK : PySem.W.Frag} {mg : Str → Option Value} {fa fl c Pt : Addr} {oc kV doc pm ct : Value} {od an : Option Addr} {osl : Array (Option Value)} (hmg : mg "law" = some (.ref fa)) (hm : mg "law" = some (.ref fl))
    (hl : KK.lookup fl = some ⟨oc, od, .func (PySem.W.fnOf "law" "law" (defArgs s_law) (defBody s_law) (defScope s_law) .none kV doc pm an (.ref c) ct), osl⟩) (hc : PySem.W.codeIn KK (.ref c) "law" = true) (hh : PySem.W.codeHdIn KK c Pt = true) (hn : KK.lookup Pt = none)
    (all : ∀ base : Heap, KK.In base → base.BuiltinsAt mg Pt → KK.lookup fl = some ⟨oc, od, .func (PySem.W.fnOf "law" "law" (defArgs s_law) (defBody s_law) (defScope s_law) .none kV doc pm an (.ref c) ct), osl⟩ → PySem.W.codeIn KK (.ref c) "law" = true → PySem.W.CodeHd base c Pt → FnOk Pr w KK mg base CX0 75 fl (PySem.W.fnOf "law" "law" (defArgs s_law) (defBody s_law) (defScope s_law) .none kV doc pm an (.ref c) ct) ["_law_script"] (spLaw KK Pt)) :
    ∃ (fd : FuncData) (c : Addr), PySem.W.codeHdIn KK c Pt = true ∧ KK.lookup Pt = none ∧ (∀ (s : Shared) (u : Value), BindsTo s fd ⟨[u], []⟩ [("_law_script", u)]) ∧ ∀ base : Heap, KK.In base → base.Ns mainGlobals mg → base.BuiltinsAt mg Pt → FnOk Pr w KK mg base CX0 75 fa fd ["_law_script"] (spLaw KK Pt) := by
  have e0 := hmg.symm.trans hm
  cases e0
  exact ⟨_, c, hh, hn, fun s u => .of_eq rfl, fun base kb nb bm => all base kb bm hl hc (PySem.W.codeHd_of_K kb hh)⟩
end
end PP
set_option maxHeartbeats 0
def OP.lo : List PySem.Str := [PySem.Str.ofString "__name__", PySem.Str.ofString "PrimeError", PySem.Str.ofString "NoNumber", PySem.Str.ofString "NoPrime", PySem.Str.ofString "NoPair", PySem.Str.ofString "NoPaper", PySem.Str.ofString "NoBases", PySem.Str.ofString "NoText", PySem.Str.ofString "NoLine", PySem.Str.ofString "NoName", PySem.Str.ofString "NoDeed", PySem.Str.ofString "TooGreat", PySem.Str.ofString "MOST", PySem.Str.ofString "MOST_TRIED", PySem.Str.ofString "is_whole", PySem.Str.ofString "is_between", PySem.Str.ofString "want_between", PySem.Str.ofString "want_number", PySem.Str.ofString "want_tried", PySem.Str.ofString "is_prime", PySem.Str.ofString "parts_of", PySem.Str.ofString "want_prime", PySem.Str.ofString "want_odd_prime", PySem.Str.ofString "primes_of", PySem.Str.ofString "least_part", PySem.Str.ofString "power_rest", PySem.Str.ofString "greatest_in_both", PySem.Str.ofString "least_base", PySem.Str.ofString "is_base", PySem.Str.ofString "pair_product", PySem.Str.ofString "pair_power", PySem.Str.ofString "norm_rest", PySem.Str.ofString "FULL_WORDS", PySem.Str.ofString "ALL_WORDS", PySem.Str.ofString "is_paper_with", PySem.Str.ofString "begins_with", PySem.Str.ofString "rows_of", PySem.Str.ofString "rows_product", PySem.Str.ofString "is_row", PySem.Str.ofString "multiplied", PySem.Str.ofString "shows_two", PySem.Str.ofString "shows_full", PySem.Str.ofString "shows_share", PySem.Str.ofString "is_great_share", PySem.Str.ofString "comes_home", PySem.Str.ofString "shows_other", PySem.Str.ofString "pair_comes_home", PySem.Str.ofString "is_pair_of_rests", PySem.Str.ofString "LOOKS", PySem.Str.ofString "shows", PySem.Str.ofString "full_of_prime", PySem.Str.ofString "full_rows", PySem.Str.ofString "is_share", PySem.Str.ofString "share_paper", PySem.Str.ofString "share_with", PySem.Str.ofString "fewest_rows", PySem.Str.ofString "fewest_parts", PySem.Str.ofString "powers_of_parts", PySem.Str.ofString "_law_cell_at", PySem.Str.ofString "_law_state", PySem.Str.ofString "_law_choice", PySem.Str.ofString "_law_same", PySem.Str.ofString "_law_marks", PySem.Str.ofString "_law_said", PySem.Str.ofString "_law_power", PySem.Str.ofString "_law_common", PySem.Str.ofString "_law_parts", PySem.Str.ofString "_law_is_prime", PySem.Str.ofString "_law_next", PySem.Str.ofString "_law_times", PySem.Str.ofString "_law_pair_power", PySem.Str.ofString "_law_whole", PySem.Str.ofString "_law_product", PySem.Str.ofString "_law_goes", PySem.Str.ofString "_law_holds", PySem.Str.ofString "_law_fewest"]
theorem OP.pwe : PySem.Challenge.pw_primepapers_k32_share_papers_told = PySem.Challenge.pw_primepapers_k32_share_papers_told := rfl
name_quick pT for PySem.Challenge.pw_primepapers_k32_share_papers_told by OP.pwe
section
local macro_rules | `(tactic| o_head $H) => `(tactic| contradiction)
set_option maxRecDepth 100000 in
open PySem PySem.W PyProof.Rows in
theorem OP.pre (f : False) : PySem.Challenge.rw_primepapers_k32_share_papers_told.Holds := by
  w_on; o_law; k_head
end
def OP.as_ : List Nat := [2, 3, 15, 22, 23, 24, 25, 28, 35, 36, 37, 40, 47, 48, 49, 52, 59, 60, 61, 64, 71, 72, 73, 76, 83, 84, 85, 88, 95, 96, 97, 100, 107, 108, 109, 112, 119, 120, 121, 124, 131, 132, 133, 136, 143, 145, 146, 148, 149, 150, 151, 152, 155, 157, 158, 160, 161, 162, 164, 165, 167, 168, 169, 171, 172, 174, 175, 176, 178, 179, 181, 182, 183, 185, 186, 188, 189, 190, 192, 193, 195, 196, 197, 199, 200, 202, 203, 204, 206, 207, 209, 210, 211, 213, 214, 216, 217, 218, 221, 222, 223, 225, 226, 228, 229, 230, 232, 233, 235, 236, 237, 239, 240, 242, 243, 244, 246, 247, 249, 250, 251, 253, 254, 256, 257, 258, 260, 261, 263, 264, 265, 267, 268, 270, 271, 272, 274, 275, 277, 278, 279, 280, 281, 283, 284, 286, 287, 288, 290, 291, 293, 294, 295, 297, 298, 300, 301, 302, 304, 305, 307, 308, 309, 311, 312, 314, 315, 316, 318, 319, 321, 322, 323, 325, 326, 328, 329, 330, 332, 333, 335, 336, 337, 339, 340, 342, 343, 344, 346, 347, 349, 350, 351, 353, 354, 356, 357, 358, 360, 361, 363, 364, 365, 367, 368, 370, 371, 372, 374, 375, 377, 378, 379, 380, 382, 383, 385, 386, 387, 389, 390, 392, 393, 394, 397, 398, 399, 401, 402, 404, 405, 406, 408, 409, 411, 412, 413, 416, 417, 418, 420, 421, 423, 424, 425, 427, 428, 430, 431, 432, 435, 436, 437, 439, 440, 442, 443, 444, 446, 447, 449, 450, 451, 453, 454, 456, 457, 458, 460, 461, 463, 464, 465, 467, 468, 470, 471, 472, 474, 475, 477, 478, 479, 481, 482, 484, 485, 486, 488, 489, 491, 492, 493, 495, 496, 498, 499, 500, 502, 503, 505, 506, 507, 509, 510, 512, 513, 514, 516, 517, 519, 520, 521, 523, 524, 526, 527, 528, 530, 531, 533, 534, 535, 537, 538, 540, 541, 542, 545, 546, 547, 550, 551, 552, 555, 556, 557, 560, 561]
open PySem PySem.W PySem.Calls PyProof.Rows in
theorem OP.run_false (w : PySem.World) (os : PySem.OsState) : PySem.W.Fast.tw9285885503168683399 (boot_heap (w.withFollow "special-get-raises" false).params) (OP.annOf (w.withFollow "special-get-raises" false).params) (OP.bootS (w.withFollow "special-get-raises" false).params os) PySem.W.Fast.pT (OP.qOf 85 PySem.W.Fast.pT) OP.lo (fun s => PySem.W.xlAt (OP.qOf 85 PySem.W.Fast.pT) ([("MOST_TRIED", PySem.W.WData.int 1000000000), ("MOST", PySem.W.WData.int 1000000000000000000000000000000)] : List (PySem.Str × PySem.W.WData)) s && PySem.W.recOk (PySem.Challenge.rw_primepapers_k32_share_papers_told.row.records) s) (PySem.W.Hook.obs (PySem.W.kmHook OP.pre.heap_39 OP.as_ (fun _ => by kernel_rfl) [558])) 20000 (w.withFollow "special-get-raises" false) = some (true, PySem.W.openGood (OP.qOf 85 PySem.W.Fast.pT) OP.lo, PySem.W.Hook.val (PySem.W.kmHook OP.pre.heap_39 OP.as_ (fun _ => by kernel_rfl) [558]) (w.withFollow "special-get-raises" false)) := by kernel_rfl
open PySem PySem.W PySem.Calls PyProof.Rows in
theorem OP.run_true (w : PySem.World) (os : PySem.OsState) : PySem.W.Fast.tw9285885503168683399 (boot_heap (w.withFollow "special-get-raises" true).params) (OP.annOf (w.withFollow "special-get-raises" true).params) (OP.bootS (w.withFollow "special-get-raises" true).params os) PySem.W.Fast.pT (OP.qOf 85 PySem.W.Fast.pT) OP.lo (fun s => PySem.W.xlAt (OP.qOf 85 PySem.W.Fast.pT) ([("MOST_TRIED", PySem.W.WData.int 1000000000), ("MOST", PySem.W.WData.int 1000000000000000000000000000000)] : List (PySem.Str × PySem.W.WData)) s && PySem.W.recOk (PySem.Challenge.rw_primepapers_k32_share_papers_told.row.records) s) (PySem.W.Hook.obs (PySem.W.kmHook OP.pre.heap_39 OP.as_ (fun _ => by kernel_rfl) [558])) 20000 (w.withFollow "special-get-raises" true) = some (true, PySem.W.openGood (OP.qOf 85 PySem.W.Fast.pT) OP.lo, PySem.W.Hook.val (PySem.W.kmHook OP.pre.heap_39 OP.as_ (fun _ => by kernel_rfl) [558]) (w.withFollow "special-get-raises" true)) := by kernel_rfl
open PySem PySem.W PyProof.Rows in
local macro_rules | `(tactic| o_head $H) => `(tactic| (
  refine PySem.W.holds_open (q := (OP.qOf 85 PySem.Challenge.pw_primepapers_k32_share_papers_told)) (loose := OP.lo) (Xt := fun s => xlAt (OP.qOf 85 PySem.Challenge.pw_primepapers_k32_share_papers_told) ([("MOST_TRIED", PySem.W.WData.int 1000000000), ("MOST", PySem.W.WData.int 1000000000000000000000000000000)] : List (PySem.Str × PySem.W.WData)) s && recOk (PySem.Challenge.rw_primepapers_k32_share_papers_told.row.records) s) (XP := XL (OP.qOf 85 PySem.Challenge.pw_primepapers_k32_share_papers_told) ([("MOST_TRIED", PySem.W.WData.int 1000000000), ("MOST", PySem.W.WData.int 1000000000000000000000000000000)] : List (PySem.Str × PySem.W.WData))) (Yf := Hook.obs $H) (Ya := Hook.val $H) (YP := Hook.says $H) (N := 20000)
    (OP.left_tw2 "special-get-raises" 20000 PySem.W.Fast.pT_eq (by kernel_rfl) (by decide) (fun s => by kernel_rfl) (by decide) OP.run_false OP.run_true)
    (Hook.of $H) (Hook.keeps $H) (fun s e => xl_of s (Bool.and_eq_true_iff.mp e).1) XL.keeps (by rfl) (by rfl) (by rfl) (fun s e => recFacts_of (Bool.and_eq_true_iff.mp e).2) (by rfl) (by first | assumption | decide +kernel) (by decide +kernel) ⟨rfl, rfl, rfl, rfl, rfl, by decide +kernel⟩ ?hw ?hc))
open PySem PySem.W PyProof.Rows
set_option maxRecDepth 100000 in
set_option maxHeartbeats 0 in
theorem PySem.Challenge.cw_primepapers_k32_share_papers_told_holds : PySem.Challenge.rw_primepapers_k32_share_papers_told.Holds := by
  w_on; o_law; k_head; (case hw => w_witness2)
  k_fill
  refine L2.walk_ofP (l := PySem.Challenge.rw_primepapers_k32_share_papers_told) (n := 63) (k := 75) (x := "_law_script") (CX := fun _ => L2.CX0) (sp := fun Pt _ K => PP.spLaw K Pt) rfl (by decide) rfl ⟨rfl, by decide, by decide, rfl⟩ (fun w h Y => ⟨PySem.W.km_in_of Y, PySem.W.km_tabs_of Y _ (List.Mem.head _)⟩) ?F ?S ?C
  case S => exact fun w K H a ns hl _ hS hT => ⟨a, ns, rfl, hS, hl, hT, fun _ => rfl⟩
  case C => exact fun _ _ _ _ _ z => z
  case F =>
    intro w mg fa h KX G hX hmg
    have d_q50 : ∃ f fd, PP.Df_q50 (L2.KOf KX) mg f fd := by
      dsimp only [L2.KOf]
      refine' ⟨_, PP.def_mk KX G ?a ?l ?c ?k ?b⟩
      (case a => k_is); (case l => k_is); (case c => k_is); (case k => k_is)
      case b => exact fun _ _ _ _ _ _ us hl => match us, hl with | [_], _ => rfl
    have d_q23 : ∃ f fd, PP.Df_q23 (L2.KOf KX) mg f fd := by
      dsimp only [L2.KOf]
      refine' ⟨_, PP.def_mk KX G ?a ?l ?c ?k ?b⟩
      (case a => k_is); (case l => k_is); (case c => k_is); (case k => k_is)
      case b => exact fun _ _ _ _ _ _ us hl => match us, hl with | [_, _, _], _ => rfl
    have d_q9 : ∃ f fd, PP.Df_q9 (L2.KOf KX) mg f fd := by
      dsimp only [L2.KOf]
      refine' ⟨_, PP.def_mk KX G ?a ?l ?c ?k ?b⟩
      (case a => k_is); (case l => k_is); (case c => k_is); (case k => k_is)
      case b => exact fun _ _ _ _ _ _ us hl => match us, hl with | [_, _, _, _], _ => rfl
    have d_q25 : ∃ f fd, PP.Df_q25 (L2.KOf KX) mg f fd := by
      dsimp only [L2.KOf]
      refine' ⟨_, PP.def_mk KX G ?a ?l ?c ?k ?b⟩
      (case a => k_is); (case l => k_is); (case c => k_is); (case k => k_is)
      case b => exact fun _ _ _ _ _ _ us hl => match us, hl with | [_, _], _ => rfl
    have d_q20 : ∃ f fd, PP.Df_q20 (L2.KOf KX) mg f fd := by
      dsimp only [L2.KOf]
      refine' ⟨_, PP.def_mk KX G ?a ?l ?c ?k ?b⟩
      (case a => k_is); (case l => k_is); (case c => k_is); (case k => k_is)
      case b => exact fun _ _ _ _ _ _ us hl => match us, hl with | [_, _], _ => rfl
    have d_q29 : ∃ f fd, PP.Df_q29 (L2.KOf KX) mg f fd := by
      dsimp only [L2.KOf]
      refine' ⟨_, PP.def_mk KX G ?a ?l ?c ?k ?b⟩
      (case a => k_is); (case l => k_is); (case c => k_is); (case k => k_is)
      case b => exact fun _ _ _ _ _ _ us hl => match us, hl with | [_, _], _ => rfl
    have d_q49 : ∃ f fd, PP.Df_q49 (L2.KOf KX) mg f fd := by
      dsimp only [L2.KOf]
      refine' ⟨_, PP.def_mk KX G ?a ?l ?c ?k ?b⟩
      (case a => k_is); (case l => k_is); (case c => k_is); (case k => k_is)
      case b => exact fun _ _ _ _ _ _ us hl => match us, hl with | [_], _ => rfl
    have d_q51 : ∃ f fd, PP.Df_q51 (L2.KOf KX) mg f fd := by
      dsimp only [L2.KOf]
      refine' ⟨_, PP.def_mk KX G ?a ?l ?c ?k ?b⟩
      (case a => k_is); (case l => k_is); (case c => k_is); (case k => k_is)
      case b => exact fun _ _ _ _ _ _ us hl => match us, hl with | [_], _ => rfl
    have d_q30 : ∃ f fd, PP.Df_q30 (L2.KOf KX) mg f fd := by
      dsimp only [L2.KOf]
      refine' ⟨_, PP.def_mk KX G ?a ?l ?c ?k ?b⟩
      (case a => k_is); (case l => k_is); (case c => k_is); (case k => k_is)
      case b => exact fun _ _ _ _ _ _ us hl => match us, hl with | [_, _], _ => rfl
    have d_q6 : ∃ f fd, PP.Df_q6 (L2.KOf KX) mg f fd := by
      dsimp only [L2.KOf]
      refine' ⟨_, PP.def_mk KX G ?a ?l ?c ?k ?b⟩
      (case a => k_is); (case l => k_is); (case c => k_is); (case k => k_is)
      case b => exact fun _ _ _ _ _ _ us hl => match us, hl with | [_, _], _ => rfl
    have d_q41 : ∃ f fd, PP.Df_q41 (L2.KOf KX) mg f fd := by
      dsimp only [L2.KOf]
      refine' ⟨_, PP.def_mk KX G ?a ?l ?c ?k ?b⟩
      (case a => k_is); (case l => k_is); (case c => k_is); (case k => k_is)
      case b => exact fun _ _ _ _ _ _ us hl => match us, hl with | [_], _ => rfl
    have d_q34 : ∃ f fd, PP.Df_q34 (L2.KOf KX) mg f fd := by
      dsimp only [L2.KOf]
      refine' ⟨_, PP.def_mk KX G ?a ?l ?c ?k ?b⟩
      (case a => k_is); (case l => k_is); (case c => k_is); (case k => k_is)
      case b => exact fun _ _ _ _ _ _ us hl => match us, hl with | [_, _, _], _ => rfl
    have d_q0 : ∃ f fd, PP.Df_q0 (L2.KOf KX) mg f fd := by
      dsimp only [L2.KOf]
      refine' ⟨_, PP.def_mk KX G ?a ?l ?c ?k ?b⟩
      (case a => k_is); (case l => k_is); (case c => k_is); (case k => k_is)
      case b => exact fun _ _ _ _ _ _ us hl => match us, hl with | [_, _], _ => rfl
    have d_q56 : ∃ f fd, PP.Df_q56 (L2.KOf KX) mg f fd := by
      dsimp only [L2.KOf]
      refine' ⟨_, PP.def_mk KX G ?a ?l ?c ?k ?b⟩
      (case a => k_is); (case l => k_is); (case c => k_is); (case k => k_is)
      case b => exact fun _ _ _ _ _ _ us hl => match us, hl with | [_, _, _], _ => rfl
    have d_q26 : ∃ f fd, PP.Df_q26 (L2.KOf KX) mg f fd := by
      dsimp only [L2.KOf]
      refine' ⟨_, PP.def_mk KX G ?a ?l ?c ?k ?b⟩
      (case a => k_is); (case l => k_is); (case c => k_is); (case k => k_is)
      case b => exact fun _ _ _ _ _ _ us hl => match us, hl with | [_, _], _ => rfl
    have d_q40 : ∃ f fd, PP.Df_q40 (L2.KOf KX) mg f fd := by
      dsimp only [L2.KOf]
      refine' ⟨_, PP.def_mk KX G ?a ?l ?c ?k ?b⟩
      (case a => k_is); (case l => k_is); (case c => k_is); (case k => k_is)
      case b => exact fun _ _ _ _ _ _ us hl => match us, hl with | [_], _ => rfl
    have d_q8 : ∃ f fd, PP.Df_q8 (L2.KOf KX) mg f fd := by
      dsimp only [L2.KOf]
      refine' ⟨_, PP.def_mk KX G ?a ?l ?c ?k ?b⟩
      (case a => k_is); (case l => k_is); (case c => k_is); (case k => k_is)
      case b => exact fun _ _ _ _ _ _ us hl => match us, hl with | [_], _ => rfl
    have d_q35 : ∃ f fd, PP.Df_q35 (L2.KOf KX) mg f fd := by
      dsimp only [L2.KOf]
      refine' ⟨_, PP.def_mk KX G ?a ?l ?c ?k ?b⟩
      (case a => k_is); (case l => k_is); (case c => k_is); (case k => k_is)
      case b => exact fun _ _ _ _ _ _ us hl => match us, hl with | [_, _, _, _], _ => rfl
    have d_q57 : ∃ f fd, PP.Df_q57 (L2.KOf KX) mg f fd := by
      dsimp only [L2.KOf]
      refine' ⟨_, PP.def_mk KX G ?a ?l ?c ?k ?b⟩
      (case a => k_is); (case l => k_is); (case c => k_is); (case k => k_is)
      case b => exact fun _ _ _ _ _ _ us hl => match us, hl with | [_], _ => rfl
    have d_q11 : ∃ f fd, PP.Df_q11 (L2.KOf KX) mg f fd := by
      dsimp only [L2.KOf]
      refine' ⟨_, PP.def_mk KX G ?a ?l ?c ?k ?b⟩
      (case a => k_is); (case l => k_is); (case c => k_is); (case k => k_is)
      case b => exact fun _ _ _ _ _ _ us hl => match us, hl with | [_, _], _ => rfl
    have d_q42 : ∃ f fd, PP.Df_q42 (L2.KOf KX) mg f fd := by
      dsimp only [L2.KOf]
      refine' ⟨_, PP.def_mk KX G ?a ?l ?c ?k ?b⟩
      (case a => k_is); (case l => k_is); (case c => k_is); (case k => k_is)
      case b => exact fun _ _ _ _ _ _ us hl => match us, hl with | [_, _], _ => rfl
    have d_q27 : ∃ f fd, PP.Df_q27 (L2.KOf KX) mg f fd := by
      dsimp only [L2.KOf]
      refine' ⟨_, PP.def_mk KX G ?a ?l ?c ?k ?b⟩
      (case a => k_is); (case l => k_is); (case c => k_is); (case k => k_is)
      case b => exact fun _ _ _ _ _ _ us hl => match us, hl with | [_, _], _ => rfl
    have d_q5 : ∃ f fd, PP.Df_q5 (L2.KOf KX) mg f fd := by
      dsimp only [L2.KOf]
      refine' ⟨_, PP.def_mk KX G ?a ?l ?c ?k ?b⟩
      (case a => k_is); (case l => k_is); (case c => k_is); (case k => k_is)
      case b => exact fun _ _ _ _ _ _ us hl => match us, hl with | [_, _], _ => rfl
    have d_q33 : ∃ f fd, PP.Df_q33 (L2.KOf KX) mg f fd := by
      dsimp only [L2.KOf]
      refine' ⟨_, PP.def_mk KX G ?a ?l ?c ?k ?b⟩
      (case a => k_is); (case l => k_is); (case c => k_is); (case k => k_is)
      case b => exact fun _ _ _ _ _ _ us hl => match us, hl with | [_, _], _ => rfl
    have d_q16 : ∃ f fd, PP.Df_q16 (L2.KOf KX) mg f fd := by
      dsimp only [L2.KOf]
      refine' ⟨_, PP.def_mk KX G ?a ?l ?c ?k ?b⟩
      (case a => k_is); (case l => k_is); (case c => k_is); (case k => k_is)
      case b => exact fun _ _ _ _ _ _ us hl => match us, hl with | [_, _], _ => rfl
    have d_q58 : ∃ f fd, PP.Df_q58 (L2.KOf KX) mg f fd := by
      dsimp only [L2.KOf]
      refine' ⟨_, PP.def_mk KX G ?a ?l ?c ?k ?b⟩
      (case a => k_is); (case l => k_is); (case c => k_is); (case k => k_is)
      case b => exact fun _ _ _ _ _ _ us hl => match us, hl with | [_, _], _ => rfl
    have d_q18 : ∃ f fd, PP.Df_q18 (L2.KOf KX) mg f fd := by
      dsimp only [L2.KOf]
      refine' ⟨_, PP.def_mk KX G ?a ?l ?c ?k ?b⟩
      (case a => k_is); (case l => k_is); (case c => k_is); (case k => k_is)
      case b => exact fun _ _ _ _ _ _ us hl => match us, hl with | [_, _], _ => rfl
    have d_q55 : ∃ f fd, PP.Df_q55 (L2.KOf KX) mg f fd := by
      dsimp only [L2.KOf]
      refine' ⟨_, PP.def_mk KX G ?a ?l ?c ?k ?b⟩
      (case a => k_is); (case l => k_is); (case c => k_is); (case k => k_is)
      case b => exact fun _ _ _ _ _ _ us hl => match us, hl with | [_], _ => rfl
    have d_q7 : ∃ f fd, PP.Df_q7 (L2.KOf KX) mg f fd := by
      dsimp only [L2.KOf]
      refine' ⟨_, PP.def_mk KX G ?a ?l ?c ?k ?b⟩
      (case a => k_is); (case l => k_is); (case c => k_is); (case k => k_is)
      case b => exact fun _ _ _ _ _ _ us hl => match us, hl with | [_, _, _], _ => rfl
    have d_q54 : ∃ f fd, PP.Df_q54 (L2.KOf KX) mg f fd := by
      dsimp only [L2.KOf]
      refine' ⟨_, PP.def_mk KX G ?a ?l ?c ?k ?b⟩
      (case a => k_is); (case l => k_is); (case c => k_is); (case k => k_is)
      case b => exact fun _ _ _ _ _ _ us hl => match us, hl with | [_, _], _ => rfl
    have d_q2 : ∃ f fd, PP.Df_q2 (L2.KOf KX) mg f fd := by
      dsimp only [L2.KOf]
      refine' ⟨_, PP.def_mk KX G ?a ?l ?c ?k ?b⟩
      (case a => k_is); (case l => k_is); (case c => k_is); (case k => k_is)
      case b => exact fun _ _ _ _ _ _ us hl => match us, hl with | [_], _ => rfl
    have d_q12 : ∃ f fd, PP.Df_q12 (L2.KOf KX) mg f fd := by
      dsimp only [L2.KOf]
      refine' ⟨_, PP.def_mk KX G ?a ?l ?c ?k ?b⟩
      (case a => k_is); (case l => k_is); (case c => k_is); (case k => k_is)
      case b => exact fun _ _ _ _ _ _ us hl => match us, hl with | [_], _ => rfl
    have d_q28 : ∃ f fd, PP.Df_q28 (L2.KOf KX) mg f fd := by
      dsimp only [L2.KOf]
      refine' ⟨_, PP.def_mk KX G ?a ?l ?c ?k ?b⟩
      (case a => k_is); (case l => k_is); (case c => k_is); (case k => k_is)
      case b => exact fun _ _ _ _ _ _ us hl => match us, hl with | [_, _], _ => rfl
    have d_q19 : ∃ f fd, PP.Df_q19 (L2.KOf KX) mg f fd := by
      dsimp only [L2.KOf]
      refine' ⟨_, PP.def_mk KX G ?a ?l ?c ?k ?b⟩
      (case a => k_is); (case l => k_is); (case c => k_is); (case k => k_is)
      case b => exact fun _ _ _ _ _ _ us hl => match us, hl with | [_], _ => rfl
    have d_q14 : ∃ f fd, PP.Df_q14 (L2.KOf KX) mg f fd := by
      dsimp only [L2.KOf]
      refine' ⟨_, PP.def_mk KX G ?a ?l ?c ?k ?b⟩
      (case a => k_is); (case l => k_is); (case c => k_is); (case k => k_is)
      case b => exact fun _ _ _ _ _ _ us hl => match us, hl with | [_], _ => rfl
    have d_q15 : ∃ f fd, PP.Df_q15 (L2.KOf KX) mg f fd := by
      dsimp only [L2.KOf]
      refine' ⟨_, PP.def_mk KX G ?a ?l ?c ?k ?b⟩
      (case a => k_is); (case l => k_is); (case c => k_is); (case k => k_is)
      case b => exact fun _ _ _ _ _ _ us hl => match us, hl with | [_, _], _ => rfl
    have d_q37 : ∃ f fd, PP.Df_q37 (L2.KOf KX) mg f fd := by
      dsimp only [L2.KOf]
      refine' ⟨_, PP.def_mk KX G ?a ?l ?c ?k ?b⟩
      (case a => k_is); (case l => k_is); (case c => k_is); (case k => k_is)
      case b => exact fun _ _ _ _ _ _ us hl => match us, hl with | [_, _], _ => rfl
    have d_q31 : ∃ f fd, PP.Df_q31 (L2.KOf KX) mg f fd := by
      dsimp only [L2.KOf]
      refine' ⟨_, PP.def_mk KX G ?a ?l ?c ?k ?b⟩
      (case a => k_is); (case l => k_is); (case c => k_is); (case k => k_is)
      case b => exact fun _ _ _ _ _ _ us hl => match us, hl with | [_, _], _ => rfl
    have d_q47 : ∃ f fd, PP.Df_q47 (L2.KOf KX) mg f fd := by
      dsimp only [L2.KOf]
      refine' ⟨_, PP.def_mk KX G ?a ?l ?c ?k ?b⟩
      (case a => k_is); (case l => k_is); (case c => k_is); (case k => k_is)
      case b => exact fun _ _ _ _ _ _ us hl => match us, hl with | [_, _], _ => rfl
    have d_q38 : ∃ f fd, PP.Df_q38 (L2.KOf KX) mg f fd := by
      dsimp only [L2.KOf]
      refine' ⟨_, PP.def_mk KX G ?a ?l ?c ?k ?b⟩
      (case a => k_is); (case l => k_is); (case c => k_is); (case k => k_is)
      case b => exact fun _ _ _ _ _ _ us hl => match us, hl with | [_, _, _], _ => rfl
    have d_q22 : ∃ f fd, PP.Df_q22 (L2.KOf KX) mg f fd := by
      dsimp only [L2.KOf]
      refine' ⟨_, PP.def_mk KX G ?a ?l ?c ?k ?b⟩
      (case a => k_is); (case l => k_is); (case c => k_is); (case k => k_is)
      case b => exact fun _ _ _ _ _ _ us hl => match us, hl with | [_, _], _ => rfl
    have d_q44 : ∃ f fd, PP.Df_q44 (L2.KOf KX) mg f fd := by
      dsimp only [L2.KOf]
      refine' ⟨_, PP.def_mk KX G ?a ?l ?c ?k ?b⟩
      (case a => k_is); (case l => k_is); (case c => k_is); (case k => k_is)
      case b => exact fun _ _ _ _ _ _ us hl => match us, hl with | [_], _ => rfl
    have d_q13 : ∃ f fd, PP.Df_q13 (L2.KOf KX) mg f fd := by
      dsimp only [L2.KOf]
      refine' ⟨_, PP.def_mk KX G ?a ?l ?c ?k ?b⟩
      (case a => k_is); (case l => k_is); (case c => k_is); (case k => k_is)
      case b => exact fun _ _ _ _ _ _ us hl => match us, hl with | [_], _ => rfl
    have d_q48 : ∃ f fd, PP.Df_q48 (L2.KOf KX) mg f fd := by
      dsimp only [L2.KOf]
      refine' ⟨_, PP.def_mk KX G ?a ?l ?c ?k ?b⟩
      (case a => k_is); (case l => k_is); (case c => k_is); (case k => k_is)
      case b => exact fun _ _ _ _ _ _ us hl => match us, hl with | [_], _ => rfl
    have d_q45 : ∃ f fd, PP.Df_q45 (L2.KOf KX) mg f fd := by
      dsimp only [L2.KOf]
      refine' ⟨_, PP.def_mk KX G ?a ?l ?c ?k ?b⟩
      (case a => k_is); (case l => k_is); (case c => k_is); (case k => k_is)
      case b => exact fun _ _ _ _ _ _ us hl => match us, hl with | [_, _, _], _ => rfl
    have d_q21 : ∃ f fd, PP.Df_q21 (L2.KOf KX) mg f fd := by
      dsimp only [L2.KOf]
      refine' ⟨_, PP.def_mk KX G ?a ?l ?c ?k ?b⟩
      (case a => k_is); (case l => k_is); (case c => k_is); (case k => k_is)
      case b => exact fun _ _ _ _ _ _ us hl => match us, hl with | [_, _], _ => rfl
    have d_q53 : ∃ f fd, PP.Df_q53 (L2.KOf KX) mg f fd := by
      dsimp only [L2.KOf]
      refine' ⟨_, PP.def_mk KX G ?a ?l ?c ?k ?b⟩
      (case a => k_is); (case l => k_is); (case c => k_is); (case k => k_is)
      case b => exact fun _ _ _ _ _ _ us hl => match us, hl with | [_, _, _], _ => rfl
    have d_q36 : ∃ f fd, PP.Df_q36 (L2.KOf KX) mg f fd := by
      dsimp only [L2.KOf]
      refine' ⟨_, PP.def_mk KX G ?a ?l ?c ?k ?b⟩
      (case a => k_is); (case l => k_is); (case c => k_is); (case k => k_is)
      case b => exact fun _ _ _ _ _ _ us hl => match us, hl with | [_, _, _], _ => rfl
    have d_q32 : ∃ f fd, PP.Df_q32 (L2.KOf KX) mg f fd := by
      dsimp only [L2.KOf]
      refine' ⟨_, PP.def_mk KX G ?a ?l ?c ?k ?b⟩
      (case a => k_is); (case l => k_is); (case c => k_is); (case k => k_is)
      case b => exact fun _ _ _ _ _ _ us hl => match us, hl with | [_], _ => rfl
    have d_q39 : ∃ f fd, PP.Df_q39 (L2.KOf KX) mg f fd := by
      dsimp only [L2.KOf]
      refine' ⟨_, PP.def_mk KX G ?a ?l ?c ?k ?b⟩
      (case a => k_is); (case l => k_is); (case c => k_is); (case k => k_is)
      case b => exact fun _ _ _ _ _ _ us hl => match us, hl with | [_], _ => rfl
    have d_q52 : ∃ f fd, PP.Df_q52 (L2.KOf KX) mg f fd := by
      dsimp only [L2.KOf]
      refine' ⟨_, PP.def_mk KX G ?a ?l ?c ?k ?b⟩
      (case a => k_is); (case l => k_is); (case c => k_is); (case k => k_is)
      case b => exact fun _ _ _ _ _ _ us hl => match us, hl with | [_], _ => rfl
    have c_MOST_TRIED : ∃ t, mg "MOST_TRIED" = some (.int 1000000000 t) := by
      exact L2.loose_int hX (by simp)
    have c_MOST : ∃ t, mg "MOST" = some (.int 1000000000000000000000000000000 t) := by
      exact L2.loose_int hX (by simp)
    have n_str : mg "str" = none := by
      refine' PySem.W.mg_none_of KX G ?a
      (case a => k_is)
    have n_sorted : mg "sorted" = none := by
      refine' PySem.W.mg_none_of KX G ?a
      (case a => k_is)
    have n_all : mg "all" = none := by
      refine' PySem.W.mg_none_of KX G ?a
      (case a => k_is)
    have n_abs : mg "abs" = none := by
      refine' PySem.W.mg_none_of KX G ?a
      (case a => k_is)
    have n_len : mg "len" = none := by
      refine' PySem.W.mg_none_of KX G ?a
      (case a => k_is)
    have n_isinstance : mg "isinstance" = none := by
      refine' PySem.W.mg_none_of KX G ?a
      (case a => k_is)
    have n_int : mg "int" = none := by
      refine' PySem.W.mg_none_of KX G ?a
      (case a => k_is)
    have n_bool : mg "bool" = none := by
      refine' PySem.W.mg_none_of KX G ?a
      (case a => k_is)
    have n_range : mg "range" = none := by
      refine' PySem.W.mg_none_of KX G ?a
      (case a => k_is)
    have n_max : mg "max" = none := by
      refine' PySem.W.mg_none_of KX G ?a
      (case a => k_is)
    have n_min : mg "min" = none := by
      refine' PySem.W.mg_none_of KX G ?a
      (case a => k_is)
    have n_tuple : mg "tuple" = none := by
      refine' PySem.W.mg_none_of KX G ?a
      (case a => k_is)
    have n_repr : mg "repr" = none := by
      refine' PySem.W.mg_none_of KX G ?a
      (case a => k_is)
    have n_ValueError : mg "ValueError" = none := by
      refine' PySem.W.mg_none_of KX G ?a
      (case a => k_is)
    have d_cl : ∃ cl : PP.Cl, (mg "PrimeError" = some (.ref cl.pe) ∧ mg "NoNumber" = some (.ref cl.nn) ∧ mg "NoPrime" = some (.ref cl.np) ∧ mg "NoPair" = some (.ref cl.pa) ∧ mg "NoPaper" = some (.ref cl.pp) ∧ mg "NoBases" = some (.ref cl.nb) ∧ mg "NoText" = some (.ref cl.nt) ∧ mg "NoLine" = some (.ref cl.nl) ∧ mg "NoName" = some (.ref cl.nm) ∧ mg "NoDeed" = some (.ref cl.nd) ∧ mg "TooGreat" = some (.ref cl.tg) ∧ mg "FULL_WORDS" = some (.ref cl.fw) ∧ mg "ALL_WORDS" = some (.ref cl.aw) ∧ mg "LOOKS" = some (.ref cl.lk) ∧ mg "shows_two" = some (.ref cl.s2) ∧ mg "shows_full" = some (.ref cl.sf) ∧ mg "shows_share" = some (.ref cl.ss) ∧ mg "shows_other" = some (.ref cl.so)) ∧ L2.ExcC (L2.KOf KX) cl.nn ∧ L2.ExcC (L2.KOf KX) cl.np ∧ PP.WordC (L2.KOf KX) cl cl.nn 0 ∧ PP.WordC (L2.KOf KX) cl cl.np 1 ∧ (∀ H, L2.SqT (L2.KOf KX) H cl.fw [L2.V.str (Str.ofString "two"), L2.V.str (Str.ofString "full")]) ∧ (∀ H, L2.SqT (L2.KOf KX) H cl.aw [L2.V.str (Str.ofString "two"), L2.V.str (Str.ofString "full"), L2.V.str (Str.ofString "share"), L2.V.str (Str.ofString "other")]) ∧ (∀ P : Program, PP.LkOk P w (L2.KOf KX) cl) := by
      dsimp only [L2.KOf]
      refine' PP.cl_mk KX G ?a0 ?a1 ?a2 ?a3 ?a4 ?a5 ?a6 ?a7 ?a8 ?a9 ?a10 ?a11 ?a12 ?a13 ?a14 ?a15 ?a16 ?a17 ?x0 ?x1 ?w0 ?w1 ?y0 ?y1 ?y2
      (case a0 => k_is)
      (case a1 => k_is)
      (case a2 => k_is)
      (case a3 => k_is)
      (case a4 => k_is)
      (case a5 => k_is)
      (case a6 => k_is)
      (case a7 => k_is)
      (case a8 => k_is)
      (case a9 => k_is)
      (case a10 => k_is)
      (case a11 => k_is)
      (case a12 => k_is)
      (case a13 => k_is)
      (case a14 => k_is)
      (case a15 => k_is)
      (case a16 => k_is)
      (case a17 => k_is)
      (case x0 => kernel_rfl)
      (case x1 => kernel_rfl)
      case w0 =>
        refine ⟨⟨?_, ?_, ?_, ?_, ?_, ?_, ?_, ?_⟩, ?_, ?_, ?_, ?_, ?_, ?_, ?_, ?_, ?_, ?_, ?_, ?_⟩ <;> kernel_rfl
      case w1 =>
        refine ⟨⟨?_, ?_, ?_, ?_, ?_, ?_, ?_, ?_⟩, ?_, ?_, ?_, ?_, ?_, ?_, ?_, ?_, ?_, ?_, ?_, ?_⟩ <;> kernel_rfl
      case y0 =>
        refine' PP.sqT_in ?h ?z ?r
        (case h => k_is)
        (case z => decide)
        case r => exact (.cons ⟨_, rfl⟩ (.cons ⟨_, rfl⟩ .nil))
      case y1 =>
        refine' PP.sqT_in ?h ?z ?r
        (case h => k_is)
        (case z => decide)
        case r => exact (.cons ⟨_, rfl⟩ (.cons ⟨_, rfl⟩ (.cons ⟨_, rfl⟩ (.cons ⟨_, rfl⟩ .nil))))
      case y2 =>
        refine' PP.lk_in ?h ?e1 ?e2 ?e3 ?e4
        (case h => k_is)
        all_goals kernel_rfl
    obtain ⟨t_MOST_TRIED, c_MOST_TRIED⟩ := c_MOST_TRIED
    obtain ⟨t_MOST, c_MOST⟩ := c_MOST
    obtain ⟨cl, ⟨m_PrimeError, m_NoNumber, m_NoPrime, m_NoPair, m_NoPaper, m_NoBases, m_NoText, m_NoLine, m_NoName, m_NoDeed, m_TooGreat, m_FULL_WORDS, m_ALL_WORDS, m_LOOKS, m_shows_two, m_shows_full, m_shows_share, m_shows_other⟩, x_NoNumber, x_NoPrime, W0, W1, Y0, Y1, Y2⟩ := d_cl
    have T : PP.Txt (L2.KOf KX) mg t_MOST_TRIED t_MOST cl := { mg_MOST_TRIED := c_MOST_TRIED, mg_MOST := c_MOST, no_str := n_str, no_sorted := n_sorted, no_all := n_all, no_abs := n_abs, no_len := n_len, no_isinstance := n_isinstance, no_int := n_int, no_bool := n_bool, no_range := n_range, no_max := n_max, no_min := n_min, no_tuple := n_tuple, no_repr := n_repr, no_ValueError := n_ValueError, mg_PrimeError := m_PrimeError, mg_NoNumber := m_NoNumber, mg_NoPrime := m_NoPrime, mg_NoPair := m_NoPair, mg_NoPaper := m_NoPaper, mg_NoBases := m_NoBases, mg_NoText := m_NoText, mg_NoLine := m_NoLine, mg_NoName := m_NoName, mg_NoDeed := m_NoDeed, mg_TooGreat := m_TooGreat, mg_FULL_WORDS := m_FULL_WORDS, mg_ALL_WORDS := m_ALL_WORDS, mg_LOOKS := m_LOOKS, mg_shows_two := m_shows_two, mg_shows_full := m_shows_full, mg_shows_share := m_shows_share, xc_NoNumber := x_NoNumber, xc_NoPrime := x_NoPrime, fw := Y0, aw := Y1 }
    try dsimp only [L2.KOf]
    dsimp only [L2.KOf] at T W0 W1 d_q50 d_q23 d_q9 d_q25 d_q20 d_q29 d_q49 d_q51 d_q30 d_q6 d_q41 d_q34 d_q0 d_q56 d_q26 d_q40 d_q8 d_q35 d_q57 d_q11 d_q42 d_q27 d_q5 d_q33 d_q16 d_q58 d_q18 d_q55 d_q7 d_q54 d_q2 d_q12 d_q28 d_q19 d_q14 d_q15 d_q37 d_q31 d_q47 d_q38 d_q22 d_q44 d_q13 d_q48 d_q45 d_q21 d_q53 d_q36 d_q32 d_q39 d_q52
    refine' PP.fin_of hmg (PySem.W.mg_of KX G ?a) ?l ?c ?d ?e (fun base kb bm lk hcd hd => PP.all_ok lk hcd hd bm T W0 W1 (Y2 _) d_q50 d_q23 d_q9 d_q25 d_q20 d_q29 d_q49 d_q51 d_q30 d_q6 d_q41 d_q34 d_q0 d_q56 d_q26 d_q40 d_q8 d_q35 d_q57 d_q11 d_q42 d_q27 d_q5 d_q33 d_q16 d_q58 d_q18 d_q55 d_q7 d_q54 d_q2 d_q12 d_q28 d_q19 d_q14 d_q15 d_q37 d_q31 d_q47 d_q38 d_q22 d_q44 d_q13 d_q48 d_q45 d_q21 d_q53 d_q36 d_q32 d_q39 d_q52)
    (case a => k_is); (case l => k_is); (case c => k_is)
    case d => kernel_rfl
    case e => kernel_rfl
