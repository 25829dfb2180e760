import PyProof.Rows.All
import Wide.All
import OpenK.AllK
import Wide.FinOn
import Lean
import PyProof.EqAt
import PyProof.EqKinds
import PyProof.TupleCall
import KE.KLam
import PyProof.NeKinds
import KE.KNestM
import PyProof.ReprRoads
import PyProof.ReprLen
import PyProof.Conv_int_bool
import PyProof.WalkInts
import PySem.Challenge.RW_primepapers_k41_pair_papers_looked_at
set_option genSizeOfSpec false
set_option genSizeOf false
set_option Elab.async false
set_option linter.all false
set_option maxRecDepth 100000
set_option maxHeartbeats 8000000
noncomputable section
namespace L2
open PySem PySem.Spec PyProof.Rows
theorem au0 (h : True := by first | exact .inl rfl | exact .inr rfl | assumption) : True := trivial
theorem au1 (h : True := by decide) : True := trivial
theorem au2 (h : True := by first | exact nobehind _ (by decide) (by decide) | rfl) : True := trivial
theorem au3 (h : True := by intro _;rfl) : True := trivial
theorem au4 (h : True := by rfl) : True := trivial
theorem au5 (h : True := by with_unfolding_all rfl) : True := trivial
theorem au6 (h : True := by first | exact Or.inl rfl | exact Or.inr (Or.inl rfl) | exact Or.inr (Or.inr rfl)) : True := trivial
theorem au7 (h : True := by intro _ _;rfl) : True := trivial
end L2
namespace L2
open PySem PySem.Spec PyProof.Rows
noncomputable abbrev Key:=Sum Int Str
noncomputable def mT:Key->Value->Bool
 | .inl k,v=>Value.isInt k v
 | .inr x,v=>Value.isStrOf x v
noncomputable def rL (w:World):Key->Int
 | .inl k=>hashInt k
 | .inr x=>hashStr w x
theorem cS:∀ {k:Key} {v:Value},mT k v=true->(∃i t,k=Sum.inl i/\v=Value.int i t)\/(∃x t,k=Sum.inr x/\v=Value.str x t)
 | .inl i,v,h=>by
  obtain⟨t,e⟩:=Value.isInt_shape (k:=i) (v:=v) h
  exact .inl ⟨i,t,rfl,e⟩
 | .inr x,v,h=>by
  obtain⟨t,e⟩:=Value.isStrOf_shape (x:=x) (v:=v) h
  exact .inr ⟨x,t,rfl,e⟩
theorem yF (i:Int) (t:Tok):mT (.inl i) (.int i t)=true:=by simp[mT,Value.isInt]
theorem dI (x:Str) (t:Tok):mT (.inr x) (.str x t)=true:=by simp[mT,Value.isStrOf]
theorem aFa (a b:Int):decide ((Sum.inl a:Key)=Sum.inl b)=(a==b):=by
 by_cases e:a=b
 ·subst e;simp
 ·have h:¬ (Sum.inl a:Key)=Sum.inl b:=fun q=>e (Sum.inl.inj q)
  rw[decide_eq_false h]
  exact(beq_eq_false_iff_ne.mpr e).symm
theorem aE7 (a b:Str):decide ((Sum.inr a:Key)=Sum.inr b)=decide (a=b):=by
 by_cases e:a=b
 ·subst e;simp
 ·have h:¬ (Sum.inr a:Key)=Sum.inr b:=fun q=>e (Sum.inr.inj q)
  rw[decide_eq_false h,decide_eq_false e]
theorem aE9 (a:Int) (b:Str):decide ((Sum.inl a:Key)=Sum.inr b)=false:=decide_eq_false (fun q=>nomatch q)
theorem aE8 (a:Str) (b:Int):decide ((Sum.inr a:Key)=Sum.inl b)=false:=decide_eq_false (fun q=>nomatch q)
noncomputable def e7 (prog:Program) (w:World):PySem.KeyKind prog w Key where
 is:=mT
 hash:=rL w
 inj:=fun v a b ha hb=>by
  rcases cS ha with ⟨i,t,rfl,rfl⟩ | ⟨x,t,rfl,rfl⟩
  ·rcases cS hb with ⟨j,u,rfl,e⟩ | ⟨y,u,rfl,e⟩
   ·injection e with e1 _;rw[e1]
   ·exact nomatch e
  ·rcases cS hb with ⟨j,u,rfl,e⟩ | ⟨y,u,rfl,e⟩
   ·exact nomatch e
   ·injection e with e1 _;rw[e1]
 byValue:=fun k v h=>by
  rcases cS h with ⟨i,t,rfl,rfl⟩ | ⟨x,t,rfl,rfl⟩ <;> rfl
 pyHash:=fun hv h=>by
  rcases cS hv with ⟨i,t,rfl,rfl⟩ | ⟨x,t,rfl,rfl⟩
  ·exact wpAny_pyHash_int h
  ·exact wpAny_pyHash_str h
 eqBool:=fun hu hv h=>by
  rcases cS hu with ⟨i,t,rfl,rfl⟩ | ⟨x,t,rfl,rfl⟩
  ·rcases cS hv with ⟨j,u,rfl,rfl⟩ | ⟨y,u,rfl,rfl⟩
   ·rw[aFa] at h;exact wpAny_eqBool_int h
   ·rw[aE9] at h;exact SeqAt.EqAt.int_str i t y u _ _ _ _ h
  ·rcases cS hv with ⟨j,u,rfl,rfl⟩ | ⟨y,u,rfl,rfl⟩
   ·rw[aE8] at h;exact SeqAt.EqAt.str_int x t j u _ _ _ _ h
   ·rw[aE7] at h;exact wpAny_eqBool_str h
 «strs»:=fun k x t v h=>by
  rcases cS h with ⟨i,u,rfl,e⟩ | ⟨y,u,rfl,e⟩
  ·exact nomatch e
  ·injection e with e1 _
   subst e1
   cases v <;> rfl
theorem uZ (prog:Program) (w:World) (k:Key) (v:Value):(e7 prog w).is k v=mT k v:=rfl
end L2
namespace L2
open PySem PySem.Spec PyProof.Rows
inductive V where
 | non | bl (b:Bool) | int (i:Int) | str (x:Str) | byt (b:Array UInt8) | flt (b:UInt64) | ref (a:Addr) | ty (n:String)
 deriving DecidableEq
noncomputable def RelV:V->Value->Prop
 | .non,u=>u=Value.none
 | .bl b,u=>u=Value.bool b
 | .int i,u=>∃t,u=Value.int i t
 | .str x,u=>∃t,u=Value.str x t
 | .byt b,u=>∃t,u=Value.bytes b t
 | .flt b,u=>∃t,u=Value.float b t
 | .ref a,u=>u=Value.ref a
 | .ty n,u=>u=Value.type n
noncomputable abbrev Vals:List V->List Value->Prop:=Paired RelV
theorem Vals.length {xs:List V} {us:List Value} (r:Vals xs us):xs.length=us.length:=Paired.length r
theorem Vals.get:∀ {xs:List V} {us:List Value} {i:Nat} {x:V},Vals xs us->xs[i]? = some x->∃u,us[i]? = some u/\RelV x u
 | _,_,_,_,.nil,e=>by simp at e
 | _,_,0,_,.cons r _,e=>by simp at e;subst e;exact⟨_,rfl,r⟩
 | _,_,i+1,x,.cons _ t,e=>by
  obtain⟨u,h1,h2⟩:=Vals.get (i:=i) (x:=x) t (by simpa using e)
  exact⟨u,by simpa using h1,h2⟩
theorem Vals.set {x:V} {u:Value} (r:RelV x u):∀ {xs:List V} {us:List Value} (i:Nat),Vals xs us->Vals (xs.set i x) (us.set i u)
 | _,_,_,.nil=>.nil
 | _,_,0,.cons _ t=>.cons r t
 | _,_,i+1,.cons q t=>.cons q (Vals.set r i t)
theorem Vals.append:∀ {xs ys:List V} {us ws:List Value},Vals xs us->Vals ys ws->Vals (xs++ys) (us++ws)
 | _,_,_,_,.nil,s=>s
 | _,_,_,_,.cons r t,s=>.cons r (Vals.append t s)
theorem Vals.take:∀ {xs:List V} {us:List Value} (n:Nat),Vals xs us->Vals (xs.take n) (us.take n)
 | _,_,0,_=>.nil
 | _,_,_+1,.nil=>.nil
 | _,_,n+1,.cons r t=>.cons r (Vals.take n t)
theorem Vals.drop:∀ {xs:List V} {us:List Value} (n:Nat),Vals xs us->Vals (xs.drop n) (us.drop n)
 | _,_,0,r=>r
 | _,_,_+1,.nil=>.nil
 | _,_,n+1,.cons _ t=>Vals.drop n t
noncomputable def RelO:Option V->Option Value->Prop
 | some v,some u=>RelV v u
 | none,none=>True
 | _,_=>False
noncomputable def KV {κ:Type}:List (κ×V)->List (κ×Value)->Prop:=Paired fun (p:κ×V) (q:κ×Value)=>p.1=q.1/\RelV p.2 q.2
noncomputable def kV:Key->V
 | .inl i=>.int i
 | .inr x=>.str x
inductive HO where
 
 | lst (xs:List V)
 
 | tup (xs:List V)
 
 | dK (kvs:List (Key×V)) | dT (kvs:List (List Key×V))
 
 | set (S:Int->Bool) (n:Nat)
 
 | ins (C dx:Addr) (fs:List (Str×V))
 
 | own (x:Addr)
 
 | xd (fs:List (Str×V))
 
 | met (f x:Addr)
 
 | rng (lo hi:Int)
 
 | frz (o:Obj) (u:HO)
 
 | tbl (ps:Array Value)
 
 | ext (φ:Heap->Prop)
noncomputable abbrev Hp:=Addr->Option HO
noncomputable def upd (H:Hp) (a:Addr) (o:HO):Hp:=fun b=>if b=a then some o else H b
theorem aE {H:Hp} {a:Addr} {o:HO}:upd H a o a=some o:=by unfold upd;rw[if_pos rfl]
theorem aO {H:Hp} {a b:Addr} {o:HO} (h:b≠a):upd H a o b=H b:=by unfold upd;rw[if_neg h]
theorem aI {H:Hp} {a b:Addr} {o:HO} (h:H a=some o) (h':H b=none):a≠b:=by
 intro e;subst e;rw[h] at h';cases h'
section
variable (P:Program) (w:World)
noncomputable def ObjOk (H:Hp) (h:Heap) (a:Addr):HO->Prop
 | .lst xs=>xs.length<=sizeLine/\∃(its:List Value) (n:Nat),Vals xs its/\h.get? a=some { cls:=.type "list",data:=.seq its.toArray n }
 | .tup xs=>xs.length<=sizeLine/\∃its:List Value,Vals xs its/\IsTup h a its.toArray
 | .dK kvs=>kvs.length<=sizeLine/\(a==sysModules)=false/\∃vs,KV kvs vs/\h.DictOf (e7 P w) a vs
 | .dT kvs=>kvs.length<=sizeLine/\(a==sysModules)=false/\∃xs:List (List Key×Addr×Value),
   Paired (fun (p:List Key×V) (q:List Key×Addr×Value)=>p.1=q.1/\H q.2.1=some (.tup (p.1.map kV))/\RelV p.2 q.2.2) kvs xs /\
   ∃o es ep,h.get? a=some o/\o.ExactDict/\o.data=.dict es ep/\es.toList=xs.map (entryOfKey (tupleKind (e7 P w)))/\(xs.map (·.1)).Nodup
 | .set S n=>h.SetOf (intKind P w) a S n
 | .ins C dx fs=>H dx=some (.own a)/\fs.length<=1000/\dx≠a/\h.get? a=some (PySem.W.instObj C dx) /\
   ∃mA,h.Ns1 dx mA/\(∀f,RelO (fs.lookup f) (mA f))/\PySem.Within mA (fs.map (·.1))
 | .own _=>∃o,h.get? a=some o
 | .xd fs=>∃mA,h.Ns1 a mA/\∀f,RelO (fs.lookup f) (mA f)
 | .rng lo hi=>∃t u v,h.get? a=some { cls:=.type "range",data:=.fields #[.int lo t,.int hi u,.int 1 v] }
 | .frz o u=>h.get? a=some o/\ObjOk H h a u
 | .tbl ps=>h.get? a=some { cls:=.none,data:=.fields ps }
 | .met f x=>h.get? a=some (PySem.W.methodObj (.ref f) (.ref x))
 | .ext φ=>φ h/\(∃o,h.get? a=some o)/\∀h1 h2:Heap,φ h1->(∀o,h1.get? a=some o->h2.get? a=some o)->φ h2
noncomputable def HOk (H:Hp) (h:Heap):Prop:=∀a o,H a=some o->ObjOk P w H h a o
end
section
variable {P:Program} {w:World} {H H':Hp} {h h':Heap} {a:Addr} {o:HO}
theorem ObjOk.lt (x:ObjOk P w H h a o):a<h.objs.size:=by
 cases o with
 | lst xs=>obtain⟨_,_,_,_,e⟩:=x;exact Heap.lt_size e
 | tup xs=>obtain⟨_,_,_,p⟩:=x;exact p.lt
 | dK kvs=>obtain⟨_,_,_,_,o,_,_,e,_⟩:=x;exact Heap.lt_size e
 | dT kvs=>obtain⟨_,_,_,_,o,_,_,e,_⟩:=x;exact Heap.lt_size e
 | set S n=>obtain⟨o,_,_,_,e,_⟩:=x;exact Heap.lt_size e
 | ins C dx fs=>obtain⟨_,_,_,e,_⟩:=x;exact Heap.lt_size e
 | own y=>obtain⟨_,e⟩:=x;exact Heap.lt_size e
 | xd fs=>obtain⟨_,⟨_,_,_,e,_⟩,_⟩:=x;exact Heap.lt_size e
 | rng lo hi=>obtain⟨_,_,_,e⟩:=x;exact Heap.lt_size e
 | frz ob u=>obtain⟨e,_⟩:=x;exact Heap.lt_size e
 | tbl ps=>exact Heap.lt_size (show h.get? a=some _ from x)
 | met f y=>exact Heap.lt_size (show h.get? a=some _ from x)
 | ext φ=>obtain⟨_,⟨_,e⟩,_⟩:=x;exact Heap.lt_size e
theorem Paired.mapP {α β:Type} {F G:α->β->Prop}:∀ {l₁:List α} {l₂:List β},Paired F l₁ l₂->(∀a b,F a b->G a b)->Paired G l₁ l₂
 | _,_,.nil,_=>.nil
 | _,_,.cons r t,f=>.cons (f _ _ r) (Paired.mapP t f)
theorem ObjOk.stay (x:ObjOk P w H h a o) (k:∀b u,(b=a\/H b=some (.own a))->h.get? b=some u->h'.get? b=some u)
  (ho:∀b,H b=some (.own a)->H' b=some (.own a)) (ht:∀b xs,H b=some (.tup xs)->H' b=some (.tup xs)):ObjOk P w H' h' a o:=by
 induction o with
 | lst xs=>obtain⟨z,its,n,r,e⟩:=x;exact⟨z,its,n,r,k _ _ (.inl rfl) e⟩
 | tup xs=>obtain⟨z,its,r,ob,e,c⟩:=x;exact⟨z,its,r,ob,k _ _ (.inl rfl) e,c⟩
 | dK kvs=>obtain⟨z,y,vs,r,ob,es,ep,e,c⟩:=x;exact⟨z,y,vs,r,ob,es,ep,k _ _ (.inl rfl) e,c⟩
 | dT kvs =>
  obtain⟨z,y,xs,r,ob,es,ep,e,c⟩:=x
  exact⟨z,y,xs,Paired.mapP r fun p q z=>⟨z.1,ht _ _ z.2.1,z.2.2⟩,ob,es,ep,k _ _ (.inl rfl) e,c⟩
 | set S n=>obtain⟨ob,es,ep,t,e,c⟩:=x;exact⟨ob,es,ep,t,k _ _ (.inl rfl) e,c⟩
 | ins C dx fs =>
  obtain⟨d,z,ne,e,mA,⟨od,es,ep,e2,c⟩,r⟩:=x
  exact⟨ho _ d,z,ne,k _ _ (.inl rfl) e,mA,⟨od,es,ep,k _ _ (.inr d) e2,c⟩,r⟩
 | own y=>obtain⟨ob,e⟩:=x;exact⟨ob,k _ _ (.inl rfl) e⟩
 | xd fs=>obtain⟨mA,⟨od,es,ep,e,c⟩,r⟩:=x;exact⟨mA,⟨od,es,ep,k _ _ (.inl rfl) e,c⟩,r⟩
 | rng lo hi=>obtain⟨t,u,v,e⟩:=x;exact⟨t,u,v,k _ _ (.inl rfl) e⟩
 | frz ob u ih=>obtain⟨e,q⟩:=x;exact⟨k _ _ (.inl rfl) e,ih q⟩
 | tbl ps =>
  have e:h.get? a=some { cls:=.none,data:=.fields ps }:=x
  show h'.get? a=some { cls:=.none,data:=.fields ps }
  exact k a _ (.inl rfl) e
 | met f y =>
  have e:h.get? a=some (PySem.W.methodObj (.ref f) (.ref y)):=x
  show h'.get? a=some (PySem.W.methodObj (.ref f) (.ref y))
  exact k a _ (.inl rfl) e
 | ext φ=>obtain⟨p,⟨o,e⟩,st⟩:=x;exact⟨st _ _ p fun o q=>k _ _ (.inl rfl) q,⟨o,k _ _ (.inl rfl) e⟩,st⟩
theorem HOk.lt (x:HOk P w H h) (e:H a=some o):a<h.objs.size:=(x a o e).lt
theorem HOk.fresh (x:HOk P w H h) (e:h.objs.size<=a):H a=none:=by
 cases q:H a with
 | none=>rfl
 | some u=>exact absurd (Nat.lt_of_lt_of_le (x.lt q) e) (Nat.lt_irrefl _)
theorem HOk.kept (x:HOk P w H h) (k:∀b u,h.get? b=some u->h'.get? b=some u):HOk P w H h':=fun a o e =>
 (x a o e).stay (fun b u _ q=>k b u q) (fun _ q=>q) fun _ _ q=>q
theorem HOk.laid (x:HOk P w H h) (k:∀b u,h.get? b=some u->h'.get? b=some u) (hp:h.objs.size<=a) (new:ObjOk P w (upd H a o) h' a o):HOk P w (upd H a o) h':=fun b u e=>by
 have hn:=x.fresh hp
 by_cases hb:b=a
 ·subst hb;rw[aE] at e;cases e;exact new
 ·rw[aO hb] at e
  exact(x b u e).stay (fun c v _ q=>k c v q) (fun c q=>by rw[aO (aI q hn)];exact q) fun c xs q=>by rw[aO (aI q hn)];exact q
end
noncomputable def Rd (H:Hp) (a:Addr) (u:HO):Prop:=H a=some u\/∃o,H a=some (.frz o u)
theorem Rd.ok {P:Program} {w:World} {H:Hp} {h:Heap} {a:Addr} {u:HO} (r:Rd H a u) (x:HOk P w H h):ObjOk P w H h a u:=by
 rcases r with r | ⟨o,r⟩
 ·exact x a u r
 ·obtain⟨_,q⟩:=x a _ r
  exact q
noncomputable def Mut:Option HO->Prop
 | some (.lst _)=>True
 | some (.dK _)=>True
 | some (.dT _)=>True
 | some (.set _ _)=>True
 | some (.ins _ _ _)=>True
 | some (.ext _)=>True
 | _=>False
section
variable {P:Program} {w:World} {H:Hp} {h h':Heap} {x e:Addr} {o':HO}
theorem HOk.write (ok:HOk P w H h) (mu:Mut (H x)) (he:e=x\/H e=some (.own x)) (k:∀b u,b≠e->h.get? b=some u->h'.get? b=some u) (heo:∃u,h'.get? e=some u)
  (new:ObjOk P w (upd H x o') h' x o'):HOk P w (upd H x o') h':=fun b u q=>by
 have nown:∀c y,H c=some (.own y)->c≠x:=fun c y r z=>by subst z;rw[r] at mu;exact mu
 have ntup:∀c xs,H c=some (.tup xs)->c≠x:=fun c xs r z=>by subst z;rw[r] at mu;exact mu
 by_cases hb:b=x
 ·subst hb;rw[aE] at q;cases q;exact new
 ·rw[aO hb] at q
  by_cases hbe:b=e
  ·have q':H b=some (.own x):=by
    rcases he with z | z
    ·exact absurd (hbe.trans z) hb
    ·rw[hbe];exact z
   rw[q] at q';cases q'
   obtain⟨v,hv⟩:=heo
   exact⟨v,by rw[hbe];exact hv⟩
  ·refine(ok b u q).stay (fun c v hc r=>k c v ?_ r) (fun c r=>by rw[aO (nown c b r)];exact r) fun c xs r=>by rw[aO (ntup c xs r)];exact r
   rcases hc with rfl | hc
   ·exact hbe
   ·rintro rfl
    rcases he with z | z
    ·exact nown c b hc z
    ·rw[hc] at z;cases z;exact hb rfl
end
structure Un (fs ex:List Addr) (H H':Hp) (h h':Heap):Prop where
 keep:∀b o,h.get? b=some o->H b=none->b ∉ fs->b ∉ ex->h'.get? b=some o
 slot:∀b o,h.get? b=some o->H b=none->b∈fs->b ∉ ex->∃sl,h'.get? b=some { o with slots:=sl }
 free:∀b o,h.get? b=some o->H b=none->b ∉ ex->H' b=none
 there:∀b o,h.get? b=some o->b ∉ ex->∃o',h'.get? b=some o'
 tups:∀b xs,H b=some (.tup xs)->H' b=some (.tup xs)
 frzs:∀b o u,H b=some (.frz o u)->H' b=some (.frz o u)
 tbls:∀b ps,H b=some (.tbl ps)->∃more,H' b=some (.tbl (ps++more))
section
variable {fs fs' ex ex':List Addr} {H H1 H2:Hp} {h h1 h2 h':Heap} {a x e:Addr} {o:HO}
theorem Un.any (u:Un fs ex H H1 h h1) {b:Addr} {ob:Obj} (q:h.get? b=some ob) (n:H b=none) (hx:b ∉ ex):∃sl,h1.get? b=some { ob with slots:=sl }:=by
 by_cases hb:b∈fs
 ·exact u.slot b ob q n hb hx
 ·exact⟨ob.slots,u.keep b ob q n hb hx⟩
theorem Un.kept (k:∀b u,h.get? b=some u->h'.get? b=some u):Un fs ex H H h h' :=
 ⟨fun b ob q _ _ _=>k b ob q,fun b ob q _ _ _=>⟨ob.slots,k b ob q⟩,fun _ _ _ n _=>n,fun b ob q _=>⟨ob,k b ob q⟩,fun _ _ q=>q,fun _ _ _ q=>q,fun _ ps q=>⟨#[],by rw[q];simp⟩⟩
theorem Un.refl:Un fs ex H H h h:=Un.kept fun _ _ q=>q
theorem Un.laid (k:∀b u,h.get? b=some u->h'.get? b=some u) (hp:h.objs.size<=a) (hn:H a=none):Un fs ex H (upd H a o) h h' where
 keep:=fun b u q _ _ _=>k b u q
 slot:=fun b u q _ _ _=>⟨u.slots,k b u q⟩
 free:=fun b u q n _=>by rw[aO (Nat.ne_of_lt (Nat.lt_of_lt_of_le (Heap.lt_size q) hp))];exact n
 there:=fun b u q _=>⟨u,k b u q⟩
 tups:=fun b xs q=>by rw[aO (aI q hn)];exact q
 frzs:=fun b u xs q=>by rw[aO (aI q hn)];exact q
 tbls:=fun b ps q=>⟨#[],by rw[aO (aI q hn),q];simp⟩
theorem Un.write (mu:Mut (H x)) (he:e=x\/H e=some (.own x)) (k:∀b u,b≠e->h.get? b=some u->h'.get? b=some u) (heo:∃u,h'.get? e=some u):Un fs ex H (upd H x o) h h':=by
 have hx:∀b,H b=none->b≠x:=fun b n z=>by subst z;rw[n] at mu;exact mu
 have hb:∀b,H b=none->b≠e:=fun b n z=>by
  subst z
  rcases he with r | r
  ·exact hx b n r
  ·rw[n] at r;cases r
 have hm:∀b u,H b=some u->¬ Mut (some u)->b≠x:=fun b u q nm z=>by subst z;rw[q] at mu;exact nm mu
 refine⟨fun b u q n _ _=>k b u (hb b n) q,fun b u q n _ _=>⟨u.slots,k b u (hb b n) q⟩,fun b u q n _=>by rw[aO (hx b n)];exact n,fun b u q _=>?_,
  fun b xs q=>by rw[aO (hm b _ q fun z=>z)];exact q,fun b u xs q=>by rw[aO (hm b _ q fun z=>z)];exact q,fun b ps q=>⟨#[],by rw[aO (hm b _ q fun z=>z),q];simp⟩⟩
 by_cases hbe:b=e
 ·subst hbe;exact heo
 ·exact⟨u,k b u hbe q⟩
end
noncomputable def trk (h:Heap) (H:Hp):List Addr:=(List.range h.objs.size).filter fun a=>(H a).isSome
noncomputable def oJ (h:Heap) (H:Hp):Heap:=PySem.W.hideAll h (trk h H)
theorem yJ (h:Heap) (H:Hp):(oJ h H).objs.size=h.objs.size:=PySem.W.hideAll_size _ _
theorem aA2 {h:Heap} {H:Hp} {b:Addr} {o:Obj} (e:h.get? b=some o) (n:H b=none):(oJ h H).get? b=some o :=
 PySem.W.hideAll_get _ e fun hm=>by
  have q:(H b).isSome=true:=(List.mem_filter.mp hm).2
  rw[n] at q;simp at q
theorem aCt {h:Heap} {H:Hp} {b:Addr} {o:Obj} (e:(oJ h H).get? b=some o):h.get? b=some o/\H b=none:=by
 have e':h.get? b=some o:=PySem.W.of_hideAll (trk h H) e
 refine⟨e',?_⟩
 cases q:H b with
 | none=>rfl
 | some x =>
  have hm:b∈trk h H:=List.mem_filter.mpr ⟨List.mem_range.mpr (Heap.lt_size e'),by simp[q]⟩
  have z:(oJ h H).get? b=none:=PySem.W.hideAll_none (trk h H) hm
  rw[z] at e;cases e
noncomputable def aDi (g h:Heap) (L:Addr):List (Addr×Obj):=(List.range h.objs.size).filterMap fun a=>if a=L\/(g.get? a).isSome=true then none else (h.get? a).map fun o=>(a,o)
noncomputable def rest (g h:Heap) (L d:Addr):List (Addr×Obj):=(aDi g h L).filter fun p=>decide (p.1≠d)
end L2
namespace L2
open PySem PySem.Spec PyProof.Rows
structure Mod (K:PySem.W.Frag) (mg:Str->Option Value) (base:Heap):Prop where
 kin:K.In base
 glob:base.Ns mainGlobals mg
 blt:∃mb,base.Ns builtinsNs mb/\∀x:Str,x ≠ "__name__" -> mb x=bootBuiltins x
 nolimit:base.NoLimit
structure Cx where
 prog:Program
 w:World
 K:PySem.W.Frag
 mg:Str->Option Value
 base:Heap
 A:Around
 N:List Str
 s₀:Shared
 H₀:Hp
 env:Env
 outer:List Env
 stack:List Env
 ex:List Addr
 fn:Str->Bool
 calm:Bool
 pn:List (Addr×Obj)
 xe:Value->Shared->Prop
noncomputable def frs (l:List Env):List Addr:=l.filterMap (·.frame)
noncomputable abbrev Cx.fs (X:Cx):List Addr:=frs X.outer
noncomputable def Vis (sc:Scope) (x:Str):Prop:=sc.names.lookup x=some .local\/sc.names.lookup x=some .cell\/sc.names.lookup x=some .free
noncomputable def Loc (sc:Scope) (x:Str):Prop:=sc.names.lookup x=some .local\/sc.names.lookup x=some .cell
noncomputable def Look (env:Env) (h:Heap) (m:Str->Option Value) (x:Str) (u:Value):Prop :=
 (env.kindOf x=some .local/\m x=some u)\/((env.kindOf x=some .cell\/env.kindOf x=some .free)/\∃c,env.cells.lookup x=some c/\h.IsCell c (some u))
structure Cx.Ok (X:Cx):Prop where
 mod:Mod X.K X.mg X.base
 kind:X.env.scope.kind=.function
 glob:X.env.globals=mainGlobals
 blt:X.env.builtins=builtinsNs
 above:X.s₀.heap.objs.size<=X.env.locals
 inj:∀x y c,X.env.cells.lookup x=some c->X.env.cells.lookup y=some c->x=y
 has:∀x,(X.env.kindOf x=some .cell\/X.env.kindOf x=some .free)->∃c,X.env.cells.lookup x=some c
 cab:∀x c,X.fn x=true->X.env.cells.lookup x=some c->X.s₀.heap.objs.size<=c
 hd:X.calm=true->X.A.handled=none
 frames:X.A.frames=some X.stack
 stk:X.stack=X.outer\/(X.stack=X.env::X.outer/\X.env.frame=some X.env.locals)
 exf:∀b∈X.ex,b≠X.env.locals/\∀x c,X.env.cells.lookup x=some c->c≠b
 bs:∀b o,X.base.get? b=some o->X.s₀.heap.get? b=some o/\X.H₀ b=none
 bsz:X.base.objs.size<=X.s₀.heap.objs.size
 noex:∀b o,X.base.get? b=some o->b ∉ X.ex
 exfs:∀b∈X.ex,b ∉ X.fs
 funs:X.s₀.heap.FunFrames X.base X.outer
 frf:∀b∈X.fs,X.H₀ b=none
structure Inv (X:Cx) (pins:List (Addr×Obj)) (σ:List (Option V)) (H:Hp) (s:Shared):Prop where
 ok:X.Ok
 os:s.os=X.s₀.os
 bare:AllBare s.gens
 base:Un X.fs X.ex X.H₀ H X.s₀.heap s.heap
 loc:∃m,s.heap.Ns X.env.locals m/\∀(i:Nat) (x:Str) (v:V),X.N[i]? = some x->σ[i]? = some (some v)->Vis X.env.scope x->∃u,RelV v u/\Look X.env s.heap m x u
 cell:∀x c,X.env.cells.lookup x=some c->∃v,s.heap.IsCell c v
 free:H X.env.locals=none
 freeC:∀x c,X.env.cells.lookup x=some c->H c=none
 pin:∀p∈X.pn++pins,s.heap.get? p.1=some p.2/\H p.1=none/\p.1≠X.env.locals/\p.1 ∉ X.fs/\∀v,p.2.data ≠ .cell v
 hok:HOk X.prog X.w H s.heap
 len:σ.length=X.N.length
section
variable {X:Cx} {pins:List (Addr×Obj)} {σ:List (Option V)} {H H':Hp} {s:Shared} {h':Heap}
theorem Cx.Ok.nofr (ok:X.Ok) {b:Addr} {o:Obj} (e:X.base.get? b=some o):b ∉ X.fs:=fun hb=>by
 have:=(ok.funs.mem hb).1
 rw[e] at this;cases this
theorem Inv.bs (I:Inv X pins σ H s):∀b o,X.base.get? b=some o->s.heap.get? b=some o/\H b=none:=fun b o e =>
 ⟨I.base.keep b o (I.ok.bs b o e).1 (I.ok.bs b o e).2 (I.ok.nofr e) (I.ok.noex b o e),I.base.free b o (I.ok.bs b o e).1 (I.ok.bs b o e).2 (I.ok.noex b o e)⟩
theorem Inv.bk (I:Inv X pins σ H s):∀b o,X.base.get? b=some o->s.heap.get? b=some o:=fun b o e=>(I.bs b o e).1
theorem Inv.mod (I:Inv X pins σ H s):Mod X.K X.mg X.base:=I.ok.mod
theorem Inv.kIn (I:Inv X pins σ H s):X.K.In s.heap:=I.ok.mod.kin.keeps I.bk
theorem Inv.lt (I:Inv X pins σ H s):X.env.locals<s.heap.objs.size:=let ⟨_,hn,_⟩:=I.loc;hn.lt
theorem Inv.sz (I:Inv X pins σ H s):X.s₀.heap.objs.size<=s.heap.objs.size:=Nat.le_trans I.ok.above (Nat.le_of_lt I.lt)
theorem Inv.nofs (I:Inv X pins σ H s) {a:Addr} (h:s.heap.objs.size<=a):a ∉ X.fs:=fun hb=>by
 obtain⟨_,o,ho,_⟩:=I.ok.funs.mem hb
 exact absurd (Nat.lt_of_lt_of_le (Heap.lt_size ho) (Nat.le_trans I.sz h)) (Nat.lt_irrefl _)
theorem Inv.cne (I:Inv X pins σ H s):∀x c,X.env.cells.lookup x=some c->c≠X.env.locals:=fun x c e z=>by
 obtain⟨v,o,ho,hd⟩:=I.cell x c e
 obtain⟨m,⟨o',es,ep,ho',hd',_⟩,_⟩:=I.loc
 rw[z,ho'] at ho;cases ho;rw[hd'] at hd;cases hd
theorem Inv.funs (I:Inv X pins σ H s):s.heap.FunFrames X.base X.outer:=by
 have all:∀(l:List Env),(∀b∈frs l,b∈X.fs)->X.s₀.heap.FunFrames X.base l->s.heap.FunFrames X.base l:=by
  intro l
  induction l with
  | nil=>intro _ _;trivial
  | cons env r ih =>
   intro hs hl
   obtain⟨hk,⟨L,o,hf,hn,ho,hd⟩,hr⟩:=hl
   have hL:L∈X.fs:=hs L (by unfold frs;rw[List.filterMap_cons,hf];exact List.mem_cons_self)
   obtain⟨sl,e⟩:=I.base.slot L o ho (I.ok.frf L hL) hL fun z=>I.ok.exfs L z hL
   exact⟨hk,⟨L,_,hf,hn,e,hd⟩,ih (fun b hb=>hs b (by unfold frs;rw[List.filterMap_cons,hf];exact List.mem_cons_of_mem _ hb)) hr⟩
 exact all X.outer (fun _ hb=>hb) I.ok.funs
theorem Inv.stack (I:Inv X pins σ H s):s.heap.FunFrames X.base X.stack:=by
 rcases I.ok.stk with e | ⟨e,hf⟩
 ·rw[e];exact I.funs
 ·rw[e]
  obtain⟨m,hn,_⟩:=I.loc
  refine .cons (by rw[I.ok.kind];decide) hf hn ?_ I.funs
  exact Heap.get?_none_of_le (Nat.le_trans I.ok.bsz I.ok.above)
theorem Inv.stkSub (I:Inv X pins σ H s):∀b∈frs X.stack,b∈X.env.locals::X.fs:=fun b hb=>by
 rcases I.ok.stk with e | ⟨e,hf⟩
 ·rw[e] at hb;exact List.mem_cons_of_mem _ hb
 ·rw[e] at hb
  unfold frs at hb
  rw[List.filterMap_cons,hf] at hb
  exact hb
theorem Inv.stkFree (I:Inv X pins σ H s):∀b∈frs X.stack,H b=none:=fun b hb=>by
 rcases List.mem_cons.mp (I.stkSub b hb) with e | hb
 ·rw[e];exact I.free
 ·obtain⟨_,o,ho,_⟩:=I.ok.funs.mem hb
  exact I.base.free b o ho (I.ok.frf b hb) fun z=>I.ok.exfs b z hb
theorem Inv.step {g':Array GenState} {t':Nat} {d':Drawn} {ch:List Addr} (I:Inv X pins σ H s)
  (hch:∀b∈ch,(b∈X.ex\/X.s₀.heap.objs.size<=b)/\b≠X.env.locals/\(∀x c,X.env.cells.lookup x=some c->c≠b)/\∀p∈X.pn++pins,p.1≠b)
  (keep:∀b o,b≠X.env.locals->b ∉ X.fs->b ∉ ch->s.heap.get? b=some o->H b=none->h'.get? b=some o)
  (slot:∀b o,b≠X.env.locals->b∈X.fs->b ∉ ch->s.heap.get? b=some o->H b=none->∃sl,h'.get? b=some { o with slots:=sl }) (free:∀b o,b ∉ ch->s.heap.get? b=some o->H b=none->H' b=none)
  (there:∀b o,b ∉ ch->s.heap.get? b=some o->∃o',h'.get? b=some o')
  (tups:∀b xs,H b=some (.tup xs)->H' b=some (.tup xs)) (frzs:∀b o u,H b=some (.frz o u)->H' b=some (.frz o u)) (tbls:∀b ps,H b=some (.tbl ps)->∃more,H' b=some (.tbl (ps++more)))
  (ns:∀m,s.heap.Ns X.env.locals m->h'.Ns X.env.locals m) (hok:HOk X.prog X.w H' h') (hg:AllBare g') :
  Inv X pins σ H' { s with heap:=h',gens:=g',drawn:=d',toks:=t' }:=by
 have neL:∀b o,X.s₀.heap.get? b=some o->b≠X.env.locals:=fun b o e=>Nat.ne_of_lt (Nat.lt_of_lt_of_le (Heap.lt_size e) I.ok.above)
 have neC:∀b o,X.s₀.heap.get? b=some o->b ∉ X.ex->b ∉ ch:=fun b o e hx hb=>by
  rcases (hch b hb).1 with z | z
  ·exact hx z
  ·exact absurd (Nat.lt_of_lt_of_le (Heap.lt_size e) z) (Nat.lt_irrefl _)
 have cellK:∀x c,X.env.cells.lookup x=some c->∀v,s.heap.IsCell c v->h'.IsCell c v:=fun x c e v ⟨o,ho,hd⟩=>by
  have nch:c ∉ ch:=fun z=>(hch c z).2.2.1 x c e rfl
  by_cases hc:c∈X.fs
  ·obtain⟨sl,q⟩:=slot c o (I.cne x c e) hc nch ho (I.freeC x c e)
   exact⟨_,q,hd⟩
  ·exact⟨o,keep c o (I.cne x c e) hc nch ho (I.freeC x c e),hd⟩
 refine⟨I.ok,I.os,hg,⟨fun b o e n hb hx=>?_,fun b o e n hb hx=>?_,fun b o e n hx=>?_,fun b o e hx=>?_,fun b xs e=>tups b xs (I.base.tups b xs e),fun b o xs e=>frzs b o xs (I.base.frzs b o xs e),fun b ps e=>?_⟩,?_,fun x c e=>?_,?_,fun x c e=>?_,fun p hp=>?_,hok,I.len⟩
 ·exact keep b o (neL b o e) hb (neC b o e hx) (I.base.keep b o e n hb hx) (I.base.free b o e n hx)
 ·obtain⟨sl,e1⟩:=I.base.slot b o e n hb hx
  obtain⟨sl',e2⟩:=slot b _ (neL b o e) hb (neC b o e hx) e1 (I.base.free b o e n hx)
  exact⟨sl',e2⟩
 ·obtain⟨o',e1⟩:=I.base.there b o e hx
  exact free b o' (neC b o e hx) e1 (I.base.free b o e n hx)
 ·obtain⟨o',e1⟩:=I.base.there b o e hx
  exact there b o' (neC b o e hx) e1
 ·obtain⟨m1,e1⟩:=I.base.tbls b ps e
  obtain⟨m2,e2⟩:=tbls b _ e1
  exact⟨m1++m2,by rw[e2,Array.append_assoc]⟩
 ·obtain⟨m,hn,hl⟩:=I.loc
  refine⟨m,ns m hn,fun i x v e1 e2 e3=>?_⟩
  obtain⟨u,r,l⟩:=hl i x v e1 e2 e3
  refine⟨u,r,?_⟩
  rcases l with l | ⟨k,c,e,z⟩
  ·exact .inl l
  ·exact .inr ⟨k,c,e,cellK x c e _ z⟩
 ·obtain⟨v,z⟩:=I.cell x c e
  exact⟨v,cellK x c e v z⟩
 ·obtain⟨m,⟨o,_,_,ho,_⟩,_⟩:=I.loc
  exact free _ o (fun z=>(hch _ z).2.1 rfl) ho I.free
 ·obtain⟨v,o,ho,hd⟩:=I.cell x c e
  exact free c o (fun z=>(hch c z).2.2.1 x c e rfl) ho (I.freeC x c e)
 ·obtain⟨e,n,ne,nf,d⟩:=I.pin p hp
  have nch:p.1 ∉ ch:=fun z=>(hch p.1 z).2.2.2 p hp rfl
  exact⟨keep p.1 p.2 ne nf nch e n,free p.1 p.2 nch e n,ne,nf,d⟩
theorem Inv.un {t':Nat} (I:Inv X pins σ H s) (u:Un X.fs [] H H' s.heap h') (hok:HOk X.prog X.w H' h'):Inv X pins σ H' { s with heap:=h',toks:=t' }:=by
 obtain⟨m,⟨o,es,ep,ho,r⟩,_⟩:=id I.loc
 obtain⟨sl,hL⟩:=u.any ho I.free (by simp)
 exact I.step (g':=s.gens) (d':=s.drawn) (ch:=[]) (fun _ z=>nomatch z) (fun b o _ hb _ e n=>u.keep b o e n hb (by simp)) (fun b o _ hb _ e n=>u.slot b o e n hb (by simp)) (fun b o _ e n=>u.free b o e n (by simp)) (fun b o _ e=>u.there b o e (by simp)) u.tups u.frzs u.tbls (fun m' hm=>by
  obtain⟨o',es',ep',ho',r'⟩:=hm
  rw[ho] at ho';cases ho'
  exact⟨_,es',ep',hL,r'⟩) hok I.bare
theorem Inv.call {g':Array GenState} {t':Nat} {d':Drawn} {ch:List Addr} (I:Inv X pins σ H s) (u:Un (frs X.stack) ch H H' s.heap h') (hok:HOk X.prog X.w H' h') (hg:AllBare g')
  (hch:∀b∈ch,(b∈X.ex\/X.s₀.heap.objs.size<=b)/\b≠X.env.locals/\(∀x c,X.env.cells.lookup x=some c->c≠b)/\∀p∈X.pn++pins,p.1≠b) :
  Inv X pins σ H' { s with heap:=h',gens:=g',drawn:=d',toks:=t' }:=by
 obtain⟨m,⟨o,es,ep,ho,r⟩,_⟩:=id I.loc
 obtain⟨sl,hL⟩:=u.any ho I.free fun z=>(hch _ z).2.1 rfl
 exact I.step (ch:=ch) hch (fun b o hL hb hc e n=>u.keep b o e n (fun z=>(List.mem_cons.mp (I.stkSub b z)).elim hL hb) hc) (fun b o _ _ hc e n=>u.any e n hc) (fun b o hc e n=>u.free b o e n hc) (fun b o hc e=>u.there b o e hc) u.tups u.frzs u.tbls (fun m' hm=>by
  obtain⟨o',es',ep',ho',r'⟩:=hm
  rw[ho] at ho';cases ho'
  exact⟨_,es',ep',hL,r'⟩) hok hg
theorem Inv.turned {t':Nat} {it:Addr} (I:Inv X pins σ H s) (k:∀b o,b≠it->s.heap.get? b=some o->h'.get? b=some o) (hn:H it=none) (hL:it≠X.env.locals)
  (h1:it∈X.ex\/X.s₀.heap.objs.size<=it) (h2:∀x c,X.env.cells.lookup x=some c->c≠it) (h3:∀p∈X.pn++pins,p.1≠it):Inv X pins σ H { s with heap:=h',toks:=t' }:=by
 have nit:∀b u,H b=some u->b≠it:=fun b u e z=>by rw[z,hn] at e;cases e
 refine I.step (g':=s.gens) (d':=s.drawn) (ch:=[it]) (fun b hb=>?_) (fun b o _ _ hc e _=>k b o (fun z=>hc (by simp[z])) e) (fun b o _ _ hc e _=>⟨o.slots,k b o (fun z=>hc (by simp[z])) e⟩) (fun _ _ _ _ n=>n)
  (fun b o hc e=>⟨o,k b o (fun z=>hc (by simp[z])) e⟩) (fun _ _ e=>e) (fun _ _ _ e=>e) (fun b ps e=>⟨#[],by rw[e];simp⟩) (fun m hm=>?_) (fun b u e=>?_) I.bare
 ·have e:b=it:=by simpa using hb
  subst e
  exact⟨h1,hL,h2,h3⟩
 ·obtain⟨o,es,ep,ho,r⟩:=hm
  exact⟨o,es,ep,k _ o (Ne.symm hL) ho,r⟩
 ·refine(I.hok b u e).stay (fun c v hc q=>k c v ?_ q) (fun _ q=>q) fun _ _ q=>q
  rcases hc with z | z
  ·rw[z];exact nit b u e
  ·exact nit c _ z
theorem Inv.tok (I:Inv X pins σ H s) (t:Nat):Inv X pins σ H { s with toks:=t }:=I.un (h':=s.heap) (t':=t) Un.refl I.hok
theorem Inv.kept {t':Nat} (I:Inv X pins σ H s) (k:∀b u,s.heap.get? b=some u->h'.get? b=some u):Inv X pins σ H { s with heap:=h',toks:=t' }:=I.un (Un.kept k) (I.hok.kept k)
theorem Inv.laid {a:Addr} {o:HO} {t':Nat} (I:Inv X pins σ H s) (k:∀b u,s.heap.get? b=some u->h'.get? b=some u) (hp:s.heap.objs.size<=a) (new:ObjOk X.prog X.w (upd H a o) h' a o) :
  Inv X pins σ (upd H a o) { s with heap:=h',toks:=t' }:=I.un (Un.laid k hp (I.hok.fresh hp)) (I.hok.laid k hp new)
theorem Inv.write {x e:Addr} {o:HO} {t':Nat} (I:Inv X pins σ H s) (mu:Mut (H x)) (he:e=x\/H e=some (.own x)) (k:∀b u,b≠e->s.heap.get? b=some u->h'.get? b=some u) (heo:∃u,h'.get? e=some u)
  (new:ObjOk X.prog X.w (upd H x o) h' x o):Inv X pins σ (upd H x o) { s with heap:=h',toks:=t' }:=I.un (Un.write mu he k heo) (I.hok.write mu he k heo new)
theorem Inv.pins_of {pins':List (Addr×Obj)} (I:Inv X pins σ H s) (h:∀p∈pins',s.heap.get? p.1=some p.2/\H p.1=none/\p.1≠X.env.locals/\p.1 ∉ X.fs/\∀v,p.2.data ≠ .cell v):Inv X pins' σ H s :=
 ⟨I.ok,I.os,I.bare,I.base,I.loc,I.cell,I.free,I.freeC,fun p hp=>(List.mem_append.mp hp).elim (fun z=>I.pin p (List.mem_append_left _ z)) (h p),I.hok,I.len⟩
theorem mB {N:List Str} (hN:N.Nodup) {i j:Nat} {x:Str} (a:N[i]? = some x) (b:N[j]? = some x):i=j:=by
 obtain⟨h1,e1⟩:=List.getElem?_eq_some_iff.mp a
 obtain⟨h2,e2⟩:=List.getElem?_eq_some_iff.mp b
 exact(List.getElem_inj hN).mp (e1.trans e2.symm)
theorem xM {M:Model} {A:Around} {E:Value->Shared->Prop} {i:Nat} {x:Str} {v:V} {u:Value} {Q:Unit->Shared->Prop} (I:Inv X pins σ H s) (hN:X.N.Nodup) (hi:X.N[i]? = some x) (hx:Loc X.env.scope x) (r:RelV v u)
  (h:∀s',Inv X pins (σ.set i (some v)) H s'->(∃a,Heap.SameBut a s.heap s'.heap/\(a=X.env.locals\/X.env.cells.lookup x=some a))->Q () s') (hf:autoParam (X.fn x=true\/X.env.scope.names.lookup x=some .local) L2.au0._auto_1):wpAny M A (storeName X.env x u) Q E s:=by
 obtain⟨m,hn,hl⟩:=id I.loc
 have hcls:(X.env.scope.kind == .class||(X.env.scope.kind == .module&&X.env.locals != X.env.globals))=false:=by rw[I.ok.kind];rfl
 have hiσ:i<σ.length:=by rw[I.len];exact(List.getElem?_eq_some_iff.mp hi).1
 have cne:=I.cne
 have tracked:∀ {a:Addr} {h':Heap},(∃o,s.heap.get? a=some o/\H a=none)->Heap.SameBut a s.heap h'->HOk X.prog X.w H h':=fun {a h'} ha hs b ob e=>by
  obtain⟨_,_,hfree⟩:=ha
  refine(I.hok b ob e).stay (fun c w' hc q=>(hs.2 c ?_).trans q) (fun _ q=>q) fun _ _ q=>q
  rintro rfl
  rcases hc with rfl | hc
  ·rw[hfree] at e;cases e
  ·rw[hfree] at hc;cases hc
 rcases hx with hk | hk
 ·refine wpAny_storeName_local hk hn (fun h' hn' hs=>?_) hcls
  obtain⟨oL,_,_,hoL,_⟩:=id hn
  refine h _ ⟨I.ok,I.os,I.bare,⟨fun b o e n hb hx=>?_,fun b o e n hb hx=>?_,I.base.free,fun b o e hx=>?_,I.base.tups,I.base.frzs,I.base.tbls⟩,⟨_,hn',fun j y v' e1 e2 e3=>?_⟩,fun y c e=>?_,I.free,I.freeC,fun p hp=>?_,tracked ⟨oL,hoL,I.free⟩ hs,by simpa using I.len⟩ ⟨_,hs,.inl rfl⟩
  ·exact(hs.2 b (Nat.ne_of_lt (Nat.lt_of_lt_of_le (Heap.lt_size e) I.ok.above))).trans (I.base.keep b o e n hb hx)
  ·obtain⟨sl,e1⟩:=I.base.slot b o e n hb hx
   exact⟨sl,(hs.2 b (Nat.ne_of_lt (Nat.lt_of_lt_of_le (Heap.lt_size e) I.ok.above))).trans e1⟩
  ·obtain⟨o',e1⟩:=I.base.there b o e hx
   exact⟨o',(hs.2 b (Nat.ne_of_lt (Nat.lt_of_lt_of_le (Heap.lt_size e) I.ok.above))).trans e1⟩
  ·by_cases hj:j=i
   ·subst hj
    rw[hi] at e1;cases e1
    rw[List.getElem?_set_self hiσ] at e2
    cases e2
    exact⟨u,r,.inl ⟨hk,by simp⟩⟩
   ·rw[List.getElem?_set_ne (Ne.symm hj)] at e2
    obtain⟨u',r',q⟩:=hl j y v' e1 e2 e3
    refine⟨u',r',?_⟩
    rcases q with ⟨k,e⟩ | ⟨k,c,e,z⟩
    ·refine .inl ⟨k,?_⟩
     have:y≠x:=fun e=>hj (mB hN e1 (e ▸ hi))
     simp[this,e]
    ·exact .inr ⟨k,c,e,z.sameBut hs (cne y c e)⟩
  ·obtain⟨w',z⟩:=I.cell y c e
   exact⟨w',z.sameBut hs (cne y c e)⟩
  ·obtain⟨e,n,ne,nf,d⟩:=I.pin p hp
   exact⟨(hs.2 p.1 ne).trans e,n,ne,nf,d⟩
 ·have hfn:X.fn x=true:=by
   rcases hf with z | z
   ·exact z
   ·rw[z] at hk;cases hk
  obtain⟨c,hc⟩:=I.ok.has x (.inl hk)
  obtain⟨w',z⟩:=I.cell x c hc
  refine wpAny_storeName_cell I.ok.kind hk hc z (fun h' hc' hs=>?_)
  obtain⟨oc,hoc,hocd⟩:=id z
  refine h { s with heap:=h' } ⟨I.ok,I.os,I.bare,⟨fun b o e n hb hx=>?_,fun b o e n hb hx=>?_,I.base.free,fun b o e hx=>?_,I.base.tups,I.base.frzs,I.base.tbls⟩,⟨m,hn.sameBut hs (Ne.symm (cne x c hc)),fun j y v' e1 e2 e3=>?_⟩,fun y c' e=>?_,I.free,I.freeC,fun p hp=>?_,tracked ⟨oc,hoc,I.freeC x c hc⟩ hs,by simpa using I.len⟩ ⟨c,hs,.inr hc⟩
  ·exact(hs.2 b (Nat.ne_of_lt (Nat.lt_of_lt_of_le (Heap.lt_size e) (I.ok.cab x c hfn hc)))).trans (I.base.keep b o e n hb hx)
  ·obtain⟨sl,e1⟩:=I.base.slot b o e n hb hx
   exact⟨sl,(hs.2 b (Nat.ne_of_lt (Nat.lt_of_lt_of_le (Heap.lt_size e) (I.ok.cab x c hfn hc)))).trans e1⟩
  ·obtain⟨o',e1⟩:=I.base.there b o e hx
   exact⟨o',(hs.2 b (Nat.ne_of_lt (Nat.lt_of_lt_of_le (Heap.lt_size e) (I.ok.cab x c hfn hc)))).trans e1⟩
  ·by_cases hj:j=i
   ·subst hj
    rw[hi] at e1;cases e1
    rw[List.getElem?_set_self hiσ] at e2
    cases e2
    exact⟨u,r,.inr ⟨.inl hk,c,hc,hc'⟩⟩
   ·rw[List.getElem?_set_ne (Ne.symm hj)] at e2
    obtain⟨u',r',q⟩:=hl j y v' e1 e2 e3
    refine⟨u',r',?_⟩
    rcases q with q | ⟨k,c',e,z'⟩
    ·exact .inl q
    ·refine .inr ⟨k,c',e,z'.sameBut hs ?_⟩
     rintro rfl
     exact hj (mB hN e1 (I.ok.inj _ _ _ e hc ▸ hi))
  ·by_cases hcc:c'=c
   ·subst hcc;exact⟨_,hc'⟩
   ·obtain⟨w2,z2⟩:=I.cell y c' e
    exact⟨w2,z2.sameBut hs hcc⟩
  ·obtain⟨e,n,ne,nf,d⟩:=I.pin p hp
   refine⟨(hs.2 p.1 ?_).trans e,n,ne,nf,d⟩
   intro q
   rw[q,hoc] at e
   have q':oc=p.2:=Option.some.inj e
   exact d w' (by rw[<- q'];exact hocd)
theorem dQ {M:Model} {A:Around} {E:Value->Shared->Prop} {i:Nat} {x:Str} {v:V} {u:Value} {Q:Unit->Shared->Prop} (I:Inv X pins σ H s) (hN:X.N.Nodup) (hi:X.N[i]? = some x) (hx:Loc X.env.scope x) (r:RelV v u)
  (h:∀s',Inv X pins (σ.set i (some v)) H s'->Q () s') (hf:autoParam (X.fn x=true\/X.env.scope.names.lookup x=some .local) L2.au0._auto_1):wpAny M A (storeName X.env x u) Q E s :=
 xM I hN hi hx r (fun s' I' _=>h s' I') hf
theorem Inv.call' {s':Shared} {ch:List Addr} (I:Inv X pins σ H s) (ho:s'.os=s.os) (u:Un (frs X.stack) ch H H' s.heap s'.heap) (hok:HOk X.prog X.w H' s'.heap) (hg:AllBare s'.gens)
  (hch:∀b∈ch,(b∈X.ex\/X.s₀.heap.objs.size<=b)/\b≠X.env.locals/\(∀x c,X.env.cells.lookup x=some c->c≠b)/\∀p∈X.pn++pins,p.1≠b):Inv X pins σ H' s':=by
 obtain⟨h',g',d',t',o'⟩:=s'
 have e:o'=s.os:=ho
 subst e
 exact I.call (g':=g') (t':=t') (d':=d') u hok hg hch
end
noncomputable abbrev XK:=Value->Option Addr->Hp->Prop
noncomputable abbrev St:=List (Option V)
noncomputable abbrev VK:=V->Hp->Prop
noncomputable abbrev TE:=St->Hp->VK->Prop
noncomputable abbrev TT:=St->Hp->(Bool->Hp->Prop)->Prop
noncomputable abbrev TA:=St->Hp->(List V->Hp->Prop)->Prop
structure Ends where
 nx:St->Hp->Prop
 rt:VK
 bk:St->Hp->Prop:=fun _ _=>False
 ct:St->Hp->Prop:=fun _ _=>False
noncomputable abbrev TS:=Ends->St->Hp->Prop
noncomputable def EP (X:Cx) (pins:List (Addr×Obj)) (σ:St) (Q:VK) (u:Value) (s':Shared):Prop:=∃v H',Inv X pins σ H' s'/\RelV v u/\Q v H'
noncomputable def TP (X:Cx) (pins:List (Addr×Obj)) (σ:St) (Q:Bool->Hp->Prop) (b:Bool) (s':Shared):Prop:=∃H',Inv X pins σ H' s'/\Q b H'
noncomputable def AP (X:Cx) (pins:List (Addr×Obj)) (σ:St) (Q:List V->Hp->Prop) (us:List Value) (s':Shared):Prop:=∃vs H',Inv X pins σ H' s'/\Vals vs us/\Q vs H'
noncomputable def SP (X:Cx) (pins:List (Addr×Obj)) (D:Ends) (f:Flow) (s':Shared):Prop :=
 match f with
 | .next=>∃ σ' H',Inv X pins σ' H' s'/\D.nx σ' H'
 | .brk=>∃ σ' H',Inv X pins σ' H' s'/\D.bk σ' H'
 | .cont=>∃ σ' H',Inv X pins σ' H' s'/\D.ct σ' H'
 | .ret u=>∃v σ' H',Inv X pins σ' H' s'/\RelV v u/\D.rt v H'
noncomputable def PE (X:Cx) (e:Expr) (t:TE):Prop :=
 ∀(pins:List (Addr×Obj)) (s:Shared) (σ:St) (H:Hp) (Q:VK),Inv X pins σ H s->t σ H Q->wpAny (model X.prog X.w) X.A (eval e X.env) (EP X pins σ Q) X.xe s
noncomputable def PT (X:Cx) (e:Expr) (t:TT):Prop :=
 ∀(pins:List (Addr×Obj)) (s:Shared) (σ:St) (H:Hp) (Q:Bool->Hp->Prop),Inv X pins σ H s->t σ H Q->wpAny (model X.prog X.w) X.A (isTrue e X.env (eval e X.env)) (TP X pins σ Q) X.xe s
noncomputable def PW (X:Cx) (e:Expr) (t:TT):Prop :=
 ∀(whole:Sem Value) (pins:List (Addr×Obj)) (s:Shared) (σ:St) (H:Hp) (Q:Bool->Hp->Prop),Inv X pins σ H s->t σ H Q->wpAny (model X.prog X.w) X.A (isTrue e X.env whole) (TP X pins σ Q) X.xe s
theorem PW.pt {X:Cx} {e:Expr} {t:TT} (h:PW X e t):PT X e t:=h _
noncomputable def PA (X:Cx) (es:List Expr) (t:TA):Prop :=
 ∀(pos:Pos) (pins:List (Addr×Obj)) (s:Shared) (σ:St) (H:Hp) (Q:List V->Hp->Prop),Inv X pins σ H s->t σ H Q->wpAny (model X.prog X.w) X.A (spliced (backTo pos (starEach es X.env))) (AP X pins σ Q) X.xe s
noncomputable def PS (X:Cx) (st:Stmt) (t:TS):Prop :=
 ∀(pins:List (Addr×Obj)) (s:Shared) (σ:St) (H:Hp) (D:Ends),Inv X pins σ H s->t D σ H->wpAny (model X.prog X.w) X.A (exec st X.env) (SP X pins D) X.xe s
noncomputable def PSs (X:Cx) (st:List Stmt) (t:TS):Prop :=
 ∀(pins:List (Addr×Obj)) (s:Shared) (σ:St) (H:Hp) (D:Ends),Inv X pins σ H s->t D σ H->wpAny (model X.prog X.w) X.A (execs st X.env) (SP X pins D) X.xe s
theorem thn {α:Type} {t:Sem α} {Q Q':α->Shared->Prop} {M:Model} {A:Around} {E:Value->Shared->Prop} {s:Shared} (h:wpAny M A t Q E s) (hQ:∀a s,Q a s->Q' a s):wpAny M A t Q' E s:=wpAny_mono h hQ fun _ _ x=>x
end L2
namespace L2
open PySem PySem.Spec PyProof.Rows
section
variable {X:Cx}
noncomputable def dZ (i:Nat):TE:=fun σ H Q=>∃v,σ[i]? = some (some v)/\Q v H
noncomputable def tC (v:V):TE:=fun _ H Q=>Q v H
theorem aEn {i:Nat} {x:Str} {pos:Pos} (hN:X.N[i]? = some x) (hv:Vis X.env.scope x) (hd:autoParam ((x==("__debug__" : Str))=false) L2.au1._auto_1) (hcd:autoParam ((x==("__classdict__" : Str))=false) L2.au1._auto_1):PE X (.Name x pos) (dZ i):=by
 intro pins s σ H Q I h
 obtain⟨v,e,h⟩:=h
 obtain⟨m,hn,hl⟩:=I.loc
 obtain⟨u,r,l⟩:=hl i x v hN e hv
 have fin:EP X pins σ Q u s:=⟨v,H,I,r,h⟩
 rcases l with ⟨hk,hm⟩ | ⟨hk,c,hc,hcell⟩
 ·exact wpAny_Name (wpAny_loadName_local I.ok.kind hk hn hm fin) hd
 ·rcases hk with hk | hk
  ·exact wpAny_Name (wpAny_loadName_cell I.ok.kind hk hc hcell fin) hd
  ·exact wpAny_Name (wpAny_loadName_free I.ok.kind hk hc hcell fin hcd) hd
theorem aB {i j pos}:PE X (.Constant (.int i) j pos) (tC (.int i)):=fun _ _ _ H _ I h=>wpAny_Constant_int ⟨.int i,H,I.tok _,⟨_,rfl⟩,h⟩
theorem bR {b j pos}:PE X (.Constant (.bool b) j pos) (tC (.bl b)):=fun _ _ _ H _ I h=>Constant_bool ⟨.bl b,H,I,rfl,h⟩
theorem iI {j pos}:PE X (.Constant .none j pos) (tC .non):=fun _ _ _ H _ I h=>Constant_none ⟨.non,H,I,rfl,h⟩
theorem bD {x j pos}:PE X (.Constant (.str x) j pos) (tC (.str x)):=fun _ _ _ H _ I h=>Calls.Constant_str ⟨.str x,H,I.tok _,⟨_,rfl⟩,h⟩
noncomputable def Gl (X:Cx) (x:Str):Prop:=X.env.kindOf x=some .globalImplicit
theorem jC {E:Value->Shared->Prop} {pins:List (Addr×Obj)} {s:Shared} {σ:St} {H:Hp} {x:Str} {u:Value} {pos:Pos} {Q:Value->Shared->Prop} (I:Inv X pins σ H s) (hg:Gl X x) (hm:X.mg x=some u) (h:Q u s)
  (hd:autoParam ((x==("__debug__" : Str))=false) L2.au1._auto_1):wpAny (model X.prog X.w) X.A (eval (.Name x pos) X.env) Q E s :=
 Calls.Name_function_global I.ok.kind hg (Calls.loadGlobal_global (by rw[I.ok.glob];exact I.mod.glob.keeps I.bk) hm h) hd
theorem qV {E:Value->Shared->Prop} {pins:List (Addr×Obj)} {s:Shared} {σ:St} {H:Hp} {x:Str} {u:Value} {pos:Pos} {Q:Value->Shared->Prop} (I:Inv X pins σ H s) (hg:Gl X x) (hm:X.mg x=none) (hv:bootBuiltins x=some u) (h:Q u s)
  (hn:autoParam (x ≠ "__name__") L2.au1._auto_1) (hd:autoParam ((x==("__debug__" : Str))=false) L2.au1._auto_1):wpAny (model X.prog X.w) X.A (eval (.Name x pos) X.env) Q E s:=by
 obtain⟨mb,h1,h2⟩:=I.mod.blt
 exact Calls.Name_function_global I.ok.kind hg (Calls.loadGlobal_builtin (by rw[I.ok.glob];exact I.mod.glob.keeps I.bk) hm (by rw[I.ok.blt];exact h1.keeps I.bk) ((h2 x hn).trans hv) h) hd
theorem cZ {x:Str} {v:V} {u:Value} {pos:Pos} (hg:Gl X x) (hm:X.mg x=some u) (r:RelV v u) (hd:autoParam ((x==("__debug__" : Str))=false) L2.au1._auto_1):PE X (.Name x pos) (tC v) :=
 fun _ _ _ H _ I h=>jC I hg hm ⟨v,H,I,r,h⟩ hd
theorem b9 {x:Str} {v:V} {u:Value} {pos:Pos} (hg:Gl X x) (hm:X.mg x=none) (hv:bootBuiltins x=some u) (r:RelV v u) (hn:autoParam (x ≠ "__name__") L2.au1._auto_1) (hd:autoParam ((x==("__debug__" : Str))=false) L2.au1._auto_1):PE X (.Name x pos) (tC v) :=
 fun _ _ _ H _ I h=>qV I hg hm hv ⟨v,H,I,r,h⟩ hn hd
variable {a b:Expr} {ta tb:TE} {pos:Pos}
noncomputable def PC (X:Cx) (op:CmpOp) (a b:Expr) (t:TE):Prop :=
 ∀(pins:List (Addr×Obj)) (s:Shared) (σ:St) (H:Hp) (Q:VK),Inv X pins σ H s->t σ H Q ->
  wpAny (model X.prog X.w) X.A (eval a X.env) (fun v s₁=>wpAny (model X.prog X.w) X.A (eval b X.env) (fun u s₂=>wpAny (model X.prog X.w) X.A (compareOp op v u) (EP X pins σ Q) X.xe s₂) X.xe s₁) X.xe s
theorem nobehind (b:Expr) {op:CmpOp} (h:op ≠ .In) (h2:op ≠ .NotIn):behindInMarks op b=false:=by
 have e1:(op==CmpOp.In)=false:=by cases op <;> first | rfl | exact absurd rfl h
 have e2:(op==CmpOp.NotIn)=false:=by cases op <;> first | rfl | exact absurd rfl h2
 cases b <;> simp[behindInMarks,e1,e2]
noncomputable def qA (ta:TE):TE:=fun σ H Q=>ta σ H fun x H1=>Q (.bl (decide (x=.non))) H1
noncomputable def iS (ta:TE):TE:=fun σ H Q=>ta σ H fun x H1=>Q (.bl (!decide (x=.non))) H1
theorem RelV.none_iff {x:V} {v:Value} (r:RelV x v):(v==Value.none)=decide (x=.non):=by
 cases x with
 | non=>cases r;rfl
 | bl _=>cases r;rfl
 | int _=>obtain⟨t,rfl⟩:=r;rfl
 | str _=>obtain⟨t,rfl⟩:=r;rfl
 | byt _=>obtain⟨t,rfl⟩:=r;rfl
 | flt _=>obtain⟨t,rfl⟩:=r;rfl
 | ref _=>cases r;rfl
 | ty _=>cases r;rfl
theorem aEs {j pos'} (ha:PE X a ta):PC X .Is a (.Constant .none j pos') (qA ta):=by
 intro pins s σ H Q I h
 refine thn (ha pins s σ H _ I h) fun v s1 ⟨x,H1,I1,r1,q1⟩=>?_
 exact Constant_none (is_none_gen ⟨.bl _,H1,I1,by rw[r1.none_iff];rfl,q1⟩)
theorem aCm {j pos'} (ha:PE X a ta):PC X .IsNot a (.Constant .none j pos') (iS ta):=by
 intro pins s σ H Q I h
 refine thn (ha pins s σ H _ I h) fun v s1 ⟨x,H1,I1,r1,q1⟩=>?_
 exact Constant_none (isnot_none_gen ⟨.bl _,H1,I1,by rw[r1.none_iff];rfl,q1⟩)
noncomputable def tB (t:TE):TT:=fun σ H Q=>t σ H fun x H1=>∃c,x=.bl c/\Q c H1
theorem aEq {op:CmpOp} {t:TE} (h:PC X op a b t) (h1:autoParam (behindInMarks op b=false) L2.au2._auto_1):PE X (.Compare a [op] [b] pos) t:=fun pins s σ H Q I hw=>wpAny_Compare1 (h pins s σ H Q I hw) h1
theorem aEg {op:CmpOp} {t:TE} (h:PC X op a b t) (h1:autoParam (behindInMarks op b=false) L2.au2._auto_1):PT X (.Compare a [op] [b] pos) (tB t):=by
 intro pins s σ H Q I hw
 refine wpAny_isTrue_Compare1 (thn (h pins s σ H _ I hw) fun v s1 h1=>thn h1 fun u s2 h2=>thn h2 fun c s3 ⟨x,H1,I1,r1,q1⟩=>?_) h1
 obtain⟨d,rfl,q⟩:=q1
 cases r1
 exact wpAny_truthy_bool ⟨H1,I1,q⟩
theorem bL {e:Expr} {t:TE} (h:PE X e t) (he:autoParam (∀whole,isTrue e X.env whole=(do let v <- whole;standAt e.pos;holding [v] (truthy v))) L2.au3._auto_1):PT X e (tB t):=by
 intro pins s σ H Q I hw
 refine isTrue_plain (thn (h pins s σ H _ I hw) fun v s1 ⟨x,H1,I1,r1,q1⟩=>?_) (he _)
 obtain⟨d,rfl,q⟩:=q1
 cases r1
 exact wpAny_truthy_bool ⟨H1,I1,q⟩
variable {tA tB':TT} {rest:List Expr}
noncomputable def qE (t u:TT):TT:=fun σ H Q=>t σ H fun c H1=>if c=true then u σ H1 Q else Q false H1
noncomputable def tOr (t u:TT):TT:=fun σ H Q=>t σ H fun c H1=>if c=true then Q true H1 else u σ H1 Q
noncomputable def nJ (t:TT):TT:=fun σ H Q=>t σ H fun c H1=>Q (!c) H1
theorem gT (ha:PT X a tA):PW X (.BoolOp .And [a] pos) tA:=by
 intro wh pins s σ H Q I h
 refine isTrue_and (thn (ha pins s σ H Q I h) fun c s1 e=>?_)
 cases c with
 | true=>exact isTrue_and_nil e
 | false=>exact e
theorem cB (ha:PT X a tA):PW X (.BoolOp .Or [a] pos) tA:=by
 intro wh pins s σ H Q I h
 refine isTrue_or (thn (ha pins s σ H Q I h) fun c s1 e=>?_)
 cases c with
 | false=>exact isTrue_or_nil e
 | true=>exact e
theorem jV (ha:PT X a tA) (hb:PW X (.BoolOp .And (b::rest) pos) tB'):PW X (.BoolOp .And (a::b::rest) pos) (qE tA tB'):=by
 intro wh pins s σ H Q I h
 refine isTrue_and (thn (ha pins s σ H _ I h) fun c s1 ⟨H1,I1,q1⟩=>?_)
 cases c with
 | true=>exact hb wh pins s1 σ H1 Q I1 q1
 | false=>exact⟨H1,I1,q1⟩
theorem bS (ha:PT X a tA) (hb:PW X (.BoolOp .Or (b::rest) pos) tB'):PW X (.BoolOp .Or (a::b::rest) pos) (tOr tA tB'):=by
 intro wh pins s σ H Q I h
 refine isTrue_or (thn (ha pins s σ H _ I h) fun c s1 ⟨H1,I1,q1⟩=>?_)
 cases c with
 | true=>exact⟨H1,I1,q1⟩
 | false=>exact hb wh pins s1 σ H1 Q I1 q1
theorem bH (ha:PT X a tA):PT X (.UnaryOp .Not a pos) (nJ tA):=by
 intro pins s σ H Q I h
 exact isTrue_not (ha pins s σ H (fun c H1=>Q (!c) H1) I h)
noncomputable def iU (ta tb:TE):TE:=fun σ H Q=>ta σ H fun x H1=>∃c,x=.bl c/\if c=true then tb σ H1 Q else Q (.bl false) H1
noncomputable def sS (ta tb:TE):TE:=fun σ H Q=>ta σ H fun x H1=>∃c,x=.bl c/\if c=true then Q (.bl true) H1 else tb σ H1 Q
noncomputable def iR (ta:TE):TE:=fun σ H Q=>ta σ H fun x H1=>∃c,x=.bl c/\Q (.bl (!c)) H1
theorem dW {op} {t:TE} (h:PE X a t):PE X (.BoolOp op [a] pos) t:=fun pins s σ H Q I hw=>BoolOp_one (h pins s σ H Q I hw)
theorem dC (ha:PE X a ta) (hb:PE X (.BoolOp .And (b::rest) pos) tb):PE X (.BoolOp .And (a::b::rest) pos) (iU ta tb):=by
 intro pins s σ H Q I h
 refine BoolOp_and (thn (ha pins s σ H _ I h) fun v s1 ⟨x,H1,I1,r1,q1⟩=>?_)
 obtain⟨c,rfl,q1⟩:=q1
 cases r1
 refine wpAny_truthy_bool ?_
 cases c with
 | true=>exact hb pins s1 σ H1 Q I1 q1
 | false=>exact⟨.bl false,H1,I1,rfl,q1⟩
theorem zZ (ha:PE X a ta):PE X (.UnaryOp .Not a pos) (iR ta):=by
 intro pins s σ H Q I h
 refine UnaryOp_ (thn (ha pins s σ H _ I h) fun v s1 ⟨x,H1,I1,r1,q1⟩=>?_)
 obtain⟨c,rfl,q1⟩:=q1
 cases r1
 exact not_of (wpAny_truthy_bool ⟨.bl (!c),H1,I1,rfl,q1⟩)
noncomputable def tIf (t:TT) (ta tb:TE):TE:=fun σ H Q=>t σ H fun c H1=>if c=true then ta σ H1 Q else tb σ H1 Q
theorem eU {c:Expr} (hc:PT X c tA) (ha:PE X a ta) (hb:PE X b tb):PE X (.IfExp c a b pos) (tIf tA ta tb):=by
 intro pins s σ H Q I h
 refine wpAny_IfExp (thn (hc pins s σ H _ I h) fun d s1 ⟨H1,I1,q1⟩=>?_)
 cases d with
 | true=>exact ha pins s1 σ H1 Q I1 q1
 | false=>exact hb pins s1 σ H1 Q I1 q1
end
end L2
namespace L2
open PySem PySem.Spec PyProof.Rows
noncomputable def SqL (K:PySem.W.Frag) (H:Hp) (a:Addr) (xs:List V):Prop :=
 Rd H a (.lst xs) \/
  ∃(o:Obj) (its:Array Value) (n:Nat),K.lookup a=some o/\o.cls=.type "list" /\ o.dict=none/\o.data=.seq its n/\its.size<=sizeLine/\Vals xs its.toList
noncomputable def SqT (K:PySem.W.Frag) (H:Hp) (a:Addr) (xs:List V):Prop :=
 Rd H a (.tup xs) \/
  ∃(o:Obj) (its:Array Value) (n:Nat),K.lookup a=some o/\o.cls=.type "tuple" /\ o.data=.seq its n/\its.size<=sizeLine/\Vals xs its.toList
noncomputable def aGs:Value->Option V
 | .none=>some .non
 | .bool b=>some (.bl b)
 | .int i _=>some (.int i)
 | .str x _=>some (.str x)
 | .bytes b _=>some (.byt b)
 | .float b _=>some (.flt b)
 | .ref a=>some (.ref a)
 | .type n=>some (.ty n)
 | _=>none
theorem RelV.abs {x:V} {u:Value} (r:RelV x u):aGs u=some x:=by
 cases x with
 | non=>cases r;rfl
 | bl _=>cases r;rfl
 | int _=>obtain⟨t,rfl⟩:=r;rfl
 | str _=>obtain⟨t,rfl⟩:=r;rfl
 | byt _=>obtain⟨t,rfl⟩:=r;rfl
 | flt _=>obtain⟨t,rfl⟩:=r;rfl
 | ref _=>cases r;rfl
 | ty _=>cases r;rfl
theorem RelV.inj {x y:V} {u:Value} (r:RelV x u) (q:RelV y u):x=y:=Option.some.inj (r.abs.symm.trans q.abs)
theorem Vals.inj:∀ {xs ys:List V} {us:List Value},Vals xs us->Vals ys us->xs=ys
 | _,_,_,.nil,.nil=>rfl
 | _,_,_,.cons r t,.cons r' t'=>by rw[r.inj r',Vals.inj t t']
section
variable {X:Cx} {pins:List (Addr×Obj)} {σ:St} {H:Hp} {s:Shared} {a:Addr} {xs ys:List V}
theorem SqL.of {K:PySem.W.Frag} (h:H a=some (.lst xs)):SqL K H a xs:=.inl (.inl h)
theorem SqT.of {K:PySem.W.Frag} (h:H a=some (.tup xs)):SqT K H a xs:=.inl (.inl h)
theorem Inv.list (I:Inv X pins σ H s) (h:SqL X.K H a xs):∃its:List Value,Vals xs its/\PlainL s.heap a its.toArray/\xs.length<=sizeLine:=by
 rcases h with h | ⟨o,its,n,hk,hc,hd,hs,hz,r⟩
 ·obtain⟨z,its,n,r,e⟩:=h.ok I.hok
  exact⟨its,r,⟨_,n,e,rfl,rfl,rfl⟩,z⟩
 ·refine⟨its.toList,r,⟨o,n,I.kIn a o hk,hc,hd,by simpa using hs⟩,?_⟩
  have e:=r.length
  simp only[Array.length_toList] at e
  omega
theorem Inv.tuple (I:Inv X pins σ H s) (h:SqT X.K H a xs):∃its:List Value,Vals xs its/\IsTup s.heap a its.toArray/\xs.length<=sizeLine:=by
 rcases h with h | ⟨o,its,n,hk,hc,hs,hz,r⟩
 ·obtain⟨z,its,r,p⟩:=h.ok I.hok
  exact⟨its,r,p,z⟩
 ·refine⟨its.toList,r,⟨o,I.kIn a o hk,hc,n,by simpa using hs⟩,?_⟩
  have e:=r.length
  simp only[Array.length_toList] at e
  omega
theorem Inv.list_inj (I:Inv X pins σ H s) (h:SqL X.K H a xs) (h':SqL X.K H a ys):xs=ys:=by
 obtain⟨its,r,⟨o,n,e,_,_,d⟩,_⟩:=I.list h
 obtain⟨its',r',⟨o',n',e',_,_,d'⟩,_⟩:=I.list h'
 rw[e] at e';cases e'
 rw[d] at d'
 injection d' with d1 _
 have:its=its':=by simpa using congrArg Array.toList d1
 subst this
 exact r.inj r'
theorem Inv.tuple_inj (I:Inv X pins σ H s) (h:SqT X.K H a xs) (h':SqT X.K H a ys):xs=ys:=by
 obtain⟨its,r,⟨o,e,_,n,d⟩,_⟩:=I.tuple h
 obtain⟨its',r',⟨o',e',_,n',d'⟩,_⟩:=I.tuple h'
 rw[e] at e';cases e'
 rw[d] at d'
 injection d' with d1 _
 have:its=its':=by simpa using congrArg Array.toList d1
 subst this
 exact r.inj r'
end
noncomputable abbrev Cx.wish (X:Cx) (E:Value->Shared->Prop):Cx:={ X with xe:=E }
noncomputable abbrev Cx.nox (X:Cx):Cx:=X.wish fun _ _=>False
theorem Cx.Ok.wish {X:Cx} (ok:X.Ok) (E:Value->Shared->Prop):(X.wish E).Ok :=
 ⟨ok.mod,ok.kind,ok.glob,ok.blt,ok.above,ok.inj,ok.has,ok.cab,ok.hd,ok.frames,ok.stk,ok.exf,ok.bs,ok.bsz,ok.noex,ok.exfs,ok.funs,ok.frf⟩
theorem Cx.Ok.unwish {X:Cx} {E:Value->Shared->Prop} (ok:(X.wish E).Ok):X.Ok :=
 ⟨ok.mod,ok.kind,ok.glob,ok.blt,ok.above,ok.inj,ok.has,ok.cab,ok.hd,ok.frames,ok.stk,ok.exf,ok.bs,ok.bsz,ok.noex,ok.exfs,ok.funs,ok.frf⟩
section
variable {X:Cx} {pins:List (Addr×Obj)} {σ:St} {H:Hp} {s:Shared} {E:Value->Shared->Prop}
theorem Inv.wish (I:Inv X pins σ H s) (E:Value->Shared->Prop):Inv (X.wish E) pins σ H s:=⟨I.ok.wish E,I.os,I.bare,I.base,I.loc,I.cell,I.free,I.freeC,I.pin,I.hok,I.len⟩
theorem Inv.unwish (I:Inv (X.wish E) pins σ H s):Inv X pins σ H s:=⟨I.ok.unwish,I.os,I.bare,I.base,I.loc,I.cell,I.free,I.freeC,I.pin,I.hok,I.len⟩
theorem SP.unwish {D:Ends} {f:Flow} {s':Shared} (h:SP (X.wish E) pins D f s'):SP X pins D f s':=by
 cases f with
 | next=>obtain⟨σ',H',I,q⟩:=h;exact⟨σ',H',I.unwish,q⟩
 | brk=>obtain⟨σ',H',I,q⟩:=h;exact⟨σ',H',I.unwish,q⟩
 | cont=>obtain⟨σ',H',I,q⟩:=h;exact⟨σ',H',I.unwish,q⟩
 | ret u=>obtain⟨v,σ',H',I,r,q⟩:=h;exact⟨v,σ',H',I.unwish,r,q⟩
theorem PSs.nox {st:List Stmt} {t:TS} (h:PSs X.nox st t):PSs X st t:=fun pins s σ H D I hw =>
 wpAny_mono (h pins s σ H D (I.wish _) hw) (fun _ _ q=>q.unwish) fun _ _ z=>False.elim z
end
section
variable {X:Cx} {st:Stmt} {rest:List Stmt} {t u:TS} {e:Expr} {te:TE} {pos:Pos}
noncomputable def f9:TS:=fun D σ H=>D.nx σ H
noncomputable def eO (t u:TS):TS:=fun D σ H=>t { D with nx:=u D } σ H
theorem aT:PSs X [] f9:=fun _ _ σ H _ I h=>wpAny_execs_nil ⟨σ,H,I,h⟩
theorem aD (h1:PS X st t) (h2:PSs X rest u):PSs X (st::rest) (eO t u):=by
 intro pins s σ H D I h
 refine wpAny_execs_cons (thn (h1 pins s σ H { D with nx:=u D } I h) fun f s1 q=>?_)
 cases f with
 | next =>
  obtain⟨σ',H',I',q⟩:=q
  exact h2 pins s1 σ' H' D I' q
 | ret v=>exact q
 | brk=>exact q
 | cont=>exact q
theorem aG (h1:PS X st t):PSs X [st] t:=by
 intro pins s σ H D I h
 refine wpAny_execs_cons (thn (h1 pins s σ H D I h) fun f s1 q=>?_)
 cases f with
 | next=>exact wpAny_execs_nil q
 | ret v=>exact q
 | brk=>exact q
 | cont=>exact q
noncomputable def gE:TS:=fun D σ H=>D.bk σ H
noncomputable def kF:TS:=fun D σ H=>D.ct σ H
theorem Inv.quiet {pins:List (Addr×Obj)} {σ:St} {H:Hp} {s:Shared} (I:Inv X pins σ H s):interactive X.env=false:=by simp[interactive,I.ok.kind]
noncomputable def gA (te:TE):TS:=fun D σ H=>te σ H fun _ H1=>D.nx σ H1
theorem eP (he:PE X e te) (hs:autoParam (swapsWith e none pos.line X.env=pure false) L2.au4._auto_1):PS X (.Expr e pos) (gA te):=by
 intro pins s σ H D I h
 exact wpAny_Expr_any (thn (he pins s σ H _ I h) fun v s1 ⟨x,H1,I1,r1,q1⟩=>⟨σ,H1,I1,q1⟩) I.quiet hs
noncomputable def kK (te:TE):TS:=fun D σ H=>te σ H D.rt
theorem aN (he:PE X e te):PS X (.Return (some e) pos) (kK te):=by
 intro pins s σ H D I h
 exact wpAny_Return_some (thn (he pins s σ H _ I h) fun v s1 ⟨x,H1,I1,r1,q1⟩=>⟨x,σ,H1,I1,r1,q1⟩)
noncomputable def kC:TS:=fun D _ H=>D.rt .non H
noncomputable def lJ (c:TT) (t u:TS):TS:=fun D σ H=>c σ H fun b H1=>if b=true then t D σ H1 else u D σ H1
theorem bF {c:Expr} {a b:List Stmt} {tc:TT} (hc:PT X c tc) (ha:PSs X a t) (hb:PSs X b u):PS X (.If c a b pos) (lJ tc t u):=by
 intro pins s σ H D I h
 refine wpAny_If (thn (hc pins s σ H _ I h) fun d s1 ⟨H1,I1,q1⟩=>?_)
 cases d with
 | true=>exact ha pins s1 σ H1 D I1 q1
 | false=>exact hb pins s1 σ H1 D I1 q1
noncomputable def aD3:TS:=fun _ _ _=>False
theorem zP:PS X st aD3:=fun _ _ _ _ _ _ h=>h.elim
end
noncomputable abbrev TG:=V->St->Hp->(St->Hp->Prop)->Prop
noncomputable abbrev TGs:=List V->St->Hp->(St->Hp->Prop)->Prop
noncomputable def PG (X:Cx) (target:Expr) (t:TG):Prop :=
 ∀(pins:List (Addr×Obj)) (s:Shared) (σ:St) (H:Hp) (v:V) (u:Value) (Q:St->Hp->Prop),Inv X pins σ H s->RelV v u->t v σ H Q ->
  wpAny (model X.prog X.w) X.A (assign target X.env u) (fun _ s'=>∃ σ' H',Inv X pins σ' H' s'/\Q σ' H') X.xe s
noncomputable def PGs (X:Cx) (ts:List Expr) (t:TGs):Prop :=
 ∀(pins:List (Addr×Obj)) (s:Shared) (σ:St) (H:Hp) (vs:List V) (us:List Value) (Q:St->Hp->Prop),Inv X pins σ H s->Vals vs us->t vs σ H Q ->
  wpAny (model X.prog X.w) X.A (assignInOrder ((assignEach ts X.env).map (·.2)) us) (fun _ s'=>∃ σ' H',Inv X pins σ' H' s'/\Q σ' H') X.xe s
noncomputable abbrev aFl:=V->V->V->Hp->(Hp->Prop)->Prop
noncomputable def aGe (X:Cx) (t:aFl):Prop :=
 ∀(pins:List (Addr×Obj)) (s:Shared) (σ:St) (H:Hp) (o i v:V) (ov iv u:Value) (Q:Hp->Prop),Inv X pins σ H s->RelV o ov->RelV i iv->RelV v u->t o i v H Q ->
  wpAny (model X.prog X.w) X.A (setItem ov iv u) (fun _ s'=>∃H',Inv X pins σ H' s'/\Q H') X.xe s
noncomputable abbrev TIp:=V->V->Hp->VK->Prop
noncomputable def PIp (X:Cx) (op:Operator) (t:TIp):Prop :=
 ∀(pins:List (Addr×Obj)) (s:Shared) (σ:St) (H:Hp) (x y:V) (v u:Value) (Q:VK),Inv X pins σ H s->RelV x v->RelV y u->t x y H Q ->
  wpAny (model X.prog X.w) X.A (inplaceOp op v u) (EP X pins σ Q) X.xe s
section
variable {X:Cx} {pos:Pos}
noncomputable def eM (i:Nat):TG:=fun v σ H Q=>Q (σ.set i (some v)) H
theorem aX {i:Nat} {x:Str} (hN:X.N.Nodup) (hi:X.N[i]? = some x) (hx:Loc X.env.scope x) (hf:autoParam (X.fn x=true\/X.env.scope.names.lookup x=some .local) L2.au0._auto_1):PG X (.Name x pos) (eM i):=by
 intro pins s σ H v u Q I r h
 exact wpAny_assign_Name (dQ I hN hi hx r (fun s' I'=>⟨_,H,I',h⟩) hf)
noncomputable def rQ:TGs:=fun vs σ H Q=>vs=[]/\Q σ H
noncomputable def jI (t:TG) (u:TGs):TGs:=fun vs σ H Q=>∃v r,vs=v::r/\t v σ H fun σ' H'=>u r σ' H' Q
theorem cX:PGs X [] rQ:=by
 intro pins s σ H vs us Q I r h
 obtain⟨e,h⟩:=h
 subst e
 cases r
 exact assignInOrder_nil ⟨σ,H,I,h⟩
theorem bC {e:Expr} {es:List Expr} {t:TG} {u:TGs} (h1:PG X e t) (h2:PGs X es u)
  (hs:autoParam ((assignEach (e::es) X.env).map (·.2)=assign e X.env::(assignEach es X.env).map (·.2)) L2.au4._auto_1):PGs X (e::es) (jI t u):=by
 intro pins s σ H vs us Q I r h
 obtain⟨v,vr,e1,h⟩:=h
 subst e1
 cases r with
 | cons r rr =>
  rw[hs]
  refine assignInOrder_cons (thn (h1 pins s σ H _ _ _ I r h) fun _ s1 ⟨σ1,H1,I1,q1⟩=>?_)
  exact h2 pins s1 σ1 H1 _ _ Q I1 rr q1
noncomputable def oK (K:PySem.W.Frag) (n:Nat) (t:TGs):TG:=fun v σ H Q=>∃a xs,v=.ref a/\SqT K H a xs/\xs.length=n/\t xs σ H Q
theorem dU {es:List Expr} {k:Nat} {t:TGs} {n:Nat} (hc:X.calm=true) (h:PGs X es t)
  (hn:autoParam ((assignEach es X.env).length=n) L2.au4._auto_1) (hst:autoParam ((assignEach es X.env).findIdx? (·.1)=none) L2.au4._auto_1):PG X (.Tuple es k pos) (oK X.K n t):=by
 intro pins s σ H v u Q I r hw
 obtain⟨a,xs,e1,hq,hl,hw⟩:=hw
 subst e1
 cases r
 obtain⟨its,rv,ht,hz⟩:=I.tuple hq
 refine assign_Tuple_tuple (I.ok.hd hc) ht (by simp[hn,<- hl,rv.length]) hst fun h' hx=>?_
 have I1:Inv X pins σ H { s with heap:=h' }:=I.kept (t':=s.toks) fun b o e=>hx b o (Nat.ne_of_lt (Heap.lt_size e)) e
 exact h pins _ σ H xs _ Q I1 (by simpa using rv) hw
noncomputable def rP (to ti:TE) (t:aFl):TG:=fun v σ H Q=>to σ H fun o H1=>ti σ H1 fun i H2=>t o i v H2 fun H3=>Q σ H3
theorem zX {o i:Expr} {to ti:TE} {t:aFl} (ho:PE X o to) (hi:PE X i ti) (hs:aGe X t)
  (ha:autoParam (∀v,assign (.Subscript o i pos) X.env v=(do
   let ov <- holding [v] (eval o X.env)
   let iv <- holding [v,ov] (eval i X.env)
   standAt pos
   holding [v,ov,iv] (setItem ov iv v)
   release [v,ov,iv] [])) L2.au3._auto_1):PG X (.Subscript o i pos) (rP to ti t):=by
 intro pins s σ H v u Q I r h
 rw[ha]
 refine wpAny_bind (wpAny_holding (thn (ho pins s σ H _ I h) fun ov s1 ⟨x,H1,I1,r1,q1⟩=>?_))
 refine wpAny_bind (wpAny_holding (thn (hi pins s1 σ H1 _ I1 q1) fun iv s2 ⟨y,H2,I2,r2,q2⟩=>?_))
 refine wpAny_bind (wpAny_standAt (wpAny_bind (wpAny_holding (thn (hs pins s2 σ H2 x y v ov iv u _ I2 r1 r2 r q2) fun _ s3 ⟨H3,I3,q3⟩=>?_))))
 exact wpAny_release ⟨σ,H3,I3,q3⟩
noncomputable def iT (te:TE) (g:TG):TS:=fun D σ H=>te σ H fun x H1=>g x σ H1 D.nx
theorem d9 {tg e:Expr} {te:TE} {g:TG} (he:PE X e te) (hg:PG X tg g) (hs:autoParam (swapsWithSole [tg] e pos.line X.env=pure false) L2.au4._auto_1) (hw:autoParam (swappedStores [tg] e X.env=pure none) L2.au4._auto_1)
  (h1:autoParam ((assignEach [tg] X.env).map (·.2)=[assign tg X.env]) L2.au4._auto_1):PS X (.Assign [tg] e pos) (iT te g):=by
 intro pins s σ H D I h
 refine wpAny_Assign_stores (thn (he pins s σ H _ I h) fun v s1 ⟨x,H1,I1,r1,q1⟩=>?_) hs hw
 rw[h1]
 exact thn (hg pins s1 σ H1 x v _ I1 r1 q1) fun _ s2 q=>q
theorem aU {i:Nat} {x:Str} {e:Expr} {te:TE} {pos':Pos} (hN:X.N.Nodup) (hi:X.N[i]? = some x) (hx:Loc X.env.scope x) (he:PE X e te) (hs:autoParam (swapsWith e (some (.Name x pos')) pos.line X.env=pure false) L2.au4._auto_1) (hf:autoParam (X.fn x=true\/X.env.scope.names.lookup x=some .local) L2.au0._auto_1) :
  PS X (.Assign [.Name x pos'] e pos) (iT te (eM i)):=by
 intro pins s σ H D I h
 refine wpAny_Assign_Name (thn (he pins s σ H _ I h) fun v s1 ⟨y,H1,I1,r1,q1⟩=>?_) hs
 exact dQ I1 hN hi hx r1 (fun s2 I2=>⟨_,H1,I2,q1⟩) hf
noncomputable def lI (i j:Nat) (ta:TA):TS:=fun D σ H=>ta σ H fun vs H1=>∃v w,vs=[v,w]/\D.nx ((σ.set i (some v)).set j (some w)) H1
theorem iD {i j:Nat} {x y:Str} {a b:Expr} {ta:TA} {px py pt:Pos} {kt k2 pt2} (hc:X.calm=true) (hN:X.N.Nodup) (hi:X.N[i]? = some x) (hj:X.N[j]? = some y) (hij:i≠j)
  (hx:X.env.scope.names.lookup x=some .local) (hy:X.env.scope.names.lookup y=some .local) (ha:PA X [a,b] ta)
  (hw:swappedStores [.Tuple [.Name x px,.Name y py] kt pt] (.Tuple [a,b] k2 pt2) X.env=pure (some [x,y]))
  (hs:autoParam (swapsWithSole [.Tuple [.Name x px,.Name y py] kt pt] (.Tuple [a,b] k2 pt2) pos.line X.env=pure false) L2.au4._auto_1) :
  PS X (.Assign [.Tuple [.Name x px,.Name y py] kt pt] (.Tuple [a,b] k2 pt2) pos) (lI i j ta):=by
 intro pins s σ H D I h
 rw[exec_Assign_arm]
 refine wpAny_bind (wpAny_standAt ?_)
 rw[hs]
 refine wpAny_bind (wpAny_pure ?_)
 rw[if_neg (by decide)]
 refine wpAny_bind (Tuple_ (thn (ha _ pins s σ H _ I h) fun us s1 ⟨vs,H1,I1,r1,q1⟩=>?_))
 obtain⟨v,w,e1,q1⟩:=q1
 subst e1
 obtain⟨u1,u2,rfl,rv,rw'⟩:∃u1 u2,us=[u1,u2]/\RelV v u1/\RelV w u2:=by
  cases r1 with
  | cons p q =>
   cases q with
   | cons p' q' =>
    cases q'
    exact⟨_,_,rfl,p,p'⟩
 refine wpAny_newObj_type ?_ (by show 2<=sizeLine;decide)
 have I2:Inv X pins σ H1 { s1 with heap:=s1.heap.push { cls:=.type "tuple",data:=.seq [u1,u2].toArray } }:=I1.kept (t':=s1.toks) fun b o e=>Heap.get?_push_of_some _ e
 rw[hw]
 refine wpAny_bind (wpAny_pure ?_)
 show wpAny (model X.prog X.w) X.A (do rule "assign.swapped-stores";let items <- unpackItems (.ref s1.heap.objs.size) 2 none;assignInOrder [fun v=>bindName X.env y v,fun v=>bindName X.env x v] items.reverse;pure Flow.next) _ _ _
 refine wpAny_bind (wpAny_rule (wpAny_bind (unpackItems_tuple (items:=#[u1,u2]) (I.ok.hd hc) (IsTup.new s1.heap _) fun h' hx'=>?_)))
 have I3:=I2.kept (h':=h') (t':=s1.toks) fun b o e=>hx' b o (Nat.ne_of_lt (Heap.lt_size e)) e
 show wpAny _ _ (assignInOrder [fun v=>bindName X.env y v,fun v=>bindName X.env x v] [u2,u1] >>= fun _=>pure Flow.next) _ _ _
 refine wpAny_bind (assignInOrder_cons (wpAny_bindName (dQ I3 hN hj (.inl hy) rw' (fun s2 I4=>?_) (.inr hy))))
 refine assignInOrder_cons (wpAny_bindName (dQ I4 hN hi (.inl hx) rv (fun s3 I5=>assignInOrder_nil (wpAny_pure ?_)) (.inr hx)))
 rw[List.set_comm _ _ (Ne.symm hij)] at I5
 exact⟨_,H1,I5,q1⟩
noncomputable def qD (i:Nat) (te:TE) (ti:TIp):TS:=fun D σ H=>∃x,σ[i]? = some (some x)/\te σ H fun y H1=>ti x y H1 fun z H2=>D.nx (σ.set i (some z)) H2
theorem aEi {i:Nat} {x:Str} {e:Expr} {te:TE} {op:Operator} {ti:TIp} {pos':Pos} (hN:X.N.Nodup) (hi:X.N[i]? = some x) (hx:Loc X.env.scope x) (he:PE X e te) (ho:PIp X op ti) (hf:autoParam (X.fn x=true\/X.env.scope.names.lookup x=some .local) L2.au0._auto_1) :
  PS X (.AugAssign (.Name x pos') op e pos) (qD i te ti):=by
 intro pins s σ H D I h
 obtain⟨v,e1,h⟩:=h
 obtain⟨m,hn,hl⟩:=I.loc
 have vis:Vis X.env.scope x:=by rcases hx with k | k;exact .inl k;exact .inr (.inl k)
 obtain⟨u,r,l⟩:=hl i x v hi e1 vis
 refine wpAny_AugAssign_Name ?_
 have go:wpAny (model X.prog X.w) X.A (eval e X.env) (fun w s₂=>wpAny (model X.prog X.w) X.A (inplaceOp op u w) (fun r s₃=>wpAny (model X.prog X.w) X.A (storeName X.env x r) (fun _=>SP X pins D .next) X.xe s₃) X.xe s₂) X.xe s:=by
  refine thn (he pins s σ H _ I h) fun w s1 ⟨y,H1,I1,r1,q1⟩=>?_
  refine thn (ho pins s1 σ H1 v y u w _ I1 r r1 q1) fun z s2 ⟨zv,H2,I2,r2,q2⟩=>?_
  exact dQ I2 hN hi hx r2 (fun s3 I3=>⟨_,H2,I3,q2⟩) hf
 rcases l with ⟨hk,hm⟩ | ⟨hk,c,hc,hcell⟩
 ·exact wpAny_loadName_local I.ok.kind hk hn hm go
 ·rcases hk with hk | hk
  ·exact wpAny_loadName_cell I.ok.kind hk hc hcell go
  ·rcases hx with k | k
   ·have:X.env.scope.names.lookup x=some .free:=hk
    rw[k] at this;cases this
   ·have:X.env.scope.names.lookup x=some .free:=hk
    rw[k] at this;cases this
noncomputable def ipI (f:Int->Int->Int):TIp:=fun x y H Q=>∃i j,x=.int i/\y=.int j/\Q (.int (f i j)) H
theorem aFd:PIp X .Sub (ipI fun i j=>i-j):=by
 intro pins s σ H x y v u Q I r1 r2 h
 obtain⟨i,j,e1,e2,q⟩:=h
 subst e1;subst e2
 obtain⟨t,rfl⟩:=r1
 obtain⟨t',rfl⟩:=r2
 exact isub_int ⟨.int _,H,I.tok _,⟨_,rfl⟩,q⟩
end
section
variable {X:Cx} {pos:Pos}
noncomputable def pZ (c:TT) (tb:TS):TS:=fun D σ H=>∃W:Nat->St->Hp->Prop,(∃m,W m σ H)/\∀m σ H,W m σ H ->
 c σ H fun b H1=>if b=true then ∃N:St->Hp->Prop,(∀ σ' H',N σ' H'->∃m',m'<m/\W m' σ' H')/\tb { D with nx:=N,ct:=N,bk:=D.nx } σ H1 else D.nx σ H1
theorem cN {c:Expr} {body:List Stmt} {tc:TT} {tb:TS} (hp:PassesOwn (model X.prog X.w) X.A X.env X.xe) (hc:PT X c tc) (hb:PSs X body tb):PS X (.While c body [] pos) (pZ tc tb):=by
 intro pins s σ H D I h
 obtain⟨W,⟨m0,w0⟩,turn⟩:=h
 refine wpAny_While (codeAny_whileLoop (fun n s'=>∃ σ' H',Inv X pins σ' H' s'/\W n σ' H') ?_ m0 ⟨σ,H,I,w0⟩)
 rintro n s1 ⟨σ1,H1,I1,w1⟩
 refine wpAny_passesOwn hp (thn (hc pins s1 σ1 H1 _ I1 (turn n σ1 H1 w1)) fun b s2 ⟨H2,I2,q2⟩=>?_)
 cases b with
 | true =>
  obtain⟨N,hN,q2⟩:=q2
  rw[if_pos rfl]
  refine wpAny_passesOwn hp (thn (hb pins s2 σ1 H2 _ I2 q2) fun f s3 q3=>?_)
  cases f with
  | next =>
   obtain⟨σ3,H3,I3,n3⟩:=q3
   obtain⟨m',hm,w3⟩:=hN σ3 H3 n3
   exact⟨m',hm,σ3,H3,I3,w3⟩
  | cont =>
   obtain⟨σ3,H3,I3,n3⟩:=q3
   obtain⟨m',hm,w3⟩:=hN σ3 H3 n3
   exact⟨m',hm,σ3,H3,I3,w3⟩
  | brk=>exact q3
  | ret v=>exact q3
 | false =>
  rw[if_neg Bool.false_ne_true]
  exact wpAny_execs_nil ⟨σ1,H2,I2,q2⟩
end
structure It where
 go:Nat->Hp->Prop
 yld:Nat->Hp->V->Hp->Prop
 stop:Nat->Hp->Prop
noncomputable def sH (X:Cx) (pins:List (Addr×Obj)) (H:Hp) (b:Addr):Prop :=
 H b=none/\b≠X.env.locals/\b ∉ X.fs/\(b∈X.ex\/X.s₀.heap.objs.size<=b)/\(∀x c,X.env.cells.lookup x=some c->c≠b)/\∀p∈X.pn++pins,p.1≠b
theorem Inv.fpOk {X:Cx} {pins:List (Addr×Obj)} {σ:St} {H H':Hp} {s:Shared} {b:Addr} (I:Inv X pins σ H s) (hb:s.heap.objs.size<=b) (hn:H' b=none):sH X pins H' b:=by
 refine⟨hn,Nat.ne_of_gt (Nat.lt_of_lt_of_le I.lt hb),I.nofs hb,.inr (Nat.le_trans I.sz hb),fun x c e z=>?_,fun p hp z=>?_⟩
 ·obtain⟨v,q⟩:=I.cell x c e
  exact absurd (Nat.lt_of_lt_of_le q.lt (by rw[z];exact hb)) (Nat.lt_irrefl _)
 ·exact absurd (Nat.lt_of_lt_of_le (Heap.lt_size (I.pin p hp).1) (by rw[z];exact hb)) (Nat.lt_irrefl _)
structure Turn (P:Program) (w:World) (K:PySem.W.Frag) (tg:Expr) (J:It) (fp:List Addr) (it:Addr) (tn:Nat->Heap->Prop):Prop where
 mem:it∈fp
 obj:∀i h,tn i h->∀b∈fp,∃o,h.get? b=some o/\∀v,o.data ≠ .cell v
 keep:∀i h h',tn i h->(∀b∈fp,∀o,h.get? b=some o->h'.get? b=some o)->tn i h'
 item:∀(X:Cx),X.prog=P->X.w=w->X.K=K->X.calm=true->∀(i:Nat) (pins:List (Addr×Obj)) (s:Shared) (σ:St) (H:Hp) (E:Value->Shared->Prop),Inv X pins σ H s->(∀b∈fp,sH X pins H b)->tn i s.heap->J.go i H ->
  wpAny (model P w) X.A (pyNext (.ref it)) (fun r s1=>∃u,r=some u /\
   wpAny (model P w) X.A (letOwnedTupleGo tg (.ref it) u) (fun _ s2=>∃x H',Inv X pins σ H' s2/\RelV x u/\J.yld i H x H'/\tn (i+1) s2.heap/\∀b∈fp,H' b=none) E s1) E s
 done:∀(X:Cx),X.prog=P->X.w=w->X.K=K->X.calm=true->∀(i:Nat) (pins:List (Addr×Obj)) (s:Shared) (σ:St) (H:Hp) (E:Value->Shared->Prop),Inv X pins σ H s->(∀b∈fp,sH X pins H b)->tn i s.heap->J.stop i H ->
  wpAny (model P w) X.A (pyNext (.ref it)) (fun r s1=>r=none/\Inv X pins σ H s1) E s
 self:∀(A:Around) (i:Nat) (s:Shared) (Q:Value->Shared->Prop) (E:Value->Shared->Prop),tn i s.heap->Q (.ref it) s->wpAny (model P w) A (pyIter (.ref it)) Q E s
noncomputable abbrev TI:=St->Hp->(It->Hp->Prop)->Prop
noncomputable def PIE (X:Cx) (pins:List (Addr×Obj)) (σ:St) (tg:Expr) (R:It->Hp->Prop) (itv:Value) (s2:Shared):Prop :=
 ∃(it:Addr) (fp:List Addr) (tn:Nat->Heap->Prop) (J:It) (H':Hp),itv=.ref it/\Inv X pins σ H' s2/\Turn X.prog X.w X.K tg J fp it tn/\tn 0 s2.heap/\(∀b∈fp,sH X pins H' b)/\R J H'
noncomputable def PI (X:Cx) (tg iter:Expr) (wi:TI):Prop :=
 ∀(pins:List (Addr×Obj)) (s:Shared) (σ:St) (H:Hp) (R:It->Hp->Prop),Inv X pins σ H s->wi σ H R ->
  wpAny (model X.prog X.w) X.A (eval iter X.env) (fun v s1=>wpAny (model X.prog X.w) X.A (pyIter v) (PIE X pins σ tg R) X.xe s1) X.xe s
theorem aA4 {M:Model} {A:Around} {E:Value->Shared->Prop} {s:Shared} {tg:Expr} {it:Addr} {u:Value} {o:Obj} {n:String} {vs:Array Value} {Q:Unit->Shared->Prop} (ho:s.heap.get? it=some o) (hc:o.cls=.type n) (hd:o.data=.fields vs)
    (hn:["enumerate","zip","dict_itemiterator","dict_reverseitemiterator","odict_iterator","itertools.zip_longest","itertools.pairwise"].contains n=false) (hQ:Q () s):wpAny M A (letOwnedTupleGo tg (.ref it) u) Q E s:=by
  unfold letOwnedTupleGo
  cases tg <;> first
    | exact wpAny_pure hQ
    | (cases u <;> first
        | exact wpAny_pure hQ
        | (refine wpAny_bind (wpAny_load ho ?_)
           rw[hc,hd]
           show wpAny M A (if (["enumerate","zip","dict_itemiterator","dict_reverseitemiterator","odict_iterator","itertools.zip_longest","itertools.pairwise"].contains n&&vs[0]? == some (rawInt _))=true then _ else _) Q E s
           rw[if_neg (by intro h;rw[hn,Bool.false_and] at h;cases h)]
           exact wpAny_pure hQ))
noncomputable def Itl (K:PySem.W.Frag) (a:Addr):It :=
 ⟨fun i H=>∃xs x,SqL K H a xs/\xs[i]? = some x,fun i H x H'=>H'=H/\∀xs,SqL K H a xs->xs[i]? = some x,fun i H=>∃xs,SqL K H a xs/\xs.length<=i⟩
noncomputable def Itt (K:PySem.W.Frag) (a:Addr):It :=
 ⟨fun i H=>∃xs x,SqT K H a xs/\xs[i]? = some x,fun i H x H'=>H'=H/\∀xs,SqT K H a xs->xs[i]? = some x,fun i H=>∃xs,SqT K H a xs/\xs.length<=i⟩
noncomputable def Itr (lo:Int) (n:Nat):It:=⟨fun i _=>i<n,fun i H x H'=>H'=H/\x=.int (lo+i),fun i _=>n<=i⟩
theorem xJ {P:Program} {w:World} {K:PySem.W.Frag} {tg:Expr} (a it:Addr):Turn P w K tg (Itl K a) [it] it (fun i h=>h.IsListIter it a i) where
 mem:=by simp
 obj:=fun i h st b hb=>by
  have e:b=it:=by simpa using hb
  subst e
  obtain⟨o,e,c,d⟩:=st
  exact⟨o,e,fun v z=>by rw[d] at z;cases z⟩
 keep:=fun i h h' st k=>st.at fun o e=>k it (by simp) o e
 item:=by
  intro X hP hw hK hc i pins s σ H E I hf st hg
  subst hP hw hK
  obtain⟨xs,x,hq,hx⟩:=hg
  obtain⟨its,rv,p,hz⟩:=I.list hq
  obtain⟨u,hu,ru⟩:=rv.get hx
  obtain⟨f0,f1,f2,f3,f4,f5⟩:=hf it (by simp)
  refine wpAny_pyNext_list_item st p.isList (x:=u) (by simpa using hu) fun h' st' sb=>?_
  have I1:Inv X pins σ H { s with heap:=h' }:=I.turned (t':=s.toks) (fun b o hb e=>(sb.2 b hb).trans e) f0 f1 f3 f4 f5
  obtain⟨o,e,c,d⟩:=id st'
  exact⟨u,rfl,aA4 (s:={ s with heap:=h' }) e c d (by decide) ⟨x,H,I1,ru,⟨rfl,fun ys hy=>by rw[I.list_inj hy hq];exact hx⟩,st',fun b hb=>(hf b hb).1⟩⟩
 done:=by
  intro X hP hw hK hc i pins s σ H E I hf st hg
  subst hP hw hK
  obtain⟨xs,hq,hx⟩:=hg
  obtain⟨its,rv,p,hz⟩:=I.list hq
  obtain⟨f0,f1,f2,f3,f4,f5⟩:=hf it (by simp)
  have hl:=rv.length
  exact wpAny_pyNext_list_end (I.ok.hd hc) st p.isList (by simp;omega) fun h' eb=>⟨rfl,I.turned (t':=s.toks) (fun b o hb e=>eb b o hb e) f0 f1 f3 f4 f5⟩
 self:=fun _ _ _ _ _ st h=>wpAny_pyIter_listiter st h
theorem uG {P:Program} {w:World} {K:PySem.W.Frag} {tg:Expr} (a it:Addr):Turn P w K tg (Itt K a) [it] it (fun i h=>h.IsTupleIter it a i) where
 mem:=by simp
 obj:=fun i h st b hb=>by
  have e:b=it:=by simpa using hb
  subst e
  obtain⟨o,e,c,d⟩:=st
  exact⟨o,e,fun v z=>by rw[d] at z;cases z⟩
 keep:=fun i h h' st k=>st.at fun o e=>k it (by simp) o e
 item:=by
  intro X hP hw hK hc i pins s σ H E I hf st hg
  subst hP hw hK
  obtain⟨xs,x,hq,hx⟩:=hg
  obtain⟨its,rv,p,hz⟩:=I.tuple hq
  obtain⟨u,hu,ru⟩:=rv.get hx
  obtain⟨f0,f1,f2,f3,f4,f5⟩:=hf it (by simp)
  refine wpAny_pyNext_tuple_item st (show s.heap.IsTuple a its.toArray from p) (x:=u) (by simpa using hu) fun h' st' sb=>?_
  have I1:Inv X pins σ H { s with heap:=h' }:=I.turned (t':=s.toks) (fun b o hb e=>(sb.2 b hb).trans e) f0 f1 f3 f4 f5
  obtain⟨o,e,c,d⟩:=id st'
  exact⟨u,rfl,aA4 (s:={ s with heap:=h' }) e c d (by decide) ⟨x,H,I1,ru,⟨rfl,fun ys hy=>by rw[I.tuple_inj hy hq];exact hx⟩,st',fun b hb=>(hf b hb).1⟩⟩
 done:=by
  intro X hP hw hK hc i pins s σ H E I hf st hg
  subst hP hw hK
  obtain⟨xs,hq,hx⟩:=hg
  obtain⟨its,rv,p,hz⟩:=I.tuple hq
  obtain⟨f0,f1,f2,f3,f4,f5⟩:=hf it (by simp)
  have hl:=rv.length
  exact wpAny_pyNext_tuple_end (I.ok.hd hc) st (show s.heap.IsTuple a its.toArray from p) (by simp;omega) fun h' eb=>⟨rfl,I.turned (t':=s.toks) (fun b o hb e=>eb b o hb e) f0 f1 f3 f4 f5⟩
 self:=fun _ _ _ _ _ st h=>wpAny_pyIter_tupleiter st h
theorem uH {P:Program} {w:World} {K:PySem.W.Frag} {tg:Expr} (it:Addr) (lo:Int) (n:Nat):Turn P w K tg (Itr lo n) [it] it (fun i h=>IsRangeIter h it (lo+(i:Nat)*1) ((n:Int)-(i:Nat)) 1) where
 mem:=by simp
 obj:=fun i h st b hb=>by
  have e:b=it:=by simpa using hb
  subst e
  exact⟨_,st,fun v z=>by
   have z':Data.fields _=Data.cell v:=z
   cases z'⟩
 keep:=fun i h h' st k=>k it (by simp) _ st
 item:=by
  intro X hP hw hK hc i pins s σ H E I hf st hg
  subst hP hw hK
  obtain⟨f0,f1,f2,f3,f4,f5⟩:=hf it (by simp)
  have W:=Walks.range (prog:=X.prog) (w:=X.w) (I.ok.hd hc) it lo 1 n
  refine W.item i s _ _ hg st fun v h' tk hv st' kk=>?_
  obtain⟨t,rfl⟩:=hv
  have I1:Inv X pins σ H { s with heap:=h',toks:=tk }:=I.turned (fun b o hb e=>kk b o (by simpa using hb) e) f0 f1 f3 f4 f5
  refine⟨_,rfl,aA4 (s:={ s with heap:=h',toks:=tk }) (n := "range_iterator") st' rfl rfl (by decide) ⟨.int (lo+i),H,I1,⟨t,?_⟩,⟨rfl,rfl⟩,st',fun b hb=>(hf b hb).1⟩⟩
  rw[Int.mul_one]
 done:=by
  intro X hP hw hK hc i pins s σ H E I hf st hg
  subst hP hw hK
  obtain⟨f0,f1,f2,f3,f4,f5⟩:=hf it (by simp)
  exact wpAny_pyNext_range_end (I.ok.hd hc) st (by have:n<=i:=hg;omega) fun h' eb=>⟨rfl,I.turned (t':=s.toks) (fun b o hb e=>eb b o hb e) f0 f1 f3 f4 f5⟩
 self:=fun _ _ _ _ _ st h=>wpAny_pyIter_rangeiter st h
end L2
namespace L2
open PySem PySem.Spec PyProof.Rows
section
variable {X:Cx} {tg:Expr}
noncomputable def aA1 (K:PySem.W.Frag) (tl:TE):TI:=fun σ H R=>tl σ H fun x H1=>∃a,x=.ref a/\(∃xs,SqL K H1 a xs)/\R (Itl K a) H1
noncomputable def aFe (K:PySem.W.Frag) (tl:TE):TI:=fun σ H R=>tl σ H fun x H1=>∃a,x=.ref a/\(∃xs,SqT K H1 a xs)/\R (Itt K a) H1
theorem gW {l:Expr} {tl:TE} (hl:PE X l tl):PI X tg l (aA1 X.K tl):=by
 intro pins s σ H R I h
 refine thn (hl pins s σ H _ I h) fun v s1 ⟨x,H1,I1,r1,q1⟩=>?_
 obtain⟨a,e,⟨xs,hq⟩,q⟩:=q1
 subst e
 cases r1
 obtain⟨its,rv,p,hz⟩:=I1.list hq
 refine wpAny_pyIter_list p.isList ?_
 refine⟨s1.heap.objs.size,[s1.heap.objs.size],_,_,H1,rfl,I1.kept (t':=s1.toks) fun b o e=>Heap.get?_push_of_some _ e,xJ a _,⟨_,Heap.get?_push_size _ rfl,rfl,rfl⟩,fun b hb=>?_,q⟩
 have e:b=s1.heap.objs.size:=by simpa using hb
 subst e
 exact I1.fpOk (Nat.le_refl _) (I1.hok.fresh (Nat.le_refl _))
theorem eE {l:Expr} {tl:TE} (hl:PE X l tl):PI X tg l (aFe X.K tl):=by
 intro pins s σ H R I h
 refine thn (hl pins s σ H _ I h) fun v s1 ⟨x,H1,I1,r1,q1⟩=>?_
 obtain⟨a,e,⟨xs,hq⟩,q⟩:=q1
 subst e
 cases r1
 obtain⟨its,rv,p,hz⟩:=I1.tuple hq
 refine wpAny_pyIter_tuple (show s1.heap.IsTuple a its.toArray from p) ?_
 refine⟨s1.heap.objs.size,[s1.heap.objs.size],_,_,H1,rfl,I1.kept (t':=s1.toks) fun b o e=>Heap.get?_push_of_some _ e,uG a _,⟨_,Heap.get?_push_size _ rfl,rfl,rfl⟩,fun b hb=>?_,q⟩
 have e:b=s1.heap.objs.size:=by simpa using hb
 subst e
 exact I1.fpOk (Nat.le_refl _) (I1.hok.fresh (Nat.le_refl _))
theorem zJ {pins:List (Addr×Obj)} {σ:St} {H:Hp} {s:Shared} {R:It->Hp->Prop} {E:Value->Shared->Prop} {lo hi:Int} {t u v:Tok} {tk:Nat} (I:Inv X pins σ H s) (h1 : -(2^62)<=lo) (h2:lo<2^62) (h3 : -(2^62)<=hi) (h4:hi<2^62)
  (q:R (Itr lo (hi-lo).toNat) H):wpAny (model X.prog X.w) X.A (pyIter (.ref s.heap.objs.size)) (PIE X pins σ tg R) E { s with heap:=s.heap.push { cls:=.type "range",data:=.fields #[.int lo t,.int hi u,.int 1 v] },toks:=tk }:=by
 refine wpAny_pyIter_range (IsRange.new ..) (small_one h1 h2 h3 h4) ?_
 have I1:Inv X pins σ H { s with heap:=s.heap.push { cls:=.type "range",data:=.fields #[.int lo t,.int hi u,.int 1 v] },toks:=tk }:=I.kept fun b o e=>Heap.get?_push_of_some _ e
 refine⟨(s.heap.push { cls:=.type "range",data:=.fields #[.int lo t,.int hi u,.int 1 v] }).objs.size,[(s.heap.push { cls:=.type "range",data:=.fields #[.int lo t,.int hi u,.int 1 v] }).objs.size],_,_,H,rfl,
  I1.kept (t':=tk) fun b o e=>Heap.get?_push_of_some _ e,uH _ lo (hi-lo).toNat,?_,fun b hb=>?_,q⟩
 ·have e1:lo+((0:Nat):Int)*1=lo:=by simp
  have e2:(((hi-lo).toNat:Nat):Int)-((0:Nat):Int)=Builtin.Range.rangeSize lo hi 1:=by rw[rangeSize_one];split <;> omega
  show IsRangeIter _ _ (lo+((0:Nat):Int)*1) ((((hi-lo).toNat:Nat):Int)-((0:Nat):Int)) 1
  rw[e1,e2]
  exact Heap.get?_push_size _ rfl
 ·have e:b=(s.heap.push { cls:=.type "range",data:=.fields #[.int lo t,.int hi u,.int 1 v] }).objs.size:=by simpa using hb
  subst e
  exact I1.fpOk (Nat.le_refl _) (I1.hok.fresh (Nat.le_refl _))
noncomputable def aA0 (ta:TA):TI:=fun σ H R=>ta σ H fun vs H1=>∃j:Int,vs=[.int j] /\ -(2^62)<=j/\j<2^62/\R (Itr 0 j.toNat) H1
theorem jX {a:Expr} {ta:TA} {p pos:Pos} (hg:Gl X "range") (hm:X.mg "range" = none) (ha:PA X [a] ta) (hs:autoParam (starEach [a] X.env=[(false,eval a X.env)]) L2.au4._auto_1):PI X tg (.Call (.Name "range" p) [a] [] pos) (aA0 ta):=by
 intro pins s σ H R I h
 refine Call_ (qV I hg hm boot_range (PyProof.Rows.callWith_type1 (thn (ha pos pins s σ H _ I h) fun us s1 ⟨vs,H1,I1,r1,q1⟩=>?_) hs rfl))
 obtain⟨j,e,q1,q2,q⟩:=q1
 subst e
 cases r1 with
 | cons r rr =>
  cases rr
  obtain⟨t,rfl⟩:=r
  exact call_range_1 (zJ I1 (by omega) (by omega) q1 q2 (by simpa using q))
noncomputable def kL (wi:TI) (g:TG) (tb:TS):TS:=fun D σ H=>wi σ H fun J H1=>∃W:Nat->Nat->St->Hp->Prop,(∃m,W 0 m σ H1)/\∀i m σ H,W i m σ H ->
 (J.stop i H/\D.nx σ H)\/(J.go i H/\∃N:St->Hp->Prop,(∀ σ' H',N σ' H'->∃m',m'<m/\W (i+1) m' σ' H')/\∀x H',J.yld i H x H'->g x σ H' fun σ2 H2=>tb { D with nx:=N,ct:=N,bk:=D.nx } σ2 H2)
noncomputable def qQ (fp:List Addr) (h:Heap):List (Addr×Obj):=fp.filterMap fun b=>(h.get? b).map fun o=>(b,o)
theorem fV {fp:List Addr} {h:Heap} {b:Addr} {o:Obj} (hb:b∈fp) (e:h.get? b=some o):(b,o)∈qQ fp h:=List.mem_filterMap.mpr ⟨b,hb,by rw[e];rfl⟩
theorem x6 {fp:List Addr} {h:Heap} {p:Addr×Obj} (hp:p∈qQ fp h):p.1∈fp/\h.get? p.1=some p.2:=by
 obtain⟨b,hb,e⟩:=List.mem_filterMap.mp hp
 cases q:h.get? b with
 | none=>rw[q] at e;cases e
 | some o =>
  rw[q] at e
  have e':(b,o)=p:=Option.some.inj e
  subst e'
  exact⟨hb,q⟩
theorem Inv.pinned {pins:List (Addr×Obj)} {σ:St} {H:Hp} {s:Shared} {fp:List Addr} (I:Inv X pins σ H s) (hf:∀b∈fp,sH X pins H b) (ho:∀b∈fp,∃o,s.heap.get? b=some o/\∀v,o.data ≠ .cell v):Inv X (pins++qQ fp s.heap) σ H s :=
 I.pins_of fun p hp=>(List.mem_append.mp hp).elim (fun z=>I.pin p (List.mem_append_right _ z)) fun z=>by
  obtain⟨hb,e⟩:=x6 z
  obtain⟨f0,f1,f2,_⟩:=hf p.1 hb
  obtain⟨o,e',d⟩:=ho p.1 hb
  rw[e] at e';cases e'
  exact⟨e,f0,f1,f2,d⟩
theorem Inv.unpinned {pins pl:List (Addr×Obj)} {σ:St} {H:Hp} {s:Shared} (I:Inv X (pins++pl) σ H s):Inv X pins σ H s:=I.pins_of fun p hp=>I.pin p (List.mem_append_right _ (List.mem_append_left _ hp))
theorem dN {iter:Expr} {body:List Stmt} {wi:TI} {g:TG} {tb:TS} {pos:Pos} (hp:PassesOwn (model X.prog X.w) X.A X.env X.xe) (hc:X.calm=true) (hi:PI X tg iter wi) (hg:PG X tg g) (hb:PSs X body tb)
  (hs:autoParam (∀x,foldedSetIterable iter X.env x=pure x) L2.au3._auto_1):PS X (.For tg iter body [] pos) (kL wi g tb):=by
 intro pins s σ H D I h
 refine wpAny_For (thn (hi pins s σ H _ I h) fun v s1 h1=>thn h1 fun itv s2 h2=>?_) hs
 obtain⟨it,fp,tn,J,H2,e,I2,T,st2,f2,W,⟨m0,w0⟩,turn⟩:=h2
 subst e
 have stat:∀ {H':Hp},(∀b∈fp,H' b=none)->∀b∈fp,sH X pins H' b:=fun hn b hb=>⟨hn b hb,(f2 b hb).2⟩
 refine codeAny_forLoop_any (fun n s'=>∃i σ' H',Inv X pins σ' H' s'/\tn i s'.heap/\(∀b∈fp,H' b=none)/\W i n σ' H') ?_ m0 ⟨0,σ,H2,I2,st2,fun b hb=>(f2 b hb).1,w0⟩
 rintro n s3 ⟨i,σ3,H3,I3,st3,fr3,w3⟩
 rcases turn i n σ3 H3 w3 with ⟨stop,qn⟩ | ⟨go,N,hN,step⟩
 ·refine wpAny_passesOwn hp (thn (T.done X rfl rfl rfl hc i pins s3 σ3 H3 X.xe I3 (stat fr3) st3 stop) fun r s4 ⟨hr,I4⟩=>?_)
  subst hr
  exact wpAny_execs_nil ⟨σ3,H3,I4,qn⟩
 ·refine wpAny_passesOwn hp (thn (T.item X rfl rfl rfl hc i pins s3 σ3 H3 X.xe I3 (stat fr3) st3 go) fun r s4 ⟨u,hr,h4⟩=>?_)
  subst hr
  refine wpAny_passesOwn hp (thn h4 fun _ s5 ⟨x,H5,I5,r5,y5,st5,fr5⟩=>?_)
  have I5':=I5.pinned (stat fr5) (T.obj _ _ st5)
  refine wpAny_passesOwn hp (thn (hg _ s5 σ3 H5 x u _ I5' r5 (step x H5 y5)) fun _ s6 ⟨σ6,H6,I6,q6⟩=>?_)
  refine wpAny_passesOwn hp (thn (hb _ s6 σ6 H6 _ I6 q6) fun f s7 q7=>?_)
  have again:∀ {σ7:St} {H7:Hp},Inv X (pins++qQ fp s5.heap) σ7 H7 s7->N σ7 H7->∃m,m<n/\∃i σ' H',Inv X pins σ' H' s7/\tn i s7.heap/\(∀b∈fp,H' b=none)/\W i m σ' H':=fun {σ7 H7} I7 n7=>by
   obtain⟨m',hm,w7⟩:=hN σ7 H7 n7
   refine⟨m',hm,i+1,σ7,H7,I7.unpinned,T.keep _ _ _ st5 fun b hb o e=>(I7.pin (b,o) (List.mem_append_right _ (List.mem_append_right _ (fV hb e)))).1,fun b hb=>?_,w7⟩
   obtain⟨o,e,d⟩:=T.obj _ _ st5 b hb
   exact(I7.pin (b,o) (List.mem_append_right _ (List.mem_append_right _ (fV hb e)))).2.1
  cases f with
  | next=>obtain⟨σ7,H7,I7,n7⟩:=q7;exact again I7 n7
  | cont=>obtain⟨σ7,H7,I7,n7⟩:=q7;exact again I7 n7
  | brk=>obtain⟨σ7,H7,I7,q7⟩:=q7;exact⟨σ7,H7,I7.unpinned,q7⟩
  | ret v=>obtain⟨x7,σ7,H7,I7,r7,q7⟩:=q7;exact⟨x7,σ7,H7,I7.unpinned,r7,q7⟩
end
theorem mX {K:PySem.W.Frag} {a:Addr} {xs:List V} {g:TG} {tb:TS} {D:Ends} {σ:St} {H:Hp} (Pv:Nat->St->Hp->Prop) (h0:Pv 0 σ H) (hl:∀i σ H,i<=xs.length->Pv i σ H->SqL K H a xs)
  (hs:∀i x σ H,xs[i]? = some x->Pv i σ H->g x σ H fun σ2 H2=>tb { D with nx:=Pv (i+1),ct:=Pv (i+1),bk:=D.nx } σ2 H2) (hd:∀ σ H,Pv xs.length σ H->D.nx σ H) :
  ∃W:Nat->Nat->St->Hp->Prop,(∃m,W 0 m σ H)/\∀i m σ H,W i m σ H ->
   ((Itl K a).stop i H/\D.nx σ H)\/((Itl K a).go i H/\∃N:St->Hp->Prop,(∀ σ' H',N σ' H'->∃m',m'<m/\W (i+1) m' σ' H')/\∀x H',(Itl K a).yld i H x H'->g x σ H' fun σ2 H2=>tb { D with nx:=N,ct:=N,bk:=D.nx } σ2 H2):=by
 refine⟨fun i m σ H=>m=xs.length-i/\i<=xs.length/\Pv i σ H,⟨xs.length,by simp,Nat.zero_le _,h0⟩,?_⟩
 rintro i m σ H ⟨rfl,hi,p⟩
 have q:=hl i σ H hi p
 by_cases hlt:i<xs.length
 ·refine .inr ⟨⟨xs,xs[i],q,by simp[hlt]⟩,Pv (i+1),fun σ' H' p'=>⟨xs.length-(i+1),by omega,rfl,hlt,p'⟩,fun x H' y=>?_⟩
  obtain⟨e,y⟩:=y
  subst e
  exact hs i x σ _ (y xs q) p
 ·have e:i=xs.length:=by omega
  subst e
  exact .inl ⟨⟨xs,q,Nat.le_refl _⟩,hd σ H p⟩
theorem fX {K:PySem.W.Frag} {a:Addr} {xs:List V} {g:TG} {tb:TS} {D:Ends} {σ:St} {H:Hp} (Pv:Nat->St->Hp->Prop) (h0:Pv 0 σ H) (hl:∀i σ H,i<=xs.length->Pv i σ H->SqT K H a xs)
  (hs:∀i x σ H,xs[i]? = some x->Pv i σ H->g x σ H fun σ2 H2=>tb { D with nx:=Pv (i+1),ct:=Pv (i+1),bk:=D.nx } σ2 H2) (hd:∀ σ H,Pv xs.length σ H->D.nx σ H) :
  ∃W:Nat->Nat->St->Hp->Prop,(∃m,W 0 m σ H)/\∀i m σ H,W i m σ H ->
   ((Itt K a).stop i H/\D.nx σ H)\/((Itt K a).go i H/\∃N:St->Hp->Prop,(∀ σ' H',N σ' H'->∃m',m'<m/\W (i+1) m' σ' H')/\∀x H',(Itt K a).yld i H x H'->g x σ H' fun σ2 H2=>tb { D with nx:=N,ct:=N,bk:=D.nx } σ2 H2):=by
 refine⟨fun i m σ H=>m=xs.length-i/\i<=xs.length/\Pv i σ H,⟨xs.length,by simp,Nat.zero_le _,h0⟩,?_⟩
 rintro i m σ H ⟨rfl,hi,p⟩
 have q:=hl i σ H hi p
 by_cases hlt:i<xs.length
 ·refine .inr ⟨⟨xs,xs[i],q,by simp[hlt]⟩,Pv (i+1),fun σ' H' p'=>⟨xs.length-(i+1),by omega,rfl,hlt,p'⟩,fun x H' y=>?_⟩
  obtain⟨e,y⟩:=y
  subst e
  exact hs i x σ _ (y xs q) p
 ·have e:i=xs.length:=by omega
  subst e
  exact .inl ⟨⟨xs,q,Nat.le_refl _⟩,hd σ H p⟩
theorem yL {lo:Int} {n:Nat} {g:TG} {tb:TS} {D:Ends} {σ:St} {H:Hp} (Pv:Nat->St->Hp->Prop) (h0:Pv 0 σ H)
  (hs:∀i σ H,i<n->Pv i σ H->g (.int (lo+i)) σ H fun σ2 H2=>tb { D with nx:=Pv (i+1),ct:=Pv (i+1),bk:=D.nx } σ2 H2) (hd:∀ σ H,Pv n σ H->D.nx σ H) :
  ∃W:Nat->Nat->St->Hp->Prop,(∃m,W 0 m σ H)/\∀i m σ H,W i m σ H ->
   ((Itr lo n).stop i H/\D.nx σ H)\/((Itr lo n).go i H/\∃N:St->Hp->Prop,(∀ σ' H',N σ' H'->∃m',m'<m/\W (i+1) m' σ' H')/\∀x H',(Itr lo n).yld i H x H'->g x σ H' fun σ2 H2=>tb { D with nx:=N,ct:=N,bk:=D.nx } σ2 H2):=by
 refine⟨fun i m σ H=>m=n-i/\i<=n/\Pv i σ H,⟨n,by simp,Nat.zero_le _,h0⟩,?_⟩
 rintro i m σ H ⟨rfl,hi,p⟩
 by_cases hlt:i<n
 ·refine .inr ⟨hlt,Pv (i+1),fun σ' H' p'=>⟨n-(i+1),by omega,rfl,hlt,p'⟩,fun x H' y=>?_⟩
  obtain⟨e,y⟩:=y
  subst e y
  exact hs i σ _ hlt p
 ·have e:i=n:=by omega
  subst e
  exact .inl ⟨Nat.le_refl _,hd σ H p⟩
end L2
namespace L2
open PySem PySem.Spec PyProof.Rows
noncomputable abbrev R2:=V->V->Hp->VK->Prop
noncomputable def OpR (X:Cx) (f:Value->Value->Sem Value) (r:R2):Prop :=
 ∀(pins:List (Addr×Obj)) (s:Shared) (σ:St) (H:Hp) (x y:V) (v u:Value) (Q:VK),Inv X pins σ H s->RelV x v->RelV y u->r x y H Q ->
  wpAny (model X.prog X.w) X.A (f v u) (EP X pins σ Q) X.xe s
noncomputable def UnR (X:Cx) (f:Value->Sem Value) (r:V->Hp->VK->Prop):Prop :=
 ∀(pins:List (Addr×Obj)) (s:Shared) (σ:St) (H:Hp) (x:V) (v:Value) (Q:VK),Inv X pins σ H s->RelV x v->r x H Q ->
  wpAny (model X.prog X.w) X.A (f v) (EP X pins σ Q) X.xe s
noncomputable def d6 (X:Cx) (f:Value) (r:List V->Hp->VK->Prop):Prop :=
 ∀(pins:List (Addr×Obj)) (s:Shared) (σ:St) (H:Hp) (xs:List V) (us:List Value) (Q:VK),Inv X pins σ H s->Vals xs us->r xs H Q ->
  wpAny (model X.prog X.w) X.A (call f us) (EP X pins σ Q) X.xe s
noncomputable def tOp (r:R2) (ta tb:TE):TE:=fun σ H Q=>ta σ H fun x H1=>tb σ H1 fun y H2=>r x y H2 Q
noncomputable def tUn (r:V->Hp->VK->Prop) (ta:TE):TE:=fun σ H Q=>ta σ H fun x H1=>r x H1 Q
noncomputable def rI (C:Int->Int->Prop) (g:Int->Int->V):R2:=fun x y H Q=>∃i j,x=.int i/\y=.int j/\C i j/\Q (g i j) H
noncomputable def rI0 (g:Int->Int->V):R2:=fun x y H Q=>∃i j,x=.int i/\y=.int j/\Q (g i j) H
noncomputable def rU (g:Int->V):V->Hp->VK->Prop:=fun x H Q=>∃i,x=.int i/\Q (g i) H
section
variable {X:Cx} {a b c:Expr} {ta tb tc:TE} {pos:Pos}
theorem aFk (ha:PE X a ta) (hb:PE X b tb) {pins:List (Addr×Obj)} {s:Shared} {σ:St} {H:Hp} {R:V->V->Hp->Prop} (I:Inv X pins σ H s)
  (h:ta σ H fun x H1=>tb σ H1 fun y H2=>R x y H2) {Q:Value->Shared->Prop} {f:Value->Value->Sem Value}
  (hf:∀v u s2 x y H2,Inv X pins σ H2 s2->RelV x v->RelV y u->R x y H2->wpAny (model X.prog X.w) X.A (f v u) Q X.xe s2) :
  wpAny (model X.prog X.w) X.A (eval a X.env) (fun v s₁=>wpAny (model X.prog X.w) X.A (eval b X.env) (fun u s₂=>wpAny (model X.prog X.w) X.A (f v u) Q X.xe s₂) X.xe s₁) X.xe s:=by
 refine thn (ha pins s σ H _ I h) fun v s1 ⟨x,H1,I1,r1,q1⟩=>?_
 refine thn (hb pins s1 σ H1 _ I1 q1) fun u s2 ⟨y,H2,I2,r2,q2⟩=>?_
 exact hf v u s2 x y H2 I2 r1 r2 q2
theorem aH {op:Operator} {r:R2} (ho:OpR X (binaryOp op) r) (ha:PE X a ta) (hb:PE X b tb):PE X (.BinOp a op b pos) (tOp r ta tb):=by
 intro pins s σ H Q I h
 exact wpAny_BinOp (aFk ha hb I h fun v u s2 x y H2 I2 rx ry q=>ho pins s2 σ H2 x y v u Q I2 rx ry q)
theorem zY {op:UnaryOp} {r:V->Hp->VK->Prop} (ho:UnR X (unaryOp op) r) (ha:PE X a ta):PE X (.UnaryOp op a pos) (tUn r ta):=by
 intro pins s σ H Q I h
 exact UnaryOp_ (thn (ha pins s σ H _ I h) fun v s1 ⟨x,H1,I1,r1,q1⟩=>ho pins s1 σ H1 x v Q I1 r1 q1)
theorem opI {f:Value->Value->Sem Value} {C:Int->Int->Prop} {g:Int->Int->Int}
  (rule:∀(i j:Int) (t u:Tok) (s:Shared) (Q:Value->Shared->Prop) (E:Value->Shared->Prop),C i j->Q (.int (g i j) s.toks) { s with toks:=s.toks+1 }->wpAny (model X.prog X.w) X.A (f (.int i t) (.int j u)) Q E s) :
  OpR X f (rI C fun i j=>.int (g i j)):=by
 intro pins s σ H x y v u Q I rx ry h
 obtain⟨i,j,rfl,rfl,hc,q⟩:=h
 obtain⟨t,rfl⟩:=rx
 obtain⟨t',rfl⟩:=ry
 exact rule i j t t' s _ _ hc ⟨.int (g i j),H,I.tok _,⟨_,rfl⟩,q⟩
theorem aFy {f:Value->Value->Sem Value} {g:Int->Int->Int}
  (rule:∀(i j:Int) (t u:Tok) (s:Shared) (Q:Value->Shared->Prop) (E:Value->Shared->Prop),Q (.int (g i j) s.toks) { s with toks:=s.toks+1 }->wpAny (model X.prog X.w) X.A (f (.int i t) (.int j u)) Q E s) :
  OpR X f (rI0 fun i j=>.int (g i j)):=by
 intro pins s σ H x y v u Q I rx ry h
 obtain⟨i,j,rfl,rfl,q⟩:=h
 obtain⟨t,rfl⟩:=rx
 obtain⟨t',rfl⟩:=ry
 exact rule i j t t' s _ _ ⟨.int (g i j),H,I.tok _,⟨_,rfl⟩,q⟩
theorem aCr {f:Value->Value->Sem Value} {g:Int->Int->Bool}
  (rule:∀(i j:Int) (t u:Tok) (s:Shared) (Q:Value->Shared->Prop) (E:Value->Shared->Prop),Q (.bool (g i j)) s->wpAny (model X.prog X.w) X.A (f (.int i t) (.int j u)) Q E s) :
  OpR X f (rI0 fun i j=>.bl (g i j)):=by
 intro pins s σ H x y v u Q I rx ry h
 obtain⟨i,j,rfl,rfl,q⟩:=h
 obtain⟨t,rfl⟩:=rx
 obtain⟨t',rfl⟩:=ry
 exact rule i j t t' s _ _ ⟨.bl (g i j),H,I,rfl,q⟩
noncomputable def aGf (i j:Int):Prop:=0<=j/\j<=1000000/\i.natAbs<2^64
noncomputable def CMul (i j:Int):Prop:=(-(2^64)<i/\i<2^64)\/(-(2^64)<j/\j<2^64)
theorem CMul.ok {i j:Int} (h:CMul i j):IntMulOk i j:=by
 rcases h with ⟨h1,h2⟩ | ⟨h1,h2⟩
 ·exact .of_left (intBits_le_64 h1 h2)
 ·exact .of_right (intBits_le_64 h1 h2)
theorem bQ:OpR X (binaryOp .Add) (rI0 fun i j=>.int (i+j)):=aFy fun _ _ _ _ _ _ _ q=>add_int q
theorem bE:OpR X (binaryOp .Sub) (rI0 fun i j=>.int (i-j)):=aFy fun _ _ _ _ _ _ _ q=>sub_int q
theorem bI:OpR X (binaryOp .Mod) (rI (fun _ j=>0<j) fun i j=>.int (i%j)):=opI fun i j _ _ _ _ _ hc q=>by
 have h1:(0:Int)<j:=hc
 exact mod_int' (by omega) (by rw[Int.fmod_eq_emod_of_nonneg i (by omega)];exact q)
theorem jZ:OpR X (binaryOp .Pow) (rI aGf fun i j=>.int (i^j.toNat)):=opI fun _ _ _ _ _ _ _ hc q=>pow_int_small hc.1 hc.2.1 hc.2.2 q
theorem unI {f:Value->Sem Value} {g:Int->Int}
  (rule:∀(i:Int) (t:Tok) (s:Shared) (Q:Value->Shared->Prop) (E:Value->Shared->Prop),Q (.int (g i) s.toks) { s with toks:=s.toks+1 }->wpAny (model X.prog X.w) X.A (f (.int i t)) Q E s) :
  UnR X f (rU fun i=>.int (g i)):=by
 intro pins s σ H x v Q I rx h
 obtain⟨i,rfl,q⟩:=h
 obtain⟨t,rfl⟩:=rx
 exact rule i t s _ _ ⟨.int (g i),H,I.tok _,⟨_,rfl⟩,q⟩
theorem uF:UnR X (unaryOp .USub) (rU fun i=>.int (-i)):=unI fun _ _ _ _ _ q=>neg_int q
end
noncomputable def scal:V->V->Bool
 | .non,.non=>true | .non,.int _=>true | .int _,.non=>true | .non,.bl _=>true | .bl _,.non=>true | .non,.str _=>true | .str _,.non=>true
 | .int _,.int _=>true | .bl _,.bl _=>true | .str _,.str _=>true | .byt _,.byt _=>true
 | .int _,.str _=>true | .str _,.int _=>true | .bl _,.str _=>true | .str _,.bl _=>true
 | _,_=>false
noncomputable def rEq:R2:=fun x y H Q=>scal x y=true/\Q (.bl (decide (x=y))) H
noncomputable def rNe:R2:=fun x y H Q=>scal x y=true/\Q (.bl (!decide (x=y))) H
theorem wW {i j:Int}:decide (V.int i=V.int j)=(i==j):=by
 rw[Bool.eq_iff_iff]
 simp
theorem aBe {i j:Bool}:decide (V.bl i=V.bl j)=(i==j):=by
 rw[Bool.eq_iff_iff]
 simp
theorem wV {i j:Str}:decide (V.str i=V.str j)=(i==j):=by
 rw[Bool.eq_iff_iff]
 simp
theorem wX {i j:Array UInt8}:decide (V.byt i=V.byt j)=(i.toList==j.toList):=by
 rw[Bool.eq_iff_iff]
 cases i
 cases j
 simp
section
variable {X:Cx} {a b c:Expr} {ta tb tc:TE} {pos:Pos}
theorem bW {pins:List (Addr×Obj)} {σ:St} {H:Hp} {s:Shared} {Q:VK} {k k':Bool} (I:Inv X pins σ H s) (q:Q (.bl k) H) (e:k=k'):EP X pins σ Q (.bool k') s:=by
 subst e
 exact⟨.bl k,H,I,rfl,q⟩
theorem cC:OpR X (compareOp .Eq) rEq:=by
 intro pins s σ H x y v u Q I rx ry h
 obtain⟨hs,q⟩:=h
 cases x with
 | non =>
  cases rx
  cases y with
  | non=>cases ry;exact PySem.EqNone.eq_none_none (bW I q (by simp))
  | bl j=>cases ry;exact PySem.EqNone.eq_none_bool (bW I q (by simp))
  | int j=>obtain⟨t',rfl⟩:=ry;exact PySem.EqNone.eq_none_int (bW I q (by simp))
  | str j=>obtain⟨t',rfl⟩:=ry;exact PySem.EqNone.eq_none_str (bW I q (by simp))
  | _=>exact absurd (show false=true from hs) Bool.false_ne_true
 | bl i =>
  cases rx
  cases y with
  | non=>cases ry;exact PySem.EqNone.eq_bool_none (bW I q (by simp))
  | bl j=>cases ry;exact eq_bool (bW I q aBe)
  | str j=>obtain⟨t',rfl⟩:=ry;exact PySem.EqMixed.eq_bool_str (bW I q (by simp))
  | _=>exact absurd (show false=true from hs) Bool.false_ne_true
 | int i =>
  obtain⟨t,rfl⟩:=rx
  cases y with
  | non=>cases ry;exact PySem.EqNone.eq_int_none (bW I q (by simp))
  | int j=>obtain⟨t',rfl⟩:=ry;exact eq_int (bW I q wW)
  | str j=>obtain⟨t',rfl⟩:=ry;exact PySem.EqMixed.eq_int_str (bW I q (by simp))
  | _=>exact absurd (show false=true from hs) Bool.false_ne_true
 | str i =>
  obtain⟨t,rfl⟩:=rx
  cases y with
  | non=>cases ry;exact PySem.EqNone.eq_str_none (bW I q (by simp))
  | bl j=>cases ry;exact PySem.EqMixed.eq_str_bool (bW I q (by simp))
  | int j=>obtain⟨t',rfl⟩:=ry;exact PySem.EqMixed.eq_str_int (bW I q (by simp))
  | str j=>obtain⟨t',rfl⟩:=ry;exact eq_str (bW I q wV)
  | _=>exact absurd (show false=true from hs) Bool.false_ne_true
 | byt i =>
  obtain⟨t,rfl⟩:=rx
  cases y with
  | byt j=>obtain⟨t',rfl⟩:=ry;exact PySem.W.eq_bytes (bW I q wX)
  | _=>exact absurd (show false=true from hs) Bool.false_ne_true
 | _=>cases y <;> exact absurd (show false=true from hs) Bool.false_ne_true
theorem cV:OpR X (compareOp .NotEq) rNe:=by
 intro pins s σ H x y v u Q I rx ry h
 obtain⟨hs,q⟩:=h
 cases x with
 | non =>
  cases rx
  cases y with
  | non=>cases ry;exact PySem.EqNone.ne_none_none (bW I q (by simp))
  | bl j=>cases ry;exact PySem.EqNone.ne_none_bool (bW I q (by simp))
  | int j=>obtain⟨t',rfl⟩:=ry;exact PySem.EqNone.ne_none_int (bW I q (by simp))
  | str j=>obtain⟨t',rfl⟩:=ry;exact PySem.EqNone.ne_none_str (bW I q (by simp))
  | _=>exact absurd (show false=true from hs) Bool.false_ne_true
 | bl i =>
  cases rx
  cases y with
  | non=>cases ry;exact PySem.EqNone.ne_bool_none (bW I q (by simp))
  | bl j=>cases ry;exact ne_bool (bW I q (congrArg not aBe))
  | str j=>obtain⟨t',rfl⟩:=ry;exact PySem.EqMixed.ne_bool_str (bW I q (by simp))
  | _=>exact absurd (show false=true from hs) Bool.false_ne_true
 | int i =>
  obtain⟨t,rfl⟩:=rx
  cases y with
  | non=>cases ry;exact PySem.EqNone.ne_int_none (bW I q (by simp))
  | int j=>obtain⟨t',rfl⟩:=ry;exact ne_int (bW I q (congrArg not wW))
  | str j=>obtain⟨t',rfl⟩:=ry;exact PySem.EqMixed.ne_int_str (bW I q (by simp))
  | _=>exact absurd (show false=true from hs) Bool.false_ne_true
 | str i =>
  obtain⟨t,rfl⟩:=rx
  cases y with
  | non=>cases ry;exact PySem.EqNone.ne_str_none (bW I q (by simp))
  | bl j=>cases ry;exact PySem.EqMixed.ne_str_bool (bW I q (by simp))
  | int j=>obtain⟨t',rfl⟩:=ry;exact PySem.EqMixed.ne_str_int (bW I q (by simp))
  | str j=>obtain⟨t',rfl⟩:=ry;exact ne_str (bW I q (congrArg not wV))
  | _=>exact absurd (show false=true from hs) Bool.false_ne_true
 | byt i =>
  obtain⟨t,rfl⟩:=rx
  cases y with
  | byt j=>obtain⟨t',rfl⟩:=ry;exact PySem.W.ne_bytes (bW I q (congrArg not wX))
  | _=>exact absurd (show false=true from hs) Bool.false_ne_true
 | _=>cases y <;> exact absurd (show false=true from hs) Bool.false_ne_true
theorem gK:OpR X (compareOp .Lt) (rI0 fun i j=>.bl (decide (i<j))):=aCr fun _ _ _ _ _ _ _ q=>lt_int q
theorem hU:OpR X (compareOp .LtE) (rI0 fun i j=>.bl (decide (i<=j))):=aCr fun _ _ _ _ _ _ _ q=>le_int q
theorem eL:OpR X (compareOp .Gt) (rI0 fun i j=>.bl (decide (j<i))):=aCr fun _ _ _ _ _ _ _ q=>gt_int q
theorem aAf:OpR X (compareOp .GtE) (rI0 fun i j=>.bl (decide (j<=i))):=aCr fun _ _ _ _ _ _ _ q=>ge_int q
theorem nomark (b:Expr) {op:CmpOp} (h:autoParam (op ≠ .In) L2.au1._auto_1) (h2:autoParam (op ≠ .NotIn) L2.au1._auto_1):behindInMarks op b=false:=by
 have e1:(op==CmpOp.In)=false:=by cases op <;> first | rfl | exact absurd rfl h
 have e2:(op==CmpOp.NotIn)=false:=by cases op <;> first | rfl | exact absurd rfl h2
 cases b <;> simp[behindInMarks,e1,e2]
theorem cH {op:CmpOp} {r:R2} (ho:OpR X (compareOp op) r) (ha:PE X a ta) (hb:PE X b tb) (hm:behindInMarks op b=false):PE X (.Compare a [op] [b] pos) (tOp r ta tb):=by
 intro pins s σ H Q I h
 exact wpAny_Compare1 (aFk ha hb I h fun v u s2 x y H2 I2 rx ry q=>ho pins s2 σ H2 x y v u Q I2 rx ry q) hm
noncomputable def fF (t:TE):TT:=fun σ H Q=>t σ H fun x H'=>∃k,x=.bl k/\Q k H'
theorem aL {op:CmpOp} {r:R2} (ho:OpR X (compareOp op) r) (ha:PE X a ta) (hb:PE X b tb) (hm:behindInMarks op b=false):PT X (.Compare a [op] [b] pos) (fF (tOp r ta tb)):=by
 intro pins s σ H Q I h
 refine wpAny_isTrue_Compare1 (thn (ha pins s σ H _ I h) fun v s1 ⟨x,H1,I1,r1,q1⟩=>thn (hb pins s1 σ H1 _ I1 q1) fun u s2 ⟨y,H2,I2,r2,q2⟩ =>
  thn (ho pins s2 σ H2 x y v u _ I2 r1 r2 q2) fun c s3 ⟨z,H3,I3,r3,k,e,q3⟩=>?_) hm
 subst e
 cases r3
 exact wpAny_truthy_bool ⟨H3,I3,q3⟩
noncomputable def fB (r r':R2) (ta tb tc:TE):TE:=fun σ H Q=>ta σ H fun x H1=>tb σ H1 fun y H2=>r x y H2 fun z H3=>∃k,z=.bl k /\
 (if k=true then tc σ H3 fun w' H4=>r' y w' H4 Q else Q (.bl false) H3)
theorem z6 {op op':CmpOp} {r r':R2} (ho:OpR X (compareOp op) r) (ho':OpR X (compareOp op') r') (ha:PE X a ta) (hb:PE X b tb) (hc:PE X c tc)
  (hm:autoParam (lastMarks [op,op'] [b,c]=false) L2.au5._auto_1):PE X (.Compare a [op,op'] [b,c] pos) (fB r r' ta tb tc):=by
 intro pins s σ H Q I h
 refine Compare_chain (thn (ha pins s σ H _ I h) fun v s1 ⟨x,H1,I1,r1,q1⟩=>chain_link (thn (hb pins s1 σ H1 _ I1 q1) fun u s2 ⟨y,H2,I2,r2,q2⟩ =>
  thn (ho pins s2 σ H2 x y v u _ I2 r1 r2 q2) fun d s3 ⟨z,H3,I3,r3,k,e,q3⟩=>?_)) hm
 subst e
 cases r3
 refine wpAny_truthy_bool ?_
 cases k with
 | false=>exact ite_ff ⟨.bl false,H3,I3,rfl,q3⟩
 | true=>exact ite_tt (chain_last (thn (hc pins s3 σ H3 _ I3 q3) fun w' s4 ⟨z',H4,I4,r4,q4⟩=>ho' pins s4 σ H4 y z' u w' Q I4 r2 r4 q4))
theorem iY {op op':CmpOp} {r r':R2} (ho:OpR X (compareOp op) r) (ho':OpR X (compareOp op') r') (ha:PE X a ta) (hb:PE X b tb) (hc:PE X c tc)
  (hm:autoParam (lastMarks [op,op'] [b,c]=false) L2.au5._auto_1):PT X (.Compare a [op,op'] [b,c] pos) (fF (fB r r' ta tb tc)):=by
 intro pins s σ H Q I h
 refine isTrue_chain (thn (ha pins s σ H _ I h) fun v s1 ⟨x,H1,I1,r1,q1⟩=>test_link (thn (hb pins s1 σ H1 _ I1 q1) fun u s2 ⟨y,H2,I2,r2,q2⟩ =>
  thn (ho pins s2 σ H2 x y v u _ I2 r1 r2 q2) fun d s3 ⟨z,H3,I3,r3,k,e,q3⟩=>?_)) hm
 subst e
 cases r3
 refine wpAny_truthy_bool ?_
 cases k with
 | false =>
  obtain⟨k',e',q'⟩:=q3
  cases e'
  exact ite_ff ⟨H3,I3,q'⟩
 | true =>
  refine ite_tt (test_last (thn (hc pins s3 σ H3 _ I3 q3) fun w' s4 ⟨z',H4,I4,r4,q4⟩=>thn (ho' pins s4 σ H4 y z' u w' _ I4 r2 r4 q4) fun d' s5 ⟨z2,H5,I5,r5,k2,e2,q5⟩=>?_))
  subst e2
  cases r5
  exact wpAny_truthy_bool ⟨H5,I5,q5⟩
theorem qU:(sizeLine:Nat)<2^63:=by rw[sizeLine_eq];decide
theorem lE {x:V} {us:List Value} (r:Vals [x] us):∃u,us=[u]/\RelV x u:=by
 cases r with
 | cons r1 r2=>cases r2;exact⟨_,rfl,r1⟩
theorem kB {x y:V} {us:List Value} (r:Vals [x,y] us):∃u w',us=[u,w']/\RelV x u/\RelV y w':=by
 cases r with
 | cons r1 r2 =>
  cases r2 with
  | cons r3 r4=>cases r4;exact⟨_,_,rfl,r1,r3⟩
theorem jP:d6 X (.builtin "abs") (fun xs H Q=>∃i,xs=[.int i]/\Q (.int (if i<0 then -i else i)) H):=by
 intro pins s σ H xs us Q I r h
 obtain⟨i,rfl,q⟩:=h
 obtain⟨u,rfl,t,rfl⟩:=lE r
 exact call_abs_int fun u tk=>⟨.int (if i<0 then -i else i),H,I.tok _,⟨_,rfl⟩,q⟩
theorem pO (hc:X.calm=true):d6 X (.builtin "max") (fun xs H Q=>∃i j,xs=[.int i,.int j]/\Q (.int (if j>i then j else i)) H):=by
 intro pins s σ H xs us Q I r h
 obtain⟨i,j,rfl,q⟩:=h
 obtain⟨u,w',rfl,⟨t,rfl⟩,⟨t',rfl⟩⟩:=kB r
 refine max_two_ints (I.ok.hd hc) fun h' tk k=>⟨_,H,I.kept k,?_,q⟩
 by_cases hj:j>i
 ·rw[if_pos hj,if_pos hj];exact⟨_,rfl⟩
 ·rw[if_neg hj,if_neg hj];exact⟨_,rfl⟩
theorem pM (hc:X.calm=true):d6 X (.builtin "min") (fun xs H Q=>∃i j,xs=[.int i,.int j]/\Q (.int (if j<i then j else i)) H):=by
 intro pins s σ H xs us Q I r h
 obtain⟨i,j,rfl,q⟩:=h
 obtain⟨u,w',rfl,⟨t,rfl⟩,⟨t',rfl⟩⟩:=kB r
 refine min_two_ints (I.ok.hd hc) fun h' tk k=>⟨_,H,I.kept k,?_,q⟩
 by_cases hj:j<i
 ·rw[if_pos hj,if_pos hj];exact⟨_,rfl⟩
 ·rw[if_neg hj,if_neg hj];exact⟨_,rfl⟩
theorem rY:d6 X (.type "str") (fun xs H Q=>∃i,xs=[.int i]/\i.natAbs.log2<1920/\Q (.str (toString i)) H):=by
 intro pins s σ H xs us Q I r h
 obtain⟨i,rfl,hz,q⟩:=h
 obtain⟨u,rfl,t,rfl⟩:=lE r
 exact PySem.P.str_of_int hz ⟨.str _,H,I.tok _,⟨_,rfl⟩,q⟩
end
end L2
namespace L2
open PySem PySem.Spec PyProof.Rows
structure ObjM (h:Heap) (x dx C:Addr) (mA:Str->Option Value):Prop where
 obj:h.get? x=some (PySem.W.instObj C dx)
 ns:h.Ns1 dx mA
 ne:dx≠x
theorem yB {h:Heap} {dx:Addr} {mA:Str->Option Value} (n:h.Ns1 dx mA):∃od,h.get? dx=some od/\∀name,PySem.W.lookIn name od=some (mA name):=by
 obtain⟨o,es,ep,ho,hd,hk,_,hm⟩:=n
 refine⟨o,ho,fun name=>?_⟩
 have e:=hm name
 unfold nsFind findBy at e
 rw[<- Array.find?_toList] at e
 unfold PySem.W.lookIn
 rw[hd]
 dsimp only
 split
 ·rename_i y q
  rw[q] at e
  exact congrArg some e
 ·rename_i q
  rw[q] at e
  have a:es.toList.any (·.refKey)=false:=by
   rw[List.any_eq_false]
   intro y hy
   obtain⟨z,t,hkey⟩:=hk y (Array.mem_toList_iff.mp hy)
   simp[DictEntry.refKey,hkey]
  have a':¬ es.toList.any (·.refKey)=true:=by rw[a];exact Bool.false_ne_true
  rw[if_neg a']
  exact congrArg some e
theorem ObjM.look {h:Heap} {x dx C:Addr} {mA:Str->Option Value} (I:ObjM h x dx C mA):∃od,PySem.W.InstAt h x (PySem.W.instObj C dx) C (some od)/\∀name,PySem.W.lookIn name od=some (mA name) :=
 let ⟨od,ho,hl⟩:=yB I.ns
 ⟨od,⟨I.obj,rfl,rfl,ho⟩,hl⟩
section
variable {prog:Program} {w:World} {A:Around} {E:Value->Shared->Prop} {s:Shared} {K:PySem.W.Frag} {x dx C f:Addr} {mA:Str->Option Value} {name:Str} {v:Value}
end
theorem RelO.some_of {v:V} {o:Option Value} (r:RelO (some v) o):∃u,o=some u/\RelV v u:=by
 cases o with
 | none=>exact(show False from r).elim
 | some u=>exact⟨u,rfl,r⟩
section
variable {P:Program} {w:World} {H H':Hp} {h h':Heap} {a C dx:Addr} {fs fs':List (Str×V)}
theorem aC4 (hok:HOk P w H h) (e:H a=some (.ins C dx fs)):∃mA,ObjM h a dx C mA/\(∀f,RelO (fs.lookup f) (mA f))/\PySem.Within mA (fs.map (·.1))/\fs.length<=1000/\H dx=some (.own a):=by
 obtain⟨d,z,ne,ob,mA,n,r,q⟩:=(show ObjOk P w H h a (.ins C dx fs) from hok a _ e)
 exact⟨mA,⟨ob,n,ne⟩,r,q,z,d⟩
end
structure Cls (K:PySem.W.Frag) (C:Addr):Prop where
 pg:PySem.W.plainGet K C Str.empty=true
 hd:PySem.W.hasDictIn K C=true
 po:PySem.W.plainOver K C=true
 sa:PySem.W.findIn K (.ref C) "__setattr__" = some (some (.builtin "object.__setattr__"))
theorem Cls.get {K:PySem.W.Frag} {C:Addr} (c:Cls K C) (f:Str):PySem.W.plainGet K C f=true:=c.pg
structure Con (K:PySem.W.Frag) (C:Addr) (f:Str) (v:V) (u:Value):Prop where
 at_:PySem.W.findIn K (.ref C) f=some (some u)
 rel:RelV v u
 get:PySem.W.specialIn K u "__get__" = some none
 cp:PySem.W.copiedNames.contains f=false
structure Meth (K:PySem.W.Frag) (C:Addr) (m:Str) (f:Addr):Prop where
 at_:PySem.W.findIn K (.ref C) m=some (some (.ref f))
 fn:PySem.W.isFn K (.ref f)=true
 kp:PySem.W.keepIn K (.ref f)=true
section
variable {X:Cx} {pins:List (Addr×Obj)} {σ:St} {H:Hp} {s:Shared} {a C dx:Addr} {fs:List (Str×V)} {f:Str} {v:V} {A:Around} {E:Value->Shared->Prop}
end
section
variable {X:Cx} {o e value:Expr} {f:Str} {pos pos' tpos:Pos} {ta tv:TE}
end
section
variable {X:Cx} {pins:List (Addr×Obj)} {σ:St} {H:Hp} {s:Shared} {A:Around} {E:Value->Shared->Prop} {Q:Value->Shared->Prop} {c:Value} {b:Bool}
inductive TyOf (K:PySem.W.Frag) (H:Hp):V->Value->Prop where
 | non:TyOf K H .non (.type "NoneType")
 | bl (x:Bool):TyOf K H (.bl x) (.type "bool")
 | int (i:Int):TyOf K H (.int i) (.type "int")
 | str (x:Str):TyOf K H (.str x) (.type "str")
 | flt (x:UInt64):TyOf K H (.flt x) (.type "float")
 | lst {a:Addr} {xs:List V} (e:H a=some (.lst xs)):TyOf K H (.ref a) (.type "list")
 | frz {a:Addr} {o:Obj} {xs:List V} (e:H a=some (.frz o (.lst xs))):TyOf K H (.ref a) (.type "list")
 | tup {a:Addr} {xs:List V} (e:H a=some (.tup xs)):TyOf K H (.ref a) (.type "tuple")
 | dK {a:Addr} {kvs:List (Key×V)} (e:H a=some (.dK kvs)):TyOf K H (.ref a) (.type "dict")
 | dT {a:Addr} {kvs:List (List Key×V)} (e:H a=some (.dT kvs)):TyOf K H (.ref a) (.type "dict")
 | ins {a C dx:Addr} {fs:List (Str×V)} (e:H a=some (.ins C dx fs)) (cl:Cls K C) (ha:PySem.W.findIn K (.ref C) "__class__" = some (some (.builtin "object.__class__")))
   (hn:PySem.W.specialIn K (.builtin "object.__class__") "__get__" = some (some (.builtin "getset_descriptor.__get__"))) (htk:PySem.W.takesIn K (.builtin "object.__class__")=some true)
   (hm:PySem.W.mroIn K C (.type "object")=some true):TyOf K H (.ref a) (.ref C)
end
end L2
namespace L2
open PySem PySem.Spec PyProof.Rows
structure Room (k:Nat) (A:Around):Prop where
 hd:A.handled=none
 dp:A.depth+3*k+5<recursionLimit
 un:A.units+16*k+200<cLine
 gd:A.guards=some []
theorem Room.mono {j k:Nat} {A:Around} (r:Room k A) (h:j<=k):Room j A:=⟨r.hd,by have:=r.dp;omega,by have:=r.un;omega,r.gd⟩
theorem Room.deeper {k:Nat} {A:Around} (r:Room (k+1) A) (env:Env):Room k (A.deeper env) :=
 ⟨r.hd,by have:=r.dp;show A.depth+1+3*k+5<_;omega,by have:=r.un;show A.units+3+16*k+200<_;omega,r.gd⟩
theorem Room.depth {k:Nat} {A:Around} (r:Room k A):A.depth<recursionLimit:=by have:=r.dp;omega
noncomputable def iC:TA:=fun _ H Q=>Q [] H
noncomputable def eJ (ta:TE) (tr:TA):TA:=fun σ H Q=>ta σ H fun x H1=>tr σ H1 fun xs H2=>Q (x::xs) H2
section
variable {X:Cx} {e:Expr} {es:List Expr} {te:TE} {t:TA} {pos:Pos}
theorem aF:PA X [] iC:=fun _ _ _ _ H Q I h=>Calls.spliced_nil ⟨[],H,I,.nil,h⟩
theorem aA (ha:PE X e te) (hr:PA X es t) (hs:autoParam (starEach (e::es) X.env=(false,eval e X.env)::starEach es X.env) L2.au4._auto_1):PA X (e::es) (eJ te t):=by
 intro pos pins s σ H Q I h
 rw[hs]
 show wpAny _ _ (spliced ((false,eval e X.env)::backTo pos (starEach es X.env))) _ _ s
 refine Calls.spliced_cons (thn (ha pins s σ H _ I h) fun u s1 ⟨x,H1,I1,r1,q1⟩=>?_)
 exact thn (hr pos pins s1 σ H1 _ I1 q1) fun us s2 ⟨xs,H2,I2,r2,q2⟩=>⟨x::xs,H2,I2,.cons r1 r2,q2⟩
noncomputable def kJ (t:TA):TE:=fun σ H Q=>t σ H fun xs H1=>xs.length<=sizeLine/\∀p,H1 p=none->Q (.ref p) (upd H1 p (.tup xs))
noncomputable def jS (t:TA):TE:=fun σ H Q=>t σ H fun xs H1=>xs.length<=sizeLine/\∀p,H1 p=none->Q (.ref p) (upd H1 p (.lst xs))
theorem bV {x1} (h:PA X es t):PE X (.Tuple es x1 pos) (kJ t):=by
 intro pins s σ H Q I hq
 refine wpAny_Tuple_spliced (thn (h pos pins s σ H _ I hq) fun us s1 ⟨xs,H1,I1,r,z,q⟩=>⟨by rw[<- r.length];exact z,?_⟩)
 have hf:H1 s1.heap.objs.size=none:=I1.hok.fresh (Nat.le_refl _)
 refine⟨.ref s1.heap.objs.size,upd H1 s1.heap.objs.size (.tup xs),I1.laid (t':=s1.toks) (fun b u e=>Heap.get?_push_of_some _ e) (Nat.le_refl _) ?_,rfl,q _ hf⟩
 exact⟨z,us,r,⟨_,Heap.get?_push_size _ rfl,rfl,_,rfl⟩⟩
theorem cY (h:PA X es t):PE X (.List es pos) (jS t):=by
 intro pins s σ H Q I hq
 refine wpAny_List_spliced (thn (h pos pins s σ H _ I hq) fun us s1 ⟨xs,H1,I1,r,z,q⟩=>⟨by rw[<- r.length];exact z,?_⟩)
 have hf:H1 s1.heap.objs.size=none:=I1.hok.fresh (Nat.le_refl _)
 refine⟨.ref s1.heap.objs.size,upd H1 s1.heap.objs.size (.lst xs),I1.laid (t':=s1.toks) (fun b u e=>Heap.get?_push_of_some _ e) (Nat.le_refl _) ?_,rfl,q _ hf⟩
 exact⟨z,us,0,r,Heap.get?_push_size _ rfl⟩
end
noncomputable abbrev Sp:=List V->Hp->VK->XK->Prop
noncomputable abbrev CXT:=List Env->Hp->Shared->XK->Value->Shared->Prop
structure Env0 (P:Program) (w:World) (K:PySem.W.Frag) (mg:Str->Option Value) (base:Heap) (A:Around) (outer:List Env) (s:Shared) (H:Hp):Prop where
 frames:A.frames=some outer
 mod:Mod K mg base
 bs:∀b o,base.get? b=some o->s.heap.get? b=some o/\H b=none
 bsz:base.objs.size<=s.heap.objs.size
 funs:s.heap.FunFrames base outer
 frf:∀b∈frs outer,H b=none
 hok:HOk P w H s.heap
 bare:AllBare s.gens
noncomputable def CE (outer:List Env) (P:Program) (w:World) (H:Hp) (s:Shared) (Q:VK) (u:Value) (s':Shared):Prop :=
 ∃v H',s'.os=s.os/\AllBare s'.gens/\Un (frs outer) [] H H' s.heap s'.heap/\HOk P w H' s'.heap/\RelV v u/\Q v H'
noncomputable def CR (CX:CXT) (outer:List Env) (P:Program) (w:World) (H:Hp) (s:Shared) (Q:VK) (E:XK) (r:Result) (s':Shared):Prop :=
 match r with
 | .ok (.ret u)=>CE outer P w H s Q u s'
 | .ok _=>False
 | .error e=>CX outer H s E e s'
structure FnOk (P:Program) (w:World) (K:PySem.W.Frag) (mg:Str->Option Value) (base:Heap) (CX:CXT) (k:Nat) (f:Addr) (fd:FuncData) (ps:List Str) (sp:Sp):Prop where
 len:∀vs H Q E,sp vs H Q E->vs.length=ps.length
 run:∀(A:Around) (outer:List Env) (s:Shared) (H:Hp) (args:Args) (us:List Value) (vs:List V) (Q:VK) (E:XK),Room k A->Env0 P w K mg base A outer s H->BindsTo s fd args (ps.zip us)->Vals vs us->sp vs H Q E ->
  codeAny (model P w) A (.call (.ref f) args) (CR CX outer P w H s Q E) s
theorem FnOk.mono {P:Program} {w:World} {K:PySem.W.Frag} {mg:Str->Option Value} {base:Heap} {CX:CXT} {j k:Nat} {f:Addr} {fd:FuncData} {ps:List Str} {sp:Sp} (F:FnOk P w K mg base CX j f fd ps sp) (h:j<=k) :
  FnOk P w K mg base CX k f fd ps sp:=⟨F.len,fun A outer s H args us vs Q E hr=>F.run A outer s H args us vs Q E (hr.mono h)⟩
section
variable {X:Cx} {pins:List (Addr×Obj)} {σ:St} {H:Hp} {s s':Shared}
theorem Inv.env0 (I:Inv X pins σ H s):Env0 X.prog X.w X.K X.mg X.base X.A X.stack s H :=
 ⟨I.ok.frames,I.ok.mod,I.bs,Nat.le_trans I.ok.bsz I.sz,I.stack,I.stkFree,I.hok,I.bare⟩
theorem Inv.after {Q:VK} {u:Value} (I:Inv X pins σ H s) (h:CE X.stack X.prog X.w H s Q u s'):EP X pins σ Q u s':=by
 obtain⟨v,H',os,bare,un,hok,r,q⟩:=h
 obtain⟨hh,g,d,t,os'⟩:=s'
 obtain rfl:os'=s.os:=os
 exact⟨v,H',I.call (h':=hh) (g':=g) (d':=d) (t':=t) (ch:=[]) un hok bare (fun b z=>absurd z (by simp)),r,q⟩
end
noncomputable def gD (sp:Sp) (dvs:List V) (E:XK) (t:TA):TE:=fun σ H Q=>t σ H fun vs H1=>sp (vs++dvs) H1 Q E
noncomputable def Binds (K:PySem.W.Frag) (fd:FuncData) (ps:List Str) (ds:List Value):Prop :=
 ∀(s:Shared) (us:List Value),K.In s.heap->(us++ds).length=ps.length->BindsTo s fd ⟨us,[]⟩ (ps.zip (us++ds))
theorem Binds.all {K:PySem.W.Frag} {fd:FuncData} {ps:List Str} (h:∀us:List Value,us.length=ps.length->bindArgs fd ⟨us,[]⟩=pure (ps.zip us)):Binds K fd ps []:=fun s us _ hl=>by
 rw[List.append_nil] at hl ⊢
 exact .of_eq (h us hl)
noncomputable def Passes (CX:CXT) (X:Cx) (E:XK):Prop:=∀(pins:List (Addr×Obj)) (σ:St) (H:Hp) (s:Shared) (e:Value) (s':Shared),Inv X pins σ H s->CX X.stack H s E e s'->X.xe e s'
section
variable {X:Cx} {CX:CXT} {k:Nat} {f C:Addr} {fd:FuncData} {ps:List Str} {sp:Sp} {dvs:List V} {ds:List Value} {E:XK} {x m:Str} {p pos apos:Pos} {e o:Expr} {es:List Expr} {ta:TE} {t:TA}
theorem zG {pins:List (Addr×Obj)} {σ:St} {H:Hp} {s:Shared} {Q:VK} {us:List Value} {vs:List V} (F:FnOk X.prog X.w X.K X.mg X.base CX k f fd ps sp) (hr:Room k X.A) (hb:Binds X.K fd ps ds) (hd:Vals dvs ds) (hx:Passes CX X E)
  (I:Inv X pins σ H s) (r:Vals vs us) (h:sp (vs++dvs) H Q E):wpAny (model X.prog X.w) X.A (call (.ref f) us) (EP X pins σ Q) X.xe s:=by
 have r2:Vals (vs++dvs) (us++ds):=r.append hd
 have hl:(us++ds).length=ps.length:=by rw[<- r2.length];exact F.len _ _ _ _ h
 refine wpAny_call (codeAny_mono (F.run X.A X.stack s H ⟨us,[]⟩ (us++ds) (vs++dvs) Q E hr I.env0 (hb s us I.kIn hl) r2 h) fun r s' hq=>?_)
 cases r with
 | error e=>exact hx pins σ H s e s' I hq
 | ok fl =>
  cases fl with
  | ret u=>exact I.after hq
  | next=>exact False.elim hq
  | brk=>exact False.elim hq
  | cont=>exact False.elim hq
theorem aK (F:FnOk X.prog X.w X.K X.mg X.base CX k f fd ps sp) (hr:Room k X.A) (hg:Gl X x) (hm:X.mg x=some (.ref f)) (hk:PySem.W.keepIn X.K (.ref f)=true) (hb:Binds X.K fd ps ds) (hd:Vals dvs ds) (hx:Passes CX X E)
  (ha:PA X (e::es) t) (hdb:autoParam ((x==("__debug__" : Str))=false) L2.au1._auto_1) (he:autoParam (starEach (e::es) X.env=(false,eval e X.env)::starEach es X.env) L2.au4._auto_1) (hpl:autoParam ((backTo pos (starEach es X.env)).any (·.1)=false) L2.au4._auto_1) :
  PE X (.Call (.Name x p) (e::es) [] pos) (gD sp dvs E t):=by
 intro pins s σ H Q I h
 refine wpAny_Call_Name_kw (jC I hg hm ?_ hdb)
 refine PySem.W.callWith_K (h₀:=X.base) I.ok.mod.kin hk (thn (ha pos pins s σ H _ I h) fun us s1 ⟨vs,H1,I1,r,q⟩=>⟨I1.kIn,?_⟩) he hpl
 exact zG F hr hb hd hx I1 r q
structure Mk (K:PySem.W.Frag) (C f:Addr):Prop where
 makes:PySem.W.makesIn K C=true
 init:PySem.W.findIn K (.ref C) "__init__" = some (some (.ref f))
 fn:PySem.W.isFn K (.ref f)=true
 kp:PySem.W.keepIn K (.ref C)=true
end
section
variable {X:Cx} {CX:CXT} {k:Nat} {f C:Addr} {fd:FuncData} {ps ks:List Str} {sp:Sp} {E:XK} {x m:Str} {p pos apos kpos:Pos} {e o:Expr} {es:List Expr} {kws:List Keyword} {te ta:TE} {t tk:TA} {nm:Option Str}
structure KBinds (K:PySem.W.Frag) (fd:FuncData) (ps ks:List Str) (g:List Value->List Value->List Value) (gV:List V->List V->List V):Prop where
 to:∀(s:Shared) (us ws:List Value),K.In s.heap->(g us ws).length=ps.length->BindsTo s fd ⟨us,ks.zip ws⟩ (ps.zip (g us ws))
 rel:∀ {vs:List V} {us:List Value} {zs:List V} {ws:List Value},Vals vs us->Vals zs ws->Vals (gV vs zs) (g us ws)
variable {g:List Value->List Value->List Value} {gV:List V->List V->List V}
end
structure FnScope (N P:List Str) (sc:Scope):Prop where
 kind:sc.kind=.function
 co:sc.isCoroutine=false
 gen:sc.isGenerator=false
 nd:N.Nodup
 pre:N.take P.length=P
 par:∀x∈P,sc.names.lookup x=some .local\/sc.names.lookup x=some .cell
 nofree:∀y∈sc.names,y.2 ≠ .free
theorem pP {kindOf:Str->Option NameKind} {x:Str}:∀ {binds:List (Str×Value)} {m:Str->Option Value},(∀v,(x,v) ∉ binds)->bindL kindOf binds m x=m x
 | [],_,_=>rfl
 | (n,v)::r,m,h=>by
  unfold bindL
  rw[pP fun w hw=>h w (List.mem_cons_of_mem _ hw)]
  split
  ·have:x≠n:=by rintro rfl;exact h v List.mem_cons_self
   simp[this]
  ·rfl
theorem pR {kindOf:Str->Option NameKind} {x:Str}:∀ {binds:List (Str×Value)} {m:Str->Option Value},(∀v,(x,v) ∉ binds)->bindC kindOf binds m x=m x
 | [],_,_=>rfl
 | (n,v)::r,m,h=>by
  unfold bindC
  rw[pR fun w hw=>h w (List.mem_cons_of_mem _ hw)]
  split
  ·rfl
  ·have:x≠n:=by rintro rfl;exact h v List.mem_cons_self
   simp[this]
theorem pQ {kindOf:Str->Option NameKind} {x:Str} {v:Value}:∀ {P:List Str} {vs:List Value} {i:Nat} {m:Str->Option Value},P.Nodup->P[i]? = some x->vs[i]? = some v->kindOf x=some .local ->
  bindL kindOf (P.zip vs) m x=some v
 | [],_,_,_,_,h,_,_=>by simp at h
 | _::_,[],_,_,_,_,h,_=>by simp at h
 | p::P,w::vs,0,m,nd,h1,h2,hk=>by
  simp at h1 h2;subst h1;subst h2
  show bindL kindOf ((p,w)::P.zip vs) m p=_
  unfold bindL
  rw[pP fun v hv=>(List.nodup_cons.mp nd).1 (List.of_mem_zip hv).1,if_pos hk]
  simp
 | p::P,w::vs,i+1,m,nd,h1,h2,hk=>by
  show bindL kindOf ((p,w)::P.zip vs) m x=_
  unfold bindL
  exact pQ (i:=i) (List.nodup_cons.mp nd).2 (by simpa using h1) (by simpa using h2) hk
theorem pU {kindOf:Str->Option NameKind} {x:Str} {v:Value}:∀ {P:List Str} {vs:List Value} {i:Nat} {m:Str->Option Value},P.Nodup->P[i]? = some x->vs[i]? = some v->kindOf x≠some .local ->
  bindC kindOf (P.zip vs) m x=some v
 | [],_,_,_,_,h,_,_=>by simp at h
 | _::_,[],_,_,_,_,h,_=>by simp at h
 | p::P,w::vs,0,m,nd,h1,h2,hk=>by
  simp at h1 h2;subst h1;subst h2
  show bindC kindOf ((p,w)::P.zip vs) m p=_
  unfold bindC
  rw[pR fun v hv=>(List.nodup_cons.mp nd).1 (List.of_mem_zip hv).1,if_neg hk]
  simp
 | p::P,w::vs,i+1,m,nd,h1,h2,hk=>by
  show bindC kindOf ((p,w)::P.zip vs) m x=_
  unfold bindC
  exact pU (i:=i) (List.nodup_cons.mp nd).2 (by simpa using h1) (by simpa using h2) hk
noncomputable def start (N:List Str) (vs:List V):St:=vs.map some++List.replicate (N.length-vs.length) none
noncomputable def oM (CX:CXT) (P:Program) (w:World) (K:PySem.W.Frag) (mg:Str->Option Value) (base:Heap) (N:List Str) (qual:Str) (scope:Scope) (f:Addr) (cd:Value) (A:Around) (outer:List Env) (s:Shared) (H:Hp) (E:XK):Cx where
 prog:=P
 w:=w
 K:=K
 mg:=mg
 base:=base
 A:=A.deeper (envOfC qual scope s.heap.objs.size f cd)
 N:=N
 s₀:=s
 H₀:=H
 env:=envOfC qual scope s.heap.objs.size f cd
 outer:=outer
 stack:=envOfC qual scope s.heap.objs.size f cd::outer
 ex:=[]
 calm:=true
 fn:=fun _=>true
 pn:=[]
 xe:=fun e s'=>wpAny (model P w) (A.deeper (envOfC qual scope s.heap.objs.size f cd)) (leaving (envOfC qual scope s.heap.objs.size f cd) e) (fun _ s''=>CX outer H s E e s'') (fun e' s''=>CX outer H s E e' s'') s'
theorem nC {sc:Scope} {n:Nat} {x:Str} (h:sc.names.lookup x=some .cell):∃c,(cellsFrom n sc.names []).lookup x=some c:=by
 have q:=PySem.W.cellsFrom_some sc.names n [] (.inl h)
 exact Option.isSome_iff_exists.mp q
theorem yH {CX:CXT} {P:Program} {w:World} {K:PySem.W.Frag} {mg:Str->Option Value} {base:Heap} {N ps:List Str} {qual:Str} {scope:Scope} {f:Addr} {cd:Value} {A:Around} {outer:List Env} {s s1:Shared} {H:Hp} {E:XK} {us:List Value} {vs:List V}
  (S:FnScope N ps scope) (hd:A.handled=none) (e0:Env0 P w K mg base A outer s H) (hl:vs.length=ps.length) (r:Vals vs us)
  (x:InCallC s s.heap.objs.size (bindL (envOfC qual scope s.heap.objs.size f cd).kindOf (ps.zip us) fun _=>none) (cellsFrom (s.heap.objs.size+1) scope.names []) (bindC (envOfC qual scope s.heap.objs.size f cd).kindOf (ps.zip us) fun _=>none) s1) :
  Inv (oM CX P w K mg base N qual scope f cd A outer s H E) [] (start N vs) H s1:=by
 have hpl:ps.length<=N.length:=by have:=congrArg List.length S.pre;rw[List.length_take] at this;omega
 obtain⟨h1,tk,rfl,hk⟩:=x.done
 have noA:∀b:Addr,b ∉ (oM CX P w K mg base N qual scope f cd A outer s H E).ex:=fun b z=>absurd (show b∈([]:List Addr) from z) (by simp)
 refine⟨⟨e0.mod,S.kind,rfl,rfl,Nat.le_refl _,fun y z c h1 h2=>?_,fun y hy=>?_,fun y c _ h=>?_,fun _=>hd,Around.frames_deeper e0.frames,.inr ⟨rfl,rfl⟩,fun b z=>absurd z (noA b),e0.bs,e0.bsz,fun b _ _=>noA b,fun b z=>absurd z (noA b),e0.funs,e0.frf⟩,
  rfl,e0.bare,Un.kept hk,⟨_,x.toInCall.ns,fun i y v h1 h2 h3=>?_⟩,fun y c h=>⟨_,x.cell y c h⟩,e0.hok.fresh (Nat.le_refl _),fun y c h=>?_,fun p hp=>absurd (show p∈([]:List (Addr×Obj)) from hp) (by simp),e0.hok.kept hk,?_⟩
 ·exact name_of_addr x.apart (PySem.mem_of_lookup h1) (PySem.mem_of_lookup h2)
 ·have hy:scope.names.lookup y=some .cell\/scope.names.lookup y=some .free:=hy
  rcases hy with hy | hy
  ·exact nC hy
  ·exact absurd rfl (S.nofree _ (PySem.mem_of_lookup hy))
 ·exact Nat.le_of_lt (x.above y c (PySem.mem_of_lookup h))
 ·have hi:i<vs.length:=by
   unfold start at h2
   by_cases hi:i<vs.length
   ·exact hi
   ·rw[List.getElem?_append_right (by simpa using hi)] at h2
    rw[List.getElem?_replicate] at h2
    split at h2 <;> cases h2
  have ha:vs[i]? = some v:=by
   unfold start at h2
   rw[List.getElem?_append_left (by simpa using hi),List.getElem?_map] at h2
   cases e:vs[i]? with
   | none=>rw[e] at h2;cases h2
   | some a=>rw[e] at h2;cases h2;rfl
  obtain⟨u,hu,rv⟩:=r.get ha
  have hp:ps[i]? = some y:=by
   rw[<- S.pre,List.getElem?_take_of_lt (by omega)];exact h1
  have ndP:ps.Nodup:=by rw[<- S.pre];exact S.nd.sublist (List.take_sublist _ _)
  refine⟨u,rv,?_⟩
  rcases S.par y (List.mem_of_getElem? hp) with k | k
  ·exact .inl ⟨k,pQ ndP hp hu k⟩
  ·obtain⟨c,e⟩:=nC (n:=s.heap.objs.size+1) k
   refine .inr ⟨.inl k,c,e,?_⟩
   have q:=x.cell y c e
   rw[pU ndP hp hu (by show scope.names.lookup y≠_;rw[k];decide)] at q
   exact q
 ·exact e0.hok.fresh (Nat.le_of_lt (x.above y c (PySem.mem_of_lookup h)))
 ·unfold start
  show _=N.length
  rw[List.length_append,List.length_map,List.length_replicate]
  omega
theorem aA8 {CX:CXT} {P:Program} {w:World} {K:PySem.W.Frag} {mg:Str->Option Value} {base:Heap} {k:Nat} {f:Addr} {name qual:Str} {params:Arguments} {body:List Stmt} {scope:Scope} {dV kV doc pm cdv ct oc:Value} {an od:Option Addr}
  {osl:Array (Option Value)} {N ps:List Str} {sp:Sp} (lk:K.lookup f=some ⟨oc,od,.func (PySem.W.fnOf name qual params body scope dV kV doc pm an cdv ct),osl⟩) (hcd:PySem.W.codeIn K cdv qual=true) (S:FnScope N ps scope)
  (len:∀vs H Q E,sp vs H Q E->vs.length=ps.length)
  (hbody:∀(A:Around) (outer:List Env) (s:Shared) (H:Hp) (vs:List V) (Q:VK) (E:XK),Room k (A.deeper (envOfC qual scope s.heap.objs.size f cdv))->sp vs H Q E ->
   ∃t,PSs (oM CX P w K mg base N qual scope f cdv A outer s H E) body t/\t { nx:=fun _ H'=>Q .non H',rt:=Q } (start N vs) H) :
  FnOk P w K mg base CX (k+1) f (PySem.W.fnOf name qual params body scope dV kV doc pm an cdv ct) ps sp:=by
 refine⟨len,fun A outer s H args us vs Q E hr e0 hb r hsp=>?_⟩
 have hl:=len _ _ _ _ hsp
 have KX:K.In s.heap:=e0.mod.kin.keeps fun b o e=>(e0.bs b o e).1
 have lim:s.heap.NoLimit:=e0.mod.nolimit.keeps fun b o e=>(e0.bs b o e).1
 have hkind:∀y∈ps.zip us,scope.names.lookup y.1=some .local\/(scope.names.lookup y.1=some .cell/\((cellsFrom (s.heap.objs.size+1) scope.names []).lookup y.1).isSome=true):=fun ⟨n,v⟩ hy=>by
  rcases S.par n (List.of_mem_zip hy).1 with q | q
  ·exact .inl q
  ·exact .inr ⟨q,PySem.W.cellsFrom_some _ _ _ (.inl q)⟩
 refine codeAny_call_function hr.depth (KX _ _ lk) rfl S.co S.gen rfl (PySem.W.codeRec_of KX hcd) (hb _ _ _ _ ?_)
 refine wpAny_newFunctionEnv_cells S.kind hkind fun env he s1 x=>?_
 subst he
 refine⟨lim.keeps x.toInCall.keep,codeAny_func ?_⟩
 obtain⟨t,ht,hq⟩:=hbody A outer s H vs Q E (hr.deeper _) hsp
 have I:Inv (oM CX P w K mg base N qual scope f cdv A outer s H E) [] (start N vs) H s1:=yH S hr.hd e0 hl r x
 refine wpAny_mono (ht [] s1 (start N vs) H _ I hq) (fun fl s' hs=>?_) fun e s' hs=>hs
 have fin:∀ {σ':St} {H':Hp} {v:V} {u:Value},Inv (oM CX P w K mg base N qual scope f cdv A outer s H E) [] σ' H' s'->RelV v u->Q v H'->CE outer P w H s Q u s' :=
  fun {σ' H' v u} J rv q=>⟨v,H',J.os,J.bare,J.base,J.hok,rv,q⟩
 cases fl with
 | ret u =>
  obtain⟨v,σ',H',J,rv,q⟩:=hs
  exact fin J rv q
 | next =>
  obtain⟨σ',H',J,q⟩:=hs
  exact fin (v:=V.non) (u:=Value.none) J rfl q
 | brk =>
  obtain⟨_,_,_,q⟩:=hs
  exact False.elim q
 | cont =>
  obtain⟨_,_,_,q⟩:=hs
  exact False.elim q
end L2
namespace L2
open PySem PySem.Spec PyProof.Rows
section
variable {X:Cx} {x:Str} {p pos:Pos} {e:Expr} {es:List Expr} {t:TA} {id T:String} {r:List V->Hp->VK->Prop}
noncomputable def tCB (r:List V->Hp->VK->Prop) (t:TA):TE:=fun σ H Q=>t σ H fun vs H1=>r vs H1 Q
theorem aQ (hc:d6 X (.builtin id) r) (hg:Gl X x) (hm:X.mg x=none) (hv:bootBuiltins x=some (.builtin id)) (ha:PA X (e::es) t) (hn:autoParam (x ≠ "__name__") L2.au1._auto_1) (hdb:autoParam ((x==("__debug__" : Str))=false) L2.au1._auto_1)
  (he:autoParam (starEach (e::es) X.env=(false,eval e X.env)::starEach es X.env) L2.au4._auto_1) (hpl:autoParam ((backTo pos (starEach es X.env)).any (·.1)=false) L2.au4._auto_1):PE X (.Call (.Name x p) (e::es) [] pos) (tCB r t):=by
 intro pins s σ H Q I h
 refine wpAny_Call_Name_kw (qV I hg hm hv ?_ hn hdb)
 exact PyProof.Rows.callWith_builtin1 (thn (ha pos pins s σ H _ I h) fun us s1 ⟨vs,H1,I1,r1,q1⟩=>hc pins s1 σ H1 vs us Q I1 r1 q1) he hpl
theorem jY (hc:d6 X (.type T) r) (hg:Gl X x) (hm:X.mg x=none) (hv:bootBuiltins x=some (.type T)) (ha:PA X (e::es) t) (hn:autoParam (x ≠ "__name__") L2.au1._auto_1) (hdb:autoParam ((x==("__debug__" : Str))=false) L2.au1._auto_1)
  (he:autoParam (starEach (e::es) X.env=(false,eval e X.env)::starEach es X.env) L2.au4._auto_1) (hpl:autoParam ((backTo pos (starEach es X.env)).any (·.1)=false) L2.au4._auto_1):PE X (.Call (.Name x p) (e::es) [] pos) (tCB r t):=by
 intro pins s σ H Q I h
 refine wpAny_Call_Name_kw (qV I hg hm hv ?_ hn hdb)
 exact PyProof.Rows.callWith_type1 (thn (ha pos pins s σ H _ I h) fun us s1 ⟨vs,H1,I1,r1,q1⟩=>hc pins s1 σ H1 vs us Q I1 r1 q1) he hpl
end
end L2
namespace HT
open PySem PyProof.Rows
section
open PySem.SeqAt
open PySem.AutoSeq1 (wpAny_loadPart')
open PySem.MeetsSeq PySem.MeetsSeq2 PySem.MeetsSeq3
end
section
variable {prog:Program} {w:World} {A:Around} {E:Value->Shared->Prop} {s:Shared}
noncomputable def sIx (n d:Nat):Option Int->Nat
 | none=>d
 | some v=>if v<0 then (v+(n:Int)).toNat else min v.toNat n
theorem zF (n d:Nat):sIx n d none=d:=rfl
theorem aB7 (n d k:Nat):sIx n d (some (k:Int))=min k n:=by
 show (if (k:Int)<0 then ((k:Int)+(n:Int)).toNat else min (k:Int).toNat n)=min k n
 rw[if_neg (by omega),Int.toNat_natCast]
theorem aEa (n d:Nat) (hd:d<=n) (o:Option Int):sIx n d o<=n:=by
 cases o with
 | none=>exact hd
 | some v =>
  show (if v<0 then (v+(n:Int)).toNat else min v.toNat n)<=n
  by_cases hv:v<0
  ·rw[if_pos hv];omega
  ·rw[if_neg hv];exact Nat.min_le_right _ _
theorem w4 (v:Int) (n d:Nat):(if v<0 then max (v+(n:Int)) 0 else min v (n:Int))=((sIx n d (some v):Nat):Int):=by
 show (if v<0 then max (v+(n:Int)) 0 else min v (n:Int))=(((if v<0 then (v+(n:Int)).toNat else min v.toNat n):Nat):Int)
 by_cases hv:v<0
 ·simp only[if_pos hv];omega
 ·simp only[if_neg hv];omega
theorem vF (lo hi:Option Int) (n:Nat):Builtin.Slice.sliceAdjust lo hi 1 (n:Int)=(((sIx n 0 lo:Nat):Int),((sIx n n hi:Nat):Int)):=by
 have h1:¬ ((1:Int)<0):=by omega
 unfold Builtin.Slice.sliceAdjust
 simp only[h1,if_false]
 refine Prod.ext ?_ ?_
 ·cases lo with
  | none=>rfl
  | some v=>exact w4 v n 0
 ·cases hi with
  | none=>rfl
  | some v=>exact w4 v n n
theorem uQ (i j:Nat):Builtin.Slice.slicePlaces (i:Int) (j:Int) 1=j-i:=by
 unfold Builtin.Slice.slicePlaces
 have h1:(1:Int)>0:=by omega
 simp only[h1,if_true,Int.ediv_one]
 split <;> omega
theorem lP {v:Value} {o:Option Int} {Q:Option Int->Shared->Prop} (p:IsPart v o) (h:Q o s):wpAny (model prog w) A (Builtin.Slice.slicePartIndex v) Q E s:=by
 cases p with
 | none=>exact slicePart_none h
 | int i t=>exact slicePart_int h
theorem jT {sl:Addr} {vl vu:Value} {lo hi:Option Int} {n:Nat} {Q:Int×Int×Nat->Shared->Prop} (hs:s.heap.IsSliceOf sl vl vu .none) (pl:IsPart vl lo) (pu:IsPart vu hi)
  (h:Q (((sIx n 0 lo:Nat):Int),1,sIx n n hi-sIx n 0 lo) s):wpAny (model prog w) A (Builtin.Slice.sliceApplied (.ref sl) (pure (n:Int))) Q E s:=by
 obtain⟨os,hos,hcs,hds⟩:=id hs
 unfold Builtin.Slice.sliceApplied Builtin.Slice.sliceFields
 refine wpAny_bind (wpAny_bind (wpAny_field hos hds (x:=vl) rfl (wpAny_bind (wpAny_field hos hds (x:=vu) rfl (wpAny_bind (wpAny_field hos hds (x:=.none) rfl (wpAny_pure ?_)))))))
 refine wpAny_bind (slicePart_none ?_)
 show wpAny _ _ (if ((1:Int)==0)=true then _ else _) _ _ s
 rw[if_neg (by decide)]
 refine wpAny_bind (lP pl (wpAny_bind (lP pu (wpAny_bind (wpAny_pure ?_)))))
 show wpAny _ _ (match Builtin.Slice.sliceAdjust lo hi 1 (n:Int) with | (lo,hi)=>pure (lo,(1:Int),Builtin.Slice.slicePlaces lo hi 1)) _ _ s
 rw[vF lo hi n]
 show wpAny _ _ (pure (((sIx n 0 lo:Nat):Int),(1:Int),Builtin.Slice.slicePlaces ((sIx n 0 lo:Nat):Int) ((sIx n n hi:Nat):Int) 1)) _ _ s
 rw[uQ]
 exact wpAny_pure h
theorem zW (xs:Array Value) (i k:Nat):((List.range k).filterMap fun (m:Nat)=>xs[((i:Int)+(m:Int)*1).toNat]?).toArray=((xs.toList.drop i).take k).toArray:=by
 have e:(fun (m:Nat)=>xs[((i:Int)+(m:Int)*1).toNat]?)=fun m=>xs[i+m]? := by
  funext m
  have:((i:Int)+(m:Int)*1).toNat=i+m:=by omega
  rw[this]
 rw[e]
 have:=pick_run xs i k
 rw[List.filterMap_map] at this
 have e2:((fun x=>xs[x]?) ∘ fun x=>i+x)=fun m=>xs[i+m]? := rfl
 rw[e2] at this
 rw[this]
theorem jH {t sl:Addr} {items:Array Value} {vl vu:Value} {lo hi:Option Int} {Q:Value->Shared->Prop} (ht:IsTup s.heap t items) (hs:s.heap.IsSliceOf sl vl vu .none) (pl:IsPart vl lo) (pu:IsPart vu hi)
  (hw:¬ (sIx items.size 0 lo=0/\sIx items.size items.size hi=items.size))
  (h:Q (.ref s.heap.objs.size) { s with heap:=s.heap.push { cls:=.type "tuple",data:=.seq ((items.toList.drop (sIx items.size 0 lo)).take (sIx items.size items.size hi-sIx items.size 0 lo)).toArray } })
  (hsz:items.size<=sizeLine):wpAny (model prog w) A (getItem (.ref t) (.ref sl)) Q E s:=by
 have htake:sizeOk (.seq ((items.toList.drop (sIx items.size 0 lo)).take (sIx items.size items.size hi-sIx items.size 0 lo)).toArray):=by
  show ((items.toList.drop (sIx items.size 0 lo)).take (sIx items.size items.size hi-sIx items.size 0 lo)).toArray.size<=sizeLine
  rw[List.size_toArray,List.length_take,List.length_drop,Array.length_toList]
  omega
 have hj:sIx items.size items.size hi<=items.size:=aEa _ _ (Nat.le_refl _) hi
 obtain⟨os,hos,hcs,hds⟩:=id hs
 have hTs:s.TypeIs (.ref sl) "slice" := ⟨os,hos,hcs⟩
 unfold getItem
 try with_reducible refine wpAny_holding ?_
 first | refine wpAny_bind (wpAny_pure ?_) | skip
 refine wpAny_bind (wpAny_sequenceKey ht.typeIs (by decide) ?_)
 refine wpAny_bind (wpAny_callSpecial?_slot (name:=Str.ofString "__getitem__") ht.typeIs PyProof.Rows.slot_tuple_getitem
  (wpAny_call_entry PyProof.Rows.slot_tuple_getitem ht.typeIs entry_tuple_getitem ?_ (args_tuple_getitem _ _)))
 show wpAny _ _ (Builtin.Tuple.tupleItemsOf (.ref t) >>= _) _ _ s
 refine wpAny_bind (tupleItemsOf_ ht ?_)
 refine wpAny_bind (wpAny_typeOf hTs ?_)
 rw[if_pos (by decide)]
 refine wpAny_bind (jT hs pl pu ?_)
 have hno:¬ ((((sIx items.size 0 lo:Nat):Int)==0&&(1:Int)==1&&(sIx items.size items.size hi-sIx items.size 0 lo)==items.size)=true):=by
  intro q
  rw[Bool.and_eq_true,Bool.and_eq_true] at q
  have q1:((sIx items.size 0 lo:Nat):Int)=0:=eq_of_beq q.1.1
  have q2:sIx items.size items.size hi-sIx items.size 0 lo=items.size:=eq_of_beq q.2
  exact hw ⟨by omega,by omega⟩
 show wpAny _ _ (if (((sIx items.size 0 lo:Nat):Int)==0&&(1:Int)==1&&(sIx items.size items.size hi-sIx items.size 0 lo)==items.size)=true then _ else _) _ _ s
 rw[if_neg hno,zW]
 first
  | exact wpAny_bind (m:=Builtin.Tuple.tupleExact _) (wpAny_newObj_type (wpAny_pure ⟨_,rfl,wpAny_pure h⟩) htake)
  | exact wpAny_bind (m:=Builtin.Tuple.tupleExact _) (wpAny_newObj_type (wpAny_bind (wpAny_pure (wpAny_pure ⟨_,rfl,wpAny_pure h⟩))) htake)
  | exact wpAny_bind (wpAny_bind (m:=Builtin.Tuple.tupleExact _) (wpAny_newObj_type (wpAny_pure (wpAny_pure ⟨_,rfl,wpAny_pure h⟩)) htake))
  | exact wpAny_bind (wpAny_bind (m:=Builtin.Tuple.tupleExact _) (wpAny_newObj_type (wpAny_pure ⟨_,rfl,wpAny_pure h⟩) htake))
end
end HT
namespace L2
open PySem PySem.Spec PyProof.Rows
noncomputable abbrev TO:=St->Hp->(Option Int->Hp->Prop)->Prop
noncomputable def PO (X:Cx) (e:Option Expr) (t:TO):Prop :=
 ∀(pins:List (Addr×Obj)) (s:Shared) (σ:St) (H:Hp) (Q:Option Int->Hp->Prop),Inv X pins σ H s->t σ H Q ->
  wpAny (model X.prog X.w) X.A (evalPart e X.env) (fun u s'=>∃o H',Inv X pins σ H' s'/\IsPart u o/\Q o H') X.xe s
noncomputable def eZ:TO:=fun _ H Q=>Q none H
noncomputable def kD (t:TE):TO:=fun σ H Q=>t σ H fun x H1=>∃i,x=.int i/\Q (some i) H1
section
variable {X:Cx} {e:Expr} {te:TE} {lo hi:Option Expr} {tl th:TO} {pos p2:Pos}
theorem lB:PO X none eZ:=by
 intro pins s σ H Q I h
 rw[evalPart_none]
 exact wpAny_pure ⟨none,H,I,.none,h⟩
theorem lA (h:PE X e te):PO X (some e) (kD te):=by
 intro pins s σ H Q I hw
 rw[evalPart_some]
 refine thn (h pins s σ H _ I hw) fun u s1 ⟨x,H1,I1,r1,q1⟩=>?_
 obtain⟨i,rfl,q⟩:=q1
 obtain⟨t,rfl⟩:=r1
 exact⟨some i,H1,I1,.int i t,q⟩
noncomputable def SlR (X:Cx) (r:V->Option Int->Option Int->Hp->VK->Prop):Prop :=
 ∀(pins:List (Addr×Obj)) (s:Shared) (σ:St) (H:Hp) (x:V) (v vl vu:Value) (lo hi:Option Int) (sl:Addr) (Q:VK),Inv X pins σ H s->RelV x v->s.heap.IsSliceOf sl vl vu .none->IsPart vl lo->IsPart vu hi->r x lo hi H Q ->
  ∃T id,typeLookup (.type T) "__getitem__" = pure (some (.builtin id))/\s.TypeIs v T/\wpAny (model X.prog X.w) X.A (getItem v (.ref sl)) (EP X pins σ Q) X.xe s
noncomputable def tSl (r:V->Option Int->Option Int->Hp->VK->Prop) (te:TE) (tl th:TO):TE:=fun σ H Q=>te σ H fun x H1=>tl σ H1 fun l H2=>th σ H2 fun u H3=>r x l u H3 Q
theorem i7 {r:V->Option Int->Option Int->Hp->VK->Prop} (hr:SlR X r) (he:PE X e te) (hl:PO X lo tl) (hu:PO X hi th):PE X (.Subscript e (.Slice lo hi none p2) pos) (tSl r te tl th):=by
 intro pins s σ H Q I h
 refine Subscript_ (thn (he pins s σ H _ I h) fun v s1 ⟨x,H1,I1,r1,q1⟩=>?_)
 refine wpAny_Slice (thn (hl pins s1 σ H1 _ I1 q1) fun vl s2 ⟨l,H2,I2,pl,q2⟩=>thn (hu pins s2 σ H2 _ I2 q2) fun vu s3 ⟨u,H3,I3,pu,q3⟩=>?_)
 rw[evalPart_none]
 refine wpAny_pure ?_
 have I4:Inv X pins σ H3 { s3 with heap:=s3.heap.push { cls:=.type "slice",data:=.fields #[vl,vu,.none] } }:=I3.kept (t':=s3.toks) fun b ob q=>Heap.get?_push_of_some _ q
 obtain⟨T,id,hT,ht,hg⟩:=hr pins { s3 with heap:=s3.heap.push { cls:=.type "slice",data:=.fields #[vl,vu,.none] } } σ H3 x v vl vu l u s3.heap.objs.size Q I4 r1 (Heap.IsSliceOf.new ..) pl pu q3
 show wpAny (model X.prog X.w) X.A (subscriptTail e (.Slice lo hi none p2) v (.ref s3.heap.objs.size)) (EP X pins σ Q) X.xe { s3 with heap:=s3.heap.push { cls:=.type "slice",data:=.fields #[vl,vu,.none] } }
 exact tail_any (ops:=[.ref s3.heap.objs.size,v]) ht hT hg (by with_unfolding_all rfl)
noncomputable def m7 (xs:List V) (lo hi:Option Int):List V:=(xs.drop (HT.sIx xs.length 0 lo)).take (HT.sIx xs.length xs.length hi-HT.sIx xs.length 0 lo)
theorem kH (xs:List V) (lo hi:Option Int):(m7 xs lo hi).length<=xs.length:=by
 unfold m7
 rw[List.length_take,List.length_drop]
 omega
noncomputable def aGg (K:PySem.W.Frag):V->Option Int->Option Int->Hp->VK->Prop:=fun x lo hi H Q=>∃a xs,x=.ref a/\SqT K H a xs /\
 ¬ (HT.sIx xs.length 0 lo=0/\HT.sIx xs.length xs.length hi=xs.length)/\∀p,H p=none->Q (.ref p) (upd H p (.tup (m7 xs lo hi)))
theorem uL:SlR X (aGg X.K):=by
 intro pins s σ H x v vl vu lo hi sl Q I rx hs pl pu h
 obtain⟨a,xs,rfl,hx,hw,q⟩:=h
 cases rx
 obtain⟨its,r,ht,hz⟩:=I.tuple hx
 have hlen:its.toArray.size=xs.length:=by rw[List.size_toArray];exact r.length.symm
 refine⟨"tuple",_,PyProof.Rows.slot_tuple_getitem.lookup,ht.typeIs,?_⟩
 refine HT.jH ht hs pl pu (by rw[hlen];exact hw) ?_ (by rw[hlen];exact hz)
 rw[hlen]
 refine⟨.ref s.heap.objs.size,_,I.laid (t':=s.toks) (o:=.tup (m7 xs lo hi)) (fun b ob q=>Heap.get?_push_of_some _ q) (Nat.le_refl _) ?_,rfl,q _ (I.hok.fresh (Nat.le_refl _))⟩
 exact⟨Nat.le_trans (kH xs lo hi) hz,_,(r.drop (HT.sIx xs.length 0 lo)).take (HT.sIx xs.length xs.length hi-HT.sIx xs.length 0 lo),IsTup.new _ _⟩
end
end L2
namespace L2
open PySem PySem.Spec PyProof.Rows
noncomputable def ixN (n:Nat) (i:Int):Option Nat:=if 0<=i then (if i<n then some i.toNat else none) else if -(n:Int)<=i then some (i+n).toNat else none
noncomputable def atI {α:Type} (xs:List α) (i:Int):Option α:=(ixN xs.length i).bind fun j=>xs[j]?
theorem wM {n:Nat} {i:Int} {j:Nat} (h:ixN n i=some j):seqIndex? i n=some j/\j<n /\ -(n:Int)<=i/\i<n:=by
 unfold ixN at h
 by_cases h0:0<=i
 ·rw[if_pos h0] at h
  by_cases h1:i<n
  ·rw[if_pos h1] at h
   have e:i.toNat=j:=Option.some.inj h
   exact⟨by rw[seqIndex_of h0 h1,e],by omega,by omega,h1⟩
  ·rw[if_neg h1] at h;cases h
 ·rw[if_neg h0] at h
  by_cases h1 : -(n:Int)<=i
  ·rw[if_pos h1] at h
   have e:(i+n).toNat=j:=Option.some.inj h
   exact⟨by rw[seqIndex_neg (by omega) h1,e],by omega,h1,by omega⟩
  ·rw[if_neg h1] at h;cases h
theorem xB {α:Type} {xs:List α} {i:Int} {v:α} (h:atI xs i=some v):∃j,seqIndex? i xs.length=some j/\xs[j]? = some v/\j<xs.length /\ -(xs.length:Int)<=i/\i<xs.length:=by
 unfold atI at h
 cases e:ixN xs.length i with
 | none=>rw[e] at h;cases h
 | some j =>
  rw[e] at h
  obtain⟨h1,h2,h3,h4⟩:=wM e
  exact⟨j,h1,h,h2,h3,h4⟩
theorem g9 {α:Type} {xs:List α} {j:Nat} {v:α} (h:xs[j]? = some v):atI xs (j:Int)=some v:=by
 have hj:j<xs.length:=(List.getElem?_eq_some_iff.mp h).1
 have e:ixN xs.length (j:Int)=some j:=by
  unfold ixN
  rw[if_pos (by omega),if_pos (by omega)];simp
 unfold atI;rw[e];exact h
theorem t9 {α:Type} (xs:List α) (v:α):atI (xs++[v]) (-1)=some v:=by
 have hl:(xs++[v]).length=xs.length+1:=by simp
 have e:ixN (xs++[v]).length (-1)=some xs.length:=by
  unfold ixN
  rw[hl,if_neg (by decide),if_pos (by omega)]
  congr 1
  omega
 unfold atI
 rw[e]
 show (xs++[v])[xs.length]? = some v
 simp
noncomputable def xD (b:Expr):Prop:=∀o i,subscripted b false o i=operate [o,i] (getItem o i)
noncomputable def IxR (X:Cx) (r:R2):Prop :=
 ∀(value slice:Expr) (pins:List (Addr×Obj)) (s:Shared) (σ:St) (H:Hp) (x y:V) (v u:Value) (Q:VK),Inv X pins σ H s->RelV x v->RelV y u->r x y H Q ->
  subscripted slice false v u=operate [v,u] (getItem v u)->wpAny (model X.prog X.w) X.A (subscriptTail value slice v u) (EP X pins σ Q) X.xe s
noncomputable def MtR (X:Cx) (id:String) (r:V->List V->Hp->VK->Prop):Prop :=
 ∀(pins:List (Addr×Obj)) (s:Shared) (σ:St) (H:Hp) (x:V) (xs:List V) (v:Value) (us:List Value) (Q:VK),Inv X pins σ H s->RelV x v->Vals xs us->r x xs H Q ->
  wpAny (model X.prog X.w) X.A (call (.builtin id) (v::us)) (EP X pins σ Q) X.xe s
section
variable {X:Cx} {a b:Expr} {ta tb:TE} {pos:Pos}
theorem aV {r:R2} (hr:IxR X r) (ha:PE X a ta) (hb:PE X b tb) (hs:xD b):PE X (.Subscript a b pos) (tOp r ta tb):=by
 intro pins s σ H Q I h
 exact Subscript_ (aFk ha hb I h fun v u s2 x y H2 I2 rx ry q=>hr a b pins s2 σ H2 x y v u Q I2 rx ry q (hs _ _))
noncomputable def lW (K:PySem.W.Frag):R2:=fun x y H Q=>∃p xs i v,x=.ref p/\y=.int i/\SqL K H p xs/\atI xs i=some v/\Q v H
noncomputable def aCb (K:PySem.W.Frag):R2:=fun x y H Q=>∃p xs i v,x=.ref p/\y=.int i/\SqT K H p xs/\atI xs i=some v/\Q v H
theorem dD:IxR X (lW X.K):=by
 intro value slice pins s σ H x y v u Q I rx ry h hs
 obtain⟨p,xs,i,z,rfl,rfl,hq,he,q⟩:=h
 cases rx
 obtain⟨t,rfl⟩:=ry
 obtain⟨its,r,pl,hz⟩:=I.list hq
 obtain⟨j,h1,h2,h3,h4,h5⟩:=xB he
 obtain⟨w,ew,rw'⟩:=r.get h2
 have hl:=r.length
 have hn:=qU
 have fin:EP X pins σ Q w s:=⟨z,H,I,rw',q⟩
 by_cases h0:0<=i
 ·have hj:i.toNat=j:=by
   rw[seqIndex_of h0 h5] at h1
   exact Option.some.inj h1
  exact item_listR pl.isList h0 (by omega) (by rw[hj];simpa using ew) fin hs
 ·have hj:(i+(its.toArray.size:Int)).toNat=j:=by
   rw[seqIndex_neg (by omega) h4] at h1
   rw[List.size_toArray,<- hl]
   exact Option.some.inj h1
  exact subscriptTail_builtinR (x:=w) pl.isList.typeIs slot_list_getitem.lookup
   (wpAny_getItem_list_neg (Q:=fun r s'=>r=w/\EP X pins σ Q r s') pl.isList (by omega) (by rw[List.size_toArray] <;> omega) (by omega) (by rw[hj];simpa using ew) ⟨rfl,fin⟩) hs
theorem bM:IxR X (aCb X.K):=by
 intro value slice pins s σ H x y v u Q I rx ry h hs
 obtain⟨p,xs,i,z,rfl,rfl,hq,he,q⟩:=h
 cases rx
 obtain⟨t,rfl⟩:=ry
 obtain⟨its,r,pl,hz⟩:=I.tuple hq
 obtain⟨j,h1,h2,h3,h4,h5⟩:=xB he
 obtain⟨w,ew,rw'⟩:=r.get h2
 have hl:=r.length
 have hn:=qU
 have fin:EP X pins σ Q w s:=⟨z,H,I,rw',q⟩
 exact subscriptTail_builtinR (x:=w) pl.typeIs slot_tuple_getitem.lookup
  (getItem_tuple (j:=j) (Q:=fun r s'=>r=w/\EP X pins σ Q r s') pl (by omega) (by omega) (by rw[List.size_toArray,<- hl];exact h1) (by simpa using ew) ⟨rfl,fin⟩) hs
theorem u0 (its:List Value) (n j:Nat) (u:Value):Obj.mapSeq (·.setIfInBounds j u) { cls:=.type "list",data:=.seq its.toArray n }={ cls:=.type "list",data:=.seq (its.set j u).toArray n }:=by
 simp[Obj.mapSeq]
theorem Inv.lst {pins:List (Addr×Obj)} {σ:St} {H:Hp} {s:Shared} {p:Addr} {xs:List V} (I:Inv X pins σ H s) (h:H p=some (.lst xs)) :
  ∃(its:List Value) (n:Nat),Vals xs its/\s.heap.get? p=some { cls:=.type "list",data:=.seq its.toArray n }/\xs.length<=sizeLine:=by
 obtain⟨z,its,n,r,e⟩:=I.hok p _ h
 exact⟨its,n,r,e,z⟩
theorem Inv.lstUpd {pins:List (Addr×Obj)} {σ:St} {H:Hp} {s:Shared} {p:Addr} {xs ys:List V} {its its':List Value} {n n':Nat} {f:Obj->Obj} (I:Inv X pins σ H s) (h:H p=some (.lst xs))
  (ho:s.heap.get? p=some { cls:=.type "list",data:=.seq its.toArray n }) (hf:f { cls:=.type "list",data:=.seq its.toArray n }={ cls:=.type "list",data:=.seq its'.toArray n' }) (r:Vals ys its') (hz:ys.length<=sizeLine) (t:Nat) :
  Inv X pins σ (upd H p (.lst ys)) { s with heap:=s.heap.update p f,toks:=t }:=by
 have e:(s.heap.update p f).get? p=some { cls:=.type "list",data:=.seq its'.toArray n' }:=by
  rw[Heap.get?_update_self f ho (by rw[hf] <;> rfl),hf]
 refine I.write (x:=p) (e:=p) (by rw[h];trivial) (.inl rfl) (fun b u hb q=>(Heap.get?_update_other _ _ (Ne.symm hb)).trans q) ⟨_,e⟩ ?_
 exact⟨hz,its',n',r,e⟩
noncomputable def iX:V->V->V->Hp->(Hp->Prop)->Prop:=fun o i v H Q=>∃p xs k j,o=.ref p/\i=.int k/\H p=some (.lst xs)/\ixN xs.length k=some j/\Q (upd H p (.lst (xs.set j v)))
theorem sT:aGe X iX:=by
 intro pins s σ H o i v ov iv u Q I ro ri rv h
 obtain⟨p,xs,k,j,rfl,rfl,hp,hj,q⟩:=h
 cases ro
 obtain⟨t,rfl⟩:=ri
 obtain⟨its,n,r,ho,hz⟩:=I.lst hp
 obtain⟨h1,h2,h3,h4⟩:=wM hj
 have hl:=r.length
 have hn:=qU
 have I':Inv X pins σ (upd H p (.lst (xs.set j v))) { s with heap:=s.heap.update p (Obj.mapSeq (·.setIfInBounds j u)) } :=
  I.lstUpd hp ho (u0 its n j u) (r.set rv j) (by rw[List.length_set];exact hz) s.toks
 by_cases h0:0<=k
 ·have hk:k.toNat=j:=by
   rw[seqIndex_of h0 h4] at h1
   exact Option.some.inj h1
  exact PySem.W.ki_setAt ho h0 (by omega) (by rw[List.size_toArray,<- hl];exact h4) (by rw[hk];exact⟨_,I',q⟩)
 ·have hk:(k+(its.toArray.size:Int)).toNat=j:=by
   rw[seqIndex_neg (by omega) h3] at h1
   rw[List.size_toArray,<- hl]
   exact Option.some.inj h1
  exact PySem.W.ki_setBack ho (by omega) (by rw[List.size_toArray,<- hl];exact h3) (by omega) (by rw[hk];exact⟨_,I',q⟩)
theorem qH (lo hi:Option Int) (n:Nat):(sliceBounds lo hi none n).1=((HT.sIx n 0 lo:Nat):Int)/\(sliceBounds lo hi none n).2.1=((HT.sIx n n hi:Nat):Int)/\(sliceBounds lo hi none n).2.2=1:=by
 refine⟨?_,?_,rfl⟩
 ·cases lo with
  | none=>simp[sliceBounds,HT.sIx]
  | some i =>
   simp only[sliceBounds,HT.sIx,Option.getD_none,show (1:Int)>0 by decide,if_true]
   by_cases h:i<0
   ·simp only[h,if_true] <;> omega
   ·simp only[h,if_false] <;> omega
 ·cases hi with
  | none=>simp[sliceBounds,HT.sIx]
  | some i =>
   simp only[sliceBounds,HT.sIx,Option.getD_none,show (1:Int)>0 by decide,if_true]
   by_cases h:i<0
   ·simp only[h,if_true] <;> omega
   ·simp only[h,if_false] <;> omega
theorem nK (its:List Value) (lo hi:Option Int):slicePick its.toArray lo hi none=((its.drop (HT.sIx its.length 0 lo)).take (HT.sIx its.length its.length hi-HT.sIx its.length 0 lo)).toArray:=by
 obtain⟨h1,h2,h3⟩:=qH lo hi its.toArray.size
 unfold slicePick
 rw[h1,h2,h3]
 simp only[sliceRange_one,pick_run,List.size_toArray] <;> rfl
noncomputable def aGh (K:PySem.W.Frag):V->Option Int->Option Int->Hp->VK->Prop:=fun x lo hi H Q=>∃a xs,x=.ref a/\SqL K H a xs/\∀p,H p=none->Q (.ref p) (upd H p (.lst (m7 xs lo hi)))
theorem aB3:SlR X (aGh X.K):=by
 intro pins s σ H x v vl vu lo hi sl Q I rx hs pl pu h
 obtain⟨a,xs,rfl,hx,q⟩:=h
 cases rx
 obtain⟨its,r,ht,hz⟩:=I.list hx
 have hlen:=r.length
 refine⟨"list",_,slot_list_getitem.lookup,ht.isList.typeIs,?_⟩
 refine wpAny_getItem_list_slice ht.isList hs pl pu .none (by simp) ?_ (by rw[List.size_toArray] <;> omega)
 rw[nK,<- hlen]
 refine⟨.ref s.heap.objs.size,_,I.laid (t':=s.toks) (o:=.lst (m7 xs lo hi)) (fun b ob q=>Heap.get?_push_of_some _ q) (Nat.le_refl _) ?_,rfl,q _ (I.hok.fresh (Nat.le_refl _))⟩
 exact⟨Nat.le_trans (kH xs lo hi) hz,_,0,(r.drop (HT.sIx xs.length 0 lo)).take (HT.sIx xs.length xs.length hi-HT.sIx xs.length 0 lo),Heap.get?_push_size _ rfl⟩
noncomputable def hV:V->Bool
 | .non=>true
 | .bl _=>true
 | .int _=>true
 | .str _=>true
 | _=>false
noncomputable def eqV:V->V->Bool
 | .non,.non=>true
 | .bl a,.bl b=>a==b
 | .bl a,.int b=>(if a then 1 else 0)==b
 | .int a,.bl b=>a==(if b then 1 else 0)
 | .int a,.int b=>a==b
 | .str a,.str b=>a==b
 | _,_=>false
theorem aFh {A:Around} {s:Shared} {y x:V} {u v:Value} (ry:RelV y u) (rx:RelV x v) (fy:hV y=true) (fx:hV x=true):SeqAt.EqAt A s u v (eqV y x):=by
 cases y with
 | non =>
  cases ry
  cases x with
  | non=>cases rx;exact SeqAt.EqAt.same _
  | bl b=>cases rx;exact SeqAt.EqAt.none_bool b
  | int b=>obtain⟨t,rfl⟩:=rx;exact SeqAt.EqAt.none_int b t
  | str b=>obtain⟨t,rfl⟩:=rx;exact SeqAt.EqAt.none_str b t
  | _=>exact absurd (show false=true from fx) Bool.false_ne_true
 | bl a =>
  cases ry
  cases x with
  | non=>cases rx;exact SeqAt.EqAt.bool_none a
  | bl b=>cases rx;exact SeqAt.EqAt.bool_bool a b
  | int b=>obtain⟨t,rfl⟩:=rx;exact SeqAt.EqAt.bool_int a b t
  | str b=>obtain⟨t,rfl⟩:=rx;exact SeqAt.EqAt.bool_str a b t
  | _=>exact absurd (show false=true from fx) Bool.false_ne_true
 | int a =>
  obtain⟨t',rfl⟩:=ry
  cases x with
  | non=>cases rx;exact SeqAt.EqAt.int_none a t'
  | bl b=>cases rx;exact SeqAt.EqAt.int_bool a t' b
  | int b=>obtain⟨t,rfl⟩:=rx;exact SeqAt.EqAt.int_int a t' b t
  | str b=>obtain⟨t,rfl⟩:=rx;exact SeqAt.EqAt.int_str a t' b t
  | _=>exact absurd (show false=true from fx) Bool.false_ne_true
 | str a =>
  obtain⟨t',rfl⟩:=ry
  cases x with
  | non=>cases rx;exact SeqAt.EqAt.str_none a t'
  | bl b=>cases rx;exact SeqAt.EqAt.str_bool a t' b
  | int b=>obtain⟨t,rfl⟩:=rx;exact SeqAt.EqAt.str_int a t' b t
  | str b=>obtain⟨t,rfl⟩:=rx;exact SeqAt.EqAt.str_str a t' b t
  | _=>exact absurd (show false=true from fx) Bool.false_ne_true
 | _=>exact absurd (show false=true from fy) Bool.false_ne_true
noncomputable def eqU (x:V) (u:Value):Bool:=match u with
 | .none=>eqV .non x
 | .bool b=>eqV (.bl b) x
 | .int i _=>eqV (.int i) x
 | .str z _=>eqV (.str z) x
 | _=>false
theorem aBb {x y:V} {u:Value} (r:RelV y u) (f:hV y=true):eqU x u=eqV y x:=by
 cases y with
 | non=>cases r;rfl
 | bl b=>cases r;rfl
 | int i=>obtain⟨t,rfl⟩:=r;rfl
 | str z=>obtain⟨t,rfl⟩:=r;rfl
 | _=>exact absurd (show false=true from f) Bool.false_ne_true
theorem jQ {x:V}:∀ {xs:List V} {us:List Value},Vals xs us->xs.all hV=true->us.any (eqU x)=xs.any fun y=>eqV y x
 | _,_,.nil,_=>rfl
 | y::xs,u::us,.cons r t,f=>by
  rw[List.all_cons,Bool.and_eq_true] at f
  rw[List.any_cons,List.any_cons,aBb r f.1,jQ t f.2]
theorem gL {A:Around} {s:Shared} {x:V} {v:Value} (rx:RelV x v) (fx:hV x=true):∀ {xs:List V} {us:List Value},Vals xs us->xs.all hV=true->∀u∈us,SeqAt.EqAt A s u v (eqU x u)
 | _,_,.nil,_=>fun u hu=>by cases hu
 | y::xs,u::us,.cons r t,f=>fun u' hu=>by
  rw[List.all_cons,Bool.and_eq_true] at f
  rcases List.mem_cons.mp hu with rfl | hu
  ·rw[aBb r f.1];exact aFh r rx f.1 fx
  ·exact gL rx fx t f.2 u' hu
noncomputable def inV (x:V) (xs:List V):Bool:=xs.any fun y=>eqV y x
noncomputable def rIn (K:PySem.W.Frag) (neg:Bool):R2:=fun x y H Q=>∃p xs,y=.ref p/\(SqL K H p xs\/SqT K H p xs)/\hV x=true/\xs.all hV=true/\Q (.bl (if neg then !inV x xs else inV x xs)) H
theorem oZ:OpR X (compareOp .In) (rIn X.K false):=by
 intro pins s σ H x y v u Q I rx ry h
 obtain⟨p,xs,rfl,hq,fx,fs,q⟩:=h
 cases ry
 rcases hq with hq | hq
 ·obtain⟨its,r,pl,hz⟩:=I.list hq
  refine SeqAt.in_listAt (eqU x) pl.isList (fun w hw=>gL rx fx r fs w (by simpa using hw)) ⟨.bl _,H,I,rfl,?_⟩
  rw[show its.toArray.any (eqU x)=its.any (eqU x) by simp,jQ r fs]
  exact q
 ·obtain⟨its,r,pl,hz⟩:=I.tuple hq
  refine SeqAt.in_tupleAt (eqU x) pl (fun w hw=>gL rx fx r fs w (by simpa using hw)) ⟨.bl _,H,I,rfl,?_⟩
  rw[show its.toArray.any (eqU x)=its.any (eqU x) by simp,jQ r fs]
  exact q
theorem qS:OpR X (compareOp .NotIn) (rIn X.K true):=by
 intro pins s σ H x y v u Q I rx ry h
 obtain⟨p,xs,rfl,hq,fx,fs,q⟩:=h
 cases ry
 rcases hq with hq | hq
 ·obtain⟨its,r,pl,hz⟩:=I.list hq
  refine SeqAt.notIn_listAt (eqU x) pl.isList (fun w hw=>gL rx fx r fs w (by simpa using hw)) ⟨.bl _,H,I,rfl,?_⟩
  rw[show its.toArray.any (eqU x)=its.any (eqU x) by simp,jQ r fs]
  exact q
 ·obtain⟨its,r,pl,hz⟩:=I.tuple hq
  refine SeqAt.notIn_tupleAt (eqU x) pl (fun w hw=>gL rx fx r fs w (by simpa using hw)) ⟨.bl _,H,I,rfl,?_⟩
  rw[show its.toArray.any (eqU x)=its.any (eqU x) by simp,jQ r fs]
  exact q
theorem bB:d6 X (.builtin "len") (fun xs H Q=>∃p ys,xs=[.ref p]/\(SqL X.K H p ys\/SqT X.K H p ys)/\Q (.int ys.length) H):=by
 intro pins s σ H xs us Q I r h
 obtain⟨p,ys,rfl,hq,q⟩:=h
 obtain⟨u,rfl,rx⟩:=lE r
 cases rx
 have hn:=qU
 rcases hq with hq | hq
 ·obtain⟨its,r',pl,hz⟩:=I.list hq
  have hlen:=r'.length
  exact Calls.call_len_list pl.isList (by simp only[List.size_toArray] <;> omega) ⟨.int ys.length,H,I.tok _,⟨s.toks+1,by rw[List.size_toArray,hlen]⟩,q⟩
 ·obtain⟨its,r',pl,hz⟩:=I.tuple hq
  have hlen:=r'.length
  exact len_tuple pl (by simp only[List.size_toArray] <;> omega) ⟨.int ys.length,H,I.tok _,⟨s.toks+1,by rw[List.size_toArray,hlen]⟩,q⟩
theorem rZ:d6 X (.type "list") (fun xs H Q=>∃p ys,xs=[.ref p]/\(SqL X.K H p ys\/SqT X.K H p ys)/\∀l,H l=none->Q (.ref l) (upd H l (.lst ys))):=by
 intro pins s σ H xs us Q I r h
 obtain⟨p,ys,rfl,hq,q⟩:=h
 obtain⟨u,rfl,rx⟩:=lE r
 cases rx
 have fin:∀(its:List Value),Vals ys its->ys.length<=sizeLine->∀(h':Heap) (c':Nat),(∀b o',s.heap.get? b=some o'->h'.get? b=some o') ->
   h'.get? s.heap.objs.size=some { cls:=.type "list",dict:=none,data:=.seq its.toArray c',slots:=#[] }->EP X pins σ Q (.ref s.heap.objs.size) { s with heap:=h' }:=fun its r' hz h' c' kp e =>
  ⟨.ref s.heap.objs.size,_,I.laid (t':=s.toks) kp (Nat.le_refl _) (show ObjOk X.prog X.w _ h' _ (.lst ys) from ⟨hz,its,c',r',e⟩),rfl,q _ (I.hok.fresh (Nat.le_refl _))⟩
 rcases hq with hq | hq
 ·obtain⟨its,r',pl,hz⟩:=I.list hq
  have hlen:=r'.length
  obtain⟨o,ho,hc,n,hd⟩:=pl.isList
  exact call_list_seq p (.inl rfl) ho hc hd (fun h' c' kp e=>fin its r' hz h' c' kp e) (by simp only[List.size_toArray] <;> omega)
 ·obtain⟨its,r',pl,hz⟩:=I.tuple hq
  have hlen:=r'.length
  obtain⟨o,ho,hc,n,hd⟩:=pl
  exact call_list_seq p (.inr rfl) ho hc hd (fun h' c' kp e=>fin its r' hz h' c' kp e) (by simp only[List.size_toArray] <;> omega)
theorem iA:d6 X (.type "tuple") (fun xs H Q=>∃p ys,xs=[.ref p]/\((SqL X.K H p ys/\∀l,H l=none->Q (.ref l) (upd H l (.tup ys)))\/(SqT X.K H p ys/\Q (.ref p) H))):=by
 intro pins s σ H xs us Q I r h
 obtain⟨p,ys,rfl,h⟩:=h
 obtain⟨u,rfl,rx⟩:=lE r
 cases rx
 rcases h with ⟨hq,q⟩ | ⟨hq,q⟩
 ·obtain⟨its,r',pl,hz⟩:=I.list hq
  have hlen:=r'.length
  refine call_tuple_list pl.isList (fun h' kp=>?_) (by simp only[List.size_toArray] <;> omega)
  have I1:Inv X pins σ H { s with heap:=h' }:=I.kept (t':=s.toks) kp
  have I2:Inv X pins σ (upd H h'.objs.size (.tup ys)) { s with heap:=h'.push { cls:=.type "tuple",data:=.seq its.toArray } } :=
   I1.laid (t':=s.toks) (fun b o e=>Heap.get?_push_of_some _ e) (Nat.le_refl _) (show ObjOk X.prog X.w _ _ _ (.tup ys) from ⟨hz,its,r',IsTup.new _ _⟩)
  exact⟨.ref h'.objs.size,_,I2,rfl,q _ (I1.hok.fresh (Nat.le_refl _))⟩
 ·obtain⟨its,r',pl,hz⟩:=I.tuple hq
  exact call_tuple_same pl ⟨.ref p,H,I,rfl,q⟩
noncomputable def tyV (K:PySem.W.Frag) (T:String) (x:V) (H:Hp):Prop:=match x with
 | .str _=>T = "str"
 | .int _=>T = "int"
 | .ref p=>(T = "list" /\ ∃xs,SqL K H p xs)\/(T = "tuple" /\ ∃o,K.lookup p=some o/\o.cls=.type "tuple" /\ o.dict=none) \/
   (T = "dict" /\ ((∃kvs,H p=some (.dK kvs))\/∃kvs,H p=some (.dT kvs)))\/(T = "set" /\ ∃S n,H p=some (.set S n))
 | _=>False
theorem y8 {pins:List (Addr×Obj)} {σ:St} {H:Hp} {s:Shared} {T:String} {x:V} {v:Value} (I:Inv X pins σ H s) (r:RelV x v) (ty:tyV X.K T x H) :
  s.TypeIs v T/\∀a,v=.ref a->∃ob,s.heap.get? a=some ob/\ob.dict=none:=by
 cases x with
 | str z =>
  obtain⟨t,rfl⟩:=r
  cases (show T = "str" from ty)
  exact⟨typeIs_str s z t,fun _ e=>nomatch e⟩
 | int i =>
  obtain⟨t,rfl⟩:=r
  cases (show T = "int" from ty)
  exact⟨typeIs_int s i t,fun _ e=>nomatch e⟩
 | ref p =>
  cases r
  rcases ty with ⟨rfl,xs,hq⟩ | ⟨rfl,o,hk,hc,hd⟩ | ⟨rfl,hk⟩ | ⟨rfl,S,n,hk⟩
  ·obtain⟨its,_,pl,_⟩:=I.list hq
   refine⟨pl.isList.typeIs,fun a e=>?_⟩
   cases e
   obtain⟨o,n,e,c,hd,_⟩:=pl
   exact⟨o,e,hd⟩
  ·refine⟨⟨o,I.kIn p o hk,hc⟩,fun a e=>?_⟩
   cases e
   exact⟨o,I.kIn _ o hk,hd⟩
  ·have z:∃o,s.heap.get? p=some o/\o.ExactDict:=by
    rcases hk with ⟨kvs,hk⟩ | ⟨kvs,hk⟩
    ·obtain⟨_,_,_,_,o,_,_,e,ex,_⟩:=I.hok p _ hk
     exact⟨o,e,ex⟩
    ·obtain⟨_,_,_,_,o,_,_,e,ex,_⟩:=I.hok p _ hk
     exact⟨o,e,ex⟩
   obtain⟨o,e,ex⟩:=z
   refine⟨⟨o,e,ex.1⟩,fun a e2=>?_⟩
   cases e2
   exact⟨o,e,ex.2.1⟩
  ·obtain⟨o,_,_,_,e,ex,_⟩:=I.hok p _ hk
   refine⟨⟨o,e,ex.1⟩,fun a e2=>?_⟩
   cases e2
   exact⟨o,e,ex.2.1⟩
 | _=>exact False.elim ty
noncomputable def aFr (K:PySem.W.Frag) (T:String) (r:V->List V->Hp->VK->Prop) (to:TE):TE:=fun σ H Q=>to σ H fun x H1=>tyV K T x H1/\r x [] H1 Q
noncomputable def tBM (K:PySem.W.Frag) (T:String) (r:V->List V->Hp->VK->Prop) (to:TE) (t:TA):TE:=fun σ H Q=>to σ H fun x H1=>tyV K T x H1/\t σ H1 fun xs H2=>r x xs H2 Q
variable {o e:Expr} {es:List Expr} {to:TE} {t:TA} {name:Str} {apos cpos:Pos} {T id:String} {r:V->List V->Hp->VK->Prop}
theorem aEr (pa:PlainAttrs T) (slot:Slot T name id) (hty:typeOf (.builtin id)=pure (.type "method_descriptor")) (hm:MtR X id r) (ho:PE X o to)
  (hbase:autoParam (attributeBase o name X.env (eval o X.env)=eval o X.env) L2.au4._auto_1) (hline:autoParam ((apos.endLine==cpos.line)=true) L2.au4._auto_1):PE X (.Call (.Attribute o name apos) [] [] cpos) (aFr X.K T r to):=by
 intro pins s σ H Q I h
 refine wpAny_Call_method0_late hbase hline (thn (ho pins s σ H _ I h) fun v s1 ⟨x,H1,I1,r1,ty,q1⟩=>?_)
 obtain⟨h1,h2⟩:=y8 I1 r1 ty
 exact⟨T,id,pa,slot,hty,h1,h2,Calls.callWith_builtin rfl (PySem.evalArgs_none (hm pins s1 σ H1 x [] v [] Q I1 r1 .nil q1))⟩
theorem l9 (pa:PlainAttrs T) (slot:Slot T name id) (hty:typeOf (.builtin id)=pure (.type "method_descriptor")) (hm:MtR X id r) (ho:PE X o to) (ha:PA X (e::es) t)
  (hbase:autoParam (attributeBase o name X.env (eval o X.env)=eval o X.env) L2.au4._auto_1)
  (hfew:autoParam (((backTo cpos (starEach (e::es) X.env)).all (fun x => !x.1)&&(backToKw cpos (keywordEach [] X.env)).all (fun x=>x.1.isSome)
   && decide ((e::es).length+([]:List Keyword).length+(if ([]:List Keyword).isEmpty then 0 else 1)<30))=true) L2.au4._auto_1)
  (hline:autoParam ((apos.endLine==cpos.line)=true) L2.au4._auto_1) (hs:autoParam (starEach (e::es) X.env=(false,eval e X.env)::starEach es X.env) L2.au4._auto_1) (hplain:autoParam ((backTo cpos (starEach es X.env)).any (·.1)=false) L2.au4._auto_1) :
  PE X (.Call (.Attribute o name apos) (e::es) [] cpos) (tBM X.K T r to t):=by
 intro pins s σ H Q I h
 refine wpAny_Call_method_late hbase hfew hline rfl (thn (ho pins s σ H _ I h) fun v s1 ⟨x,H1,I1,r1,ty,q1⟩=>?_)
 obtain⟨h1,h2⟩:=y8 I1 r1 ty
 refine⟨T,id,pa,slot,hty,h1,h2,?_⟩
 have hA:=ha cpos pins s1 σ H1 _ I1 q1
 rw[hs] at hA ⊢
 refine Calls.callWith_builtin (by show (false||(backTo cpos (starEach es X.env)).any (·.1))=false;rw[hplain] <;> rfl) (Calls.evalArgs_plain ?_)
 exact thn hA fun us s2 ⟨vs,H2,I2,r2,q2⟩=>hm pins s2 σ H2 x vs v us Q I2 r1 r2 q2
end
end L2
namespace L2
open PySem PySem.Spec PyProof.Rows
noncomputable def MtM (X:Cx) (id:String) (r:V->List V->Hp->VK->Prop):Prop :=
 ∀(pins:List (Addr×Obj)) (s:Shared) (σ:St) (H:Hp) (x:V) (xs:List V) (v:Value) (us:List Value) (Q:VK),Inv X pins σ H s->RelV x v->Vals xs us->r x xs H Q ->
  wpAny (model X.prog X.w) X.A (call (.builtin id) (v::us)) (EP X pins σ Q) X.xe s
theorem Vals.one {x:V} {us:List Value} (h:Vals [x] us):∃u,us=[u]/\RelV x u:=by
 cases h with
 | cons r t=>cases t;exact⟨_,rfl,r⟩
theorem Vals.zero:∀ {us:List Value},Vals [] us->us=[]
 | _,.nil=>rfl
theorem Vals.dropLast {xs:List V} {us:List Value} (h:Vals xs us):Vals xs.dropLast us.dropLast:=by
 induction h with
 | nil=>exact .nil
 | cons r t ih =>
  cases t with
  | nil=>exact .nil
  | cons q t'=>exact .cons r ih
theorem vA {α:Type} (l:List α):l.eraseIdx (l.length-1)=l.dropLast:=by
 induction l with
 | nil=>rfl
 | cons a r ih =>
  cases r with
  | nil=>rfl
  | cons b r =>
   have e:(a::b::r).length-1=((b::r).length-1)+1:=by
    have h1:(a::b::r).length=r.length+2:=rfl
    have h2:(b::r).length=r.length+1:=rfl
    omega
   rw[e,List.eraseIdx_cons_succ,ih]
   all_goals rfl
section
variable {X:Cx} {pins:List (Addr×Obj)} {σ:St} {H:Hp} {s:Shared} {l b:Addr} {xs ys zs:List V}
theorem Inv.lset {its its':List Value} {n:Nat} {f:Array Value->Array Value} {t':Nat} (I:Inv X pins σ H s) (hH:H l=some (.lst xs))
  (e:s.heap.get? l=some { cls:=.type "list",data:=.seq its.toArray n }) (hf:f its.toArray=its'.toArray) (hv:Vals ys its') (hz:ys.length<=sizeLine) :
  Inv X pins σ (upd H l (.lst ys)) { s with heap:=s.heap.update l (Obj.mapSeq f),toks:=t' }:=by
 have q:=PySem.IsL.update e f
 rw[hf] at q
 refine I.write (x:=l) (e:=l) (by rw[hH];exact trivial) (.inl rfl) (fun b' u hb hu=>(Heap.get?_update_other s.heap (Obj.mapSeq f) (Ne.symm hb)).trans hu) ⟨_,q⟩ ?_
 exact⟨hz,its',_,hv,q⟩
theorem Inv.lnew {its:List Value} {t':Nat} (I:Inv X pins σ H s) (hv:Vals ys its) (hz:ys.length<=sizeLine) :
  Inv X pins σ (upd H s.heap.objs.size (.lst ys)) { s with heap:=s.heap.push { cls:=.type "list",data:=.seq its.toArray },toks:=t' } :=
 I.laid (fun _ _ q=>Heap.get?_push_of_some _ q) (Nat.le_refl _) ⟨hz,its,0,hv,Heap.get?_push_size _ rfl⟩
theorem Inv.fresh (I:Inv X pins σ H s):H s.heap.objs.size=none:=I.hok.fresh (Nat.le_refl _)
theorem Inv.lstM (I:Inv X pins σ H s) (hH:H l=some (.lst xs)):xs.length<=sizeLine/\∃(its:List Value) (n:Nat),Vals xs its/\xs.length=its.length/\s.heap.get? l=some { cls:=.type "list",data:=.seq its.toArray n }:=by
 obtain⟨z,its,n,r,e⟩:=I.hok l _ hH
 exact⟨z,its,n,r,r.length,e⟩
end
section
variable {X:Cx}
noncomputable def eG:V->List V->Hp->VK->Prop:=fun x vs H Q=>∃l xs y,x=.ref l/\vs=[y]/\H l=some (.lst xs)/\xs.length<sizeLine/\Q .non (upd H l (.lst (xs++[y])))
theorem eR:MtM X "list.append" eG:=by
 intro pins s σ H x vs v us Q I rx rv h
 obtain⟨l,xs,y,rfl,rfl,hH,hz,q⟩:=h
 cases rx
 obtain⟨u,rfl,ru⟩:=rv.one
 obtain⟨z,its,n,r,hl,e⟩:=I.lstM hH
 refine call_meets F.slot_list_append ⟨_,e,rfl⟩ F.entry_list_append (F.args_list_append_2 _ _) (PySem.list_append l its.toArray n u (by rw[List.size_toArray];omega)) ⟨e,?_⟩
 refine⟨.non,_,I.lset (its':=its++[u]) hH e (by simp) (r.append (.cons ru .nil)) ?_,rfl,q⟩
 rw[List.length_append,List.length_singleton]
 omega
noncomputable def aFt:V->List V->Hp->VK->Prop:=fun x vs H Q=>∃l xs y,x=.ref l/\vs=[]/\H l=some (.lst xs)/\xs[xs.length-1]? = some y/\Q y (upd H l (.lst xs.dropLast))
theorem aE2:MtM X "list.pop" aFt:=by
 intro pins s σ H x vs v us Q I rx rv h
 obtain⟨l,xs,y,rfl,rfl,hH,hy,q⟩:=h
 cases rx
 have hus:=rv.zero
 subst hus
 obtain⟨z,its,n,r,hl,e⟩:=I.lstM hH
 obtain⟨u,hu,ru⟩:=r.get hy
 have hy':its.toArray[its.toArray.size-1]? = some u:=by
  show its.toArray[its.length-1]? = some u
  rw[<- Array.getElem?_toList,<- hl]
  exact hu
 refine call_meets F.slot_list_pop ⟨_,e,rfl⟩ F.entry_list_pop (F.args_list_pop_1 _) (MeetsSeq.list_pop_last l its.toArray n u hy' (by rw[List.size_toArray];omega)) ⟨e,?_⟩
 refine⟨y,_,I.lset (its':=its.dropLast) hH e ?_ r.dropLast ?_,ru,q⟩
 ·show its.toArray.eraseIdxIfInBounds (its.toArray.size-1)=its.dropLast.toArray
  rw[List.size_toArray,List.eraseIdxIfInBounds_toArray,vA]
 ·rw[List.length_dropLast]
  omega
noncomputable def nM:R2:=fun x y H Q=>∃l b xs zs,x=.ref l/\y=.ref b/\H l=some (.lst xs)/\H b=some (.lst zs)/\xs.length+zs.length<=sizeLine/\∀p,H p=none->Q (.ref p) (upd H p (.lst (xs++zs)))
theorem iJ:OpR X (binaryOp .Add) nM:=by
 intro pins s σ H x y v u Q I rx ry h
 obtain⟨l,b,xs,zs,rfl,rfl,hH,hB,hz,q⟩:=h
 cases rx
 cases ry
 obtain⟨z,its,n,r,hl,e⟩:=I.lstM hH
 obtain⟨z2,its2,n2,r2,hl2,e2⟩:=I.lstM hB
 refine PySem.P.add_list e e2 ?_ (by rw[List.size_toArray,List.size_toArray];omega)
 have ea:its.toArray++its2.toArray=(its++its2).toArray:=by simp
 rw[ea]
 exact⟨.ref _,_,I.lnew (t':=s.toks) (r.append r2) (by rw[List.length_append];omega),rfl,q _ I.fresh⟩
end
section
variable {prog:Program} {w:World} {A:Around} {E:Value->Shared->Prop} {s:Shared}
set_option maxRecDepth 100000 in
end
section
variable {X:Cx}
end
end L2
namespace Att
open PySem PySem.W PySem.Calls PyProof.Rows
theorem kQ {P:Params} {h:Heap}:∀(ns:List Int) (vs:List Value),WellAll P h vs (ns.map WData.int)->IntsAre vs ns:=by
 intro ns
 induction ns with
 | nil =>
  intro vs w
  rw[List.map_nil] at w
  cases w
  exact .nil
 | cons n ns ih =>
  intro vs w
  rw[List.map_cons] at w
  cases w with
  | cons a b =>
   cases a
   exact .cons _ _ (ih _ b)
theorem xP {l:OpenLaw} {n:Nat} (hn:l.most=some n) {P:Params} {h:Heap} {args:List WData} {vals:List Value}
  (hpre:l.row.toRowW.claim.pre args=true) (hwl:WellAll P h vals args) :
  ∃a vs ns,vals=[Value.ref a]/\args=[WData.list (ns.map WData.int)]/\h.get? a=some { cls:=.type "list",data:=.seq vs.toArray }/\IntsAre vs ns/\ns.length<=n:=by
 have hsh:WShape.hasAll [] args [.list .int]=true:=(pre_splitW hpre).1
 have hc:l.pre.holds [] { args:=args }=true:=(pre_splitW hpre).2
 obtain⟨d,r,rfl,h1,h2⟩:=hasAllW_cons hsh
 obtain rfl:=hasAllW_nil h2
 obtain⟨xs,rfl,h3⟩:=hasW_list h1
 obtain⟨ns,rfl⟩:=items_int h3
 have hlen:ns.length<=n:=by
  unfold OpenLaw.pre at hc
  have h4:(WTm.not (.lt (.lit (.int (n:Int))) (.len (.arg 0)))).holds [] { args:=[.list (ns.map .int)] }=true:=by
   have h4:=(holds_andW hc).1
   rw[hn] at h4
   exact h4
  have h5:=condW_of h4 (w_not (w_lt w_lit (w_len_list (w_arg rfl))))
  rw[List.length_map] at h5
  refine Nat.le_of_not_lt fun q=>?_
  have q':(n:Int)<((ns.length:Nat):Int):=by omega
  first
   | (rw[decide_eq_true q'] at h5;exact absurd h5 (by decide))
   | (simp at h5;omega)
 cases hwl with
 | cons w1 w2 =>
  cases w2
  cases w1 with
  | list ho hall=>exact⟨_,_,ns,rfl,rfl,ho,kQ ns _ hall,hlen⟩
theorem xV (l:OpenLaw) (args:List WData):l.row.toRowW.claim.post args (.bool true) args=true :=
 postW_of (r:=l.row.toRowW) (X:=(true==true))
  (show WShape.has [] (.bool true) .bool=true by first | rfl | decide | simp[WShape.has,WShape.arms,WShape.armsAll])
  (show (WTm.eq .res (.lit (.bool true))).value [] { args:=args,res:=some (.bool true),after:=args }=some (.bool (true==true)) from w_eq_bool (w_res rfl) w_lit) rfl
theorem attach_call {l:OpenLaw} {n:Nat} {q:Program} {loose:List Str} {XP:(Str->Option Value)->Heap->Prop} {YP:World->Heap->Prop} {d:DefRec}
  (hn:l.most=some n) (hdf:d.params.defaults=[])
  (call:∀(w:World) (s₀ s₁:Shared) (mg mb:Str->Option Value) (fa:Addr) (o:Obj) (pm cd doc:Value) (a:Addr) (vs:List Value) (ns:List Int),
   Ground q loose [] XP w s₀ mg mb s₁.heap->YP w s₁.heap ->
   s₁.heap.get? fa=some o->o.data=.func (docDef d.name d.params d.body d.scope pm cd doc)->s₁.heap.CodeRec cd d.name->mg d.name=some (.ref fa) ->
   s₁.heap.get? a=some { cls:=.type "list",data:=.seq vs.toArray }->IntsAre vs ns->ns.length<=n->s₁.gens=#[] ->
   codeAny (model l.prog w) callerA (.call (.ref fa) ⟨[.ref a],[]⟩) (fun r s'=>r=.ok (.ret (.bool true))/\OldK s₁.heap s'.heap/\s'.os=s₁.os/\AllBare s'.gens) s₁) :
  WalkO q loose XP YP l.row.toRowW d [] (fun f vs=>PySem.call f vs):=by
 intro w s₀ s₁ mg mb G Y fa o pm cd doc dV kV ho hd hcd hD hmg hg args vals as hpre hlay hrd hwl hlo
 obtain rfl:dV=.none:=Dflts.none hD hdf
 obtain rfl:kV=.none:=Dflts.noKw hD
 obtain⟨a,vs,ns,rfl,rfl,hobj,hints,hlen⟩:=xP hn hpre hwl
 refine enter_call (codeAny_mono (call w s₀ s₁ mg mb fa o pm cd doc a vs ns G Y ho (fd_plain hd) hcd hmg hobj hints hlen hg) fun r s' hq=>?_)
 obtain⟨rfl,h2,h3,h4⟩:=hq
 exact⟨.inl ⟨.bool true,.bool true,[],rfl,fun _=>rfl,.bool true,xV l _,fun _=>⟨List.Pairwise.nil,fun _ hm=>(nomatch hm)⟩⟩,h2,h3,h4⟩
section
variable {prog:Program} {w:World} {A:Around} {E:Value->Shared->Prop} {s:Shared} {K:Frag}
end
end Att
namespace L2
open PySem PySem.Spec PyProof.Rows
theorem oN:∀ {vs:List Value} {ns:List Int},IntsAre vs ns->Vals (ns.map V.int) vs
 | _,_,.nil=>.nil
 | _,_,.cons n t h=>.cons ⟨t,rfl⟩ (oN h)
end L2
namespace L2
open PySem PySem.Spec PyProof.Rows
noncomputable abbrev KOf {K:PySem.W.Frag} {h:Heap} (_:K.In h):PySem.W.Frag:=K
end L2
namespace L2
open PySem PySem.Spec PyProof.Rows
noncomputable def c8 (s:Stmt):Arguments:=match s with
 | .FunctionDef _ a _ _ _ _ _ _ _ _=>a
 | _=>{ posonlyargs:=[],args:=[],vararg:=none,kwonlyargs:=[],kw_defaults:=[],kwarg:=none,defaults:=[] }
noncomputable def cK (s:Stmt):List Stmt:=match s with
 | .FunctionDef _ _ b _ _ _ _ _ _ _=>b
 | _=>[]
noncomputable def aJ (s:Stmt):Scope:=match s with
 | .FunctionDef _ _ _ _ _ _ sc _ _ _=>sc
 | _=>{ kind:=.function,names:=[],isGenerator:=false,isCoroutine:=false }
noncomputable abbrev CX0:CXT:=fun _ _ _ _ _ _=>False
noncomputable abbrev E0:XK:=fun _ _ _=>False
theorem aR {X:Cx}:Passes CX0 X E0:=fun _ _ _ _ _ _ _ h=>h.elim
structure Fun (K:PySem.W.Frag) (x qual:Str) (st:Stmt) (f:Addr) (fd:FuncData):Prop where
 ex:∃(oc:Value) (od:Option Addr) (kV doc pm:Value) (an:Option Addr) (cdv ct:Value) (osl:Array (Option Value)),
  fd=PySem.W.fnOf x qual (c8 st) (cK st) (aJ st) .none kV doc pm an cdv ct/\K.lookup f=some ⟨oc,od,.func fd,osl⟩/\PySem.W.codeIn K cdv qual=true
 kp:PySem.W.keepIn K (.ref f)=true
section
variable {P:Program} {w:World} {K:PySem.W.Frag} {mg:Str->Option Value} {base:Heap}
theorem Fun.ok {x qual:Str} {st:Stmt} {f:Addr} {fd:FuncData} {N ps:List Str} {k:Nat} {sp:Sp} (F:Fun K x qual st f fd) (S:FnScope N ps (aJ st)) (len:∀vs H Q E,sp vs H Q E->vs.length=ps.length)
  (hbody:∀(cdv:Value) (A:Around) (outer:List Env) (s:Shared) (H:Hp) (vs:List V) (Q:VK) (E:XK),Room k (A.deeper (envOfC qual (aJ st) s.heap.objs.size f cdv))->sp vs H Q E ->
   ∃t,PSs (oM CX0 P w K mg base N qual (aJ st) f cdv A outer s H E).nox (cK st) t/\t { nx:=fun _ H'=>Q .non H',rt:=Q } (start N vs) H):FnOk P w K mg base CX0 (k+1) f fd ps sp:=by
 obtain⟨oc,od,kV,doc,pm,an,cdv,ct,osl,rfl,lk,hcd⟩:=F.ex
 refine aA8 lk hcd S len fun A outer s H vs Q E hr hsp=>?_
 obtain⟨t,h,q⟩:=hbody cdv A outer s H vs Q E hr hsp
 exact⟨t,h.nox,q⟩
theorem Fun.binds {x qual:Str} {st:Stmt} {f:Addr} {fd:FuncData} {ps:List Str} (F:Fun K x qual st f fd)
  (h:∀(kV doc pm:Value) (an:Option Addr) (cdv ct:Value) (us:List Value),us.length=ps.length->bindArgs (PySem.W.fnOf x qual (c8 st) (cK st) (aJ st) .none kV doc pm an cdv ct) ⟨us,[]⟩=pure (ps.zip us)):Binds K fd ps []:=by
 obtain⟨oc,od,kV,doc,pm,an,cdv,ct,osl,rfl,lk,hcd⟩:=F.ex
 exact .all (h kV doc pm an cdv ct)
theorem aFf {x qual:Str} {st:Stmt} {f:Addr} {oc:Value} {od an:Option Addr} {osl:Array (Option Value)} {kV doc pm cdv ct:Value} (l:K.lookup f=some ⟨oc,od,.func (PySem.W.fnOf x qual (c8 st) (cK st) (aJ st) .none kV doc pm an cdv ct),osl⟩)
  (c:PySem.W.codeIn K cdv qual=true) (k:PySem.W.keepIn K (.ref f)=true):Fun K x qual st f (PySem.W.fnOf x qual (c8 st) (cK st) (aJ st) .none kV doc pm an cdv ct):=⟨⟨oc,od,kV,doc,pm,an,cdv,ct,osl,rfl,l,c⟩,k⟩
end
theorem bK {n:Nat} (h:n<=1000):n<sizeLine:=Nat.lt_of_le_of_lt h (by decide)
section
variable {X:Cx}
theorem pv (i:Nat) {x:Str} {pos:Pos} (hN:autoParam (X.N[i]? = some x) L2.au4._auto_1) (hv:autoParam (Vis X.env.scope x) L2.au6._auto_1) (hd:autoParam ((x==("__debug__" : Str))=false) L2.au1._auto_1)
  (hcd:autoParam ((x==("__classdict__" : Str))=false) L2.au1._auto_1):PE X (.Name x pos) (dZ i):=aEn hN hv hd hcd
end
theorem aF5 {A B:Prop} (h:B):if false=true then A else B:=by
 rw[if_neg Bool.false_ne_true]
 exact h
theorem aGq {A B:Prop} (h:A):if true=true then A else B:=by
 rw[if_pos rfl]
 exact h
theorem dY {c A B:Prop} [Decidable c] (h1:c->A) (h2:¬ c->B):if c then A else B:=by
 by_cases h:c
 ·rw[if_pos h]
  exact h1 h
 ·rw[if_neg h]
  exact h2 h
noncomputable def Same (H H':Hp):Prop:=∀b o,H b=some o->H' b=some o
theorem Same.refl (H:Hp):Same H H:=fun _ _ h=>h
theorem Same.trans {H H1 H2:Hp} (a:Same H H1) (b:Same H1 H2):Same H H2:=fun c o h=>b c o (a c o h)
theorem Same.seq {K:PySem.W.Frag} {H H':Hp} {a:Addr} {xs:List V} (e:Same H H') (h:SqL K H a xs):SqL K H' a xs:=by
 rcases h with (h | ⟨o,h⟩) | h
 ·exact .inl (.inl (e _ _ h))
 ·exact .inl (.inr ⟨o,e _ _ h⟩)
 ·exact .inr h
end L2
namespace L2
open PySem PySem.Spec PyProof.Rows
theorem kX (i j:Int):scal (.int i) (.int j)=true:=rfl
theorem kY (i j:Bool):scal (.bl i) (.bl j)=true:=rfl
theorem kT (i j:Str):scal (.str i) (.str j)=true:=rfl
theorem kU (i:Int):scal .non (.int i)=true:=rfl
theorem kW (i:Int):scal (.int i) .non=true:=rfl
theorem eF {i:Int} (h:i.natAbs<10^100):i.natAbs.log2<400:=by
 by_cases h0:i.natAbs=0
 ·rw[h0];decide
 ·exact(Nat.log2_lt h0).mpr (Nat.lt_of_lt_of_le h (by decide +kernel))
theorem nG {i:Int} (h:i.natAbs<10^100):Builtin.Int.intBits i<=2^20:=by
 unfold Builtin.Int.intBits
 split
 ·exact Nat.zero_le _
 ·have:=eF h
  have e:(2:Nat)^20=1048576:=by decide
  omega
noncomputable def CMulB (i j:Int):Prop:=CMul i j\/(i.natAbs<10^100/\j.natAbs<10^100)
theorem CMulB.ok {i j:Int} (h:CMulB i j):IntMulOk i j:=by
 rcases h with h | h
 ·exact h.ok
 ·exact .of_bits (nG h.1) (nG h.2)
noncomputable def xF (i j:Int):Prop:=0<j/\j.natAbs<10^100
section
variable {X:Cx}
theorem aY:OpR X (binaryOp .Mult) (rI CMulB fun i j=>.int (i*j)):=opI fun _ _ _ _ _ _ _ hc q=>mul_int q hc.ok
theorem cQ:OpR X (binaryOp .FloorDiv) (rI xF fun i j=>.int (i/j)):=opI fun i j _ _ _ _ _ hc q=>by
 have e:i.fdiv j=i/j:=Int.fdiv_eq_ediv_of_nonneg i (Int.le_of_lt hc.1)
 refine floordiv_int (by have:=hc.1;omega) ?_ (.inl (PyProof.noPylong_of_log2 (Nat.lt_trans (eF hc.2) (by decide))))
 rw[e]
 exact q
noncomputable def aGt (X:Cx) (pins:List (Addr×Obj)) (σ:St) (H:Hp) (s:Shared) (u t:Value):Prop:=∃Hh:Heap->Prop,PySem.W.KitX X.K u t Hh/\Hh s.heap/\u ≠ .builtin "__main__.__loader__#opaque"
theorem TyOf.kit {pins:List (Addr×Obj)} {σ:St} {H:Hp} {s:Shared} {x:V} {u t:Value} (ty:TyOf X.K H x t) (I:Inv X pins σ H s) (rx:RelV x u):aGt X pins σ H s u t:=by
 cases ty with
 | non=>cases (show u=Value.none from rx);exact⟨_,PySem.W.kitx_none,True.intro,fun z=>nomatch z⟩
 | bl y=>cases (show u=Value.bool y from rx);exact⟨_,PySem.W.kitx_bool,True.intro,fun z=>nomatch z⟩
 | int i=>obtain⟨t,q⟩:=(show ∃t,u=Value.int i t from rx);cases q;exact⟨_,PySem.W.kitx_int,True.intro,fun z=>nomatch z⟩
 | str y=>obtain⟨t,q⟩:=(show ∃t,u=Value.str y t from rx);cases q;exact⟨_,PySem.W.kitx_str,True.intro,fun z=>nomatch z⟩
 | flt y=>obtain⟨t,q⟩:=(show ∃t,u=Value.float y t from rx);cases q;exact⟨_,PySem.W.kitx_float,True.intro,fun z=>nomatch z⟩
 | @lst a xs ea =>
  cases (show u=Value.ref a from rx)
  obtain⟨_,_,n,_,h1⟩:=(show ObjOk X.prog X.w H s.heap a (.lst xs) from I.hok a _ ea)
  exact⟨_,PySem.W.kitx_list,⟨_,h1,rfl⟩,fun z=>nomatch z⟩
 | @frz a ob xs ea =>
  cases (show u=Value.ref a from rx)
  obtain⟨_,_,_,n,_,h1⟩:=(show ObjOk X.prog X.w H s.heap a (.frz ob (.lst xs)) from I.hok a _ ea)
  exact⟨_,PySem.W.kitx_list,⟨_,h1,rfl⟩,fun z=>nomatch z⟩
 | @tup a xs ea =>
  cases (show u=Value.ref a from rx)
  obtain⟨_,_,_,p⟩:=(show ObjOk X.prog X.w H s.heap a (.tup xs) from I.hok a _ ea)
  obtain⟨o,h1,h2,_⟩:=p
  exact⟨_,PySem.W.kitx_tuple,⟨o,h1,h2⟩,fun z=>nomatch z⟩
 | @dK a kvs ea =>
  cases (show u=Value.ref a from rx)
  obtain⟨_,_,vs,_,p⟩:=(show ObjOk X.prog X.w H s.heap a (.dK kvs) from I.hok a _ ea)
  obtain⟨o,es,ep,h1,h2,_⟩:=p
  exact⟨_,PySem.W.kitx_dict,⟨o,h1,h2.1⟩,fun z=>nomatch z⟩
 | @dT a kvs ea =>
  cases (show u=Value.ref a from rx)
  obtain⟨_,_,xs,_,o,es,ep,h1,h2,_⟩:=(show ObjOk X.prog X.w H s.heap a (.dT kvs) from I.hok a _ ea)
  exact⟨_,PySem.W.kitx_dict,⟨o,h1,h2.1⟩,fun z=>nomatch z⟩
 | @ins a C dx fs ea cl ha hn htk hm =>
  cases (show u=Value.ref a from rx)
  obtain⟨mA,O,_⟩:=aC4 I.hok ea
  obtain⟨od,J,_⟩:=O.look
  exact⟨_,PySem.W.kitx_own (cl.get _) cl.hd ha hn htk hm,J,fun z=>nomatch z⟩
noncomputable def yQ:V->Option Value
 | .ty n=>some (.type n)
 | .ref a=>some (.ref a)
 | _=>none
theorem jM {c:V} {u u':Value} (h:yQ c=some u) (r:RelV c u'):u'=u:=by
 cases c with
 | ty n=>cases h;exact r
 | ref a=>cases h;exact r
 | _=>cases h
noncomputable def aFw (K:PySem.W.Frag):List V->Hp->VK->Prop:=fun xs H Q=>∃x t c u b,xs=[x,c]/\TyOf K H x t/\yQ c=some u/\PySem.W.kitOne K t u=some b/\Q (.bl b) H
theorem gN:d6 X (.builtin "isinstance") (aFw X.K):=by
 intro pins s σ H xs us Q I r h
 obtain⟨x,t,c,u',b,rfl,ty,ec,e,q⟩:=h
 obtain⟨u,w',rfl,rx,rc⟩:=kB r
 obtain rfl:=jM ec rc
 obtain⟨Hh,Z,p,hx⟩:=ty.kit I rx
 exact PySem.W.kia_one Z I.kIn p e hx fun tk=>⟨.bl b,H,I.tok tk,rfl,q⟩
noncomputable def aDr (K:PySem.W.Frag):List V->Hp->VK->Prop:=fun xs H Q=>∃x t p c1 c2 u1 u2 b,xs=[x,.ref p]/\H p=some (.tup [c1,c2])/\TyOf K H x t/\yQ c1=some u1/\yQ c2=some u2/\PySem.W.kitAny K t [u1,u2]=some b/\Q (.bl b) H
theorem j7 (K:PySem.W.Frag):PySem.W.kitOne K (.type "NoneType") (.type "int")=some false:=by kernel_rfl
theorem jF (K:PySem.W.Frag):PySem.W.kitOne K (.type "NoneType") (.type "bool")=some false:=by kernel_rfl
theorem iN (K:PySem.W.Frag):PySem.W.kitOne K (.type "NoneType") (.type "tuple")=some false:=by kernel_rfl
theorem jD (K:PySem.W.Frag):PySem.W.kitOne K (.type "NoneType") (.type "list")=some false:=by kernel_rfl
theorem j6 (K:PySem.W.Frag):PySem.W.kitOne K (.type "NoneType") (.type "str")=some false:=by kernel_rfl
theorem jE (K:PySem.W.Frag):PySem.W.kitOne K (.type "NoneType") (.type "dict")=some false:=by kernel_rfl
theorem rK (K:PySem.W.Frag):PySem.W.kitOne K (.type "bool") (.type "int")=some true:=by kernel_rfl
theorem oH (K:PySem.W.Frag):PySem.W.kitOne K (.type "bool") (.type "bool")=some true:=by kernel_rfl
theorem mR (K:PySem.W.Frag):PySem.W.kitOne K (.type "bool") (.type "tuple")=some false:=by kernel_rfl
theorem oF (K:PySem.W.Frag):PySem.W.kitOne K (.type "bool") (.type "list")=some false:=by kernel_rfl
theorem rJ (K:PySem.W.Frag):PySem.W.kitOne K (.type "bool") (.type "str")=some false:=by kernel_rfl
theorem oG (K:PySem.W.Frag):PySem.W.kitOne K (.type "bool") (.type "dict")=some false:=by kernel_rfl
theorem tQ (K:PySem.W.Frag):PySem.W.kitOne K (.type "int") (.type "int")=some true:=by kernel_rfl
theorem rF (K:PySem.W.Frag):PySem.W.kitOne K (.type "int") (.type "bool")=some false:=by kernel_rfl
theorem nV (K:PySem.W.Frag):PySem.W.kitOne K (.type "int") (.type "tuple")=some false:=by kernel_rfl
theorem rC (K:PySem.W.Frag):PySem.W.kitOne K (.type "int") (.type "list")=some false:=by kernel_rfl
theorem tP (K:PySem.W.Frag):PySem.W.kitOne K (.type "int") (.type "str")=some false:=by kernel_rfl
theorem rE (K:PySem.W.Frag):PySem.W.kitOne K (.type "int") (.type "dict")=some false:=by kernel_rfl
theorem tO (K:PySem.W.Frag):PySem.W.kitOne K (.type "str") (.type "int")=some false:=by kernel_rfl
theorem qY (K:PySem.W.Frag):PySem.W.kitOne K (.type "str") (.type "bool")=some false:=by kernel_rfl
theorem nR (K:PySem.W.Frag):PySem.W.kitOne K (.type "str") (.type "tuple")=some false:=by kernel_rfl
theorem qW (K:PySem.W.Frag):PySem.W.kitOne K (.type "str") (.type "list")=some false:=by kernel_rfl
theorem tN (K:PySem.W.Frag):PySem.W.kitOne K (.type "str") (.type "str")=some true:=by kernel_rfl
theorem qX (K:PySem.W.Frag):PySem.W.kitOne K (.type "str") (.type "dict")=some false:=by kernel_rfl
theorem nX (K:PySem.W.Frag):PySem.W.kitOne K (.type "float") (.type "int")=some false:=by kernel_rfl
theorem mP (K:PySem.W.Frag):PySem.W.kitOne K (.type "float") (.type "bool")=some false:=by kernel_rfl
theorem kO (K:PySem.W.Frag):PySem.W.kitOne K (.type "float") (.type "tuple")=some false:=by kernel_rfl
theorem mM (K:PySem.W.Frag):PySem.W.kitOne K (.type "float") (.type "list")=some false:=by kernel_rfl
theorem nW (K:PySem.W.Frag):PySem.W.kitOne K (.type "float") (.type "str")=some false:=by kernel_rfl
theorem mO (K:PySem.W.Frag):PySem.W.kitOne K (.type "float") (.type "dict")=some false:=by kernel_rfl
theorem rB (K:PySem.W.Frag):PySem.W.kitOne K (.type "list") (.type "int")=some false:=by kernel_rfl
theorem nU (K:PySem.W.Frag):PySem.W.kitOne K (.type "list") (.type "bool")=some false:=by kernel_rfl
theorem mL (K:PySem.W.Frag):PySem.W.kitOne K (.type "list") (.type "tuple")=some false:=by kernel_rfl
theorem nS (K:PySem.W.Frag):PySem.W.kitOne K (.type "list") (.type "list")=some true:=by kernel_rfl
theorem qZ (K:PySem.W.Frag):PySem.W.kitOne K (.type "list") (.type "str")=some false:=by kernel_rfl
theorem nT (K:PySem.W.Frag):PySem.W.kitOne K (.type "list") (.type "dict")=some false:=by kernel_rfl
theorem nQ (K:PySem.W.Frag):PySem.W.kitOne K (.type "tuple") (.type "int")=some false:=by kernel_rfl
theorem mK (K:PySem.W.Frag):PySem.W.kitOne K (.type "tuple") (.type "bool")=some false:=by kernel_rfl
theorem kN (K:PySem.W.Frag):PySem.W.kitOne K (.type "tuple") (.type "tuple")=some true:=by kernel_rfl
theorem mI (K:PySem.W.Frag):PySem.W.kitOne K (.type "tuple") (.type "list")=some false:=by kernel_rfl
theorem nO (K:PySem.W.Frag):PySem.W.kitOne K (.type "tuple") (.type "str")=some false:=by kernel_rfl
theorem mJ (K:PySem.W.Frag):PySem.W.kitOne K (.type "tuple") (.type "dict")=some false:=by kernel_rfl
theorem rH (K:PySem.W.Frag):PySem.W.kitOne K (.type "dict") (.type "int")=some false:=by kernel_rfl
theorem oE (K:PySem.W.Frag):PySem.W.kitOne K (.type "dict") (.type "bool")=some false:=by kernel_rfl
theorem mQ (K:PySem.W.Frag):PySem.W.kitOne K (.type "dict") (.type "tuple")=some false:=by kernel_rfl
theorem nY (K:PySem.W.Frag):PySem.W.kitOne K (.type "dict") (.type "list")=some false:=by kernel_rfl
theorem rG (K:PySem.W.Frag):PySem.W.kitOne K (.type "dict") (.type "str")=some false:=by kernel_rfl
theorem nZ (K:PySem.W.Frag):PySem.W.kitOne K (.type "dict") (.type "dict")=some true:=by kernel_rfl
noncomputable def cU (n c:String):Bool:=n==c||(n == "bool" && c == "int")
theorem TyOf.name {K:PySem.W.Frag} {H:Hp} {x:V} {n:String} (ty:TyOf K H x (.type n)):n = "NoneType" \/ n = "bool" \/ n = "int" \/ n = "str" \/ n = "float" \/ n = "list" \/ n = "tuple" \/ n = "dict" := by
 cases ty <;> simp
theorem mH {K:PySem.W.Frag} {n c:String} (hn:n = "NoneType" \/ n = "bool" \/ n = "int" \/ n = "str" \/ n = "float" \/ n = "list" \/ n = "tuple" \/ n = "dict") (hc:c = "int" \/ c = "bool" \/ c = "tuple" \/ c = "list" \/ c = "str" \/ c = "dict") :
  PySem.W.kitOne K (.type n) (.type c)=some (cU n c):=by
 rcases hn with rfl | rfl | rfl | rfl | rfl | rfl | rfl | rfl <;> rcases hc with rfl | rfl | rfl | rfl | rfl | rfl
 ·exact j7 K
 ·exact jF K
 ·exact iN K
 ·exact jD K
 ·exact j6 K
 ·exact jE K
 ·exact rK K
 ·exact oH K
 ·exact mR K
 ·exact oF K
 ·exact rJ K
 ·exact oG K
 ·exact tQ K
 ·exact rF K
 ·exact nV K
 ·exact rC K
 ·exact tP K
 ·exact rE K
 ·exact tO K
 ·exact qY K
 ·exact nR K
 ·exact qW K
 ·exact tN K
 ·exact qX K
 ·exact nX K
 ·exact mP K
 ·exact kO K
 ·exact mM K
 ·exact nW K
 ·exact mO K
 ·exact rB K
 ·exact nU K
 ·exact mL K
 ·exact nS K
 ·exact qZ K
 ·exact nT K
 ·exact nQ K
 ·exact mK K
 ·exact kN K
 ·exact mI K
 ·exact nO K
 ·exact mJ K
 ·exact rH K
 ·exact oE K
 ·exact mQ K
 ·exact nY K
 ·exact rG K
 ·exact nZ K
theorem isi {K:PySem.W.Frag} {H:Hp} {x:V} {n c:String} {Q:VK} (ty:TyOf K H x (.type n)) (q:Q (.bl (cU n c)) H) (hc:autoParam (c = "int" \/ c = "bool" \/ c = "tuple" \/ c = "list" \/ c = "str" \/ c = "dict") L2.au1._auto_1):aFw K [x,.ty c] H Q :=
 ⟨x,_,_,_,_,rfl,ty,rfl,mH ty.name hc,q⟩
theorem aGr {K:PySem.W.Frag} {H:Hp} {x:V} {n c d:String} {p:Addr} {Q:VK} (ty:TyOf K H x (.type n)) (hp:H p=some (.tup [.ty c,.ty d])) (q:Q (.bl (cU n c||cU n d)) H) (hc:autoParam (c = "int" \/ c = "bool" \/ c = "tuple" \/ c = "list" \/ c = "str" \/ c = "dict") L2.au1._auto_1)
  (hd:autoParam (d = "int" \/ d = "bool" \/ d = "tuple" \/ d = "list" \/ d = "str" \/ d = "dict") L2.au1._auto_1):aDr K [x,.ref p] H Q:=by
 refine⟨x,_,p,_,_,_,_,_,rfl,hp,ty,rfl,rfl,?_,q⟩
 show (match PySem.W.kitOne K (.type n) (.type c) with | some true=>some true | some false=>(match PySem.W.kitOne K (.type n) (.type d) with | some true=>some true | some false=>some false | none=>none) | none=>none)=_
 rw[mH ty.name hc,mH ty.name hd]
 cases cU n c <;> cases cU n d <;> rfl
theorem r8:d6 X (.builtin "isinstance") (aDr X.K):=by
 intro pins s σ H xs us Q I r h
 obtain⟨x,t,a,c1,c2,u1,u2,b,rfl,ha,ty,e1,e2,e,q⟩:=h
 obtain⟨u,w',rfl,rx,rc⟩:=kB r
 cases (show w'=Value.ref a from rc)
 obtain⟨Hh,Z,p,hx⟩:=ty.kit I rx
 obtain⟨_,its,r',o,h1,h2,n,h3⟩:=(show ObjOk X.prog X.w H s.heap a (.tup [c1,c2]) from I.hok a _ ha)
 obtain⟨v1,v2,rfl,r1,r2⟩:=kB r'
 obtain rfl:=jM e1 r1
 obtain rfl:=jM e2 r2
 obtain⟨oc,od,odt,osl⟩:=o
 cases h2;cases h3
 exact PySem.W.kia_tup Z I.kIn p h1 e hx fun tk=>⟨.bl b,H,I.tok tk,rfl,q⟩
end
noncomputable def iQ (i j l:Nat) (ta:TA):TS:=fun D σ H=>ta σ H fun vs H1=>∃v w u,vs=[v,w,u]/\D.nx (((σ.set i (some v)).set j (some w)).set l (some u)) H1
theorem aFo {x y z:V} {us:List Value} (r:Vals [x,y,z] us):∃u v w,us=[u,v,w]/\RelV x u/\RelV y v/\RelV z w:=by
 cases r with
 | cons p q =>
  cases q with
  | cons p' q' =>
   cases q' with
   | cons p2 q2 =>
    cases q2
    exact⟨_,_,_,rfl,p,p',p2⟩
section
variable {X:Cx} {pos:Pos}
theorem aCg {i j l:Nat} {x y z:Str} {a b c:Expr} {ta:TA} {px py pz pt:Pos} {kt k2 pt2} (hc:X.calm=true) (hN:X.N.Nodup) (hi:X.N[i]? = some x) (hj:X.N[j]? = some y) (hl:X.N[l]? = some z) (hij:i≠j) (hil:i≠l) (hjl:j≠l)
  (hx:X.env.scope.names.lookup x=some .local) (hy:X.env.scope.names.lookup y=some .local) (hz:X.env.scope.names.lookup z=some .local) (ha:PA X [a,b,c] ta)
  (hw:swappedStores [.Tuple [.Name x px,.Name y py,.Name z pz] kt pt] (.Tuple [a,b,c] k2 pt2) X.env=pure (some [x,y,z]))
  (hs:autoParam (swapsWithSole [.Tuple [.Name x px,.Name y py,.Name z pz] kt pt] (.Tuple [a,b,c] k2 pt2) pos.line X.env=pure false) L2.au4._auto_1) :
  PS X (.Assign [.Tuple [.Name x px,.Name y py,.Name z pz] kt pt] (.Tuple [a,b,c] k2 pt2) pos) (iQ i j l ta):=by
 intro pins s σ H D I h
 rw[exec_Assign_arm]
 refine wpAny_bind (wpAny_standAt ?_)
 rw[hs]
 refine wpAny_bind (wpAny_pure ?_)
 rw[if_neg (by decide)]
 refine wpAny_bind (Tuple_ (thn (ha _ pins s σ H _ I h) fun us s1 ⟨vs,H1,I1,r1,q1⟩=>?_))
 obtain⟨v,w,m,e1,q1⟩:=q1
 subst e1
 obtain⟨u1,u2,u3,rfl,rv,rw',rm⟩:=aFo r1
 refine wpAny_newObj_type ?_ (by show 3<=sizeLine;decide)
 have I2:Inv X pins σ H1 { s1 with heap:=s1.heap.push { cls:=.type "tuple",data:=.seq [u1,u2,u3].toArray } }:=I1.kept (t':=s1.toks) fun b o e=>Heap.get?_push_of_some _ e
 rw[hw]
 refine wpAny_bind (wpAny_pure ?_)
 show wpAny (model X.prog X.w) X.A (do rule "assign.swapped-stores";let items <- unpackItems (.ref s1.heap.objs.size) 3 none;assignInOrder [fun v=>bindName X.env z v,fun v=>bindName X.env y v,fun v=>bindName X.env x v] items.reverse;pure Flow.next) _ _ _
 refine wpAny_bind (wpAny_rule (wpAny_bind (unpackItems_tuple (items:=#[u1,u2,u3]) (I.ok.hd hc) (IsTup.new s1.heap _) fun h' hx'=>?_)))
 have I3:=I2.kept (h':=h') (t':=s1.toks) fun b o e=>hx' b o (Nat.ne_of_lt (Heap.lt_size e)) e
 show wpAny _ _ (assignInOrder [fun v=>bindName X.env z v,fun v=>bindName X.env y v,fun v=>bindName X.env x v] [u3,u2,u1] >>= fun _=>pure Flow.next) _ _ _
 refine wpAny_bind (assignInOrder_cons (wpAny_bindName (dQ I3 hN hl (.inl hz) rm (fun s2 I4=>?_) (.inr hz))))
 refine assignInOrder_cons (wpAny_bindName (dQ I4 hN hj (.inl hy) rw' (fun s2 I4=>?_) (.inr hy)))
 refine assignInOrder_cons (wpAny_bindName (dQ I4 hN hi (.inl hx) rv (fun s3 I5=>assignInOrder_nil (wpAny_pure ?_)) (.inr hx)))
 rw[List.set_comm _ _ hjl.symm,List.set_comm _ _ hil.symm,List.set_comm _ _ hij.symm] at I5
 exact⟨_,H1,I5,q1⟩
end
section
variable {X:Cx}
theorem aE0:OpR X (compareOp .Is) (fun x y H Q=>∃a b,x=.bl a/\y=.bl b/\Q (.bl (a==b)) H):=by
 intro pins s σ H x y v u Q I rx ry h
 obtain⟨a,b,rfl,rfl,q⟩:=h
 cases rx;cases ry
 exact is_bool ⟨.bl _,H,I,rfl,q⟩
theorem xZ:OpR X (compareOp .IsNot) (fun x y H Q=>∃a b,x=.bl a/\y=.bl b/\Q (.bl (a != b)) H):=by
 intro pins s σ H x y v u Q I rx ry h
 obtain⟨a,b,rfl,rfl,q⟩:=h
 cases rx;cases ry
 exact isnot_bool ⟨.bl _,H,I,rfl,q⟩
end
structure Def (K:PySem.W.Frag) (mg:Str->Option Value) (x:Str) (st:Stmt) (ps:List Str) (f:Addr) (fd:FuncData):Prop where
 fn:Fun K x x st f fd
 bd:Binds K fd ps []
 mgx:mg x=some (.ref f)
end L2
namespace L2
open PySem PySem.Spec PyProof.Rows
noncomputable def EO (dx:Option Addr) (C:Value) (vs:Array Value) (sl:Array (Option Value)):Obj:={ cls:=C,dict:=dx,data:=.fields vs,slots:=sl }
structure Flying (dx:Option Addr) (h:Heap) (e T:Addr) (C fl:Value):Prop where
 ex:∃vs sl,h.get? e=some (EO dx C vs sl)/\vs[1]? = some (.ref T)
 tr:∃oT ts,h.get? T=some oT/\oT.data=.fields ts/\ts[3]? = some fl
 ne:T≠e
section
variable {M:Model} {A:Around} {E:Value->Shared->Prop} {s:Shared} {base:Heap} {env:Env} {outer:List Env} {L e:Addr} {C:Value} {dx:Option Addr} {vs:Array Value} {sl:Array (Option Value)} {Q:Unit->Shared->Prop}
theorem vZ (hl:s.heap.FunFrames base (env::outer)) (he:s.heap.get? e=some (EO dx C vs sl)):e ∉ frs (env::outer):=fun hm=>by
 obtain⟨_,o,ho,hnf⟩:=hl.mem hm
 rw[he] at ho
 cases ho
 exact hnf vs rfl
theorem aBc {head:Value} {hn:Bool} (hfr:A.frames=some (env::outer)) (hl:s.heap.FunFrames base (env::outer)) (hf:env.frame=some L) (he:s.heap.get? e=some (EO dx C vs sl)) (hsz:1<vs.size)
  (h:∀h' T,s.heap.objs.size<=T->Flying dx h' e T C (rawInt L)->(∀b o,b ∉ frs (env::outer)->b≠e->s.heap.get? b=some o->h'.get? b=some o) ->
   (∀b o,b∈frs (env::outer)->s.heap.get? b=some o->∃sl,h'.get? b=some { o with slots:=sl })->Q () { s with heap:=h' }) :
  wpAny M A (do let a <- frameOf env;let pl <- entryPlaceOf L hn;let b <- EntryCells.newEntry head a .none (rawInt L) .none pl;setField (.ref e) 1 b) Q E s:=by
 have hef:=vZ hl he
 refine wpAny_bind (wpAny_frameOf_fun hfr hl hf fun h1 S=>?_)
 refine wpAny_bind (wpAny_entryPlaceOf fun pl hpl=>?_)
 unfold EntryCells.newEntry newFields
 refine wpAny_bind (wpAny_newObj_type ?_ (hpl.sizeOk5 _ _ _ _ _))
 generalize hO:({ cls:=.type "traceback",dict:=none,data:=.fields ([head,.ref L,.none,rawInt L,.none]++(if pl.isEmpty then List.replicate 6 Value.none else pl)).toArray }:Obj)=O
 have he1:h1.get? e=some (EO dx C vs sl):=(S.2.1 e hef).trans he
 have hTe:h1.objs.size≠e:=Nat.ne_of_gt (Heap.lt_size he1)
 have he2:(h1.push O).get? e=some (EO dx C vs sl):=Heap.get?_push_of_some O he1
 have hT2:(h1.push O).get? h1.objs.size=some O:=Heap.get?_push_size h1 (by rw[<- hO];rfl)
 refine wpAny_setField he2 rfl hsz (h _ h1.objs.size (Nat.le_of_eq S.1.symm) ⟨⟨vs.setIfInBounds 1 (.ref h1.objs.size),sl,?_,by simp[hsz]⟩,⟨O,_,(Heap.get?_update_other _ _ (Ne.symm hTe)).trans hT2,by rw[<- hO],?_⟩,hTe⟩ (fun b o hb hbe q=>?_) fun b o hb q=>?_)
 ·exact Heap.get?_update_self _ he2 rfl
 ·rcases hpl with rfl | ⟨_,_,_,_,_,_,_,rfl⟩ <;> simp
 ·rw[Heap.get?_update_other _ _ (Ne.symm hbe)]
  exact Heap.get?_push_of_some _ ((S.2.1 b hb).trans q)
 ·obtain⟨sl',z⟩:=S.2.2 b o q
  have hbe:b≠e:=fun w=>hef (w ▸ hb)
  exact⟨sl',by rw[Heap.get?_update_other _ _ (Ne.symm hbe)];exact Heap.get?_push_of_some _ z⟩
structure Noted (fs:List Addr) (h h':Heap) (e:Addr) (T0:Option Addr):Prop where
 keep:∀b o,b ∉ fs->b≠e->some b≠T0->h.get? b=some o->h'.get? b=some o
 slot:∀b o,b∈fs->h.get? b=some o->∃sl,h'.get? b=some { o with slots:=sl }
theorem x8 (hfr:A.frames=some (env::outer)) (hl:s.heap.FunFrames base (env::outer)) (hf:env.frame=some L) (he:s.heap.get? e=some (EO dx C vs sl)) (h1:vs[1]? = some .none)
  (h:∀h' T,s.heap.objs.size<=T->Flying dx h' e T C (rawInt L)->Noted (frs (env::outer)) s.heap h' e none->Q () { s with heap:=h' }):wpAny M A (noteFrame (.ref e) env) Q E s:=by
 unfold noteFrame
 simp only[hf]
 refine wpAny_bind (wpAny_field he rfl h1 ?_)
 rw[if_neg (by decide)]
 exact aBc hfr hl hf he (Array.getElem?_eq_some_iff.mp h1).1 fun h' T a b c d=>h h' T a b ⟨fun b' o x y _ z=>c b' o x y z,d⟩
theorem vY {T0:Addr} (hfr:A.frames=some (env::outer)) (hl:s.heap.FunFrames base (env::outer)) (hf:env.frame=some L) (F:Flying dx s.heap e T0 C .none)
  (h:∀h' T,s.heap.objs.size<=T->Flying dx h' e T C (rawInt L)->Noted (frs (env::outer)) s.heap h' e (some T0)->Q () { s with heap:=h' }):wpAny M A (noteFrame (.ref e) env) Q E s:=by
 obtain⟨⟨vs,sl,he,h1⟩,⟨oT,ts,hT,hdT,h3⟩,ne⟩:=F
 have hTf:T0 ∉ frs (env::outer):=fun hm=>by
  obtain⟨_,o,ho,hnf⟩:=hl.mem hm
  rw[hT] at ho
  cases ho
  exact hnf ts hdT
 unfold noteFrame
 simp only[hf]
 refine wpAny_bind (wpAny_field he rfl h1 ?_)
 rw[if_pos (show (Value.ref T0 != Value.none)=true by simp)]
 refine wpAny_bind (wpAny_field hT hdT h3 ?_)
 rw[if_neg (show ¬ ((Value.none==rawInt L)=true) by simp[rawInt])]
 refine wpAny_bind (wpAny_setField hT hdT (Array.getElem?_eq_some_iff.mp h3).1 ?_)
 have other:∀b,b≠T0->(s.heap.update T0 (Obj.mapFields (·.setIfInBounds 3 Value.none))).get? b=s.heap.get? b:=fun b hb=>Heap.get?_update_other _ _ (Ne.symm hb)
 have hl':(s.heap.update T0 (Obj.mapFields (·.setIfInBounds 3 Value.none))).FunFrames base (env::outer):=hl.of_keeps fun b o hb hnf=>⟨o,(other b fun q=>by rw[q,hT] at hb;cases hb;exact hnf ts hdT).trans hb,rfl⟩
 refine aBc hfr hl' hf ((other e (Ne.symm ne)).trans he) (Array.getElem?_eq_some_iff.mp h1).1 fun h' T a b c d=>h h' T ?_ b ⟨fun b' o x y w z=>c b' o x y ((other b' fun q=>w (by rw[q])).trans z),fun b' o x z=>d b' o x ((other b' fun q=>hTf (q ▸ x)).trans z)⟩
 rwa [Heap.size_update] at a
theorem e9 {T:Addr} {fl:Value} (F:Flying dx s.heap e T C fl) (h:∀h',Flying dx h' e T C .none->(∀b o,b≠T->s.heap.get? b=some o->h'.get? b=some o)->h'.objs.size=s.heap.objs.size->Q () { s with heap:=h' }) :
  wpAny M A (setFlight (.ref e) none) Q E s:=by
 obtain⟨⟨vs,sl,he,h1⟩,⟨oT,ts,hT,hdT,h3⟩,ne⟩:=F
 have h3s:3<ts.size:=(Array.getElem?_eq_some_iff.mp h3).1
 unfold setFlight
 refine wpAny_bind (wpAny_field he rfl h1 ?_)
 rw[if_pos (show (Value.ref T != Value.none)=true by simp)]
 refine wpAny_setField hT hdT h3s (h _ ⟨⟨vs,sl,(Heap.get?_update_other _ _ ne).trans he,h1⟩,⟨_,_,Heap.get?_update_self _ hT (Obj.isFreed_of_fields (Obj.data_mapFields hdT _)),Obj.data_mapFields hdT _,by simp[h3s]⟩,ne⟩ (fun b o hb z=>(Heap.get?_update_other _ _ (Ne.symm hb)).trans z) (Heap.size_update ..))
theorem u4 (hfr:A.frames=some (env::outer)) (hl:s.heap.FunFrames base (env::outer)) (hf:env.frame=some L) (he:s.heap.get? e=some (EO dx C vs sl)) (h1:vs[1]? = some .none)
  (h:∀h' T,s.heap.objs.size<=T->Flying dx h' e T C .none->Noted (frs (env::outer)) s.heap h' e none->Q () { s with heap:=h' }):wpAny M A (leaving env (.ref e)) Q E s:=by
 have hef:=vZ hl he
 refine wpAny_bind (x8 hfr hl hf he h1 fun h' T a F N=>e9 F fun h2 F2 k _=>h h2 T a F2 ⟨fun b o x y w z=>k b o (fun q=>?_) (N.keep b o x y w z),fun b o x z=>?_⟩)
 ·exact absurd (Heap.lt_size z) (by rw[q];exact Nat.not_lt.mpr a)
 ·obtain⟨sl',z'⟩:=N.slot b o x z
  exact⟨sl',k b _ (fun q=>absurd (Heap.lt_size z) (by rw[q];exact Nat.not_lt.mpr a)) z'⟩
theorem tM {T0:Addr} (hfr:A.frames=some (env::outer)) (hl:s.heap.FunFrames base (env::outer)) (hf:env.frame=some L) (F:Flying dx s.heap e T0 C .none)
  (h:∀h' T,s.heap.objs.size<=T->Flying dx h' e T C .none->Noted (frs (env::outer)) s.heap h' e (some T0)->Q () { s with heap:=h' }):wpAny M A (leaving env (.ref e)) Q E s:=by
 refine wpAny_bind (vY hfr hl hf F fun h' T a F N=>e9 F fun h2 F2 k _=>h h2 T a F2 ⟨fun b o x y w z=>k b o (fun q=>?_) (N.keep b o x y w z),fun b o x z=>?_⟩)
 ·exact absurd (Heap.lt_size z) (by rw[q];exact Nat.not_lt.mpr a)
 ·obtain⟨sl',z'⟩:=N.slot b o x z
  exact⟨sl',k b _ (fun q=>absurd (Heap.lt_size z) (by rw[q];exact Nat.not_lt.mpr a)) z'⟩
end
noncomputable def Fly (dx:Option Addr) (g:Heap) (H:Hp) (a:Addr) (C:Value) (h:Heap):Prop:=∃T,Flying dx h a T C .none/\g.get? a=none/\g.get? T=none/\H a=none/\H T=none
theorem HOk.there {P:Program} {w:World} {H:Hp} {h:Heap} (x:HOk P w H h) {e:Addr} {u:HO} (q:H e=some u):∃o,h.get? e=some o:=by
 have ok:=x e u q
 cases u with
 | lst xs=>obtain⟨_,_,_,_,z⟩:=ok;exact⟨_,z⟩
 | tup xs=>obtain⟨_,_,_,o,z,_⟩:=ok;exact⟨_,z⟩
 | dK kvs=>obtain⟨_,_,_,_,o,_,_,z,_⟩:=ok;exact⟨_,z⟩
 | dT kvs=>obtain⟨_,_,_,_,o,_,_,z,_⟩:=ok;exact⟨_,z⟩
 | set S n=>obtain⟨o,_,_,_,z,_⟩:=ok;exact⟨_,z⟩
 | ins C dx fs=>obtain⟨_,_,_,z,_⟩:=ok;exact⟨_,z⟩
 | own x=>exact ok
 | xd fs=>obtain⟨_,⟨o,_,_,z,_⟩,_⟩:=ok;exact⟨_,z⟩
 | rng lo hi=>obtain⟨_,_,_,z⟩:=ok;exact⟨_,z⟩
 | frz o u=>exact⟨_,ok.1⟩
 | tbl ps=>exact⟨_,ok⟩
 | met f x=>exact⟨_,ok⟩
 | ext φ=>exact ok.2.1
theorem HOk.free_of {P:Program} {w:World} {H:Hp} {h:Heap} (x:HOk P w H h) {e:Addr} (q:h.get? e=none):H e=none:=by
 cases z:H e with
 | none=>rfl
 | some u =>
  obtain⟨o,y⟩:=x.there z
  rw[q] at y;cases y
noncomputable def CXE (P:Program) (w:World):CXT:=fun outer H s E e s'=>∃a C dx H',e=.ref a/\Fly dx s.heap H' a C s'.heap/\s'.os=s.os/\AllBare s'.gens/\Un (frs outer) [] H H' s.heap s'.heap/\HOk P w H' s'.heap/\E C dx H'
section
variable {X:Cx} {pins:List (Addr×Obj)} {σ:St} {H:Hp} {s:Shared}
theorem Inv.noted (I:Inv X pins σ H s) {h':Heap} {e:Addr} {T0:Option Addr} (N:Noted (frs X.stack) s.heap h' e T0) (he:H e=none) (h0:X.s₀.heap.get? e=none) (hT:∀t,T0=some t->H t=none/\X.s₀.heap.get? t=none) (hx:X.ex=[]) :
  Un X.fs [] X.H₀ H X.s₀.heap h'/\HOk X.prog X.w H h':=by
 have neS:∀b o,X.s₀.heap.get? b=some o->b≠e/\some b≠T0/\b≠X.env.locals:=fun b o q=>by
  have l:=Heap.lt_size q
  refine⟨fun z=>?_,fun z=>?_,fun z=>?_⟩
  ·rw[z,h0] at q;cases q
  ·rw[(hT b z.symm).2] at q;cases q
  ·rw[z] at l;exact absurd l (Nat.not_lt.mpr I.ok.above)
 have st:∀b,b ∉ X.fs->b≠X.env.locals->b ∉ frs X.stack:=fun b h1 h2 h3=>by
  rcases List.mem_cons.mp (I.stkSub b h3) with z | z
  ·exact h2 z
  ·exact h1 z
 have base:=I.base
 rw[hx] at base
 refine⟨⟨fun b o q n hb _=>?_,fun b o q n hb _=>?_,fun b o q n _=>base.free b o q n (by simp),fun b o q _=>?_,base.tups,base.frzs,base.tbls⟩,fun a o q=>?_⟩
 ·obtain⟨z1,z2,z3⟩:=neS b o q
  exact N.keep b o (st b hb z3) z1 z2 (base.keep b o q n hb (by simp))
 ·obtain⟨z1,z2,z3⟩:=neS b o q
  obtain⟨sl,q1⟩:=base.slot b o q n hb (by simp)
  by_cases hs:b∈frs X.stack
  ·obtain⟨sl',q2⟩:=N.slot b _ hs q1
   exact⟨sl',q2⟩
  ·exact⟨sl,N.keep b _ hs z1 z2 q1⟩
 ·obtain⟨z1,z2,z3⟩:=neS b o q
  obtain⟨o',q1⟩:=base.there b o q (by simp)
  by_cases hs:b∈frs X.stack
  ·obtain⟨sl',q2⟩:=N.slot b _ hs q1
   exact⟨_,q2⟩
  ·exact⟨o',N.keep b _ hs z1 z2 q1⟩
 ·have keep:∀b u,H b=some u->∀ob,s.heap.get? b=some ob->h'.get? b=some ob:=fun b u z ob q'=>by
   refine N.keep b ob (fun hm=>?_) (fun w=>?_) (fun w=>?_) q'
   ·rw[I.stkFree b hm] at z;cases z
   ·rw[w,he] at z;cases z
   ·rw[(hT b w.symm).1] at z;cases z
  refine(I.hok a o q).stay (fun b u hb q'=>?_) (fun _ z=>z) fun _ _ z=>z
  rcases hb with z | z
  ·exact keep b o (z ▸ q) u q'
  ·exact keep b _ z u q'
theorem cM (I:Inv X pins σ H s) (hx:X.ex=[]) {b:Addr} (h:s.heap.get? b=none):X.s₀.heap.get? b=none:=by
 cases q:X.s₀.heap.get? b with
 | none=>rfl
 | some o =>
  obtain⟨o',z⟩:=I.base.there b o q (by rw[hx];simp)
  rw[h] at z;cases z
end
section
variable {P:Program} {w:World} {K:PySem.W.Frag} {mg:Str->Option Value} {base:Heap} {N:List Str} {qual:Str} {scope:Scope} {f:Addr} {cd:Value} {A:Around} {outer:List Env} {s₀:Shared} {H₀:Hp} {E:XK}
noncomputable def Raises (X:Cx) (E:XK):Prop:=∀(pins:List (Addr×Obj)) (σ:St) (H:Hp) (s:Shared) (C e:Addr) (vs:List Value) (h':Heap),Inv X pins σ H s->Heap.MadeExcOf s.heap h' e (.ref C) vs->E (.ref C) none H->X.xe (.ref e) { s with heap:=h' }
theorem xR:Raises (oM (CXE P w) P w K mg base N qual scope f cd A outer s₀ H₀ E) E:=by
 intro pins σ H s C e vs h' I hx hE
 have J:=I.kept (h':=h') (t':=s.toks) hx.keeps
 obtain⟨t,he,htn,ht⟩:=hx.there
 have heH:H e=none:=I.hok.free_of hx.new
 show wpAny (model P w) (A.deeper (envOfC qual scope s₀.heap.objs.size f cd)) (leaving (envOfC qual scope s₀.heap.objs.size f cd) (.ref e)) _ _ _
 refine u4 (s:={ s with heap:=h' }) (base:=base) J.ok.frames J.stack rfl he rfl fun h2 T a F Nt=>?_
 have hT:h'.get? T=none:=Heap.get?_none_of_le a
 obtain⟨U,ok⟩:=J.noted Nt heH (cM I rfl hx.new) (fun _ z=>nomatch z) rfl
 exact⟨e,.ref C,none,H,rfl,⟨T,F,cM I rfl hx.new,cM J rfl hT,heH,J.hok.free_of hT⟩,J.os,J.bare,U,ok,hE⟩
theorem oX {E':XK} (hE:∀C d H,E' C d H->E C d H):Passes (CXE P w) (oM (CXE P w) P w K mg base N qual scope f cd A outer s₀ H₀ E) E':=by
 intro pins σ H s e s' I h
 obtain⟨a,C,dx,H',rfl,⟨T,F,a1,a2,a3,a4⟩,ho,hg,U,ok,hE'⟩:=h
 have J:=I.call' (s':=s') (ch:=[]) ho U ok hg (fun _ z=>nomatch z)
 show wpAny (model P w) (A.deeper (envOfC qual scope s₀.heap.objs.size f cd)) (leaving (envOfC qual scope s₀.heap.objs.size f cd) (.ref a)) _ _ _
 refine tM (base:=base) J.ok.frames J.stack rfl F fun h2 T2 b F2 Nt=>?_
 have hT:s'.heap.get? T2=none:=Heap.get?_none_of_le b
 obtain⟨U2,ok2⟩:=J.noted Nt a3 (cM I rfl a1) (fun t z=>by cases z;exact⟨a4,cM I rfl a2⟩) rfl
 exact⟨a,C,dx,H',rfl,⟨T2,F2,cM I rfl a1,cM J rfl hT,a3,J.hok.free_of hT⟩,J.os,J.bare,U2,ok2,hE _ _ _ hE'⟩
end
end L2
namespace L2
open PySem PySem.Spec PyProof.Rows
section
variable {P:Program} {w:World} {K:PySem.W.Frag} {mg:Str->Option Value} {base:Heap}
theorem Fun.okX {x qual:Str} {st:Stmt} {f:Addr} {fd:FuncData} {N ps:List Str} {k:Nat} {sp:Sp} (F:Fun K x qual st f fd) (S:FnScope N ps (aJ st)) (len:∀vs H Q E,sp vs H Q E->vs.length=ps.length)
  (hbody:∀(cdv:Value) (A:Around) (outer:List Env) (s:Shared) (H:Hp) (vs:List V) (Q:VK) (E:XK),Room k (A.deeper (envOfC qual (aJ st) s.heap.objs.size f cdv))->sp vs H Q E ->
   ∃t,PSs (oM (CXE P w) P w K mg base N qual (aJ st) f cdv A outer s H E) (cK st) t/\t { nx:=fun _ H'=>Q .non H',rt:=Q } (L2.start N vs) H):FnOk P w K mg base (CXE P w) (k+1) f fd ps sp:=by
 obtain⟨oc,od,kV,doc,pm,an,cdv,ct,osl,rfl,lk,hcd⟩:=F.ex
 exact aA8 lk hcd S len fun A outer s H vs Q E hr hsp=>hbody cdv A outer s H vs Q E hr hsp
end
section
variable {X:Cx} {st:Stmt} {t:TS}
end
theorem jR {i:Int} (h:i.natAbs<10^100):(toString i:Str).length<=101:=by
 have e:=PySem.int_text_length_le10 (k:=100) (by decide) h
 show (Str.ofString (toString i)).length<=101
 rw[PySem.ofString_length]
 omega
section
variable {X:Cx} {e:Expr} {es:List Expr} {te:TE} {pos:Pos}
noncomputable def kM (te:TE):TE:=fun σ H Q=>te σ H fun x H1=>(∃y,x=.str y/\y.length<=sizeLine/\Q (.str y) H1)\/(∃i:Int,x=.int i/\i.natAbs<10^100/\Q (.str (toString i)) H1)
theorem uR (he:PE X e te):PE X (.FormattedValue e (-1) none pos) (kM te):=by
 intro pins s σ H Q I h
 refine FormattedValue_plain (thn (he pins s σ H _ I h) fun v s1 ⟨x,H1,I1,r,q⟩=>?_)
 rcases q with ⟨y,rfl,hy,q⟩ | ⟨i,rfl,hi,q⟩
 ·obtain⟨t,rfl⟩:=r
  exact formatField_str (fun t' tk=>⟨.str y,H1,I1.tok tk,⟨t',rfl⟩,q⟩) hy
 ·obtain⟨t,rfl⟩:=r
  exact formatField_int_small (Nat.lt_trans (eF hi) (by decide)) ⟨.str (toString i),H1,I1.tok _,⟨_,rfl⟩,q⟩
noncomputable def PJ (X:Cx) (es:List Expr) (t:Str->TE):Prop :=
 ∀(acc:Str) (pins:List (Addr×Obj)) (s:Shared) (σ:St) (H:Hp) (Q:VK),Inv X pins σ H s->t acc σ H Q->wpAny (model X.prog X.w) X.A (joinParts acc (evalEach es X.env)) (EP X pins σ Q) X.xe s
noncomputable def oI:Str->TE:=fun acc _ H Q=>acc.length<=sizeLine/\Q (.str acc) H
noncomputable def e8 (te:TE) (t:Str->TE):Str->TE:=fun acc σ H Q=>te σ H fun x H1=>∃y,x=.str y/\(acc++y).length<=sizeLine/\t (acc++y) σ H1 Q
theorem aEm:PJ X [] oI:=fun acc _ _ _ H Q I h=>joinParts_nil ⟨.str acc,H,I.tok _,⟨_,rfl⟩,h.2⟩ h.1
theorem i5 {t:Str->TE} (he:PE X e te) (hr:PJ X es t) (hs:autoParam (evalEach (e::es) X.env=eval e X.env::evalEach es X.env) L2.au4._auto_1):PJ X (e::es) (e8 te t):=by
 intro acc pins s σ H Q I h
 rw[hs]
 refine joinParts_cons (thn (he pins s σ H _ I h) fun v s1 ⟨x,H1,I1,r,y,e1,hz,q⟩=>?_)
 subst e1
 obtain⟨t',rfl⟩:=r
 exact⟨hz,hr (acc++y) pins s1 σ H1 Q I1 q⟩
theorem xW {e2:Expr} {t:Str->TE} (h:PJ X (e::e2::es) t):PE X (.JoinedStr (e::e2::es) pos) (t Str.empty):=fun pins s σ H Q I hw=>JoinedStr_many (h Str.empty pins s σ H Q I hw)
end
noncomputable abbrev aDj:List Value:=[.type "ValueError",.type "Exception",.type "BaseException",.type "object"]
noncomputable abbrev vG (K:PySem.W.Frag) (C:Addr):Prop:=PySem.W.excIn K C aDj "ValueError.__new__" = true
theorem aC9 {K:PySem.W.Frag} {h:Heap} {C:Addr} (X:K.In h) (q:vG K C):∃tl M nm qn bs hd sn sub ab col dd k0 k1 k2 k3 k5 mN,
  h.get? C=some (excClassObj nm qn C M bs tl hd sn sub ab col dd k0 k1 k2 k3 k5 "ValueError.__new__")/\h.Ns M mN/\mN "__init__" = none/\OwnTail h aDj tl:=by
 unfold vG PySem.W.excIn at q
 split at q
 ·rename_i dd cd sl ho
  split at q
  ·rename_i C' tl k0 k1 k2 k3 nid k5 hm hs
   simp only[Bool.and_eq_true,beq_iff_eq,Bool.not_eq_true'] at q
   obtain⟨⟨⟨⟨⟨rfl,rfl⟩,q1⟩,q2⟩,q3⟩,q4⟩:=q
   obtain⟨nm,bs,mr,M,qn,hd,sn,sub,ab,col,dl⟩:=cd
   dsimp only at hm q1 q3 q4
   subst hm q1
   obtain⟨ls⟩:=sl
   have hs':ls=[k0,k1,k2,k3,some (.builtin "ValueError.__new__"),k5]:=hs
   subst hs'
   exact⟨tl,M,nm,qn,bs,hd,sn,sub,ab,col,dd,k0,k1,k2,k3,k5,_,X _ _ ho,.of_isNs (PySem.W.isNs_of_in X q3),PySem.W.nsMap_none_of_in X q3 q4,PySem.W.tail_of_in X q2⟩
  ·cases q
 ·cases q
section
variable {X:Cx} {x:Str} {C:Addr} {e:Expr} {te:TE} {np cpos pos:Pos} {E:XK}
noncomputable def fM (C:Addr) (E:XK) (te:TE):TS:=fun _ σ H=>te σ H fun _ H1=>E (.ref C) none H1
theorem zO (hX:Raises X E) (hc:X.calm=true) (hg:Gl X x) (hm:X.mg x=some (.ref C)) (q:vG X.K C) (he:PE X e te) (hd:autoParam ((x==("__debug__" : Str))=false) L2.au1._auto_1)
  (hs:autoParam (starEach [e] X.env=[(false,eval e X.env)]) L2.au4._auto_1):PS X (.Raise (some (.Call (.Name x np) [e] [] cpos)) none pos) (fM C E te):=by
 intro pins s σ H D I h
 obtain⟨tl,M,nm,qn,bs,hd',sn,sub,ab,col,dd,k0,k1,k2,k3,k5,mN,hC,hN,hni,hT⟩:=aC9 I.mod.kin q
 refine wpAny_Raise_call_subT (C:=C) (nm:=nm) (q:=qn) (N:=M) (bs:=bs) (bm:=tl) (hdct:=hd') (sn:=sn) (sub:=sub) (ab:=ab) (col:=col) (dd:=dd) (k0:=k0) (k1:=k1) (k2:=k2) (k3:=k3) (k5:=k5)
  PySem.F.excBase_ValueError (mN:=mN) (hT.hasType (by decide)) (I.ok.hd hc) (by rw[hs];rfl) hni (jC I hg hm ⟨rfl,?_⟩ hd)
 rw[hs]
 refine Calls.evalArgs_plain (Calls.spliced_cons (thn (he pins s σ H _ I h) fun u s1 ⟨v,H1,I1,r,z⟩=>Calls.spliced_nil ?_))
 exact⟨rfl,by show 1<=sizeLine;decide,I1.bk _ _ hC,hN.keeps I1.bk,hT.keeps I1.bk,fun h' a hm=>hX pins σ H1 s1 C a _ h' I1 hm z⟩
end
end L2
namespace L2
open PySem PySem.Spec PyProof.Rows
section
variable {X:Cx} {pins:List (Addr×Obj)} {σ σ':St} {H:Hp} {s:Shared}
theorem Inv.frame {h':Heap} {m':Str->Option Value} {t:Nat} (I:Inv X pins σ H s) (sb:∀b,b≠X.env.locals->h'.get? b=s.heap.get? b) (hn:h'.Ns X.env.locals m')
  (hl:∀(i:Nat) (x:Str) (v:V),X.N[i]? = some x->σ'[i]? = some (some v)->Vis X.env.scope x->∃u,RelV v u/\Look X.env h' m' x u) (len:σ'.length=σ.length):Inv X pins σ' H { s with heap:=h',toks:=t }:=by
 have neL:∀b o,X.s₀.heap.get? b=some o->b≠X.env.locals:=fun b o e=>Nat.ne_of_lt (Nat.lt_of_lt_of_le (Heap.lt_size e) I.ok.above)
 refine⟨I.ok,I.os,I.bare,⟨fun b o e n hb hx=>?_,fun b o e n hb hx=>?_,I.base.free,fun b o e hx=>?_,I.base.tups,I.base.frzs,I.base.tbls⟩,⟨m',hn,hl⟩,fun x c e=>?_,I.free,I.freeC,fun p hp=>?_,fun a o e=>?_,len.trans I.len⟩
 ·exact(sb b (neL b o e)).trans (I.base.keep b o e n hb hx)
 ·obtain⟨sl,q⟩:=I.base.slot b o e n hb hx
  exact⟨sl,(sb b (neL b o e)).trans q⟩
 ·obtain⟨o',q⟩:=I.base.there b o e hx
  exact⟨o',(sb b (neL b o e)).trans q⟩
 ·obtain⟨v,o,ho,hd⟩:=I.cell x c e
  exact⟨v,o,(sb c (I.cne x c e)).trans ho,hd⟩
 ·obtain⟨e,n,ne,r⟩:=I.pin p hp
  exact⟨(sb p.1 ne).trans e,n,ne,r⟩
 ·have ne:∀b u,H b=some u->b≠X.env.locals:=fun b u q z=>by rw[z,I.free] at q;cases q
  refine(I.hok a o e).stay (fun b u hb q=>?_) (fun _ z=>z) fun _ _ z=>z
  rcases hb with z | z
  ·exact(sb b (ne b o (z ▸ e))).trans q
  ·exact(sb b (ne b _ z)).trans q
theorem Inv.after_note {h':Heap} {e:Addr} {T0:Option Addr} (I:Inv X pins σ H s) (N:Noted (frs X.stack) s.heap h' e T0) (hx:X.ex=[]) (he:H e=none) (h0:X.s₀.heap.get? e=none) (hT:∀t,T0=some t->H t=none/\X.s₀.heap.get? t=none)
  (hp:∀p∈X.pn++pins,p.1≠e/\some p.1≠T0) (hc:∀x c,X.env.cells.lookup x=some c->c≠e/\some c≠T0) (hcf:∀x c,X.env.cells.lookup x=some c->c ∉ frs X.stack) (hL:X.env.locals≠e/\some X.env.locals≠T0):Inv X pins σ H { s with heap:=h' }:=by
 obtain⟨U,ok⟩:=I.noted N he h0 hT hx
 rw[<- hx] at U
 obtain⟨m,hn,hl⟩:=I.loc
 have cellK:∀x c,X.env.cells.lookup x=some c->∀v,s.heap.IsCell c v->h'.IsCell c v:=fun x c e v ⟨o,ho,hd⟩ =>
  ⟨o,N.keep c o (hcf x c e) (hc x c e).1 (hc x c e).2 ho,hd⟩
 refine⟨I.ok,I.os,I.bare,U,⟨m,?_,fun i x v e1 e2 e3=>?_⟩,fun x c q=>?_,I.free,I.freeC,fun p hpp=>?_,ok,I.len⟩
 ·obtain⟨o,es,ep,ho,r⟩:=hn
  by_cases hs:X.env.locals∈frs X.stack
  ·obtain⟨sl,q⟩:=N.slot _ o hs ho
   exact⟨_,es,ep,q,r⟩
  ·exact⟨o,es,ep,N.keep _ o hs hL.1 hL.2 ho,r⟩
 ·obtain⟨u,r,l⟩:=hl i x v e1 e2 e3
  refine⟨u,r,?_⟩
  rcases l with l | ⟨k,c,q,z⟩
  ·exact .inl l
  ·exact .inr ⟨k,c,q,cellK x c q _ z⟩
 ·obtain⟨v,z⟩:=I.cell x c q
  exact⟨v,cellK x c q v z⟩
 ·obtain⟨q,n,ne,nf,d⟩:=I.pin p hpp
  refine⟨N.keep p.1 p.2 (fun hm=>?_) (hp p hpp).1 (hp p hpp).2 q,n,ne,nf,d⟩
  rcases List.mem_cons.mp (I.stkSub p.1 hm) with z | z
  ·exact ne z
  ·exact nf z
noncomputable abbrev Cx.marked (X:Cx) (v:Option Value):Cx:={ X with A:=X.A.mark v,calm:=false,xe:=fun _ _=>False }
theorem Inv.mark (I:Inv X pins σ H s) (v:Option Value):Inv (X.marked v) pins σ H s :=
 ⟨⟨I.ok.mod,I.ok.kind,I.ok.glob,I.ok.blt,I.ok.above,I.ok.inj,I.ok.has,I.ok.cab,(fun z=>nomatch z),I.ok.frames,I.ok.stk,I.ok.exf,I.ok.bs,I.ok.bsz,I.ok.noex,I.ok.exfs,I.ok.funs,I.ok.frf⟩,I.os,I.bare,I.base,I.loc,I.cell,I.free,I.freeC,I.pin,I.hok,I.len⟩
theorem Inv.unmark {v:Option Value} (J:X.Ok) (I:Inv (X.marked v) pins σ H s):Inv X pins σ H s:=⟨J,I.os,I.bare,I.base,I.loc,I.cell,I.free,I.freeC,I.pin,I.hok,I.len⟩
noncomputable def f6 (dx:Option Addr) (a:Addr) (C:Value):HO:=.ext fun h=>∃vs sl,h.get? a=some (EO dx C vs sl)
theorem aDa {P:Program} {w:World} {h:Heap} {a:Addr} {C:Value} {dx:Option Addr} (e:∃vs sl,h.get? a=some (EO dx C vs sl)):ObjOk P w H h a (f6 dx a C) :=
 ⟨e,let ⟨_,_,q⟩:=e;⟨_,q⟩,fun h1 h2 ⟨vs,sl,q⟩ k=>⟨vs,sl,k _ q⟩⟩
theorem Inv.track {a:Addr} {o:HO} (I:Inv X pins σ H s) (hf:H a=none) (h0:X.s₀.heap.get? a=none) (ok:∀H',ObjOk X.prog X.w H' s.heap a o) (hL:a≠X.env.locals) (hfs:∀x c,X.env.cells.lookup x=some c->c≠a) (hp:∀p∈X.pn++pins,p.1≠a) (hx:X.ex=[]) (ho:∀ob u,o ≠ .frz ob u) :
  Inv X pins σ (upd H a o) s:=by
 have ne:∀b u,H b=some u->b≠a:=fun b u q z=>by rw[z,hf] at q;cases q
 have base:=I.base
 refine⟨I.ok,I.os,I.bare,⟨base.keep,base.slot,fun b u q n hb=>?_,base.there,fun b xs q=>?_,fun b u v q=>?_,fun b ps q=>?_⟩,I.loc,I.cell,?_,fun x c q=>?_,fun p hpp=>?_,fun b u q=>?_,I.len⟩
 ·rw[aO (fun z=>by rw[z,h0] at q;cases q)];exact base.free b u q n hb
 ·have:=base.tups b xs q
  rw[aO (ne _ _ this)];exact this
 ·have:=base.frzs b u v q
  rw[aO (ne _ _ this)];exact this
 ·obtain⟨more,this⟩:=base.tbls b ps q
  exact⟨more,by rw[aO (ne _ _ this)];exact this⟩
 ·rw[aO hL.symm];exact I.free
 ·rw[aO (hfs x c q)];exact I.freeC x c q
 ·obtain⟨e,n,r⟩:=I.pin p hpp
  exact⟨e,by rw[aO (hp p hpp)];exact n,r⟩
 ·by_cases z:b=a
  ·subst z
   rw[aE] at q
   cases q
   exact ok _
  ·rw[aO z] at q
   refine(I.hok b u q).stay (fun c v hc q'=>q') (fun c hc=>?_) fun c xs hc=>?_
   ·rw[aO (ne _ _ hc)];exact hc
   ·rw[aO (ne _ _ hc)];exact hc
end
theorem wS {M:Model} {h:Heap} {a:Addr} {C:Value} {dx:Option Addr} {vs:Array Value} {sl:Array (Option Value)} (e:h.get? a=some (EO dx C vs sl)):PySem.W.Looks M h (typeOf (.ref a)) C:=by
 intro A Q E s k q
 unfold typeOf
 exact wpAny_bind (wpAny_loadPart (k _ _ e) (wpAny_pure q))
section
variable {X:Cx}
noncomputable abbrev TX:=St->Hp->XK->Prop
noncomputable def PX (X:Cx) (body:List Stmt) (tb:TX):Prop:=∀(pins:List (Addr×Obj)) (s:Shared) (σ:St) (H:Hp) (R:XK),Inv X pins σ H s->tb σ H R ->
 wpAny (model X.prog X.w) X.A (execs body X.env) (fun _ _=>False) (fun e s'=>∃a C dx H',e=.ref a/\Inv X pins σ H' s'/\Fly dx s.heap H' a C s'.heap/\R C dx H') s
noncomputable def aDl (K:PySem.W.Frag) (CP:Addr) (ie:Nat) (tb:TX) (ts:TS):TS:=fun D σ H=>tb σ H fun C dx H'=>PySem.W.exmOne K C (.ref CP)=some true /\
 ∀a,H' a=none->ts { nx:=fun σ2 H2=>D.nx (σ2.set ie none) H2,rt:=fun _ _=>False } (σ.set ie (some (.ref a))) (upd H' a (f6 dx a C))
theorem aCf {body suite:List Stmt} {b0:Stmt} {cx n:Str} {CP:Addr} {ie:Nat} {tb:TX} {ts:TS} {np pos pos':Pos} (hN:X.N.Nodup) (hi:X.N[ie]? = some n) (hn:X.env.scope.names.lookup n=some .local) (hx:X.ex=[]) (hst:X.stack=X.env::X.outer) (hfr:X.env.frame=some X.env.locals) (hcl:X.env.cells=[])
  (hg:Gl X cx) (hm:X.mg cx=some (.ref CP)) (hb:PX X body tb) (hs:∀v,PSs (X.marked v) (b0::suite) ts) (hd:autoParam ((cx==("__debug__" : Str))=false) L2.au1._auto_1) :
  PS X (.Try body [.ExceptHandler (some (.Name cx np)) (some n) (b0::suite) pos] [] [] pos') (aDl X.K CP ie tb ts):=by
 intro pins s σ H D I h
 refine wpAny_Try_except (wpAny_mono (hb pins s σ H _ I h) (fun _ _ z=>z.elim) fun e s1 ⟨a,C,dx,H',ee,J,F,hmat,hR⟩=>?_)
 subst ee
 obtain⟨T,Fl,g1,g2,f1,f2⟩:=F
 have fr1:X.A.frames=some (X.env::X.outer):=by rw[<- hst];exact J.ok.frames
 have ff1:s1.heap.FunFrames X.base (X.env::X.outer):=by rw[<- hst];exact J.stack
 refine vY (base:=X.base) fr1 ff1 hfr Fl fun h2 T2 a2 Fl2 N=>?_
 refine e9 (s:={ s1 with heap:=h2 }) Fl2 fun h3 Fl3 k3 _=>?_
 have neT2:∀b o,s1.heap.get? b=some o->b≠T2:=fun b o q z=>absurd (Heap.lt_size q) (by rw[z];exact Nat.not_lt.mpr a2)
 have N3:Noted (frs X.stack) s1.heap h3 a (some T):=by
  rw[hst]
  refine⟨fun b o x y z q=>k3 b o (neT2 b o q) (N.keep b o x y z q),fun b o x q=>?_⟩
  obtain⟨sl,q'⟩:=N.slot b o x q
  exact⟨sl,k3 b _ (neT2 b o q) q'⟩
 have a0:=cM I hx g1
 have t0:=cM I hx g2
 have locs:∃o,s.heap.get? X.env.locals=some o:=let ⟨_,⟨o,_,_,q,_⟩,_⟩:=I.loc;⟨o,q⟩
 have ne_a:∀b o,s.heap.get? b=some o->b≠a:=fun b o q z=>by rw[z,g1] at q;cases q
 have ne_T:∀b o,s.heap.get? b=some o->b≠T:=fun b o q z=>by rw[z,g2] at q;cases q
 have La:X.env.locals≠a:=let ⟨o,q⟩:=locs;ne_a _ o q
 have nocell:∀x c,X.env.cells.lookup x=some c->False:=fun x c q=>by rw[hcl] at q;cases q
 have J3:Inv X pins σ H' { s1 with heap:=h3 }:=by
  refine J.after_note N3 hx f1 a0 (fun t z=>by cases z;exact⟨f2,t0⟩) (fun p hp=>⟨ne_a _ _ (I.pin p hp).1,fun z=>ne_T _ _ (I.pin p hp).1 (Option.some.inj z)⟩) (fun x c q=>(nocell x c q).elim) (fun x c q=>(nocell x c q).elim) ⟨La,fun z=>?_⟩
  obtain⟨o,q⟩:=locs
  exact ne_T _ o q (Option.some.inj z)
 obtain⟨⟨vs,sl,hea,_⟩,_,_⟩:=id Fl3
 refine wpAny_handleBy_cons (codeAny_handlers_test ?_) (by intro q;cases q)
 refine jC (X:=X.marked (some (.ref a))) (J3.mark _) hg hm ?_ hd
 have LM:=PySem.W.exm_one (M:=model X.prog X.w) J3.kIn (wS hea) hmat
 refine LM _ _ _ { s1 with heap:=h3 } (fun _ _ q=>q) ?_
 refine codeAny_handlers_suite_as (e9 (s:={ s1 with heap:=h3 }) Fl3 fun h4 Fl4 k4 _=>?_)
 have N4:Noted (frs X.stack) h3 h4 a (some T2):=⟨fun b o _ _ z q=>k4 b o (fun w=>z (by rw[w])) q,fun b o x q=>⟨o.slots,k4 b o (fun w=>?_) q⟩⟩
 rotate_left
 ·have:=J3.stack
  obtain⟨_,o',q',hnf⟩:=this.mem x
  obtain⟨oT,ts',q2,q3,_⟩:=Fl3.tr
  rw[w] at q'
  rw[show ({ s1 with heap:=h3 }:Shared).heap.get? T2=some oT from q2] at q'
  cases q'
  exact hnf ts' q3
 have T2free:H' T2=none:=J.hok.free_of (Heap.get?_none_of_le a2)
 have T2new:X.s₀.heap.get? T2=none:=cM J hx (Heap.get?_none_of_le a2)
 have J4:Inv X pins σ H' { s1 with heap:=h4 }:=by
  refine J3.after_note N4 hx f1 a0 (fun t z=>by cases z;exact⟨T2free,T2new⟩) (fun p hp=>⟨ne_a _ _ (I.pin p hp).1,fun z=>neT2 _ _ (J.pin p hp).1 (Option.some.inj z)⟩) (fun x c q=>(nocell x c q).elim) (fun x c q=>(nocell x c q).elim) ⟨La,fun z=>?_⟩
  obtain⟨_,⟨o,_,_,q,_⟩,_⟩:=J.loc
  exact neT2 _ o q (Option.some.inj z)
 have J5:Inv X pins σ (upd H' a (f6 dx a C)) { s1 with heap:=h4 }:=by
  refine J4.track f1 a0 (fun H2=>aDa ?_) La.symm (fun x c q=>(nocell x c q).elim) (fun p hp=>ne_a _ _ (I.pin p hp).1) hx (fun _ _ z=>by cases z)
  obtain⟨⟨vs',sl',q,_⟩,_,_⟩:=Fl4
  exact⟨vs',sl',q⟩
 refine dQ (X:=X.marked (some (.ref a))) (J5.mark _) hN hi (.inl hn) (v:=.ref a) rfl (fun s5 J6=>?_) (.inr hn)
 refine wpAny_mono (hs (some (.ref a)) pins s5 _ _ _ J6 (hR a f1)) (fun fl s6 q=>?_) (fun _ _ z=>z.elim)
 cases fl with
 | next =>
  obtain⟨σ6,H6,J7,q⟩:=q
  have J8:Inv X pins σ6 H6 s6:=J7.unmark I.ok
  obtain⟨m,hns,hl⟩:=id J8.loc
  refine wpAny_nameGoes_keeps (show X.env.kindOf n=some .local from hn) hns (by rw[I.ok.kind];rfl) fun h' v hn' sb=>?_
  refine⟨σ6.set ie none,H6,J8.frame (σ':=σ6.set ie none) (m':=fun x=>if x=n then v else m x) (fun b hb=>sb.2 b hb) hn' (fun i x u e1 e2 e3=>?_) (by rw[List.length_set]),q⟩
  have ne:i≠ie:=fun z=>by
   subst z
   have hlt:i<σ6.length:=by rw[J8.len];exact(List.getElem?_eq_some_iff.mp e1).1
   rw[List.getElem?_set_self hlt] at e2
   cases e2
  have nx:x≠n:=fun z=>ne (mB hN e1 (z ▸ hi))
  rw[List.getElem?_set_ne ne.symm] at e2
  obtain⟨u',r,l⟩:=hl i x u e1 e2 e3
  refine⟨u',r,?_⟩
  rcases l with ⟨l1,l2⟩ | ⟨_,c,e,_⟩
  ·exact .inl ⟨l1,by show (if x=n then v else m x)=some u';rw[if_neg nx];exact l2⟩
  ·exact(nocell x c e).elim
 | brk=>obtain⟨_,_,_,z⟩:=q;exact z.elim
 | cont=>obtain⟨_,_,_,z⟩:=q;exact z.elim
 | ret u=>obtain⟨_,_,_,_,_,z⟩:=q;exact z.elim
end
end L2
namespace L2
open PySem PySem.Spec PyProof.Rows
noncomputable def fJ (h:Heap) (H:Hp) (fs:List Addr):Heap:=PySem.W.hideAll h (trk h H++fs)
theorem jG {h:Heap} {H:Hp} {fs:List Addr} {b:Addr} {o:Obj} (e:h.get? b=some o) (n:H b=none) (hf:b ∉ fs):(fJ h H fs).get? b=some o :=
 PySem.W.hideAll_get _ e fun hm=>by
  rcases List.mem_append.mp hm with hm | hm
  ·have q:(H b).isSome=true:=(List.mem_filter.mp hm).2
   rw[n] at q;simp at q
  ·exact hf hm
theorem qT {h:Heap} {H:Hp} {fs:List Addr} {b:Addr} {o:Obj} (e:(fJ h H fs).get? b=some o):h.get? b=some o/\H b=none:=by
 have e':h.get? b=some o:=PySem.W.of_hideAll _ e
 refine⟨e',?_⟩
 cases q:H b with
 | none=>rfl
 | some x =>
  have hm:b∈trk h H++fs:=List.mem_append_left _ (List.mem_filter.mpr ⟨List.mem_range.mpr (Heap.lt_size e'),by simp[q]⟩)
  have z:(fJ h H fs).get? b=none:=PySem.W.hideAll_none _ hm
  rw[z] at e;cases e
theorem Mod.keeps {K:PySem.W.Frag} {mg:Str->Option Value} {b b':Heap} (m:Mod K mg b) (k:∀a o,b.get? a=some o->b'.get? a=some o):Mod K mg b' :=
 ⟨m.kin.keeps k,m.glob.keeps k,let ⟨mb,h1,h2⟩:=m.blt;⟨mb,h1.keeps k,h2⟩,m.nolimit.keeps k⟩
theorem Env0.rebase {P:Program} {w:World} {K:PySem.W.Frag} {mg:Str->Option Value} {base:Heap} {A:Around} {outer:List Env} {s:Shared} {H:Hp} (e:Env0 P w K mg base A outer s H) :
  Env0 P w K mg (fJ s.heap H (frs outer)) A outer s H where
 frames:=e.frames
 mod:=e.mod.keeps fun b o q=>jG (e.bs b o q).1 (e.bs b o q).2 fun hm=>by
  have z:=(e.funs.mem hm).1
  rw[q] at z;cases z
 bs:=fun b o q=>qT q
 bsz:=Nat.le_of_eq (PySem.W.hideAll_size _ _)
 funs:=PySem.W.funFrames_hide e.funs fun env he a ha=>List.mem_append_right _ (List.mem_filterMap.mpr ⟨env,he,ha⟩)
 frf:=e.frf
 hok:=e.hok
 bare:=e.bare
noncomputable def hG (X:Cx) (σ:St) (b:Heap):Prop:=∀(i:Nat) (x:Str) (v:V) (c:Addr),X.N[i]? = some x->σ[i]? = some (some v)->X.env.scope.names.lookup x=some .cell->X.env.cells.lookup x=some c->∃u,RelV v u/\b.IsCell c (some u)
section
variable {X:Cx} {pins:List (Addr×Obj)} {σ:St} {H:Hp} {s:Shared}
theorem Inv.cellsIn (I:Inv X pins σ H s) (hfn:∀x,X.fn x=true):hG X σ (fJ s.heap H (frs X.stack)):=fun i x v c e1 e2 e3 e4=>by
 obtain⟨m,hn,hl⟩:=I.loc
 obtain⟨u,r,l⟩:=hl i x v e1 e2 (.inr (.inl e3))
 rcases l with ⟨l,_⟩ | ⟨_,c',e5,o,ho,hd⟩
 ·rw[show X.env.kindOf x=X.env.scope.names.lookup x from rfl,e3] at l;cases l
 ·rw[e4] at e5
  cases e5
  refine⟨u,r,o,jG ho (I.freeC x c e4) fun hm=>?_,hd⟩
  rcases List.mem_cons.mp (I.stkSub c hm) with z | z
  ·exact I.cne x c e4 z
  ·obtain⟨_,o',ho',_⟩:=I.ok.funs.mem z
   exact absurd (Heap.lt_size ho') (Nat.not_lt.mpr (I.ok.cab x c (hfn x) e4))
end
section
variable {X:Cx} {CX:CXT} {k:Nat} {f C:Addr} {fd:FuncData} {ps:List Str} {dvs:List V} {ds:List Value} {E:XK} {x m:Str} {p pos apos:Pos} {e o:Expr} {es:List Expr} {ta:TE} {t:TA}
theorem aB9 {sp:Sp} {pins:List (Addr×Obj)} {σ:St} {H:Hp} {s:Shared} {Q:VK} {us:List Value} {vs:List V} (F:FnOk X.prog X.w X.K X.mg (fJ s.heap H (frs X.stack)) CX k f fd ps sp) (hr:Room k X.A) (hb:Binds X.K fd ps ds) (hd:Vals dvs ds) (hx:Passes CX X E)
  (I:Inv X pins σ H s) (r:Vals vs us) (h:sp (vs++dvs) H Q E):wpAny (model X.prog X.w) X.A (call (.ref f) us) (EP X pins σ Q) X.xe s:=by
 have r2:Vals (vs++dvs) (us++ds):=r.append hd
 have hl:(us++ds).length=ps.length:=by rw[<- r2.length];exact F.len _ _ _ _ h
 refine wpAny_call (codeAny_mono (F.run X.A X.stack s H ⟨us,[]⟩ (us++ds) (vs++dvs) Q E hr I.env0.rebase (hb s us I.kIn hl) r2 h) fun r s' hq=>?_)
 cases r with
 | error e=>exact hx pins σ H s e s' I hq
 | ok fl =>
  cases fl with
  | ret u=>exact I.after hq
  | next=>exact False.elim hq
  | brk=>exact False.elim hq
  | cont=>exact False.elim hq
noncomputable def uJ (X:Cx) (sp:Heap->Sp) (dvs:List V) (E:XK) (t:TA):TE:=fun σ H Q=>t σ H fun vs H1=>∀b,hG X σ b->sp b (vs++dvs) H1 Q E
theorem z7 {sp:Heap->Sp} (F:∀b,FnOk X.prog X.w X.K X.mg b CX k f fd ps (sp b)) (hr:Room k X.A) (hfn:∀x,X.fn x=true) (hg:Gl X x) (hm:X.mg x=some (.ref f)) (hk:PySem.W.keepIn X.K (.ref f)=true) (hb:Binds X.K fd ps ds) (hd:Vals dvs ds) (hx:Passes CX X E) (ha:PA X (e::es) t)
  (hdb:autoParam ((x==("__debug__" : Str))=false) L2.au1._auto_1) (he:autoParam (starEach (e::es) X.env=(false,eval e X.env)::starEach es X.env) L2.au4._auto_1) (hpl:autoParam ((backTo pos (starEach es X.env)).any (·.1)=false) L2.au4._auto_1):PE X (.Call (.Name x p) (e::es) [] pos) (uJ X sp dvs E t):=by
 intro pins s σ H Q I h
 refine wpAny_Call_Name_kw (jC I hg hm ?_ hdb)
 refine PySem.W.callWith_K (h₀:=X.base) I.ok.mod.kin hk (thn (ha pos pins s σ H _ I h) fun us s1 ⟨vs,H1,I1,r,q⟩=>⟨I1.kIn,?_⟩) he hpl
 exact aB9 (F _) hr hb hd hx I1 r (q _ (I1.cellsIn hfn))
end
noncomputable def sG (a:Addr) (fd:FuncData):HO:=.ext fun h=>h.get? a=some { cls:=.type "function",data:=.func fd }
noncomputable def vH (c:Addr) (qual:Str):HO:=.ext fun h=>h.CodeRec (.ref c) qual
theorem wK {P:Program} {w:World} {H:Hp} {h:Heap} {a:Addr} {fd:FuncData} (e:h.get? a=some { cls:=.type "function",data:=.func fd }):ObjOk P w H h a (sG a fd) :=
 ⟨e,⟨_,e⟩,fun h1 h2 q k=>k _ q⟩
theorem aDd {P:Program} {w:World} {H:Hp} {h:Heap} {c:Addr} {q:Str} (e:h.CodeRec (.ref c) q):ObjOk P w H h c (vH c q):=by
 refine⟨e,?_,fun h1 h2 x k=>?_⟩
 ·obtain⟨c',o,vs,t,z,q,_⟩:=e
  cases z
  exact⟨_,q⟩
 ·obtain⟨c',o,vs,t,z,q,r⟩:=x
  cases z
  exact⟨c,o,vs,t,rfl,k _ q,r⟩
noncomputable def tW (P:Program) (w:World) (K:PySem.W.Frag) (mg:Str->Option Value) (base:Heap) (N:List Str) (qual:Str) (scope:Scope) (f:Addr) (cd:Value) (cl:List (Str×Addr)) (A:Around) (outer:List Env) (s:Shared) (H:Hp) (E:XK):Cx where
 prog:=P
 w:=w
 K:=K
 mg:=mg
 base:=base
 A:=A.deeper (PySem.W.envX qual scope s.heap.objs.size f cd cl)
 N:=N
 s₀:=s
 H₀:=H
 env:=PySem.W.envX qual scope s.heap.objs.size f cd cl
 outer:=outer
 stack:=PySem.W.envX qual scope s.heap.objs.size f cd cl::outer
 ex:=[]
 calm:=true
 fn:=fun _=>false
 pn:=[]
 xe:=fun e s'=>wpAny (model P w) (A.deeper (PySem.W.envX qual scope s.heap.objs.size f cd cl)) (leaving (PySem.W.envX qual scope s.heap.objs.size f cd cl) e) (fun _ s''=>CXE P w outer H s E e s'') (fun e' s''=>CXE P w outer H s E e' s'') s'
structure LamScope (N:List Str) (sc:Scope) (cl:List (Str×Addr)):Prop where
 kind:sc.kind=.function
 co:sc.isCoroutine=false
 gen:sc.isGenerator=false
 nocell:∀y∈sc.names,y.2 ≠ .cell
 nm:∀x∈N,sc.names.lookup x=some .free
 has:∀x,sc.names.lookup x=some .free->∃c,cl.lookup x=some c
 inj:∀x y c,cl.lookup x=some c->cl.lookup y=some c->x=y
section
variable {P:Program} {w:World} {K:PySem.W.Frag} {mg:Str->Option Value} {base:Heap} {N:List Str} {name qual:Str} {params:Arguments} {body:Expr} {scope:Scope} {f c':Addr} {pm ctv:Value} {cl:List (Str×Addr)} {k:Nat}
theorem aC3 {A:Around} {outer:List Env} {s:Shared} {H:Hp} {E:XK} {h1:Heap} {tk:Nat} {vs:List V} (S:LamScope N scope cl) (hd:A.handled=none) (e0:Env0 P w K mg base A outer s H) (hlen:vs.length=N.length)
  (hcl:∀x c,cl.lookup x=some c->∃v,base.IsCell c v) (hv:∀(i:Nat) x v,N[i]? = some x->vs[i]? = some v->∃c u,cl.lookup x=some c/\RelV v u/\base.IsCell c (some u))
  (hns:h1.Ns s.heap.objs.size (fun _=>none)) (hk:∀b o,s.heap.get? b=some o->h1.get? b=some o) :
  Inv (tW P w K mg base N qual scope f (.ref c') cl A outer s H E) [] (vs.map some) H { s with heap:=h1,toks:=tk }:=by
 have noA:∀b:Addr,b ∉ (tW P w K mg base N qual scope f (.ref c') cl A outer s H E).ex:=fun b z=>absurd (show b∈([]:List Addr) from z) (by simp)
 have bk:∀c v,base.IsCell c v->h1.IsCell c v/\H c=none:=fun c v ⟨o,ho,hd⟩=>⟨⟨o,hk _ _ (e0.bs c o ho).1,hd⟩,(e0.bs c o ho).2⟩
 refine⟨⟨e0.mod,S.kind,rfl,rfl,Nat.le_refl _,S.inj,fun y hy=>?_,fun y c z _=>(nomatch z),fun _=>hd,Around.frames_deeper e0.frames,.inr ⟨rfl,rfl⟩,fun b z=>absurd z (noA b),e0.bs,e0.bsz,fun b _ _=>noA b,fun b z=>absurd z (noA b),e0.funs,e0.frf⟩,
  rfl,e0.bare,Un.kept hk,⟨_,hns,fun i y v h1 h2 h3=>?_⟩,fun y c h=>?_,e0.hok.fresh (Nat.le_refl _),fun y c h=>?_,fun p hp=>absurd (show p∈([]:List (Addr×Obj)) from hp) (by simp),e0.hok.kept hk,?_⟩
 ·have hy:scope.names.lookup y=some .cell\/scope.names.lookup y=some .free:=hy
  rcases hy with hy | hy
  ·exact absurd rfl (S.nocell _ (PySem.mem_of_lookup hy))
  ·exact S.has y hy
 ·have ha:vs[i]? = some v:=by
   rw[List.getElem?_map] at h2
   cases e:vs[i]? with
   | none=>rw[e] at h2;cases h2
   | some a=>rw[e] at h2;cases h2;rfl
  obtain⟨c,u,q,r,z⟩:=hv i y v h1 ha
  exact⟨u,r,.inr ⟨.inr (S.nm y (List.mem_of_getElem? h1)),c,q,(bk c _ z).1⟩⟩
 ·obtain⟨v,z⟩:=hcl y c h
  exact⟨v,(bk c v z).1⟩
 ·obtain⟨v,z⟩:=hcl y c h
  exact(bk c v z).2
 ·show (vs.map some).length=N.length
  rw[List.length_map,hlen]
theorem aE6 {vs:List V} {sp:Hp->VK->XK->Prop} (S:LamScope N scope cl) (hlen:vs.length=N.length)
  (hcl:∀x c,cl.lookup x=some c->∃v,base.IsCell c v) (hv:∀(i:Nat) x v,N[i]? = some x->vs[i]? = some v->∃c u,cl.lookup x=some c/\RelV v u/\base.IsCell c (some u))
  (hbody:∀(A:Around) (outer:List Env) (s:Shared) (H:Hp) (Q:VK) (E:XK),Room k (A.deeper (PySem.W.envX qual scope s.heap.objs.size f (.ref c') cl))->sp H Q E ->
   ∃t,PE (tW P w K mg base N qual scope f (.ref c') cl A outer s H E) body t/\t (vs.map some) H Q) :
  FnOk P w K mg base (CXE P w) (k+1) f (PySem.W.kla_fn name qual params body scope cl pm (.ref c') ctv) []
   (fun us H Q E=>us=[]/\H f=some (sG f (PySem.W.kla_fn name qual params body scope cl pm (.ref c') ctv))/\H c'=some (vH c' qual)/\sp H Q E):=by
 refine⟨fun vs H Q E h=>by rw[h.1];rfl,fun A outer s H args us vs' Q E hr e0 hb r hsp=>?_⟩
 obtain⟨rfl,hf,hc,hsp⟩:=hsp
 have lim:s.heap.NoLimit:=e0.mod.nolimit.keeps fun b o e=>(e0.bs b o e).1
 obtain⟨ho,_,_⟩:=e0.hok f _ hf
 obtain⟨hcd,_,_⟩:=e0.hok c' _ hc
 refine PySem.W.kla_callFunE hr.depth ho rfl S.co S.gen rfl hcd (hb _ _ _ _ ?_)
 refine wpAny_newFunctionEnv S.nocell (fun y hy=>by simp at hy) (fun h₁ hns hsb=>⟨lim.fresh _ hsb,?_⟩) S.kind
 have hk₁:∀b o,s.heap.get? b=some o->h₁.get? b=some o:=fun b o e=>hsb.extBut b o (Nat.ne_of_lt (Heap.lt_size e)) (Heap.get?_push_of_some _ e)
 show codeAny _ _ (.expr body (PySem.W.envX qual scope s.heap.objs.size f (.ref c') cl)) _ _
 obtain⟨t,ht,hq⟩:=hbody A outer s H Q E (hr.deeper _) hsp
 have I:=aC3 (qual:=qual) (f:=f) (c':=c') (E:=E) (tk:=s.toks+(([]:List Str).zip us).length) S hr.hd e0 hlen hcl hv hns hk₁
 exact PySem.W.kla_codeExpr (wpAny_mono (ht [] _ _ H _ I hq) (fun u s' ⟨v,H',J,rv,q⟩=>⟨v,H',J.os,J.bare,J.base,J.hok,rv,q⟩) fun e s' hs=>hs)
theorem uS {cd:Value} {A:Around} {outer:List Env} {s₀:Shared} {H₀:Hp} {E E':XK} (hE:∀C d H,E' C d H->E C d H):Passes (CXE P w) (tW P w K mg base N qual scope f cd cl A outer s₀ H₀ E) E':=by
 intro pins σ H s e s' I h
 obtain⟨a,C,dx,H',rfl,⟨T,F,a1,a2,a3,a4⟩,ho,hg,U,ok,hE'⟩:=h
 have J:=I.call' (s':=s') (ch:=[]) ho U ok hg (fun _ z=>nomatch z)
 show wpAny (model P w) (A.deeper (PySem.W.envX qual scope s₀.heap.objs.size f cd cl)) (leaving (PySem.W.envX qual scope s₀.heap.objs.size f cd cl) (.ref a)) _ _ _
 refine tM (base:=base) J.ok.frames J.stack rfl F fun h2 T2 b F2 Nt=>?_
 have hT:s'.heap.get? T2=none:=Heap.get?_none_of_le b
 obtain⟨U2,ok2⟩:=J.noted Nt a3 (cM I rfl a1) (fun t z=>by cases z;exact⟨a4,cM I rfl a2⟩) rfl
 exact⟨a,C,dx,H',rfl,⟨T2,F2,cM I rfl a1,cM J rfl hT,a3,J.hok.free_of hT⟩,J.os,J.bare,U2,ok2,hE _ _ _ hE'⟩
end
end L2
namespace L2
open PySem PySem.Spec PyProof.Rows
section
variable {prog:Program} {w:World} {A:Around} {s:Shared}
noncomputable def aF6 (prog:Program) (w:World) (A:Around) (env:Env):List Expr->Shared->(Bool->Shared->Prop)->Prop
 | [],s,Q=>Q true s
 | [c],s,Q=>wpAny (model prog w) A (PySem.isTrue c env (eval c env)) Q (fun _ _=>False) s
 | _,_,_=>False
theorem xG {env:Env}:∀ {ifs:List Expr} {s:Shared} {Q:Bool->Shared->Prop},aF6 prog w A env ifs s Q ->
  wpAny (model prog w) A (forIn ifs true fun c r=>if r=true then do let ok <- PySem.isTrue c env (eval c env);pure (ForInStep.yield ok) else pure (ForInStep.yield r)) Q (fun _ _=>False) s
 | [],s,Q,h=>wpAny_tests_nil h
 | [c],s,Q,h=>by
  simp only[List.forIn_cons,List.forIn_nil,if_true]
  refine wpAny_bind (wpAny_bind (wpAny_mono h (fun b s1 q=>wpAny_pure (wpAny_pure q)) fun _ _ z=>z))
 | _::_::_,_,_,h=>h.elim
theorem rV {elt tg iter:Expr} {ifs:List Expr} {scope:Scope} {pos:Pos} {it acc:Value} {env:Env} {R:Result->Shared->Prop} (I:Nat->Shared->Prop)
  (turn:∀n s,I n s->wpAny (model prog w) A (pyNext it) (fun r s₁=>match r with
   | none=>R (.ok .next) s₁
   | some v=>wpAny (model prog w) A (letOwnedTupleGo tg it v) (fun _ s₁'=>wpAny (model prog w) A (assign tg env v) (fun _ s₂=>aF6 prog w A env ifs s₂ fun ok s₃ =>
     if ok=true then wpAny (model prog w) A (eval elt env) (fun x s₄ =>
       wpAny (model prog w) A (call (.builtin "list.append") [acc,x]) (fun _ s₅=>∃m,m<n/\I m s₅) (fun _ _=>False) s₄) (fun _ _=>False) s₃ else ∃m,m<n/\I m s₃) (fun _ _=>False) s₁') (fun _ _=>False) s₁) (fun _ _=>False) s)
  (n:Nat) (h:I n s):codeAny (model prog w) A (.compLoop (.ListComp elt [⟨tg,iter,ifs,0⟩] scope pos) 0 it acc env) R s:=by
 refine codeAny_loop rfl I (fun n s hI=>?_) n h
 show wpAny _ A ((compTurn (.ListComp elt [⟨tg,iter,ifs,0⟩] scope pos) 0 it acc env).onRaise (fun x=>do noteFrame x env;theTreesLotGoes x)) _ _ s
 refine wpAny_noted ?_
 rw[compTurn_list]
 refine wpAny_bind (wpAny_standAt (wpAny_bind (wpAny_mono (turn n s hI) (fun r s₁ h₁=>?_) fun _ _ h'=>h'.elim)))
 cases r with
 | none=>exact wpAny_pure h₁
 | some v =>
  refine wpAny_bind (wpAny_mono h₁ (fun _ s₁' h₁'=>?_) fun _ _ h'=>h'.elim)
  refine wpAny_bind (wpAny_mono h₁' (fun _ s₂ h₂=>wpAny_bind (wpAny_mono (xG h₂) (fun ok s₃ h₃=>?_) fun _ _ h'=>h'.elim)) fun _ _ h'=>h'.elim)
  cases ok with
  | true=>exact wpAny_bind (wpAny_bind (wpAny_mono h₃ (fun x s₄ h₄=>wpAny_bind (wpAny_mono h₄ (fun _ s₅ h₅=>wpAny_pure (wpAny_pure ⟨rfl,h₅⟩)) fun _ _ h'=>h'.elim)) fun _ _ h'=>h'.elim))
  | false=>exact wpAny_pure ⟨rfl,h₃⟩
end
noncomputable def cL (X:Cx) (b:Heap) (N:List Str) (scope:Scope) (cl:List (Str×Addr)) (C:Addr) (fp:List Addr) (s:Shared) (H:Hp):Cx where
 prog:=X.prog
 w:=X.w
 K:=X.K
 mg:=X.mg
 base:=b
 A:=X.A
 N:=N
 s₀:=s
 H₀:=H
 env:=compEnvC scope cl C X.env
 outer:=X.stack
 stack:=X.stack
 ex:=fp
 calm:=true
 fn:=fun _=>false
 pn:=[]
 xe:=fun _ _=>False
noncomputable def vW (σ:St) (js:List (Option Nat)):St:=js.map fun o=>match o with | none=>none | some j=>(σ[j]?).getD none
structure CompScopeC (X:Cx) (sc:Scope) (N:List Str) (cl:List (Str×Addr)) (js:List (Option Nat)):Prop where
 kind:sc.kind=.function
 nocell:∀y∈sc.names,y.2 ≠ .cell
 nm:∀y∈sc.names,y.2=.local->sc.names.lookup y.1=some .local
 has:∀y∈sc.names,y.2=.free->∃c,cl.lookup y.1=some c
 sub:∀y∈cl,X.env.cells.lookup y.1=some y.2
 len:js.length=N.length
 js:∀p∈N.zip js,∀j,p.2=some j->X.N[j]? = some p.1/\X.env.scope.names.lookup p.1=some .cell/\((relabel sc X.env).names.lookup p.1=some .cell\/(relabel sc X.env).names.lookup p.1=some .free)/\∃c,cl.lookup p.1=some c
section
variable {X:Cx} {pins:List (Addr×Obj)} {σ:St} {H:Hp} {s:Shared}
theorem yI {N:List Str} {scope:Scope} {cl:List (Str×Addr)} {js:List (Option Nat)} {fp:List Addr} {h1:Heap} {tk:Nat} (S:CompScopeC X scope N cl js) (hc:X.calm=true) (hfn:∀x,X.fn x=true) (I:Inv X pins σ H s) (hfp:∀b∈fp,sH X pins H b) (hfo:∀b∈fp,∃o,s.heap.get? b=some o)
  (hns:h1.Ns s.heap.objs.size (fun _=>none)) (hk:∀b o,s.heap.get? b=some o->h1.get? b=some o) :
  Inv (cL X (fJ s.heap H (frs X.stack++fp)) N scope cl s.heap.objs.size fp s H) [] (vW σ js) H { s with heap:=h1,toks:=tk }:=by
 have sub:∀x c,cl.lookup x=some c->X.env.cells.lookup x=some c:=fun x c q=>S.sub (x,c) (PySem.mem_of_lookup q)
 have rel:∀y k,(relabel scope X.env).names.lookup y=some k->(k=.cell\/k=.free)->∃c,cl.lookup y=some c:=fun y k q hk=>by
  have m:=PySem.mem_of_lookup q
  obtain⟨⟨n,k'⟩,hm,e⟩:=List.mem_map.mp (show (y,k)∈scope.names.map _ from m)
  have:=S.nocell _ hm
  dsimp only at e this
  split at e
  ·rename_i z
   simp only[Bool.and_eq_true,beq_iff_eq] at z
   cases e
   exact S.has _ hm z.1.1
  ·cases e
   rcases hk with hk | hk
   ·exact absurd hk this
   ·exact S.has _ hm hk
 have e0:=I.env0
 have nfp:∀b o,X.base.get? b=some o->b ∉ fp:=fun b o q hm=>by
  rcases (hfp b hm).2.2.2.1 with z | z
  ·exact I.ok.noex b o q z
  ·exact absurd (Heap.lt_size (I.ok.bs b o q).1) (Nat.not_lt.mpr z)
 have nst:∀b∈fp,b ∉ frs X.stack:=fun b hb hm=>by
  rcases List.mem_cons.mp (I.stkSub b hm) with z | z
  ·exact(hfp b hb).2.1 z
  ·exact(hfp b hb).2.2.1 z
 have cells:∀y c,cl.lookup y=some c->(∃v,h1.IsCell c v)/\H c=none:=fun y c q=>by
  obtain⟨v,o,ho,hd⟩:=I.cell y c (sub y c q)
  exact⟨⟨v,o,hk _ _ ho,hd⟩,I.freeC y c (sub y c q)⟩
 refine⟨⟨e0.mod.keeps fun b o q=>jG (e0.bs b o q).1 (e0.bs b o q).2 fun hm=>?_,S.kind,I.ok.glob,I.ok.blt,Nat.le_refl _,fun y z c q r=>I.ok.inj y z c (sub y c q) (sub z c r),fun y hy=>?_,fun y c z=>(nomatch z),fun _=>I.ok.hd hc,I.ok.frames,.inl rfl,fun b hb=>⟨?_,fun y c q=>?_⟩,fun b o q=>qT q,Nat.le_of_eq (PySem.W.hideAll_size _ _),fun b o q hb=>?_,nst,?_,I.stkFree⟩,
  rfl,I.bare,Un.kept hk,⟨_,hns,fun i y v e1 e2 e3=>?_⟩,fun y c q=>(cells y c q).1,I.hok.fresh (Nat.le_refl _),fun y c q=>(cells y c q).2,fun p hp=>absurd (show p∈([]:List (Addr×Obj)) from hp) (by simp),I.hok.kept hk,?_⟩
 ·rcases List.mem_append.mp hm with hm | hm
  ·have z:=(e0.funs.mem hm).1
   rw[q] at z;cases z
  ·exact nfp b o q hm
 ·have hy:(relabel scope X.env).names.lookup y=some .cell\/(relabel scope X.env).names.lookup y=some .free:=hy
  rcases hy with hy | hy
  ·exact rel y _ hy (.inl rfl)
  ·exact rel y _ hy (.inr rfl)
 ·obtain⟨o,q⟩:=hfo b hb
  exact Nat.ne_of_lt (Heap.lt_size q)
 ·exact(hfp b hb).2.2.2.2.1 y c (sub y c q)
 ·have z:(fJ s.heap H (frs X.stack++fp)).get? b=none:=PySem.W.hideAll_none _ (List.mem_append_right _ (List.mem_append_right _ hb))
  rw[show (cL X (fJ s.heap H (frs X.stack++fp)) N scope cl s.heap.objs.size fp s H).base.get? b=none from z] at q;cases q
 ·exact PySem.W.funFrames_hide e0.funs fun env he a ha=>List.mem_append_right _ (List.mem_append_left _ (List.mem_filterMap.mpr ⟨env,he,ha⟩))
 ·have e1:N[i]? = some y:=e1
  obtain⟨j,hj,hv⟩:∃j,js[i]? = some (some j)/\σ[j]? = some (some v):=by
   unfold vW at e2
   rw[List.getElem?_map] at e2
   cases q:js[i]? with
   | none=>rw[q] at e2;cases e2
   | some o =>
    rw[q] at e2
    cases o with
    | none=>simp at e2
    | some j =>
     refine⟨j,rfl,?_⟩
     have e2:some ((σ[j]?).getD none)=some (some v):=e2
     cases w:σ[j]? with
     | none=>rw[w] at e2;cases e2
     | some u=>rw[w] at e2;cases e2;rfl
  have hz:(y,some j)∈N.zip js:=List.mem_of_getElem? (i:=i) (by rw[List.getElem?_zip_eq_some];exact⟨e1,hj⟩)
  obtain⟨f1,f2,f3,c,f4⟩:=S.js _ hz j rfl
  obtain⟨m,hn,hl⟩:=I.loc
  obtain⟨u,r,l⟩:=hl j y v f1 hv (.inr (.inl f2))
  rcases l with ⟨l,_⟩ | ⟨_,c',e5,o,ho,hd⟩
  ·rw[show X.env.kindOf y=X.env.scope.names.lookup y from rfl,f2] at l;cases l
  ·have:c'=c:=by
    have:=sub y c f4
    rw[e5] at this;cases this;rfl
   subst this
   exact⟨u,r,.inr ⟨f3,c',f4,o,hk _ _ ho,hd⟩⟩
 ·show (js.map _).length=N.length
  rw[List.length_map,S.len]
end
section
variable {X:Cx} {tg iter elt:Expr} {ifs:List Expr} {scope:Scope} {pos:Pos} {wi:TI} {N:List Str} {cl:List (Str×Addr)} {js:List (Option Nat)} {g:TG} {tt:Heap->TT} {te:Heap->TE}
noncomputable def aBn (X:Cx):List Expr->TT->Prop
 | [],t=>∀ σ H Q,t σ H Q->Q true H
 | [c],t=>PT X c t
 | _,_=>False
noncomputable def aBy:TT:=fun _ H Q=>Q true H
theorem l8 {X:Cx}:aBn X [] aBy:=fun _ _ _ h=>h
theorem i6 {X:Cx} {c:Expr} {t:TT} (h:PT X c t):aBn X [c] t:=h
noncomputable def qC (X:Cx) (js:List (Option Nat)) (wi:TI) (g:TG) (tt:Heap->TT) (te:Heap->TE):TE:=fun σ H Q=>wi σ H fun J H1=>∀b D,hG X σ b->H1 D=none->∃W:Nat->Nat->St->Hp->Prop,(∃m,W 0 m (vW σ js) (upd H1 D (.lst []))) /\
 ∀i m σ' H',W i m σ' H'->(J.stop i H'/\Q (.ref D) H')\/(J.go i H'/\∃Nx:St->Hp->Prop,(∀ σ'' H'',Nx σ'' H''->∃m',m'<m/\W (i+1) m' σ'' H'')/\∀x H2,J.yld i H' x H2->g x σ' H2 fun σ3 H3=>tt b σ3 H3 fun ok H3'=>if ok=true then te b σ3 H3' fun y H4=>∃ys,H4 D=some (.lst ys)/\ys.length<sizeLine/\Nx σ3 (upd H4 D (.lst (ys++[y]))) else Nx σ3 H3')
theorem z5 (S:CompScopeC X scope N cl js) (hc:X.calm=true) (hfn:∀x,X.fn x=true) (hi:PI X tg iter wi) (hclos:closureFor scope X.env=pure cl) (hg:∀b C fp s H,PG (cL X b N scope cl C fp s H) tg g) (hif:∀b C fp s H,aBn (cL X b N scope cl C fp s H) ifs (tt b)) (he:∀b C fp s H,PE (cL X b N scope cl C fp s H) elt (te b))
  (hs:autoParam (∀x,foldedSetIterable iter X.env x=pure x) L2.au3._auto_1):PE X (.ListComp elt [⟨tg,iter,ifs,0⟩] scope pos) (qC X js wi g tt te):=by
 intro pins s σ H Q I h
 rw[eval_ListComp]
 refine wpAny_comprehension_free (use:=none) rfl hs hclos S.kind S.nm (thn (hi pins s σ H _ I h) fun v s1 h1=>thn h1 fun itv s2 h2=>?_)
 obtain⟨it,fp,tn,J,H2,e,I2,T,st2,f2,R⟩:=h2
 subst e
 have hD:H2 s2.heap.objs.size=none:=I2.fresh
 have old:∀b o,s2.heap.get? b=some o->(s2.heap.push { cls:=.type "list",data:=.seq ([]:List Value).toArray }).get? b=some o:=fun b o q=>Heap.get?_push_of_some _ q
 have I3:Inv X pins σ (upd H2 s2.heap.objs.size (.lst [])) { s2 with heap:=s2.heap.push { cls:=.type "list",data:=.seq ([]:List Value).toArray } }:=I2.lnew (t':=s2.toks) (ys:=[]) (its:=[]) .nil (Nat.zero_le _)
 have fo:∀b∈fp,∃o,(s2.heap.push { cls:=.type "list",data:=.seq ([]:List Value).toArray }).get? b=some o:=fun b hb=>by
  obtain⟨o,q,_⟩:=T.obj _ _ st2 b hb
  exact⟨o,old b o q⟩
 have fne:∀b∈fp,b≠s2.heap.objs.size:=fun b hb=>by
  obtain⟨o,q,_⟩:=T.obj _ _ st2 b hb
  exact Nat.ne_of_lt (Heap.lt_size q)
 have f3:∀b∈fp,sH X pins (upd H2 s2.heap.objs.size (.lst [])) b:=fun b hb=>⟨by rw[aO (fne b hb)];exact(f2 b hb).1,(f2 b hb).2⟩
 have st3:tn 0 (s2.heap.push { cls:=.type "list",data:=.seq ([]:List Value).toArray }):=T.keep _ _ _ st2 fun b _ o q=>old b o q
 refine wpAny_newObj_type (wpAny_newFunctionEnv S.nocell (fun y hy=>by simp at hy) (fun h₁ hns hsb=>?_) S.kind)
 obtain⟨s3,hs3⟩:∃s3:Shared,s3={ s2 with heap:=s2.heap.push { cls:=.type "list",data:=.seq ([]:List Value).toArray } }:=⟨_,rfl⟩
 obtain⟨H3,hH3⟩:∃H3,H3=upd H2 s2.heap.objs.size (.lst []):=⟨_,rfl⟩
 rw[<- hs3,<- hH3] at I3
 rw[<- hH3] at f3
 have hh3:s3.heap=s2.heap.push { cls:=.type "list",data:=.seq ([]:List Value).toArray }:=by rw[hs3]
 have hk₁:∀b o,s3.heap.get? b=some o->h₁.get? b=some o:=fun b o q=>by
  rw[hh3] at q
  exact hsb.extBut b o (Nat.ne_of_lt (Heap.lt_size q)) (Heap.get?_push_of_some _ q)
 have hns':h₁.Ns s3.heap.objs.size (fun _=>none):=by rw[hh3];exact hns
 obtain⟨W,⟨m0,w0⟩,turn⟩:=R (fJ s3.heap H3 (frs X.stack++fp)) s2.heap.objs.size (fun i x v c e1 e2 e3 e4=>by
  obtain⟨u,r,o,q,d⟩:=I3.cellsIn hfn i x v c e1 e2 e3 e4
  obtain⟨q1,q2⟩:=qT q
  refine⟨u,r,o,jG q1 q2 fun hm=>?_,d⟩
  rcases List.mem_append.mp hm with hm | hm
  ·have z:(fJ s3.heap H3 (frs X.stack)).get? c=none:=PySem.W.hideAll_none _ (List.mem_append_right _ hm)
   rw[z] at q;cases q
  ·exact(f3 c hm).2.2.2.2.1 x c e4 rfl) hD
 rw[<- hH3] at w0
 have J0:=yI (js:=js) (N:=N) (scope:=scope) (h1:=h₁) (tk:=s2.toks+([]:List (Str×Value)).length) S hc hfn I3 f3 (fun b hb=>by rw[hh3];exact fo b hb) hns' hk₁
 have st4:tn 0 h₁:=T.keep _ _ _ st3 fun b hb o q=>hk₁ b o (by rw[hh3];exact q)
 have loop:∀s4:Shared,s4={ s3 with heap:=h₁,toks:=s2.toks+([]:List (Str×Value)).length } ->
   codeAny (model X.prog X.w) X.A (.compLoop (.ListComp elt [⟨tg,iter,ifs,0⟩] scope pos) 0 (.ref it) (.ref s2.heap.objs.size) (compEnvC scope cl s3.heap.objs.size X.env))
    (compPost (model X.prog X.w) X.A X.xe none (EP X pins σ Q) (.ref s2.heap.objs.size) s3.heap.objs.size) s4:=by
  rintro s4 rfl
  have stat:∀ {H':Hp},(∀b∈fp,H' b=none)->∀b∈fp,sH (cL X (fJ s3.heap H3 (frs X.stack++fp)) N scope cl s3.heap.objs.size fp s3 H3) [] H' b:=fun hn b hb =>
   ⟨hn b hb,by
    obtain⟨o,q⟩:=fo b hb
    exact Nat.ne_of_lt (Heap.lt_size (by rw[hh3];exact q)),J0.ok.exfs b hb,.inl hb,fun y c q=>(J0.ok.exf b hb).2 y c q,fun p hp=>absurd (show p∈([]:List (Addr×Obj)) from hp) (by simp)⟩
  refine rV (fun n s'=>∃i σ' H',Inv (cL X (fJ s3.heap H3 (frs X.stack++fp)) N scope cl s3.heap.objs.size fp s3 H3) [] σ' H' s'/\tn i s'.heap/\(∀b∈fp,H' b=none)/\W i n σ' H') ?_ m0 ⟨0,_,H3,J0,st4,fun b hb=>(f3 b hb).1,w0⟩
  rintro n s5 ⟨i,σ5,H5,I5,st5,fr5,w5⟩
  rcases turn i n σ5 H5 w5 with ⟨stop,qn⟩ | ⟨go,Nx,hN,step⟩
  ·refine wpAny_mono (T.done (cL X (fJ s3.heap H3 (frs X.stack++fp)) N scope cl s3.heap.objs.size fp s3 H3) rfl rfl rfl rfl i [] s5 σ5 H5 (fun _ _=>False) I5 (stat fr5) st5 stop) (fun r s6 ⟨hr,I6⟩=>?_) fun _ _ z=>z
   subst hr
   obtain⟨m6,n6,_⟩:=id I6.loc
   refine⟨m6,n6,fun h' hs'=>⟨.ref s2.heap.objs.size,H5,?_,rfl,qn⟩⟩
   have neC:∀b o,s3.heap.get? b=some o->b≠s3.heap.objs.size:=fun b o q=>Nat.ne_of_lt (Heap.lt_size q)
   have B:=I6.base
   have kp:∀b o,b≠s3.heap.objs.size->s6.heap.get? b=some o->h'.get? b=some o:=fun b o nb q=>hs'.extBut b o nb q
   refine I3.call' (s':={ s6 with heap:=h' }) (ch:=fp) I6.os ⟨fun b o q n hb hx=>kp b o (neC b o q) (B.keep b o q n hb hx),fun b o q n hb hx=>?_,B.free,fun b o q hx=>?_,B.tups,B.frzs,B.tbls⟩ (fun a o q=>?_) I6.bare fun b hb=>⟨(f3 b hb).2.2.2.1,(f3 b hb).2.1,(f3 b hb).2.2.2.2.1,(f3 b hb).2.2.2.2.2⟩
   ·obtain⟨sl,z⟩:=B.slot b o q n hb hx
    exact⟨sl,kp b _ (neC b o q) z⟩
   ·obtain⟨o',z⟩:=B.there b o q hx
    exact⟨o',kp b _ (neC b o q) z⟩
   ·have ne:∀b u,H5 b=some u->b≠s3.heap.objs.size:=fun b u q z=>by
     have fr:H5 s3.heap.objs.size=none:=I6.free
     rw[z,fr] at q;cases q
    refine(I6.hok a o q).stay (fun b u hb q'=>kp b u ?_ q') (fun _ z=>z) fun _ _ z=>z
    rcases hb with z | z
    ·exact ne b o (z ▸ q)
    ·exact ne b _ z
  ·refine wpAny_mono (T.item (cL X (fJ s3.heap H3 (frs X.stack++fp)) N scope cl s3.heap.objs.size fp s3 H3) rfl rfl rfl rfl i [] s5 σ5 H5 (fun _ _=>False) I5 (stat fr5) st5 go) (fun r s6 ⟨u,hr,h6⟩=>?_) fun _ _ z=>z
   subst hr
   refine wpAny_mono h6 (fun _ s7 ⟨x,H7,I7,r7,y7,st7,fr7⟩=>?_) fun _ _ z=>z
   have I7':=I7.pinned (stat fr7) (T.obj _ _ st7)
   refine wpAny_mono (hg _ _ _ _ _ _ s7 σ5 H7 x u _ I7' r7 (step x H7 y7)) (fun _ s8 ⟨σ8,H8,I8,q8⟩=>?_) fun _ _ z=>z
   have fin:∀(s8:Shared) (H8:Hp),Inv _ _ σ8 H8 s8->(∃m',m'<n/\W (i+1) m' σ8 H8)->∃m,m<n/\(∃i σ' H',Inv (cL X (fJ s3.heap H3 (frs X.stack++fp)) N scope cl s3.heap.objs.size fp s3 H3) [] σ' H' s8/\tn i s8.heap/\(∀b∈fp,H' b=none)/\W i m σ' H'):=fun s8 H8 I10 ⟨m',hm,w9⟩=>by
    refine⟨m',hm,i+1,σ8,_,I10.unpinned,T.keep _ _ _ st7 fun b hb o q=>(I10.pin (b,o) (List.mem_append_right _ (List.mem_append_right _ (fV hb q)))).1,fun b hb=>?_,w9⟩
    obtain⟨o,q,d⟩:=T.obj _ _ st7 b hb
    exact(I10.pin (b,o) (List.mem_append_right _ (List.mem_append_right _ (fV hb q)))).2.1
   have rest:∀(ok:Bool) (s8:Shared) (H8:Hp),Inv _ _ σ8 H8 s8->(if ok=true then te (fJ s3.heap H3 (frs X.stack++fp)) σ8 H8 fun y H4=>∃ys,H4 s2.heap.objs.size=some (.lst ys)/\ys.length<sizeLine/\Nx σ8 (upd H4 s2.heap.objs.size (.lst (ys++[y]))) else Nx σ8 H8) ->
     (if ok=true then wpAny (model X.prog X.w) X.A (eval elt (compEnvC scope cl s3.heap.objs.size X.env)) (fun x s₄ =>
       wpAny (model X.prog X.w) X.A (call (.builtin "list.append") [.ref s2.heap.objs.size,x]) (fun _ s₅=>∃m,m<n/\(∃i σ' H',Inv (cL X (fJ s3.heap H3 (frs X.stack++fp)) N scope cl s3.heap.objs.size fp s3 H3) [] σ' H' s₅/\tn i s₅.heap/\(∀b∈fp,H' b=none)/\W i m σ' H')) (fun _ _=>False) s₄) (fun _ _=>False) s8
      else ∃m,m<n/\(∃i σ' H',Inv (cL X (fJ s3.heap H3 (frs X.stack++fp)) N scope cl s3.heap.objs.size fp s3 H3) [] σ' H' s8/\tn i s8.heap/\(∀b∈fp,H' b=none)/\W i m σ' H')):=fun ok s8 H8 I8 q8=>by
    cases ok with
    | false=>exact fin s8 H8 I8 (hN _ _ q8)
    | true =>
     refine wpAny_mono (he _ _ _ _ _ _ s8 σ8 H8 _ I8 q8) (fun y s9 ⟨vy,H9,I9,ry,ys,hD9,hz,w9⟩=>?_) fun _ _ z=>z
     obtain⟨z,its,nn,rr,hl,eo⟩:=I9.lstM hD9
     refine append_at (hsz:=by rw[List.size_toArray];omega) eo fun h10 hs10 hD10=>?_
     have I10:Inv _ _ σ8 (upd H9 s2.heap.objs.size (.lst (ys++[vy]))) { s9 with heap:=h10,toks:=s9.toks }:=I9.write (x:=s2.heap.objs.size) (e:=s2.heap.objs.size) (o:=.lst (ys++[vy])) (by rw[hD9];exact trivial) (.inl rfl) (fun b o hb q=>hs10.extBut b o hb q) ⟨_,hD10⟩
      ⟨by rw[List.length_append,List.length_singleton];omega,its++[y],nn+1,rr.append (.cons ry .nil),by rw[hD10,List.push_toArray]⟩
     exact fin _ _ I10 (hN _ _ w9)
   have hI:=hif (fJ s3.heap H3 (frs X.stack++fp)) s3.heap.objs.size fp s3 H3
   match ifs,hI with
   | [],hI=>exact rest true s8 H8 I8 (hI _ _ _ q8)
   | [c],hI=>exact wpAny_mono (hI _ s8 σ8 H8 _ I8 q8) (fun ok s9 ⟨H9,I9,q9⟩=>rest ok s9 H9 I9 q9) fun _ _ z=>z
   | _::_::_,hI=>exact hI.elim
 have e4:({ ({ s2 with heap:=s2.heap.push { cls:=.type "list",data:=.seq ([]:List Value).toArray } }:Shared) with heap:=h₁,toks:=s2.toks+([]:List (Str×Value)).length }:Shared)={ s3 with heap:=h₁,toks:=s2.toks+([]:List (Str×Value)).length }:=by rw[hs3]
 have lp:=loop _ e4
 have eC:s3.heap.objs.size=(s2.heap.push { cls:=.type "list",data:=.seq ([]:List Value).toArray }).objs.size:=by rw[hh3]
 rw[eC] at lp
 exact codeAny_compStart_list lp (T.self _ 0 _ _ _ st4 lp)
end
section
variable {K:PySem.W.Frag} {a:Addr} {xs:List V} {g:TG} {tt:TT} {te:TE} {Q:VK} {D:Addr} {σ:St} {H:Hp} {J:It}
noncomputable abbrev CT (g:TG) (tt:TT) (te:TE) (D:Addr) (Nx:St->Hp->Prop) (x:V) (σ:St) (H:Hp):Prop :=
 g x σ H fun σ3 H3=>tt σ3 H3 fun ok H3'=>if ok=true then te σ3 H3' fun y H4=>∃ys,H4 D=some (.lst ys)/\ys.length<sizeLine/\Nx σ3 (upd H4 D (.lst (ys++[y]))) else Nx σ3 H3'
noncomputable abbrev CW (J:It) (g:TG) (tt:TT) (te:TE) (D:Addr) (Q:VK) (σ:St) (H:Hp):Prop:=∃W:Nat->Nat->St->Hp->Prop,(∃m,W 0 m σ H) /\
 ∀i m σ' H',W i m σ' H'->(J.stop i H'/\Q (.ref D) H')\/(J.go i H'/\∃Nx:St->Hp->Prop,(∀ σ'' H'',Nx σ'' H''->∃m',m'<m/\W (i+1) m' σ'' H'')/\∀x H2,J.yld i H' x H2->CT g tt te D Nx x σ' H2)
theorem jK (Pv:Nat->St->Hp->Prop) (h0:Pv 0 σ H) (hl:∀i σ H,i<=xs.length->Pv i σ H->SqT K H a xs)
  (hs:∀i x σ H,xs[i]? = some x->Pv i σ H->CT g tt te D (Pv (i+1)) x σ H) (hd:∀ σ H,Pv xs.length σ H->Q (.ref D) H):CW (Itt K a) g tt te D Q σ H:=by
 refine⟨fun i m σ H=>m=xs.length-i/\i<=xs.length/\Pv i σ H,⟨xs.length,by simp,Nat.zero_le _,h0⟩,?_⟩
 rintro i m σ H ⟨rfl,hi,p⟩
 have q:=hl i σ H hi p
 by_cases hlt:i<xs.length
 ·refine .inr ⟨⟨xs,xs[i],q,by simp[hlt]⟩,Pv (i+1),fun σ' H' p'=>⟨xs.length-(i+1),by omega,rfl,hlt,p'⟩,fun x H' y=>?_⟩
  obtain⟨e,y⟩:=y
  subst e
  exact hs i x σ _ (y xs q) p
 ·have e:i=xs.length:=by omega
  subst e
  exact .inl ⟨⟨xs,q,Nat.le_refl _⟩,hd σ H p⟩
theorem kA (Pv:Nat->St->Hp->Prop) (h0:Pv 0 σ H) (hl:∀i σ H,i<=xs.length->Pv i σ H->SqL K H a xs)
  (hs:∀i x σ H,xs[i]? = some x->Pv i σ H->CT g tt te D (Pv (i+1)) x σ H) (hd:∀ σ H,Pv xs.length σ H->Q (.ref D) H):CW (Itl K a) g tt te D Q σ H:=by
 refine⟨fun i m σ H=>m=xs.length-i/\i<=xs.length/\Pv i σ H,⟨xs.length,by simp,Nat.zero_le _,h0⟩,?_⟩
 rintro i m σ H ⟨rfl,hi,p⟩
 have q:=hl i σ H hi p
 by_cases hlt:i<xs.length
 ·refine .inr ⟨⟨xs,xs[i],q,by simp[hlt]⟩,Pv (i+1),fun σ' H' p'=>⟨xs.length-(i+1),by omega,rfl,hlt,p'⟩,fun x H' y=>?_⟩
  obtain⟨e,y⟩:=y
  subst e
  exact hs i x σ _ (y xs q) p
 ·have e:i=xs.length:=by omega
  subst e
  exact .inl ⟨⟨xs,q,Nat.le_refl _⟩,hd σ H p⟩
end
end L2
namespace L2
open PySem PySem.Spec PyProof.Rows
noncomputable def eX (sc:Scope) (env:Env):List (Str×Addr):=(sc.names.filter (·.2 == .free)).reverse.map fun y=>(y.1,(env.cells.lookup y.1).getD 0)
theorem nA (env:Env):∀(ns:List (Str×NameKind)) (cs:List (Str×Addr)),(∀y∈ns,y.2=.free->∃c,env.cells.lookup y.1=some c) ->
  (forIn ns cs fun (x:Str×NameKind) __s=>match x with
    | (name,kind)=>if (kind==NameKind.free)=true then do let __do_lift <- cellOf env name;pure (ForInStep.yield ((name,__do_lift)::__s)) else pure (ForInStep.yield __s)) =
   (pure ((ns.filter (·.2 == .free)).reverse.map (fun y=>(y.1,(env.cells.lookup y.1).getD 0))++cs):Sem (List (Str×Addr)))
 | [],cs,_=>by simp
 | (n,k)::ns,cs,h=>by
  have ih:=fun cs=>nA env ns cs fun y hy=>h y (List.mem_cons_of_mem _ hy)
  rw[List.forIn_cons]
  by_cases e:(k==NameKind.free)=true
  ·have ek:k=.free:=by simpa using e
   obtain⟨c,hc⟩:=h (n,k) List.mem_cons_self ek
   have e1:cellOf env n=pure c:=by unfold cellOf;simp only at hc;rw[hc]
   dsimp only
   rw[if_pos e,e1,pure_bind,pure_bind]
   dsimp only
   rw[ih,List.filter_cons_of_pos (by simpa using ek)]
   simp only at hc
   simp[hc]
  ·dsimp only
   rw[if_neg e,pure_bind]
   dsimp only
   rw[ih,List.filter_cons_of_neg (by simpa using e)]
theorem m9 {sc:Scope} {env:Env} (h:∀y∈sc.names,y.2=.free->∃c,env.cells.lookup y.1=some c):closureFor sc env=pure (eX sc env):=by
 unfold closureFor eX
 have:=nA env sc.names [] h
 dsimp only
 rw[this]
 simp
noncomputable def vC (sc out:Scope) (N NX:List Str) (js:List (Option Nat)):Bool :=
 (sc.kind == .function)&&(sc.names.all fun y=>y.2 != .cell)&&(sc.names.all fun y=>y.2 != .local||sc.names.lookup y.1==some .local)&&(sc.names.all fun y=>y.2 != .free||out.names.lookup y.1==some .cell)&&(js.length==N.length) &&
 ((N.zip js).all fun p=>match p.2 with | none=>true | some j=>(NX[j]? == some p.1)&&(out.names.lookup p.1==some .cell)&&(sc.names.lookup p.1==some .free))
theorem iW {env:Env} {x:Str}:∀(ns:List (Str×NameKind)),ns.lookup x=some .free ->
  (ns.map (fun x=>match x with | (n,k)=>if (k==NameKind.free&&env.scope.kind==ScopeKind.function&&env.kindOf n==some NameKind.cell)=true then (n,NameKind.cell) else (n,k))).lookup x=some .cell \/
  (ns.map (fun x=>match x with | (n,k)=>if (k==NameKind.free&&env.scope.kind==ScopeKind.function&&env.kindOf n==some NameKind.cell)=true then (n,NameKind.cell) else (n,k))).lookup x=some .free
 | [],h=>by cases h
 | (n,k)::ns,h=>by
  rw[List.map_cons]
  dsimp only
  by_cases e:x==n
  ·have hk:k=.free:=by
    rw[List.lookup_cons,e] at h
    simpa using h
   split
   ·left;rw[List.lookup_cons,e]
   ·right;rw[List.lookup_cons,e,hk]
  ·have e':(x==n)=false:=by simpa using e
   rw[List.lookup_cons,e'] at h
   have ih:=iW (env:=env) ns h
   split <;> (rw[List.lookup_cons,e'];exact ih)
theorem jO {sc:Scope} {env:Env} {x:Str} (h:(x,NameKind.free)∈sc.names):∃c,(eX sc env).lookup x=some c:=by
 have hm:(x,(env.cells.lookup x).getD 0)∈eX sc env:=List.mem_map.mpr ⟨(x,.free),by rw[List.mem_reverse,List.mem_filter];exact⟨h,by simp⟩,rfl⟩
 cases e:(eX sc env).lookup x with
 | some c=>exact⟨c,rfl⟩
 | none =>
  have:=List.lookup_eq_none_iff.mp e _ hm
  simp at this
section
variable {X:Cx} {tg iter elt:Expr} {ifs:List Expr} {scope:Scope} {pos:Pos} {wi:TI} {N:List Str} {js:List (Option Nat)} {g:TG} {tt:Heap->TT} {te:Heap->TE}
theorem eV (hcb:vC scope X.env.scope N X.N js=true) (hc:X.calm=true) (hfn:∀x,X.fn x=true) (hi:PI X tg iter wi)
  (hg:∀b C fp s H,PG (cL X b N scope (eX scope X.env) C fp s H) tg g) (hif:∀b C fp s H,aBn (cL X b N scope (eX scope X.env) C fp s H) ifs (tt b)) (he:∀b C fp s H,PE (cL X b N scope (eX scope X.env) C fp s H) elt (te b))
  (hs:autoParam (∀x,foldedSetIterable iter X.env x=pure x) L2.au3._auto_1):PE X (.ListComp elt [⟨tg,iter,ifs,0⟩] scope pos) (qC X js wi g tt te):=by
 intro pins s σ H Q I h
 simp only[vC,Bool.and_eq_true,List.all_eq_true,beq_iff_eq,bne_iff_ne,Bool.or_eq_true] at hcb
 obtain⟨⟨⟨⟨⟨c1,c2⟩,c3⟩,c4⟩,c5⟩,c6⟩:=hcb
 have env:∀y∈scope.names,y.2=.free->∃c,X.env.cells.lookup y.1=some c:=fun y hy hf=>by
  rcases c4 y hy with z | z
  ·exact absurd hf z
  ·exact I.ok.has y.1 (.inl z)
 have S:CompScopeC X scope N (eX scope X.env) js:=by
  refine⟨c1,c2,fun y hy hl=>?_,fun y hy hf=>?_,fun y hy=>?_,c5,fun p hp j hj=>?_⟩
  ·rcases c3 y hy with z | z
   ·exact absurd hl z
   ·exact z
  ·exact jO (by obtain⟨a,b⟩:=y;cases hf;exact hy)
  ·obtain⟨z,hz,rfl⟩:=List.mem_map.mp hy
   rw[List.mem_reverse,List.mem_filter] at hz
   obtain⟨c,hc⟩:=env z hz.1 (by simpa using hz.2)
   simp only[hc,Option.getD_some]
  ·have:=c6 p hp
   rw[hj] at this
   simp only[Bool.and_eq_true,beq_iff_eq] at this
   obtain⟨⟨d1,d2⟩,d3⟩:=this
   refine⟨d1,d2,?_,jO (PySem.mem_of_lookup d3)⟩
   exact iW _ d3
 exact z5 S hc hfn hi (m9 env) hg hif he hs pins s σ H Q I h
end
section
variable {X:Cx}
end
section
variable {X:Cx} {K:PySem.W.Frag} {pos:Pos}
theorem vT {es:List Expr} {k:Nat} {t:TGs} {n:Nat} (hK:X.K=K) (hc:X.calm=true) (h:PGs X es t)
  (hn:autoParam ((assignEach es X.env).length=n) L2.au4._auto_1) (hst:autoParam ((assignEach es X.env).findIdx? (·.1)=none) L2.au4._auto_1):PG X (.Tuple es k pos) (oK K n t):=by
 subst hK
 exact dU hc h hn hst
end
section
variable {X:Cx} {pos:Pos}
end
theorem d8 {X:Cx} {js:List (Option Nat)} {wi:TI} {g:TG} {tt:Heap->TT} {te:Heap->TE} {σ:St} {H:Hp} {Q:VK} (h:wi σ H fun J H1=>∀b D,hG X σ b->H1 D=none->CW J g (tt b) (te b) D Q (vW σ js) (upd H1 D (.lst []))):qC X js wi g tt te σ H Q:=h
end L2
namespace L2
open PySem PySem.Spec PyProof.Rows
inductive Dt where
 | non | bl (b:Bool) | int (i:Int) | str (x:Str) | tup (ds:List Dt) | lst (ds:List Dt) | emp
mutual
noncomputable def Rep (K:PySem.W.Frag) (H:Hp):Dt->V->Prop
 | .non,v=>v=.non
 | .bl b,v=>v=.bl b
 | .int i,v=>v=.int i
 | .str x,v=>v=.str x
 | .tup ds,v=>∃a xs,v=.ref a/\SqT K H a xs/\RepL K H ds xs
 | .lst ds,v=>∃a xs,v=.ref a/\SqL K H a xs/\RepL K H ds xs
 | .emp,v=>∃a,v=.ref a/\H a=some (.dK [])
noncomputable def RepL (K:PySem.W.Frag) (H:Hp):List Dt->List V->Prop
 | [],xs=>xs=[]
 | d::ds,xs=>∃x r,xs=x::r/\Rep K H d x/\RepL K H ds r
end
mutual
noncomputable def eqD:Dt->Dt->Bool
 | .non,.non=>true
 | .bl a,.bl b=>a==b
 | .bl a,.int b=>(if a then 1 else 0)==b
 | .int a,.bl b=>a==(if b then 1 else 0)
 | .int a,.int b=>a==b
 | .str a,.str b=>a==b
 | .tup ds,.tup es=>eqDL ds es
 | .lst ds,.lst es=>eqDL ds es
 | .emp,.emp=>true
 | _,_=>false
noncomputable def eqDL:List Dt->List Dt->Bool
 | [],[]=>true
 | d::ds,e::es=>eqD d e&&eqDL ds es
 | _,_=>false
end
mutual
noncomputable def dep:Dt->Nat
 | .tup ds=>depL ds+1
 | .lst ds=>depL ds+1
 | .emp=>1
 | _=>0
noncomputable def depL:List Dt->Nat
 | []=>0
 | d::ds=>max (dep d) (depL ds)
end
mutual
noncomputable def noE:Dt->Bool
 | .tup ds=>noEL ds
 | .lst ds=>noEL ds
 | .emp=>false
 | _=>true
noncomputable def noEL:List Dt->Bool
 | []=>true
 | d::ds=>noE d&&noEL ds
end
theorem gY:∀ {ds:List Dt} (n:Nat),noEL ds=true->noEL (ds.take n)=true
 | [],n,_=>by rw[List.take_nil];rfl
 | d::ds,0,_=>rfl
 | d::ds,n+1,h=>by
  have h:(noE d&&noEL ds)=true:=h
  rw[Bool.and_eq_true] at h
  show (noE d&&noEL (ds.take n))=true
  rw[h.1,gY n h.2];rfl
theorem g6:∀(ds:List Dt) (n:Nat),depL (ds.take n)<=depL ds
 | [],n=>by rw[List.take_nil];exact Nat.le_refl _
 | d::ds,0=>Nat.zero_le _
 | d::ds,n+1=>by
  have:=g6 ds n
  show max (dep d) (depL (ds.take n))<=max (dep d) (depL ds)
  omega
theorem RepL.length {K:PySem.W.Frag} {H:Hp}:∀ {ds:List Dt} {xs:List V},RepL K H ds xs->ds.length=xs.length
 | [],xs,h=>by cases (show xs=[] from h);rfl
 | d::ds,xs,h=>by
  obtain⟨x,r,rfl,_,h2⟩:=(show ∃x r,xs=x::r/\Rep K H d x/\RepL K H ds r from h)
  rw[List.length_cons,List.length_cons,h2.length]
mutual
theorem mZ:∀d:Dt,eqD d d=true
 | .non=>rfl
 | .bl a=>by show (a==a)=true;simp
 | .int a=>by show (a==a)=true;simp
 | .str a=>by show (a==a)=true;simp
 | .tup ds=>eqDL_self ds
 | .lst ds=>eqDL_self ds
 | .emp=>rfl
theorem eqDL_self:∀ds:List Dt,eqDL ds ds=true
 | []=>rfl
 | d::ds=>by show (eqD d d&&eqDL ds ds)=true;rw[mZ d,eqDL_self ds];rfl
end
theorem dO:∀ds es:List Dt,eqDL ds es=((List.range (min ds.length es.length)).all (fun j=>eqD (ds.getD j .non) (es.getD j .non))&&ds.length==es.length)
 | [],[]=>rfl
 | [],e::es=>rfl
 | d::ds,[]=>rfl
 | d::ds,e::es=>by
  show (eqD d e&&eqDL ds es)=_
  rw[dO ds es,List.length_cons,List.length_cons,Nat.succ_min_succ,List.range_succ_eq_map,List.all_cons,List.all_map,Bool.and_assoc]
  congr 1
  congr 1
  by_cases h:ds.length=es.length
  ·simp[h]
  ·simp[h]
section
variable {X:Cx} {pins:List (Addr×Obj)} {σ:St} {H:Hp} {s:Shared}
mutual
theorem Rep.inj (I:Inv X pins σ H s):∀(d e:Dt) {v:V},noE d=true->noE e=true->Rep X.K H d v->Rep X.K H e v->d=e
 | .non,e,v,nd,ne,h,g=>by
  cases (show v=.non from h)
  cases e with
  | non=>rfl
  | tup ds=>obtain⟨_,_,z,_⟩:=(show ∃a xs,V.non=.ref a/\_ from g);cases z
  | lst ds=>obtain⟨_,_,z,_⟩:=(show ∃a xs,V.non=.ref a/\_ from g);cases z
  | emp=>cases ne
  | _=>cases g
 | .bl b,e,v,nd,ne,h,g=>by
  cases (show v=.bl b from h)
  cases e with
  | bl c=>cases g;rfl
  | tup ds=>obtain⟨_,_,z,_⟩:=(show ∃a xs,V.bl b=.ref a/\_ from g);cases z
  | lst ds=>obtain⟨_,_,z,_⟩:=(show ∃a xs,V.bl b=.ref a/\_ from g);cases z
  | emp=>cases ne
  | _=>cases g
 | .int b,e,v,nd,ne,h,g=>by
  cases (show v=.int b from h)
  cases e with
  | int c=>cases g;rfl
  | tup ds=>obtain⟨_,_,z,_⟩:=(show ∃a xs,V.int b=.ref a/\_ from g);cases z
  | lst ds=>obtain⟨_,_,z,_⟩:=(show ∃a xs,V.int b=.ref a/\_ from g);cases z
  | emp=>cases ne
  | _=>cases g
 | .str b,e,v,nd,ne,h,g=>by
  cases (show v=.str b from h)
  cases e with
  | str c=>cases g;rfl
  | tup ds=>obtain⟨_,_,z,_⟩:=(show ∃a xs,V.str b=.ref a/\_ from g);cases z
  | lst ds=>obtain⟨_,_,z,_⟩:=(show ∃a xs,V.str b=.ref a/\_ from g);cases z
  | emp=>cases ne
  | _=>cases g
 | .tup ds,e,v,nd,ne,h,g=>by
  obtain⟨a,xs,rfl,h1,h2⟩:=(show ∃a xs,v=.ref a/\SqT X.K H a xs/\RepL X.K H ds xs from h)
  cases e with
  | tup es =>
   obtain⟨a',ys,z,g1,g2⟩:=(show ∃a' xs,V.ref a=.ref a'/\SqT X.K H a' xs/\RepL X.K H es xs from g)
   cases z
   cases I.tuple_inj h1 g1
   rw[RepL.inj I ds es nd ne h2 g2]
  | lst es =>
   obtain⟨a',ys,z,g1,g2⟩:=(show ∃a' xs,V.ref a=.ref a'/\SqL X.K H a' xs/\RepL X.K H es xs from g)
   cases z
   obtain⟨_,_,p1,_⟩:=I.tuple h1
   obtain⟨_,_,p2,_⟩:=I.list g1
   exact absurd rfl (SeqAt.ne_of_list_tuple p2.isList p1)
  | emp=>cases ne
  | _=>cases g
 | .lst ds,e,v,nd,ne,h,g=>by
  obtain⟨a,xs,rfl,h1,h2⟩:=(show ∃a xs,v=.ref a/\SqL X.K H a xs/\RepL X.K H ds xs from h)
  cases e with
  | lst es =>
   obtain⟨a',ys,z,g1,g2⟩:=(show ∃a' xs,V.ref a=.ref a'/\SqL X.K H a' xs/\RepL X.K H es xs from g)
   cases z
   cases I.list_inj h1 g1
   rw[RepL.inj I ds es nd ne h2 g2]
  | tup es =>
   obtain⟨a',ys,z,g1,g2⟩:=(show ∃a' xs,V.ref a=.ref a'/\SqT X.K H a' xs/\RepL X.K H es xs from g)
   cases z
   obtain⟨_,_,p1,_⟩:=I.tuple g1
   obtain⟨_,_,p2,_⟩:=I.list h1
   exact absurd rfl (SeqAt.ne_of_list_tuple p2.isList p1)
  | emp=>cases ne
  | _=>cases g
 | .emp,e,v,nd,ne,h,g=>by cases nd
theorem RepL.inj (I:Inv X pins σ H s):∀(ds es:List Dt) {xs:List V},noEL ds=true->noEL es=true->RepL X.K H ds xs->RepL X.K H es xs->ds=es
 | [],es,xs,nd,ne,h,g=>by
  cases (show xs=[] from h)
  cases es with
  | nil=>rfl
  | cons e es=>obtain⟨_,_,z,_⟩:=(show ∃x r,[]=x::r/\_ from g);cases z
 | d::ds,es,xs,nd,ne,h,g=>by
  have nd:(noE d&&noEL ds)=true:=nd
  rw[Bool.and_eq_true] at nd
  obtain⟨x,r,rfl,h1,h2⟩:=(show ∃x r,xs=x::r/\Rep X.K H d x/\RepL X.K H ds r from h)
  cases es with
  | nil=>cases (show x::r=[] from g)
  | cons e es =>
   obtain⟨_,_,z,g1,g2⟩:=(show ∃y q,x::r=y::q/\Rep X.K H e y/\RepL X.K H es q from g)
   cases z
   have ne:(noE e&&noEL es)=true:=ne
   rw[Bool.and_eq_true] at ne
   rw[Rep.inj I d e nd.1 ne.1 h1 g1,RepL.inj I ds es nd.2 ne.2 h2 g2]
end
theorem eS (A:Around):A.in1.units=A.units+1:=rfl
mutual
theorem aFi (I:Inv X pins σ H s):∀(d e:Dt) {v u:V} {vv uu:Value} {A:Around},noE d=true->noE e=true->Rep X.K H d v->Rep X.K H e u->RelV v vv->RelV u uu->A.units+dep d<cLine->SeqAt.EqAt A s vv uu (eqD d e)
 | .tup ds,e,v,u,vv,uu,A,nd,ne,h,g,rv,ru,hu=>by
  obtain⟨a,xs,rfl,h1,h2⟩:=(show ∃a xs,v=.ref a/\SqT X.K H a xs/\RepL X.K H ds xs from h)
  cases rv
  have hu0:A.units<cLine:=Nat.lt_of_le_of_lt (Nat.le_add_right _ _) hu
  obtain⟨j1,_,p0,_⟩:=I.tuple h1
  cases e with
  | emp=>cases ne
  | non=>cases (show u=.non from g);cases ru;exact .tuple_none p0 hu0
  | bl b=>cases (show u=.bl b from g);cases ru;exact .tuple_bool _ p0 hu0
  | int b=>cases (show u=.int b from g);obtain⟨t,rfl⟩:=ru;exact .tuple_int _ _ p0 hu0
  | str b=>cases (show u=.str b from g);obtain⟨t,rfl⟩:=ru;exact .tuple_str _ _ p0 hu0
  | tup es =>
    obtain⟨b,ys,rfl,g1,g2⟩:=(show ∃a xs,u=.ref a/\SqT X.K H a xs/\RepL X.K H es xs from g)
    cases ru
    by_cases e:a=b
    ·subst e
     cases I.tuple_inj h1 g1
     rw[RepL.inj I ds es nd ne h2 g2,show eqD (.tup es) (.tup es)=true from mZ _]
     exact .same _
    ·obtain⟨i1,r1,p1,_⟩:=I.tuple h1
     obtain⟨i2,r2,p2,_⟩:=I.tuple g1
     have hu':A.units+(depL ds+1)<cLine:=hu
     have hu2:=g6 ds es.length
     have l1:=h2.length.trans r1.length
     have l2:=g2.length.trans r2.length
     refine .of_refs e ?_
     rw[show eqD (.tup ds) (.tup es)=eqDL ds es from rfl,dO]
     have:=SeqAt.RcAt.tuples (A:=A) p1 p2 (by omega) (e:=fun j=>eqD (ds.getD j .non) (es.getD j .non)) fun j a1 a2=>by
      have a1':j<i1.length:=by simpa using a1
      have a2':j<i2.length:=by simpa using a2
      have:=eqAt_DL I ds es (gY _ nd) ne h2 g2 r1 r2 (A:=A.in1) (by rw[eS];omega) j a1' a2'
      simpa using this
     rw[List.size_toArray,List.size_toArray,<- l1,<- l2] at this
     exact this
  | lst es =>
    obtain⟨b,ys,rfl,g1,g2⟩:=(show ∃a xs,u=.ref a/\SqL X.K H a xs/\RepL X.K H es xs from g)
    cases ru
    obtain⟨i2,r2,p2,_⟩:=I.list g1
    exact .tuple_list p0 p2.isList hu0
 | .lst ds,e,v,u,vv,uu,A,nd,ne,h,g,rv,ru,hu=>by
  obtain⟨a,xs,rfl,h1,h2⟩:=(show ∃a xs,v=.ref a/\SqL X.K H a xs/\RepL X.K H ds xs from h)
  cases rv
  have hu0:A.units<cLine:=Nat.lt_of_le_of_lt (Nat.le_add_right _ _) hu
  obtain⟨j1,_,p0,_⟩:=I.list h1
  cases e with
  | emp=>cases ne
  | non=>cases (show u=.non from g);cases ru;exact .list_none p0.isList hu0
  | bl b=>cases (show u=.bl b from g);cases ru;exact .list_bool _ p0.isList hu0
  | int b=>cases (show u=.int b from g);obtain⟨t,rfl⟩:=ru;exact .list_int _ _ p0.isList hu0
  | str b=>cases (show u=.str b from g);obtain⟨t,rfl⟩:=ru;exact .list_str _ _ p0.isList hu0
  | lst es =>
    obtain⟨b,ys,rfl,g1,g2⟩:=(show ∃a xs,u=.ref a/\SqL X.K H a xs/\RepL X.K H es xs from g)
    cases ru
    by_cases e:a=b
    ·subst e
     cases I.list_inj h1 g1
     rw[RepL.inj I ds es nd ne h2 g2,show eqD (.lst es) (.lst es)=true from mZ _]
     exact .same _
    ·obtain⟨i1,r1,p1,_⟩:=I.list h1
     obtain⟨i2,r2,p2,_⟩:=I.list g1
     have hu':A.units+(depL ds+1)<cLine:=hu
     have hu2:=g6 ds es.length
     have l1:=h2.length.trans r1.length
     have l2:=g2.length.trans r2.length
     refine .of_refs e ?_
     rw[show eqD (.lst ds) (.lst es)=eqDL ds es from rfl,dO]
     by_cases hz:ds.length=es.length
     ·have:=SeqAt.RcAt.lists (A:=A) p1.isList p2.isList (by simp only[List.size_toArray];omega) (by omega) (e:=fun j=>eqD (ds.getD j .non) (es.getD j .non)) fun j a1 a2=>by
       have a1':j<i1.length:=by simpa using a1
       have a2':j<i2.length:=by simpa using a2
       have:=eqAt_DL I ds es (gY _ nd) ne h2 g2 r1 r2 (A:=A.in1) (by rw[eS];omega) j a1' a2'
       simpa using this
      rw[List.size_toArray,<- l1] at this
      rw[<- hz,Nat.min_self,beq_self_eq_true,Bool.and_true]
      exact this
     ·have:=SeqAt.RcAt.lists_lengths (A:=A) p1.isList p2.isList (by simp only[List.size_toArray,bne_iff_ne];omega) (by omega)
      rw[show (ds.length==es.length)=false by simpa using hz,Bool.and_false]
      exact this
  | tup es =>
    obtain⟨b,ys,rfl,g1,g2⟩:=(show ∃a xs,u=.ref a/\SqT X.K H a xs/\RepL X.K H es xs from g)
    cases ru
    obtain⟨i2,r2,p2,_⟩:=I.tuple g1
    exact .list_tuple p0.isList p2 hu0
 | .non,e,v,u,vv,uu,A,nd,ne,h,g,rv,ru,hu=>by
  cases (show v=.non from h);cases rv
  have hu0:A.units<cLine:=Nat.lt_of_le_of_lt (Nat.le_add_right _ _) hu
  cases e with
  | emp=>cases ne
  | non=>cases (show u=.non from g);cases ru;exact .same _
  | bl b=>cases (show u=.bl b from g);cases ru;exact .none_bool _
  | int b=>cases (show u=.int b from g);obtain⟨t,rfl⟩:=ru;exact .none_int _ _
  | str b=>cases (show u=.str b from g);obtain⟨t,rfl⟩:=ru;exact .none_str _ _
  | tup es =>
    obtain⟨b,ys,rfl,g1,g2⟩:=(show ∃a xs,u=.ref a/\SqT X.K H a xs/\RepL X.K H es xs from g)
    cases ru
    obtain⟨i2,r2,p2,_⟩:=I.tuple g1
    exact .none_tuple p2 hu0
  | lst es =>
    obtain⟨b,ys,rfl,g1,g2⟩:=(show ∃a xs,u=.ref a/\SqL X.K H a xs/\RepL X.K H es xs from g)
    cases ru
    obtain⟨i2,r2,p2,_⟩:=I.list g1
    exact .none_list p2.isList hu0
 | .bl a,e,v,u,vv,uu,A,nd,ne,h,g,rv,ru,hu=>by
  cases (show v=.bl a from h);cases rv
  have hu0:A.units<cLine:=Nat.lt_of_le_of_lt (Nat.le_add_right _ _) hu
  cases e with
  | emp=>cases ne
  | non=>cases (show u=.non from g);cases ru;exact .bool_none _
  | bl b=>cases (show u=.bl b from g);cases ru;exact .bool_bool _ _
  | int b=>cases (show u=.int b from g);obtain⟨t,rfl⟩:=ru;exact .bool_int _ _ _
  | str b=>cases (show u=.str b from g);obtain⟨t,rfl⟩:=ru;exact .bool_str _ _ _
  | tup es =>
    obtain⟨b,ys,rfl,g1,g2⟩:=(show ∃a xs,u=.ref a/\SqT X.K H a xs/\RepL X.K H es xs from g)
    cases ru
    obtain⟨i2,r2,p2,_⟩:=I.tuple g1
    exact .bool_tuple _ p2 hu0
  | lst es =>
    obtain⟨b,ys,rfl,g1,g2⟩:=(show ∃a xs,u=.ref a/\SqL X.K H a xs/\RepL X.K H es xs from g)
    cases ru
    obtain⟨i2,r2,p2,_⟩:=I.list g1
    exact .bool_list _ p2.isList hu0
 | .int a,e,v,u,vv,uu,A,nd,ne,h,g,rv,ru,hu=>by
  cases (show v=.int a from h);obtain⟨t',rfl⟩:=rv
  have hu0:A.units<cLine:=Nat.lt_of_le_of_lt (Nat.le_add_right _ _) hu
  cases e with
  | emp=>cases ne
  | non=>cases (show u=.non from g);cases ru;exact .int_none _ _
  | bl b=>cases (show u=.bl b from g);cases ru;exact .int_bool _ _ _
  | int b=>cases (show u=.int b from g);obtain⟨t,rfl⟩:=ru;exact .int_int _ _ _ _
  | str b=>cases (show u=.str b from g);obtain⟨t,rfl⟩:=ru;exact .int_str _ _ _ _
  | tup es =>
    obtain⟨b,ys,rfl,g1,g2⟩:=(show ∃a xs,u=.ref a/\SqT X.K H a xs/\RepL X.K H es xs from g)
    cases ru
    obtain⟨i2,r2,p2,_⟩:=I.tuple g1
    exact .int_tuple _ _ p2 hu0
  | lst es =>
    obtain⟨b,ys,rfl,g1,g2⟩:=(show ∃a xs,u=.ref a/\SqL X.K H a xs/\RepL X.K H es xs from g)
    cases ru
    obtain⟨i2,r2,p2,_⟩:=I.list g1
    exact .int_list _ _ p2.isList hu0
 | .str a,e,v,u,vv,uu,A,nd,ne,h,g,rv,ru,hu=>by
  cases (show v=.str a from h);obtain⟨t',rfl⟩:=rv
  have hu0:A.units<cLine:=Nat.lt_of_le_of_lt (Nat.le_add_right _ _) hu
  cases e with
  | emp=>cases ne
  | non=>cases (show u=.non from g);cases ru;exact .str_none _ _
  | bl b=>cases (show u=.bl b from g);cases ru;exact .str_bool _ _ _
  | int b=>cases (show u=.int b from g);obtain⟨t,rfl⟩:=ru;exact .str_int _ _ _ _
  | str b=>cases (show u=.str b from g);obtain⟨t,rfl⟩:=ru;exact .str_str _ _ _ _
  | tup es =>
    obtain⟨b,ys,rfl,g1,g2⟩:=(show ∃a xs,u=.ref a/\SqT X.K H a xs/\RepL X.K H es xs from g)
    cases ru
    obtain⟨i2,r2,p2,_⟩:=I.tuple g1
    exact .str_tuple _ _ p2 hu0
  | lst es =>
    obtain⟨b,ys,rfl,g1,g2⟩:=(show ∃a xs,u=.ref a/\SqL X.K H a xs/\RepL X.K H es xs from g)
    cases ru
    obtain⟨i2,r2,p2,_⟩:=I.list g1
    exact .str_list _ _ p2.isList hu0
 | .emp,e,v,u,vv,uu,A,nd,ne,h,g,rv,ru,hu=>by cases nd
theorem eqAt_DL (I:Inv X pins σ H s):∀(ds es:List Dt) {xs ys:List V} {us ws:List Value} {A:Around},noEL (ds.take es.length)=true->noEL es=true->RepL X.K H ds xs->RepL X.K H es ys->Vals xs us->Vals ys ws->A.units+depL (ds.take es.length)<cLine ->
  ∀(j:Nat) (h1:j<us.length) (h2:j<ws.length),SeqAt.EqAt A s us[j] ws[j] (eqD (ds.getD j .non) (es.getD j .non))
 | [],es,xs,ys,us,ws,A,nd,ne,h,g,rv,ru,hu=>fun j h1 h2=>by
  cases (show xs=[] from h)
  cases rv
  exact absurd h1 (Nat.not_lt_zero _)
 | d::ds,es,xs,ys,us,ws,A,nd,ne,h,g,rv,ru,hu=>fun j h1 h2=>by
  obtain⟨x,r,rfl,hd,hr⟩:=(show ∃x r,xs=x::r/\Rep X.K H d x/\RepL X.K H ds r from h)
  cases es with
  | nil =>
   cases (show ys=[] from g)
   cases ru
   exact absurd h2 (Nat.not_lt_zero _)
  | cons e es =>
   obtain⟨y,q,rfl,gd,gr⟩:=(show ∃x r,ys=x::r/\Rep X.K H e x/\RepL X.K H es r from g)
   cases rv with
   | cons rv1 rv2 =>
    cases ru with
    | cons ru1 ru2 =>
     have hu':A.units+max (dep d) (depL (ds.take es.length))<cLine:=hu
     have nd:(noE d&&noEL (ds.take es.length))=true:=nd
     rw[Bool.and_eq_true] at nd
     have ne:(noE e&&noEL es)=true:=ne
     rw[Bool.and_eq_true] at ne
     cases j with
     | zero=>exact aFi I d e nd.1 ne.1 hd gd rv1 ru1 (by omega)
     | succ j=>exact eqAt_DL I ds es nd.2 ne.2 hr gr rv2 ru2 (by omega) j (by simpa using h1) (by simpa using h2)
end
noncomputable def aGk (K:PySem.W.Frag):R2:=fun x y H Q=>∃ds es,((Rep K H (.tup ds) x/\Rep K H (.tup es) y)\/(Rep K H (.lst ds) x/\Rep K H (.lst es) y))/\depL (ds.take es.length)<=100/\(noEL (ds.take es.length)=true/\noEL es=true)/\Q (.bl (eqDL ds es)) H
theorem j4 (hu:X.A.units+150<cLine):OpR X (compareOp .Eq) (aGk X.K):=by
 intro pins s σ H x y v u Q I rv ru h
 obtain⟨ds,es,h,hd,⟨nd,ne⟩,q⟩:=h
 rcases h with ⟨h,g⟩ | ⟨h,g⟩
 ·obtain⟨a,xs,rfl,h1,h2⟩:=(show ∃a xs,x=.ref a/\SqT X.K H a xs/\RepL X.K H ds xs from h)
  obtain⟨b,ys,rfl,g1,g2⟩:=(show ∃a xs,y=.ref a/\SqT X.K H a xs/\RepL X.K H es xs from g)
  cases rv;cases ru
  obtain⟨i1,r1,p1,_⟩:=I.tuple h1
  obtain⟨i2,r2,p2,_⟩:=I.tuple g1
  have l1:=h2.length.trans r1.length
  have l2:=g2.length.trans r2.length
  refine SeqAt.eq_tupleAt p1 p2 (by omega) (e:=fun j=>eqD (ds.getD j .non) (es.getD j .non)) (fun j a1 a2=>?_) ⟨.bl _,H,I,rfl,?_⟩
  ·have a1':j<i1.length:=by simpa using a1
   have a2':j<i2.length:=by simpa using a2
   have:=eqAt_DL I ds es nd ne h2 g2 r1 r2 (A:=X.A.in1) (by rw[eS];omega) j a1' a2'
   simpa using this
  ·rw[List.size_toArray,List.size_toArray,<- l1,<- l2,<- dO]
   exact q
 ·obtain⟨a,xs,rfl,h1,h2⟩:=(show ∃a xs,x=.ref a/\SqL X.K H a xs/\RepL X.K H ds xs from h)
  obtain⟨b,ys,rfl,g1,g2⟩:=(show ∃a xs,y=.ref a/\SqL X.K H a xs/\RepL X.K H es xs from g)
  cases rv;cases ru
  obtain⟨i1,r1,p1,_⟩:=I.list h1
  obtain⟨i2,r2,p2,_⟩:=I.list g1
  have l1:=h2.length.trans r1.length
  have l2:=g2.length.trans r2.length
  rw[dO] at q
  by_cases hz:ds.length=es.length
  ·refine SeqAt.eq_listAt p1.isList p2.isList (by simp only[List.size_toArray];omega) (by omega) (e:=fun j=>eqD (ds.getD j .non) (es.getD j .non)) (fun j a1 a2=>?_) ⟨.bl _,H,I,rfl,?_⟩
   ·have a1':j<i1.length:=by simpa using a1
    have a2':j<i2.length:=by simpa using a2
    have:=eqAt_DL I ds es nd ne h2 g2 r1 r2 (A:=X.A.in1) (by rw[eS];omega) j a1' a2'
    simpa using this
   ·rw[<- hz,Nat.min_self,beq_self_eq_true,Bool.and_true] at q
    rw[List.size_toArray,<- l1]
    exact q
  ·refine SeqAt.eq_list_lengthsAt p1.isList p2.isList (by simp only[List.size_toArray,bne_iff_ne];omega) (by omega) ⟨.bl _,H,I,rfl,?_⟩
   rw[show (ds.length==es.length)=false by simpa using hz,Bool.and_false] at q
   exact q
theorem fZ {A:Around} {k:Nat} (hr:Room k A):A.units+150<cLine:=by have:=hr.un;omega
end
mutual
noncomputable def noL:Dt->Bool
 | .tup ds=>noLL ds
 | .lst _=>false
 | .emp=>false
 | _=>true
noncomputable def noLL:List Dt->Bool
 | []=>true
 | d::ds=>noL d&&noLL ds
end
noncomputable def TK (H H':Hp):Prop:=∀a xs,Rd H a (.tup xs)->Rd H' a (.tup xs)
theorem TK.sq {K:PySem.W.Frag} {H H':Hp} (t:TK H H') {a:Addr} {xs:List V} (h:SqT K H a xs):SqT K H' a xs:=by
 rcases h with h | h
 ·exact .inl (t a xs h)
 ·exact .inr h
theorem TK.refl (H:Hp):TK H H:=fun _ _ h=>h
theorem TK.trans {H H1 H2:Hp} (a:TK H H1) (b:TK H1 H2):TK H H2:=fun x xs h=>b x xs (a x xs h)
theorem Same.tk {H H':Hp} (s:Same H H'):TK H H':=fun a xs h=>by
 rcases h with h | ⟨o,h⟩
 ·exact .inl (s a _ h)
 ·exact .inr ⟨o,s a _ h⟩
theorem TK.new {H:Hp} {p:Addr} {o:HO} (hp:H p=none):TK H (upd H p o):=fun a xs h=>by
 rcases h with h | ⟨u,h⟩
 ·exact .inl (by rw[aO (aI h hp)];exact h)
 ·exact .inr ⟨u,by rw[aO (aI h hp)];exact h⟩
theorem TK.lst {H:Hp} {p:Addr} {xs:List V} {o:HO} (hp:H p=some (.lst xs)):TK H (upd H p o):=fun a ys h=>by
 have ne:∀u,H a=some u->u ≠ .lst xs->a≠p:=fun u e n z=>by rw[z,hp] at e;cases e;exact n rfl
 rcases h with h | ⟨u,h⟩
 ·exact .inl (by rw[aO (ne _ h (by intro z;cases z))];exact h)
 ·exact .inr ⟨u,by rw[aO (ne _ h (by intro z;cases z))];exact h⟩
mutual
theorem Rep.mono {K:PySem.W.Frag} {H H':Hp} (t:TK H H'):∀(d:Dt) {v:V},noL d=true->Rep K H d v->Rep K H' d v
 | .non,v,_,h=>h
 | .bl b,v,_,h=>h
 | .int i,v,_,h=>h
 | .str x,v,_,h=>h
 | .lst ds,v,n,h=>by cases n
 | .emp,v,n,h=>by cases n
 | .tup ds,v,n,h=>by
  obtain⟨a,xs,e,h1,h2⟩:=(show ∃a xs,v=.ref a/\SqT K H a xs/\RepL K H ds xs from h)
  exact⟨a,xs,e,t.sq h1,RepL.mono t ds n h2⟩
theorem RepL.mono {K:PySem.W.Frag} {H H':Hp} (t:TK H H'):∀(ds:List Dt) {xs:List V},noLL ds=true->RepL K H ds xs->RepL K H' ds xs
 | [],xs,_,h=>h
 | d::ds,xs,n,h=>by
  obtain⟨x,r,e,h1,h2⟩:=(show ∃x r,xs=x::r/\Rep K H d x/\RepL K H ds r from h)
  have n':(noL d&&noLL ds)=true:=n
  rw[Bool.and_eq_true] at n'
  exact⟨x,r,e,Rep.mono t d n'.1 h1,RepL.mono t ds n'.2 h2⟩
end
theorem RepL.append {K:PySem.W.Frag} {H:Hp}:∀ {ds es:List Dt} {xs ys:List V},RepL K H ds xs->RepL K H es ys->RepL K H (ds++es) (xs++ys)
 | [],es,xs,ys,h,g=>by cases (show xs=[] from h);exact g
 | d::ds,es,xs,ys,h,g=>by
  obtain⟨x,r,rfl,h1,h2⟩:=(show ∃x r,xs=x::r/\Rep K H d x/\RepL K H ds r from h)
  exact⟨x,r++ys,rfl,h1,h2.append g⟩
noncomputable def pD (q:Int×Int):Dt:=.tup [.int q.1,.int q.2]
theorem fT:∀l:List (Int×Int),noLL (l.map pD)=true
 | []=>rfl
 | q::l=>by show (noL (pD q)&&noLL (l.map pD))=true;rw[fT l];rfl
theorem wU:∀l:List (Int×Int),depL (l.map pD)<=1
 | []=>Nat.zero_le _
 | q::l=>by
  show max (dep (pD q)) (depL (l.map pD))<=1
  have:=wU l
  have e:dep (pD q)=1:=rfl
  omega
theorem dA {K:PySem.W.Frag} {H:Hp} {a:Addr} {x y:Int} (h:H a=some (.tup [.int x,.int y])):Rep K H (pD (x,y)) (.ref a):=⟨a,_,rfl,SqT.of h,_,_,rfl,rfl,_,_,rfl,rfl,rfl⟩
theorem wR:∀l m:List (Int×Int),eqDL (l.map pD) (m.map pD)=decide (l=m)
 | [],[]=>by simp[eqDL]
 | [],q::m=>by simp[eqDL]
 | q::l,[]=>by simp[eqDL]
 | q::l,r::m=>by
  show (eqD (pD q) (pD r)&&eqDL (l.map pD) (m.map pD))=_
  rw[wR l m]
  show ((q.1==r.1&&(q.2==r.2&&true))&&decide (l=m))=_
  obtain⟨a,b⟩:=q
  obtain⟨c,d⟩:=r
  by_cases h1:a=c <;> by_cases h2:b=d <;> by_cases h3:l=m <;> simp[h1,h2,h3]
theorem e6 {K:PySem.W.Frag} {H:Hp}:∀ {l:List (Int×Int)} {xs:List V} {i:Nat} {x:V},RepL K H (l.map pD) xs->xs[i]? = some x->∃q b,l[i]? = some q/\x=.ref b/\SqT K H b [.int q.1,.int q.2]
 | [],xs,i,x,h,e=>by cases (show xs=[] from h);cases e
 | q::l,xs,i,x,h,e=>by
  obtain⟨y,r,rfl,h1,h2⟩:=(show ∃y r,xs=y::r/\Rep K H (pD q) y/\RepL K H (l.map pD) r from h)
  cases i with
  | zero =>
   have e':y=x:=by simpa using e
   subst e'
   obtain⟨b,ys,e1,g1,g2⟩:=(show ∃a xs,y=.ref a/\SqT K H a xs/\RepL K H [.int q.1,.int q.2] xs from h1)
   obtain⟨z,r1,rfl,z1,g3⟩:=(show ∃z r',ys=z::r'/\z=.int q.1/\RepL K H [.int q.2] r' from g2)
   obtain⟨z',r2,rfl,z2,g4⟩:=(show ∃z r',r1=z::r'/\z=V.int q.2/\r'=[] from g3)
   cases z1;cases z2;cases g4
   exact⟨q,b,by simp,e1,g1⟩
  | succ i =>
   obtain⟨q',b,h3,h4,h5⟩:=e6 (l:=l) h2 (by simpa using e)
   exact⟨q',b,by simpa using h3,h4,h5⟩
end L2
namespace L2
open PySem PySem.Spec PyProof.Rows
section
variable {X:Cx} {pos:Pos}
noncomputable def aGj (K:PySem.W.Frag):R2:=fun x y H Q=>∃ds es,Rep K H (.lst ds) x/\Rep K H (.lst es) y/\depL (ds.take es.length)<=100/\(noEL (ds.take es.length)=true/\noEL es=true)/\Q (.bl (!eqDL ds es)) H
theorem uV (hu:X.A.units+150<cLine):OpR X (compareOp .NotEq) (aGj X.K):=by
 intro pins s σ H x y v u Q I rv ru h
 obtain⟨ds,es,h,g,hd,⟨nd,ne⟩,q⟩:=h
 obtain⟨a,xs,rfl,h1,h2⟩:=(show ∃a xs,x=.ref a/\SqL X.K H a xs/\RepL X.K H ds xs from h)
 obtain⟨b,ys,rfl,g1,g2⟩:=(show ∃a xs,y=.ref a/\SqL X.K H a xs/\RepL X.K H es xs from g)
 cases rv;cases ru
 obtain⟨i1,r1,p1,_⟩:=I.list h1
 obtain⟨i2,r2,p2,_⟩:=I.list g1
 have l1:=h2.length.trans r1.length
 have l2:=g2.length.trans r2.length
 rw[dO] at q
 show wpAny (model X.prog X.w) X.A (richCompare .NotEq (.ref a) (.ref b)) _ _ _
 by_cases hz:ds.length=es.length
 ·refine SeqAt.RcNeAt.lists p1.isList p2.isList (by simp only[List.size_toArray];omega) (by omega) (e:=fun j=>eqD (ds.getD j .non) (es.getD j .non)) (fun j a1 a2=>?_) _ _ _ _ ⟨.bl _,H,I,rfl,?_⟩
  ·have a1':j<i1.length:=by simpa using a1
   have a2':j<i2.length:=by simpa using a2
   have:=eqAt_DL I ds es nd ne h2 g2 r1 r2 (A:=X.A.in1) (by rw[eS];omega) j a1' a2'
   simpa using this
  ·rw[<- hz,Nat.min_self,beq_self_eq_true,Bool.and_true] at q
   rw[List.size_toArray,<- l1]
   exact q
 ·refine SeqAt.RcNeAt.lists_lengths p1.isList p2.isList (by simp only[List.size_toArray,bne_iff_ne];omega) (by omega) _ _ _ _ ⟨.bl _,H,I,rfl,?_⟩
  rw[show (ds.length==es.length)=false by simpa using hz,Bool.and_false] at q
  exact q
noncomputable def gB:TE:=fun _ H Q=>∀p,H p=none->Q (.ref p) (upd H p (.dK []))
theorem vU:PE X (.Dict [] [] pos) gB:=by
 intro pins s σ H Q I h
 have big:sysModules<s.heap.objs.size:=Nat.lt_trans (m:=mainGlobals) (by decide) (I.mod.glob.keeps I.bk).lt
 have ok:ObjOk X.prog X.w (upd H s.heap.objs.size (.dK [])) (s.heap.push { cls:=.type "dict",data:=.dict #[] }) s.heap.objs.size (.dK []):=by
  refine⟨Nat.zero_le _,?_,[],.nil,Heap.DictOf.new _⟩
  rw[beq_eq_false_iff_ne]
  exact(Nat.ne_of_lt big).symm
 refine wpAny_Dict_empty ?_
 have J:=I.laid (t':=s.toks) (h':=s.heap.push { cls:=.type "dict",data:=.dict #[] }) (fun _ _ q=>Heap.get?_push_of_some _ q) (Nat.le_refl _) ok
 exact⟨.ref _,_,J,rfl,h _ (I.hok.fresh (Nat.le_refl _))⟩
theorem aFx {e:Expr}:PE X e (fun _ _ _=>False):=fun _ _ _ _ _ _ h=>h.elim
theorem aEh {b:List Stmt}:PSs X b (fun _ _ _=>False):=fun _ _ _ _ _ _ h=>h.elim
noncomputable def iO:Value->Bool
 | .bool b=>b
 | _=>false
theorem pX:∀ {bs:List Bool} {us:List Value},Vals (bs.map V.bl) us->us=bs.map Value.bool
 | [],_,r=>by cases r;rfl
 | b::bs,_,r=>by
  cases r with
  | cons p q=>rw[pX q];cases p;rfl
noncomputable def fR:V->List V->Hp->VK->Prop:=fun x vs H Q=>∃(l:Addr) (bs:List Bool),x=.ref l/\vs=[.bl true]/\H l=some (.lst (bs.map V.bl))/\Q (.int (bs.countP id:Nat)) H
theorem aAr:MtM X "list.count" fR:=by
 intro pins s σ H x vs v us Q I rx rv h
 obtain⟨l,bs,rfl,rfl,hH,q⟩:=h
 cases rx
 obtain⟨u,rfl,ru⟩:=rv.one
 cases ru
 obtain⟨z,its,n,r,hl,e⟩:=I.lstM hH
 have ei:=pX r
 subst ei
 refine call_meets F.slot_list_count ⟨_,e,rfl⟩ F.entry_list_count (F.args_list_count_2 _ _) (SeqAt.list_countAt l _ n none _ (.bool true) iO) ⟨e,fun y hy=>?_,?_⟩
 ·have hy:y∈(bs.map Value.bool):=by simpa using hy
  obtain⟨b,_,rfl⟩:=List.mem_map.mp hy
  have:=SeqAt.EqAt.bool_bool (A:=X.A.in1) (s:=s) b true
  rw[show (b==true)=iO (.bool b) by cases b <;> rfl] at this
  exact this
 ·have ec:List.countP iO (bs.map Value.bool).toArray.toList=bs.countP id:=by
   rw[List.countP_map]
   congr 1
  rw[ec]
  exact⟨.int _,H,I.tok _,⟨_,rfl⟩,q⟩
noncomputable def fQ:V->List V->Hp->VK->Prop:=fun x vs H Q=>∃(l:Addr) (bs:List Bool) (j:Nat),x=.ref l/\vs=[.bl true]/\H l=some (.lst (bs.map V.bl))/\bs[j]? = some true/\(∀m,m<j->bs[m]? = some false)/\j<1000/\Q (.int (j:Nat)) H
theorem aAq:MtM X "list.index" fQ:=by
 intro pins s σ H x vs v us Q I rx rv h
 obtain⟨l,bs,j,rfl,rfl,hH,hj,hm,hz,q⟩:=h
 cases rx
 obtain⟨u,rfl,ru⟩:=rv.one
 cases ru
 obtain⟨z,its,n,r,hl,e⟩:=I.lstM hH
 have ei:=pX r
 subst ei
 have jl:j<bs.length:=(List.getElem?_eq_some_iff.mp hj).1
 have gt:∀(m:Nat) (h:m<(bs.map Value.bool).toArray.size) b,bs[m]? = some b->iO (bs.map Value.bool).toArray[m]=b:=fun m h b hb=>by
  obtain⟨h1,h2⟩:=List.getElem?_eq_some_iff.mp hb
  simp[iO,h2]
 refine call_meets F.slot_list_index ⟨_,e,rfl⟩ F.entry_list_index (F.args_list_index_2 _ _) (SeqAt.list_indexAt l _ n none _ (.bool true) iO j (by simpa using jl) (by omega) (gt j _ _ hj) (fun m h1 h2=>gt m h1 _ (hm m h2))) ⟨e,fun y hy=>?_,?_⟩
 ·have hy:y∈(bs.map Value.bool):=by simpa using hy
  obtain⟨b,_,rfl⟩:=List.mem_map.mp hy
  have:=SeqAt.EqAt.bool_bool (A:=X.A.in1) (s:=s) b true
  rw[show (b==true)=iO (.bool b) by cases b <;> rfl] at this
  exact this
 ·exact⟨.int _,H,I.tok _,⟨_,rfl⟩,q⟩
end
end L2
namespace L2
open PySem PySem.Spec PyProof.Rows
section
variable {X:Cx} {k i:Nat} {x:Str} {p pos pos':Pos}
noncomputable def yY (X:Cx) (k i:Nat):TX:=fun σ H R=>∃f fd sp,σ[i]? = some (some (.ref f))/\H f=some (sG f fd)/\FnOk X.prog X.w X.K X.mg X.base (CXE X.prog X.w) k f fd [] sp/\Binds X.K fd [] []/\sp [] H (fun _ _=>False) R
theorem aAw {E:Value->Shared->Prop} {pins:List (Addr×Obj)} {s:Shared} {σ:St} {H:Hp} {v:V} {Q:Value->Shared->Prop} (I:Inv X pins σ H s) (hN:X.N[i]? = some x) (hv:Vis X.env.scope x) (e:σ[i]? = some (some v)) (h:∀u,RelV v u->Q u s)
  (hd:(x==("__debug__" : Str))=false) (hcd:(x==("__classdict__" : Str))=false):wpAny (model X.prog X.w) X.A (eval (.Name x p) X.env) Q E s:=by
 obtain⟨m,hn,hl⟩:=I.loc
 obtain⟨u,r,l⟩:=hl i x v hN e hv
 have fin:=h u r
 rcases l with ⟨hk,hm⟩ | ⟨hk,c,hc,hcell⟩
 ·exact wpAny_Name (wpAny_loadName_local I.ok.kind hk hn hm fin) hd
 ·rcases hk with hk | hk
  ·exact wpAny_Name (wpAny_loadName_cell I.ok.kind hk hc hcell fin) hd
  ·exact wpAny_Name (wpAny_loadName_free I.ok.kind hk hc hcell fin hcd) hd
theorem zL (hN:X.N[i]? = some x) (hv:Vis X.env.scope x) (hr:Room k X.A) (hd:autoParam ((x==("__debug__" : Str))=false) L2.au1._auto_1) (hcd:autoParam ((x==("__classdict__" : Str))=false) L2.au1._auto_1)
  (hs:autoParam (swapsWith (.Call (.Name x p) [] [] pos) none pos'.line X.env=pure false) L2.au4._auto_1):PX X [.Expr (.Call (.Name x p) [] [] pos) pos'] (yY X k i):=by
 intro pins s σ H R I h
 obtain⟨f,fd,sp,e1,hf,F,hb,hsp⟩:=h
 refine wpAny_execs_cons (wpAny_Expr_any (wpAny_Call_Name_kw (aAw I hN hv e1 (fun u r=>?_) hd hcd)) I.quiet hs)
 cases (show u=Value.ref f from r)
 obtain⟨ho,_,_⟩:=I.hok f _ hf
 refine PySem.W.callWith_F0 ⟨_,_,_,_,ho⟩ ?_
 refine wpAny_call (codeAny_mono (F.run X.A X.stack s H ⟨[],[]⟩ [] [] _ _ hr I.env0 (hb s [] I.kIn rfl) .nil hsp) fun r s' hq=>?_)
 cases r with
 | error e =>
  obtain⟨a,C,dx,H',rfl,fl,ho,hg,U,ok,hE⟩:=hq
  exact⟨a,C,dx,H',rfl,I.call' (s':=s') (ch:=[]) ho U ok hg (fun _ z=>nomatch z),fl,hE⟩
 | ok fl =>
  cases fl with
  | ret u =>
   obtain⟨_,_,_,_,_,_,_,z⟩:=hq
   exact z.elim
  | next=>exact False.elim hq
  | brk=>exact False.elim hq
  | cont=>exact False.elim hq
end
noncomputable def TabOk (H:Hp) (P:Addr) (q:Str):Prop:=∃ps:Array Value,H P=some (.tbl ps)/\TriplesOk ps.toList/\∀pos cv,codeAmong pos ps.toList=some cv->∃c,cv=.ref c/\H c=some (vH c q)
theorem vE {pos:Pos} {a b:Nat} {c cv:Value} (l:List Value) (h:TriplesOk l) (e:codeAmong pos (l++[rawInt a,rawInt b,c])=some cv):codeAmong pos l=some cv\/cv=c:=by
 fun_induction TriplesOk l with
 | case1 =>
  simp only[List.nil_append,codeAmong,rawInt] at e
  split at e
  ·exact .inr (Option.some.inj e).symm
  ·cases e
 | case2 i t j u d rest ih =>
  simp only[List.cons_append,codeAmong] at e ⊢
  split at e
  ·rename_i z
   left;rw[if_pos z];exact e
  ·rename_i z
   rw[if_neg z]
   exact ih h e
 | case3=>exact h.elim
theorem pY {a b:Nat} {c:Value} (l:List Value) (h:TriplesOk l):TriplesOk (l++[rawInt a,rawInt b,c]):=by
 fun_induction TriplesOk l with
 | case1=>simp[TriplesOk,rawInt]
 | case2 i t j u d rest ih=>simp only[List.cons_append,TriplesOk];exact ih h
 | case3=>exact h.elim
noncomputable def SameX (P:Addr) (H H':Hp):Prop:=∀b o,b≠P->H b=some o->H' b=some o
structure LamCx (X:Cx) (c P:Addr):Prop where
 code:X.env.code=.ref c
 hd:PySem.W.CodeHd X.base c P
 bm:X.base.BuiltinsAt X.mg P
section
variable {X:Cx} {c P:Addr} {params:Arguments} {body:Expr} {scope:Scope} {pos:Pos} {clos:List (Str×Addr)}
noncomputable def aD4 (mg:Str->Option Value) (P:Addr) (q:Str) (params:Arguments) (body:Expr) (scope:Scope) (clos:List (Str×Addr)):TE:=fun _ H Q=>TabOk H P q /\
 ∀f c' ctv H',H f=none->SameX P H H'->TabOk H' P q->H' f=some (sG f (PySem.W.kla_fn "<lambda>" q params body scope clos ((mg "__name__").getD .none) (.ref c') ctv))->H' c'=some (vH c' q)->Q (.ref f) H'
theorem aEp (L:LamCx X c P) (hdef:defaultsOf params X.env=([],[])) (hcl:closureFor scope X.env=pure clos):PE X (.Lambda params body scope pos) (aD4 X.mg P (X.env.qual ++ "<lambda>") params body scope clos):=by
 intro pins s σ H Q I h
 obtain⟨⟨ps,hP,ht,hcs⟩,h⟩:=h
 have hPo:s.heap.get? P=some (PySem.W.tabObj ps):=I.hok P _ hP
 have hg:s.heap.Ns mainGlobals X.mg:=I.mod.glob.keeps I.bk
 have hgP:mainGlobals≠P:=fun q=>by
  obtain⟨o,es,ep,e,hd,_⟩:=hg
  rw[q,hPo] at e;cases e;cases hd
 have hb:s.heap.BuiltinsAt X.mg P:=by
  obtain⟨bm,o,b1,b2,b3,b4,b5,b6⟩:=L.bm
  exact⟨bm,o,b1,b2,b3,b4,I.bk _ _ b5,b6⟩
 have fresh:∀b,s.heap.objs.size<=b->H b=none:=fun b hb=>I.hok.fresh hb
 refine PySem.W.kla_eval hdef ?_
 cases hA:codeAmong pos ps.toList with
 | some cv =>
  obtain⟨c',rfl,hc'⟩:=hcs pos cv hA
  refine PySem.W.kla_makeFunctionHit hcl I.ok.glob hg L.code (L.hd.keeps I.bk) hPo ht hA hb fun ctv h' tk hk hsz=>?_
  have hfn:H h'.objs.size=none:=fresh _ hsz
  refine⟨.ref h'.objs.size,upd H h'.objs.size (sG h'.objs.size (PySem.W.kla_fn "<lambda>" (X.env.qual ++ "<lambda>") params body scope clos ((X.mg "__name__").getD .none) (.ref c') ctv)),I.laid (fun b u q=>Heap.get?_push_of_some _ (hk b u q)) hsz (wK (Heap.get?_push_size _ rfl)),rfl,?_⟩
  have ne:∀b o,H b=some o->b≠h'.objs.size:=fun b o q z=>by rw[z,hfn] at q;cases q
  refine h _ c' ctv _ hfn (fun b o _ q=>by rw[aO (ne b o q)];exact q) ⟨ps,by rw[aO (ne _ _ hP)];exact hP,ht,fun pos cv e=>?_⟩ aE (by rw[aO (ne _ _ hc')];exact hc')
  obtain⟨c2,e1,e2⟩:=hcs pos cv e
  exact⟨c2,e1,by rw[aO (ne _ _ e2)];exact e2⟩
 | none =>
  refine PySem.W.kla_makeFunction hcl I.ok.glob hg L.code (L.hd.keeps I.bk) hPo ht hA hgP hb fun c' ctv h' tk hx hge hlt hrec htb=>?_
  have hszP:P<s.heap.objs.size:=Heap.lt_size hPo
  have hcn:H c'=none:=fresh _ hge
  have hfn:H h'.objs.size=none:=fresh _ (Nat.le_of_lt (Nat.lt_of_le_of_lt hge hlt))
  have hcf:c'≠h'.objs.size:=Nat.ne_of_lt hlt
  have hPc:P≠c':=Nat.ne_of_lt (Nat.lt_of_lt_of_le hszP hge)
  have hPf:P≠h'.objs.size:=Nat.ne_of_lt (Nat.lt_of_lt_of_le hszP (Nat.le_of_lt (Nat.lt_of_le_of_lt hge hlt)))
  generalize hfd:PySem.W.kla_fn "<lambda>" (X.env.qual ++ "<lambda>") params body scope clos ((X.mg "__name__").getD .none) (.ref c') ctv=fd
  obtain⟨H',hH'⟩:∃H',H'=upd (upd (upd H P (.tbl (ps++#[rawInt pos.line,rawInt pos.col,.ref c']))) c' (vH c' (X.env.qual ++ "<lambda>"))) h'.objs.size (sG h'.objs.size fd):=⟨_,rfl⟩
  have gF:H' h'.objs.size=some (sG h'.objs.size fd):=by rw[hH'];exact aE
  have gC:H' c'=some (vH c' (X.env.qual ++ "<lambda>")):=by rw[hH',aO hcf];exact aE
  have gP:H' P=some (.tbl (ps++#[rawInt pos.line,rawInt pos.col,.ref c'])):=by rw[hH',aO hPf,aO hPc];exact aE
  have gO:∀b,b≠h'.objs.size->b≠c'->b≠P->H' b=H b:=fun b x y z=>by rw[hH',aO x,aO y,aO z]
  have gS:∀b o,b≠P->H b=some o->H' b=some o:=fun b o z q=>by
   rw[gO b (fun w=>by rw[w,hfn] at q;cases q) (fun w=>by rw[w,hcn] at q;cases q) z];exact q
  have neP:∀b u,H b=some u->(∀qs,u ≠ .tbl qs)->b≠P:=fun b u q d w=>by
   rw[w,hP] at q;cases q;exact d _ rfl
  have keep:∀b o,b≠P->s.heap.get? b=some o->(h'.push (PySem.W.kla_obj "<lambda>" (X.env.qual ++ "<lambda>") params body scope clos ((X.mg "__name__").getD .none) c' ctv)).get? b=some o:=fun b o hb q=>Heap.get?_push_of_some _ (hx b o hb q)
  have nP:∀b,H b=none->b≠P:=fun b n w=>by rw[w,hP] at n;cases n
  have U:Un X.fs [] H H' s.heap (h'.push (PySem.W.kla_obj "<lambda>" (X.env.qual ++ "<lambda>") params body scope clos ((X.mg "__name__").getD .none) c' ctv)):=by
   refine⟨fun b o q n _ _=>keep b o (nP b n) q,fun b o q n _ _=>⟨o.slots,keep b o (nP b n) q⟩,fun b o q n _=>?_,fun b o q _=>?_,fun b xs q=>gS b _ (neP b _ q fun _ z=>nomatch z) q,fun b o u q=>gS b _ (neP b _ q fun _ z=>nomatch z) q,fun b qs q=>?_⟩
   ·have l:=Heap.lt_size q
    rw[gO b (Nat.ne_of_lt (Nat.lt_of_lt_of_le l (Nat.le_of_lt (Nat.lt_of_le_of_lt hge hlt)))) (Nat.ne_of_lt (Nat.lt_of_lt_of_le l hge)) (nP b n)]
    exact n
   ·by_cases w:b=P
    ·subst w
     exact⟨_,Heap.get?_push_of_some _ htb⟩
    ·exact⟨o,keep b o w q⟩
   ·by_cases w:b=P
    ·subst w
     rw[hP] at q
     cases q
     exact⟨_,gP⟩
    ·exact⟨#[],by rw[Array.append_empty];exact gS b _ w q⟩
  have ok:HOk X.prog X.w H' (h'.push (PySem.W.kla_obj "<lambda>" (X.env.qual ++ "<lambda>") params body scope clos ((X.mg "__name__").getD .none) c' ctv)):=fun a o q=>by
   by_cases w1:a=h'.objs.size
   ·subst w1
    rw[gF] at q
    cases q
    refine wK ?_
    rw[<- hfd]
    exact Heap.get?_push_size _ rfl
   by_cases w2:a=c'
   ·subst w2
    rw[gC] at q
    cases q
    exact aDd (hrec.push _)
   by_cases w3:a=P
   ·subst w3
    rw[gP] at q
    cases q
    exact Heap.get?_push_of_some _ htb
   rw[gO a w1 w2 w3] at q
   refine(I.hok a o q).stay (fun b u hb e=>keep b u ?_ e) (fun b e=>gS b _ (neP b _ e fun _ z=>nomatch z) e) fun b xs e=>gS b _ (neP b _ e fun _ z=>nomatch z) e
   rcases hb with rfl | hb
   ·exact w3
   ·exact neP b _ hb fun _ z=>nomatch z
  refine⟨.ref h'.objs.size,H',I.un (t':=tk) U ok,rfl,?_⟩
  refine h _ c' ctv H' hfn gS ⟨_,gP,?_,fun pos' cv e=>?_⟩ (by rw[hfd];exact gF) gC
  ·rw[Array.toList_append];exact pY _ ht
  ·rw[Array.toList_append] at e
   rcases vE _ ht e with e | e
   ·obtain⟨c2,e1,e2⟩:=hcs pos' cv e
    exact⟨c2,e1,gS _ _ (neP _ _ e2 fun _ z=>nomatch z) e2⟩
   ·exact⟨c',e,gC⟩
end
end L2
namespace L2
open PySem PySem.Spec PyProof.Rows
noncomputable def pG (sc out:Scope) (N NX:List Str) (js:List Nat):Bool :=
 (sc.kind == .function)&&(sc.isCoroutine==false)&&(sc.isGenerator==false)&&(sc.names.all fun y=>y.2 != .cell)&&(sc.names.all fun y=>y.2 != .free||(out.names.lookup y.1==some .cell&&N.contains y.1))&&(js.length==N.length) &&
 ((N.zip js).all fun p=>(NX[p.2]? == some p.1)&&(out.names.lookup p.1==some .cell)&&(sc.names.lookup p.1==some .free))
theorem rN:∀ {l:List (Str×Addr)},(l.map (·.2)).Nodup->∀x y c,l.lookup x=some c->l.lookup y=some c->x=y:=by
 intro l
 induction l with
 | nil=>intro _ x y c h;cases h
 | cons q l ih =>
  intro h x y c hx hy
  rw[List.map_cons,List.nodup_cons] at h
  have mem:∀z,l.lookup z=some c->c∈l.map (·.2):=fun z hz=>List.mem_map.mpr ⟨(z,c),PySem.mem_of_lookup hz,rfl⟩
  rw[List.lookup_cons] at hx hy
  cases ex:x==q.1 with
  | true =>
   rw[ex] at hx
   cases hx
   cases ey:y==q.1 with
   | true=>rw[beq_iff_eq] at ex ey;rw[ex,ey]
   | false=>rw[ey] at hy;exact absurd (mem y hy) h.1
  | false =>
   rw[ex] at hx
   cases ey:y==q.1 with
   | true=>rw[ey] at hy;cases hy;exact absurd (mem x hx) h.1
   | false=>rw[ey] at hy;exact ih h.2 x y c hx hy
section
variable {X:Cx} {sc:Scope} {N:List Str} {js:List Nat} {params:Arguments} {body:Expr} {pos:Pos} {c P:Addr}
theorem jN {env:Env} (h:∀y∈sc.names,y.2=.free->∃c,env.cells.lookup y.1=some c) {x:Str} {a:Addr} (q:(eX sc env).lookup x=some a):env.cells.lookup x=some a/\(x,NameKind.free)∈sc.names:=by
 obtain⟨z,hz,e⟩:=List.mem_map.mp (PySem.mem_of_lookup q)
 rw[List.mem_reverse,List.mem_filter] at hz
 have zf:z.2=.free:=by simpa using hz.2
 obtain⟨c,hc⟩:=h z hz.1 zf
 have e1:z.1=x:=congrArg Prod.fst e
 have e2:(env.cells.lookup z.1).getD 0=a:=congrArg Prod.snd e
 rw[hc] at e2
 have e2:c=a:=e2
 refine⟨by rw[<- e1,hc,e2],?_⟩
 obtain⟨z1,z2⟩:=z
 simp only at e1 zf
 rw[<- e1,<- zf]
 exact hz.1
theorem aCl (L:LamCx X c P) (hck:pG sc X.env.scope N X.N js=true) (hdef:defaultsOf params X.env=([],[])):PE X (.Lambda params body sc pos) (aD4 X.mg P (X.env.qual ++ "<lambda>") params body sc (eX sc X.env)):=by
 intro pins s σ H Q I h
 simp only[pG,Bool.and_eq_true,List.all_eq_true,beq_iff_eq,bne_iff_ne,Bool.or_eq_true] at hck
 obtain⟨⟨⟨⟨⟨⟨c1,c2⟩,c3⟩,c4⟩,c5⟩,c6⟩,c7⟩:=hck
 have env:∀y∈sc.names,y.2=.free->∃c,X.env.cells.lookup y.1=some c:=fun y hy hf=>by
  rcases c5 y hy with z | z
  ·exact absurd hf z
  ·exact I.ok.has y.1 (.inl z.1)
 exact aEp L hdef (m9 env) pins s σ H Q I h
theorem yD {σ:St} {b:Heap} {vs:List V} (hck:pG sc X.env.scope N X.N js=true) (hinj:(X.env.cells.map (·.2)).Nodup) (hhas:∀x,X.env.scope.names.lookup x=some .cell->∃c,X.env.cells.lookup x=some c) (hc:hG X σ b)
  (hv:vs.length=js.length) (hσ:∀(i j:Nat) (v:V),js[i]? = some j->vs[i]? = some v->σ[j]? = some (some v)) :
  LamScope N sc (eX sc X.env)/\vs.length=N.length/\(∀x c,(eX sc X.env).lookup x=some c->∃v,b.IsCell c v)/\(∀(i:Nat) x v,N[i]? = some x->vs[i]? = some v->∃c u,(eX sc X.env).lookup x=some c/\RelV v u/\b.IsCell c (some u)):=by
 simp only[pG,Bool.and_eq_true,List.all_eq_true,beq_iff_eq,bne_iff_ne,Bool.or_eq_true] at hck
 obtain⟨⟨⟨⟨⟨⟨c1,c2⟩,c3⟩,c4⟩,c5⟩,c6⟩,c7⟩:=hck
 have env:∀y∈sc.names,y.2=.free->∃c,X.env.cells.lookup y.1=some c:=fun y hy hf=>by
  rcases c5 y hy with z | z
  ·exact absurd hf z
  ·exact hhas y.1 z.1
 have key:∀(i:Nat) x v,N[i]? = some x->vs[i]? = some v->∃c u,(eX sc X.env).lookup x=some c/\RelV v u/\b.IsCell c (some u):=fun i x v e1 e2=>by
  have il:i<js.length:=by rw[c6];exact(List.getElem?_eq_some_iff.mp e1).1
  have hz:(x,js[i])∈N.zip js:=List.mem_of_getElem? (i:=i) (by rw[List.getElem?_zip_eq_some];exact⟨e1,List.getElem?_eq_getElem il⟩)
  obtain⟨⟨d1,d2⟩,d3⟩:=c7 _ hz
  obtain⟨a,ha⟩:=jO (env:=X.env) (PySem.mem_of_lookup d3)
  obtain⟨u,r,cell⟩:=hc js[i] x v a d1 (hσ i js[i] v (List.getElem?_eq_getElem il) e2) d2 (jN env ha).1
  exact⟨a,u,ha,r,cell⟩
 refine⟨⟨c1,c2,c3,c4,fun x hx=>?_,fun x hx=>jO (PySem.mem_of_lookup hx),fun x y a hx hy=>rN hinj x y a (jN env hx).1 (jN env hy).1⟩,by rw[hv,c6],fun x a hx=>?_,key⟩
 ·obtain⟨i,hi⟩:=List.getElem?_of_mem hx
  have il:i<js.length:=by rw[c6];exact(List.getElem?_eq_some_iff.mp hi).1
  have hz:(x,js[i])∈N.zip js:=List.mem_of_getElem? (i:=i) (by rw[List.getElem?_zip_eq_some];exact⟨hi,List.getElem?_eq_getElem il⟩)
  exact(c7 _ hz).2
 ·obtain⟨_,hm⟩:=jN env hx
  have hN:x∈N:=by
   rcases c5 _ hm with z | z
   ·exact absurd rfl z
   ·simpa using z.2
  obtain⟨i,hi⟩:=List.getElem?_of_mem hN
  have il:i<vs.length:=by rw[hv,c6];exact(List.getElem?_eq_some_iff.mp hi).1
  obtain⟨a',u,h1,_,h2⟩:=key i x vs[i] hi (List.getElem?_eq_getElem il)
  rw[hx] at h1
  cases h1
  exact⟨_,h2⟩
end
theorem aFg {Pr:Program} {w:World} {K:PySem.W.Frag} {mg:Str->Option Value} {base:Heap} {x qual:Str} {st:Stmt} {f c:Addr} {oc kV doc pm ct:Value} {od an:Option Addr} {osl:Array (Option Value)} {N ps:List Str} {k:Nat} {sp:Sp}
  (lk:K.lookup f=some ⟨oc,od,.func (PySem.W.fnOf x qual (c8 st) (cK st) (aJ st) .none kV doc pm an (.ref c) ct),osl⟩) (hcd:PySem.W.codeIn K (.ref c) qual=true) (S:FnScope N ps (aJ st)) (len:∀vs H Q E,sp vs H Q E->vs.length=ps.length)
  (hbody:∀(A:Around) (outer:List Env) (s:Shared) (H:Hp) (vs:List V) (Q:VK) (E:XK),Room k (A.deeper (envOfC qual (aJ st) s.heap.objs.size f (.ref c)))->sp vs H Q E ->
   ∃t,PSs (oM CX0 Pr w K mg base N qual (aJ st) f (.ref c) A outer s H E).nox (cK st) t/\t { nx:=fun _ H'=>Q .non H',rt:=Q } (start N vs) H) :
  FnOk Pr w K mg base CX0 (k+1) f (PySem.W.fnOf x qual (c8 st) (cK st) (aJ st) .none kV doc pm an (.ref c) ct) ps sp:=by
 refine aA8 lk hcd S len fun A outer s H vs Q E hr hsp=>?_
 obtain⟨t,h,q⟩:=hbody A outer s H vs Q E hr hsp
 exact⟨t,h.nox,q⟩
theorem yE {K:PySem.W.Frag} {qual:Str} {body:Expr} {scope:Scope} {cl:List (Str×Addr)} {pm cd ctv:Value} {params:Arguments} (hp:∀pm cd ctv,bindArgs (PySem.W.kla_fn "<lambda>" qual params body scope cl pm cd ctv) ⟨[],[]⟩=pure []):Binds K (PySem.W.kla_fn "<lambda>" qual params body scope cl pm cd ctv) [] []:=fun s us _ hl=>by
 cases us with
 | nil=>exact .of_eq (hp pm cd ctv)
 | cons u us=>simp at hl
theorem TabOk.kept {H H':Hp} {P:Addr} {q:Str} (h:TabOk H P q) (k:∀b o,H b=some o->(∀xs,o ≠ .lst xs)->H' b=some o):TabOk H' P q:=by
 obtain⟨ps,h1,h2,h3⟩:=h
 refine⟨ps,k _ _ h1 (fun _ z=>nomatch z),h2,fun pos cv e=>?_⟩
 obtain⟨c,e1,e2⟩:=h3 pos cv e
 exact⟨c,e1,k _ _ e2 (fun _ z=>nomatch z)⟩
theorem TabOk.same {H H':Hp} {P:Addr} {q:Str} (h:TabOk H P q) (s:Same H H'):TabOk H' P q:=h.kept fun b o e _=>s b o e
theorem xK {H:Hp} {P:Addr} {q:Str} (h:H P=some (.tbl #[])):TabOk H P q:=⟨#[],h,trivial,fun pos cv e=>by simp[codeAmong] at e⟩
theorem SameX.refl (P:Addr) (H:Hp):SameX P H H:=fun _ _ _ e=>e
theorem SameX.seq {K:PySem.W.Frag} {P a:Addr} {H H':Hp} {ps:Array Value} {xs:List V} (hP:H P=some (.tbl ps)) (s:SameX P H H') (h:SqL K H a xs):SqL K H' a xs:=by
 rcases h with (h | ⟨o,h⟩) | h
 ·exact .inl (.inl (s _ _ (fun z=>by rw[z,hP] at h;cases h) h))
 ·exact .inl (.inr ⟨o,s _ _ (fun z=>by rw[z,hP] at h;cases h) h⟩)
 ·exact .inr h
theorem gM:∀(ns:List (Str×NameKind)) (n:Nat) (acc:List (Str×Addr)),(acc.map (·.2)).Nodup->(∀y∈acc,y.2<n)->((cellsFrom n ns acc).map (·.2)).Nodup
 | [],n,acc,h,_=>by rw[cellsFrom.eq_def];exact h
 | (x,k)::r,n,acc,h,hb=>by
  rw[cellsFrom.eq_def]
  dsimp only
  split
  ·refine gM r (n+1) _ ?_ fun y hy=>?_
   ·rw[List.map_cons,List.nodup_cons]
    refine⟨fun hm=>?_,h⟩
    obtain⟨y,hy,e⟩:=List.mem_map.mp hm
    have:=hb y hy
    have e:y.2=n:=e
    rw[e] at this
    exact absurd this (Nat.lt_irrefl _)
   ·rcases List.mem_cons.mp hy with rfl | hy
    ·exact Nat.lt_succ_self _
    ·exact Nat.lt_succ_of_lt (hb y hy)
  ·exact gM r n acc h hb
end L2
namespace L2
open PySem PySem.Spec PyProof.Rows
theorem aBm {α:Type}:∀(its:List α) (k:Nat),k<=its.length->(List.range k).filterMap (fun m=>its[its.length-1-m]?)=(its.drop (its.length-k)).reverse:=by
 intro its k
 induction k with
 | zero=>intro _;simp
 | succ k ih =>
  intro hk
  rw[List.range_succ,List.filterMap_append,ih (by omega)]
  have e1:its.length-k=its.length-(k+1)+1:=by omega
  have hl:its.length-(k+1)<its.length:=by omega
  have e2:its.drop (its.length-(k+1))=its[its.length-(k+1)]::its.drop (its.length-k):=by
   rw[e1];exact List.drop_eq_getElem_cons hl
  rw[e2,List.reverse_cons]
  have e3:its.length-1-k=its.length-(k+1):=by omega
  congr 1
  simp[e3,hl]
theorem lO (its:List Value):slicePick its.toArray none none (some (-1))=its.reverse.toArray:=by
 have e:sliceRange (sliceBounds none none (some (-1)) its.toArray.size).fst (sliceBounds none none (some (-1)) its.toArray.size).snd.fst (sliceBounds none none (some (-1)) its.toArray.size).snd.snd=(List.range its.length).map fun k=>its.length-1-k:=by
  show ((List.range (if (-1:Int)>0 then (if ((its.toArray.size:Int)-1) < -1 then (-1-((its.toArray.size:Int)-1) + -1-1) / -1 else 0) else if ((its.toArray.size:Int)-1) > -1 then (((its.toArray.size:Int)-1) - -1 - -1-1) / - -1 else 0:Int).toNat).map fun (k:Nat)=>(((its.toArray.size:Int)-1) + -1*(k:Int)).toNat)=_
  rw[if_neg (by decide),List.size_toArray]
  have c:(if ((its.length:Int)-1) > -1 then (((its.length:Int)-1) - -1 - -1-1) / - -1 else 0:Int).toNat=its.length:=by
   split
   ·rw[show (- -1:Int)=1 by decide,Int.ediv_one];omega
   ·omega
  rw[c]
  refine List.map_congr_left fun k _=>?_
  omega
 unfold slicePick
 rw[e,List.filterMap_map]
 congr 1
 have b:=aBm its its.length (Nat.le_refl _)
 rw[Nat.sub_self,List.drop_zero] at b
 rw[<- b]
 congr 1
 funext k
 simp
section
variable {X:Cx} {e:Expr} {te:TE} {pos p1 p2 p3:Pos} {kk:Nat}
noncomputable def aFp (K:PySem.W.Frag) (te:TE):TE:=fun σ H Q=>te σ H fun x H1=>∃a xs,x=.ref a/\SqL K H1 a xs/\∀p,H1 p=none->Q (.ref p) (upd H1 p (.lst xs.reverse))
theorem Vals.rev:∀ {xs:List V} {us:List Value},Vals xs us->Vals xs.reverse us.reverse
 | [],_,r=>by cases r;exact .nil
 | x::xs,_,r=>by
  cases r with
  | cons p q=>rw[List.reverse_cons,List.reverse_cons];exact(Vals.rev q).append (.cons p .nil)
theorem aEo (he:PE X e te) (hlt:autoParam (∀(o r:Value),letTemporaryGo e o r=pure ()) L2.au7._auto_1):PE X (.Subscript e (.Slice none none (some (.UnaryOp .USub (.Constant (.int 1) kk p3) p1)) p2) pos) (aFp X.K te):=by
 intro pins s σ H Q I h
 refine wpAny_Subscript_Slice_step (T := "list") slot_list_getitem.lookup (thn (he pins s σ H _ I h) fun v s1 ⟨x,H1,I1,r1,a,xs,ex,hx,q⟩=>?_) hlt
 subst ex
 refine wpAny_Slice ?_
 rw[evalPart_none]
 refine wpAny_pure (wpAny_pure ?_)
 rw[evalPart_some]
 have st:PE X (.UnaryOp .USub (.Constant (.int 1) kk p3) p1) _:=zY uF aB
 refine thn (st pins s1 σ H1 (fun y H2=>y=.int (-1)/\H2=H1) I1 ⟨1,rfl,rfl,rfl⟩) fun u s2 ⟨y,H2,I2,r2,ey,eH⟩=>?_
 subst ey eH
 obtain⟨t,rfl⟩:=r2
 cases r1
 have I3:Inv X pins σ H2 { s2 with heap:=s2.heap.push { cls:=.type "slice",data:=.fields #[.none,.none,.int (-1) t] } }:=I2.kept (t':=s2.toks) fun b ob q=>Heap.get?_push_of_some _ q
 obtain⟨its,r,ht,hz⟩:=I3.list hx
 have hlen:=r.length
 have hg:wpAny (model X.prog X.w) X.A (getItem (.ref a) (.ref s2.heap.objs.size)) (EP X pins σ Q) X.xe { s2 with heap:=s2.heap.push { cls:=.type "slice",data:=.fields #[.none,.none,.int (-1) t] } }:=by
  refine wpAny_getItem_list_slice ht.isList (Heap.IsSliceOf.new ..) .none .none (.int (-1) t) (by decide) ?_ (by rw[List.size_toArray] <;> omega)
  rw[lO]
  refine⟨.ref _,_,I3.laid (t':=s2.toks) (o:=.lst xs.reverse) (fun b ob q=>Heap.get?_push_of_some _ q) (Nat.le_refl _) ?_,rfl,q _ (I3.hok.fresh (Nat.le_refl _))⟩
  exact⟨by rw[List.length_reverse];exact hz,_,0,Vals.rev r,Heap.get?_push_size _ rfl⟩
 exact⟨ht.isList.typeIs,hg⟩
end
end L2
namespace L2
open PySem PySem.Spec PyProof.Rows
mutual
noncomputable def iP:Dt->PyData
 | .non=>.none
 | .bl b=>.bool b
 | .int i=>.int i
 | .str x=>.str x
 | .tup ds=>.tuple (toPyL ds)
 | .lst ds=>.list (toPyL ds)
 | .emp=>.dict []
noncomputable def toPyL:List Dt->List PyData
 | []=>[]
 | d::ds=>iP d::toPyL ds
end
mutual
noncomputable def okD:Dt->Bool
 | .int i=>decide (i.natAbs<10^100)
 | .str x=>x.cps.toList.all fun c=>decide (c<16^8)
 | .tup ds=>okDL ds
 | .lst ds=>okDL ds
 | .non=>true
 | .bl _=>true
 | .emp=>true
noncomputable def okDL:List Dt->Bool
 | []=>true
 | d::ds=>okD d&&okDL ds
end
mutual
noncomputable def bY:Dt->Nat
 | .non=>4
 | .bl _=>5
 | .int _=>101
 | .str x=>10*x.length+2
 | .tup ds=>lenDL ds+3
 | .lst ds=>lenDL ds+3
 | .emp=>2
noncomputable def lenDL:List Dt->Nat
 | []=>0
 | d::ds=>bY d+2+lenDL ds
end
mutual
theorem oP:∀d:Dt,okD d=true->(iP d).showable=true
 | .non,_=>rfl
 | .bl _,_=>rfl
 | .int i,h=>by
  have h':i.natAbs<10^100:=of_decide_eq_true (show decide (i.natAbs<10^100)=true from h)
  have:=eF h'
  show decide (i.natAbs.log2<1920)=true
  exact decide_eq_true (by omega)
 | .str _,_=>rfl
 | .tup ds,h=>toPyL_show ds h
 | .lst ds,h=>toPyL_show ds h
 | .emp,_=>rfl
theorem toPyL_show:∀ds:List Dt,okDL ds=true->PyData.showableAll (toPyL ds)=true
 | [],_=>rfl
 | d::ds,h=>by
  obtain⟨h1,h2⟩:=Bool.and_eq_true_iff.mp (show (okD d&&okDL ds)=true from h)
  show ((iP d).showable&&PyData.showableAll (toPyL ds))=true
  rw[oP d h1,toPyL_show ds h2];rfl
end
mutual
theorem oQ:∀d:Dt,noE d=true->(iP d).hasDict=false
 | .non,_=>rfl
 | .bl _,_=>rfl
 | .int i,_=>rfl
 | .str _,_=>rfl
 | .tup ds,h=>toPyL_dict ds h
 | .lst ds,h=>toPyL_dict ds h
 | .emp,h=>by cases h
theorem toPyL_dict:∀ds:List Dt,noEL ds=true->PyData.hasDictAll (toPyL ds)=false
 | [],_=>rfl
 | d::ds,h=>by
  have h:(noE d&&noEL ds)=true:=h
  rw[Bool.and_eq_true] at h
  show ((iP d).hasDict||PyData.hasDictAll (toPyL ds))=false
  rw[oQ d h.1,toPyL_dict ds h.2];rfl
end
mutual
noncomputable def noS:Dt->Bool
 | .tup ds=>noSL ds
 | .lst _=>false
 | _=>true
noncomputable def noSL:List Dt->Bool
 | []=>true
 | d::ds=>noS d&&noSL ds
end
noncomputable def okR (d:Dt):Bool:=noE d||noS d
mutual
theorem lH:∀d:Dt,(iP d).depth=dep d
 | .non=>rfl
 | .bl _=>rfl
 | .int i=>rfl
 | .str _=>rfl
 | .tup ds=>by show PyData.depthAll (toPyL ds)+1=depL ds+1;rw[toPyL_depth ds]
 | .lst ds=>by show PyData.depthAll (toPyL ds)+1=depL ds+1;rw[toPyL_depth ds]
 | .emp=>rfl
theorem toPyL_depth:∀ds:List Dt,PyData.depthAll (toPyL ds)=depL ds
 | []=>rfl
 | d::ds=>by
  show max (iP d).depth (PyData.depthAll (toPyL ds))=max (dep d) (depL ds)
  rw[lH d,toPyL_depth ds]
end
mutual
theorem lG:∀d:Dt,okD d=true->(iP d).shown.length<=bY d
 | .non,_=>by show (PyData.shown .none).length<=4;decide
 | .bl b,_=>by show (PyData.shown (.bool b)).length<=5;cases b <;> decide
 | .int i,h=>by
  have h':i.natAbs<10^100:=of_decide_eq_true (show decide (i.natAbs<10^100)=true from h)
  exact jR h'
 | .str x,h=>by
  have hx:∀c∈x.cps.toList,c<16^8:=by
   have h':(x.cps.toList.all fun c=>decide (c<16^8))=true:=h
   simpa only [List.all_eq_true,decide_eq_true_eq] using h'
  exact StrLaws.reprText_len x hx
 | .tup ds,h=>by
  have h1:=toPyL_len ds h
  have h2:=tupleText_len_le (PyData.shownAll (toPyL ds))
  have h3:=PyData.shownAll_length (toPyL ds)
  show (tupleText (PyData.shownAll (toPyL ds))).length<=lenDL ds+3
  omega
 | .lst ds,h=>by
  have h1:=toPyL_len ds h
  have h2:=listText_len_le (PyData.shownAll (toPyL ds))
  have h3:=PyData.shownAll_length (toPyL ds)
  show (listText (PyData.shownAll (toPyL ds))).length<=lenDL ds+3
  omega
 | .emp,_=>by show (PyData.shown (.dict [])).length<=2;decide
theorem toPyL_len:∀ds:List Dt,okDL ds=true->((PyData.shownAll (toPyL ds)).map (·.length)).sum+2*(toPyL ds).length<=lenDL ds
 | [],_=>Nat.le_refl _
 | d::ds,h=>by
  obtain⟨h1,h2⟩:=Bool.and_eq_true_iff.mp (show (okD d&&okDL ds)=true from h)
  have e1:=lG d h1
  have e2:=toPyL_len ds h2
  show (((iP d).shown::PyData.shownAll (toPyL ds)).map (·.length)).sum+2*(iP d::toPyL ds).length<=bY d+2+lenDL ds
  simp only[List.map_cons,List.sum_cons,List.length_cons]
  omega
end
section
variable {X:Cx} {pins:List (Addr×Obj)} {σ:St} {H:Hp} {s:Shared}
mutual
theorem vO (I:Inv X pins σ H s):∀(d:Dt) {v:V} {u:Value},Rep X.K H d v->RelV v u->∃as,Reads s.heap u (iP d) as/\(noS d=true->¬ sysModules∈as)
 | .non,v,u,h,r=>by cases (show v=.non from h);cases r;exact⟨_,.none,fun _=>by simp⟩
 | .bl b,v,u,h,r=>by cases (show v=.bl b from h);cases r;exact⟨_,.bool b,fun _=>by simp⟩
 | .int b,v,u,h,r=>by cases (show v=.int b from h);obtain⟨t,rfl⟩:=r;exact⟨_,.int b t,fun _=>by simp⟩
 | .str b,v,u,h,r=>by cases (show v=.str b from h);obtain⟨t,rfl⟩:=r;exact⟨_,.str b t,fun _=>by simp⟩
 | .tup ds,v,u,h,r=>by
  obtain⟨a,xs,rfl,h1,h2⟩:=(show ∃a xs,v=.ref a/\SqT X.K H a xs/\RepL X.K H ds xs from h)
  cases r
  obtain⟨its,r1,⟨o,e1,e2,n,e3⟩,_⟩:=I.tuple h1
  obtain⟨as,ra,na⟩:=reads_DL I ds h2 r1
  exact⟨_,.tuple e1 e2 e3 ra,na⟩
 | .lst ds,v,u,h,r=>by
  obtain⟨a,xs,rfl,h1,h2⟩:=(show ∃a xs,v=.ref a/\SqL X.K H a xs/\RepL X.K H ds xs from h)
  cases r
  obtain⟨its,r1,⟨o,n,e1,e2,_,e3⟩,_⟩:=I.list h1
  obtain⟨as,ra,na⟩:=reads_DL I ds h2 r1
  exact⟨_,.list e1 e2 e3 ra,fun z=>by cases z⟩
 | .emp,v,u,h,r=>by
  obtain⟨a,rfl,ha⟩:=(show ∃a,v=.ref a/\H a=some (.dK []) from h)
  cases r
  obtain⟨_,hs,vs,kv,o,es,ep,e1,e2,e3,_,pr,_⟩:_/\(a==sysModules)=false/\∃vs,KV [] vs/\s.heap.DictOf (e7 X.prog X.w) a vs:=I.hok a _ ha
  cases kv
  have en:es.toList=[]:=by
   generalize es.toList=l at pr
   cases pr
   rfl
  refine⟨_,.dict (kvs:=[]) e1 e2.1 e3 (by rw[en];exact .nil) (by rw[en];exact .nil),fun _=>?_⟩
  simpa using fun z=>(by rw[<- z] at hs;simp at hs:False)
theorem reads_DL (I:Inv X pins σ H s):∀(ds:List Dt) {xs:List V} {us:List Value},RepL X.K H ds xs->Vals xs us->∃as,ReadsAll s.heap us (toPyL ds) as/\(noSL ds=true->¬ sysModules∈as)
 | [],xs,us,h,r=>by cases (show xs=[] from h);cases r;exact⟨_,.nil,fun _=>by simp⟩
 | d::ds,xs,us,h,r=>by
  obtain⟨x,y,rfl,h1,h2⟩:=(show ∃x r,xs=x::r/\Rep X.K H d x/\RepL X.K H ds r from h)
  cases r with
  | cons r1 r2 =>
   obtain⟨as,q1,n1⟩:=vO I d h1 r1
   obtain⟨bs,q2,n2⟩:=reads_DL I ds h2 r2
   exact⟨_,.cons q1 q2,fun z=>by
    have z:(noS d&&noSL ds)=true:=z
    rw[Bool.and_eq_true] at z
    have a1:=n1 z.1
    have a2:=n2 z.2
    intro hm
    rcases List.mem_append.mp hm with hm | hm
    ·exact a1 hm
    ·exact a2 hm⟩
end
end
noncomputable def shD (d:Dt):Str:=(iP d).shown
noncomputable def aDu:Dt->Bool
 | .bl _=>true
 | .str _=>true
 | _=>false
noncomputable def aEe (K:PySem.W.Frag):List V->Hp->VK->Prop:=fun vs H Q=>∃x d,vs=[x]/\Rep K H d x/\okD d=true/\okR d=true/\aDu d=false/\bY d<=1000000/\dep d<=100/\Q (.str (shD d)) H
theorem vD {X:Cx} (hg:X.A.guards=some []) (hu:X.A.units+150<cLine):d6 X (.builtin "repr") (aEe X.K):=by
 intro pins s σ H xs us Q I r h
 obtain⟨x,d,rfl,hd,ho,hR,hb,hl,hp,q⟩:=h
 obtain⟨u,rfl,rx⟩:=lE r
 have hlen:(iP d).shown.length<=sizeLine:=Nat.le_trans (lG d ho) (Nat.le_trans hl (by decide))
 have go:∀a,u=.ref a->wpAny (model X.prog X.w) X.A (call (.builtin "repr") [u]) (EP X pins σ Q) X.xe s:=fun a e=>by
  subst e
  obtain⟨as,R,na⟩:=vO I d hd rx
  have hR:(noE d||noS d)=true:=hR
  refine repr_of_reads' R (oP d ho) (fun hh=>(Bool.or_eq_true_iff.mp hR).elim (fun z=>by rw[oQ d z] at hh;cases hh) na) hg (by rw[lH d];omega) (fun _ _ e=>e) (fun h' u' tk hk=>?_) hlen
  exact⟨.str (shD d),H,I.kept (t':=tk) hk,⟨_,rfl⟩,q⟩
 cases d with
 | non =>
  cases (show x=.non from hd)
  cases rx
  exact PySem.P.repr_of_none ⟨.str _,H,I.tok _,⟨_,rfl⟩,q⟩
 | int i =>
  cases (show x=.int i from hd)
  obtain⟨t,rfl⟩:=rx
  have h':i.natAbs<10^100:=of_decide_eq_true (show decide (i.natAbs<10^100)=true from ho)
  have:=eF h'
  exact PySem.P.repr_of_int (by omega) ⟨.str _,H,I.tok _,⟨_,rfl⟩,q⟩
 | bl b=>cases hb
 | str b=>cases hb
 | tup ds =>
  obtain⟨a,xs,rfl,_⟩:=(show ∃a xs,x=.ref a/\SqT X.K H a xs/\RepL X.K H ds xs from hd)
  cases rx
  exact go a rfl
 | lst ds =>
  obtain⟨a,xs,rfl,_⟩:=(show ∃a xs,x=.ref a/\SqL X.K H a xs/\RepL X.K H ds xs from hd)
  cases rx
  exact go a rfl
 | emp =>
  obtain⟨a,rfl,_⟩:=(show ∃a,x=.ref a/\H a=some (.dK []) from hd)
  cases rx
  exact go a rfl
end L2
namespace L2
open PySem PySem.Spec PyProof.Rows PySem.W
structure XCls (K:PySem.W.Frag) (C:Addr):Prop where
 ga:PySem.W.findIn K (.ref C) "__getattribute__" = some (some (.builtin "BaseException.__getattribute__"))
 gt:PySem.W.findIn K (.ref C) "__getattr__" = some none
 hd:PySem.W.hasDictIn K C=true
 cl:PySem.W.findIn K (.ref C) "__class__" = some (some (.builtin "object.__class__"))
 sp:PySem.W.specialIn K (.builtin "object.__class__") "__get__" = some (some (.builtin "getset_descriptor.__get__"))
 tk:PySem.W.takesIn K (.builtin "object.__class__")=some true
 mr:PySem.W.mroIn K C (.type "object")=some true
 sb:PySem.W.subIn K (.ref C) (.type "BaseException")=some true
theorem aDb {h:Heap} {a C:Addr} {dx:Option Addr} {vs:Array Value} {sl:Array (Option Value)} (e:h.get? a=some (EO dx (.ref C) vs sl)) (hd:∀d,dx=some d->∃o,h.get? d=some o):∃od,PySem.W.InstAt h a (EO dx (.ref C) vs sl) C od:=by
 cases dx with
 | none=>exact⟨none,e,rfl,rfl,trivial⟩
 | some d =>
  obtain⟨o,ho⟩:=hd d rfl
  exact⟨some o,e,rfl,rfl,ho⟩
theorem yM {prog:Program} {w:World} {A:Around} {E:Value->Shared->Prop} {Q:Option Value->Shared->Prop} {s:Shared} {K:PySem.W.Frag} {a C:Addr} {dx:Option Addr} {vs:Array Value} {sl:Array (Option Value)} (c:XCls K C) (X:K.In s.heap) (e:s.heap.get? a=some (EO dx (.ref C) vs sl)) (hdx:∀d,dx=some d->∃o,s.heap.get? d=some o)
  (q:Q (some (.ref C)) { s with toks:=s.toks+1 }):wpAny (model prog w) A (getAttr? (.ref a) "__class__") Q E s:=by
 obtain⟨od,I⟩:=aDb e hdx
 have hf:findObj K C od "__class__" = some (.bind (.builtin "getset_descriptor.__get__") (.builtin "object.__class__")):=by
  obtain⟨cd,hc,_⟩:=any_some c.hd
  unfold findObj
  rw[hc,Option.bind_some,c.cl,Option.bind_some]
  simp only[c.sp,c.tk,Option.bind_some]
 obtain⟨hh,g,d,t,os⟩:=s
 have L0:=I.type (M:=model prog w)
 have L1:=looks_findIn (M:=model prog w) X c.ga
 have L2:=looks_findIn (M:=model prog w) X c.gt
 have L3:=looks_find (M:=model prog w) X I hf
 unfold getAttr? getAttrBy? getAttrBy
 refine wpAny_bind (wpAny_mkText (wpAny_bind (wpAny_attempt (wpAny_holding (wpAny_bind (L0.at (wpAny_bind (L1.at ?_))))))))
 show wpAny _ _ (getAttrByItsOwn _ _ _ _ _ _) _ _ _
 unfold getAttrByItsOwn
 refine wpAny_bind (L2.at (wpAny_bind (wpAny_attempt (wpAny_holding ?_))))
 show wpAny _ _ (boundAndCalled _ _ _) _ _ _
 unfold boundAndCalled
 have hbs:bindSpecial (.builtin "BaseException.__getattribute__") (.ref a)=pure (.builtin "BaseException.__getattribute__",[.ref a]):=by
  have hop:withoutEnding? "BaseException.__getattribute__" "#opaque" = none:=by decide +kernel
  have hdat:withoutEnding? "BaseException.__getattribute__" "#data" = none:=by decide +kernel
  have hk:builtinKind "BaseException.__getattribute__" = some .slot:=by decide +kernel
  simp only[bindSpecial,typeOf,builtinType,hop,hdat,hk];rfl
 rw[hbs]
 refine wpAny_bind (wpAny_pure ?_)
 have L4:=looks_subIn (M:=model prog w) X c.sb
 refine wpAny_call (codeAny_call_builtin (by decide +kernel) F.entry_bexc_ga ?_)
 have hk:builtinKind "BaseException.__getattribute__" = some .slot:=by decide +kernel
 have hsplit:splitId "BaseException.__getattribute__" = some ("BaseException","__getattribute__"):=by decide +kernel
 have ha:=F.args_bexc_ga (.ref a) (.str (Str.ofString "__class__") t)
 simp only[checkBuiltinCall,hk,hsplit]
 have LI:Looks (model prog w) hh (isInstance (.ref a) (.type "BaseException")) true:=L0.andThen L4
 refine wpAny_bind (LI.at ?_)
 rw[if_neg (by decide)]
 refine wpAny_mono (Q:=fun _ s'=>s'=(⟨hh,g,d,t+1,os⟩:Shared)) (E:=fun _ _=>False) ?_ (fun _ s' z=>?_) (fun _ _ z=>z.elim)
 ·repeat (first | assumption | rfl | wp_step)
 ·subst z
  unfold Builtin.«object.__getattribute__»
  refine wpAny_bind (wpAny_pure ?_)
  refine wpAny_bind (wpAny_pure ?_)
  refine wpAny_bind (L0.at (wpAny_bind (L3.at ?_)))
  show wpAny _ _ (Builtin.ObjectAttr.bindTo _ _ _ _) _ _ _
  show wpAny _ _ (do let r <- holding [Value.builtin "object.__class__"] (call (.builtin "getset_descriptor.__get__") [.builtin "object.__class__",.ref a,.ref C]);ret r) _ _ _
  refine wpAny_bind (wpAny_holding (wpAny_call (class_get (s:=⟨hh,g,d,t+1,os⟩) (ox:=EO dx (.ref C) vs sl) (od:=od) X I c.mr ?_)))
  refine wpAny_pure ?_
  show wpAny _ _ (handedOut (.ref C)) _ _ _
  exact wpAny_pure (wpAny_pure q)
theorem aAx {K:PySem.W.Frag} {a C:Addr} {dx:Option Addr} (c:XCls K C):PySem.W.KitX K (.ref a) (.ref C) (fun h=>(∃vs sl,h.get? a=some (EO dx (.ref C) vs sl))/\∀d,dx=some d->∃o,h.get? d=some o) where
 ty:=fun _ _ _ ⟨⟨_,_,e⟩,_⟩=>wS e
 it:=fun _ _ X _=>by
  obtain⟨cd,hc,_⟩:=any_some c.hd
  unfold clsIn at hc
  split at hc
  ·rename_i ho
   intro A' Q' E' s' k q
   unfold isType loadHead
   exact wpAny_bind (wpAny_loadPart (k _ _ (X _ _ ho)) (wpAny_pure q))
  ·cases hc
 ne:=fun h tp dd its n sl X htp=>by
  obtain⟨cd,hc,_⟩:=any_some c.hd
  refine Bool.eq_false_iff.mpr fun q=>?_
  obtain rfl:C=tp:=Value.ref.inj (beq_iff_eq.mp q)
  unfold clsIn at hc
  split at hc
  ·rename_i ho
   have z:=(X _ _ ho).symm.trans htp
   cases z
  ·cases hc
 ca:=fun X ⟨⟨_,_,e⟩,hd⟩ k=>yM c X e hd k
section
variable {X:Cx}
noncomputable def aDp (K:PySem.W.Frag):List V->Hp->VK->Prop:=fun xs H Q=>∃a C dx c u b,xs=[.ref a,c]/\H a=some (f6 dx a (.ref C))/\(∀d,dx=some d->∃fs,H d=some (.xd fs))/\XCls K C/\yQ c=some u/\PySem.W.kitOne K (.ref C) u=some b/\Q (.bl b) H
theorem bZ:d6 X (.builtin "isinstance") (aDp X.K):=by
 intro pins s σ H xs us Q I r h
 obtain⟨a,C,dx,c,u',b,rfl,ha,hdx,xc,ec,e,q⟩:=h
 obtain⟨u,w',rfl,rx,rc⟩:=kB r
 obtain rfl:=jM ec rc
 cases (show u=Value.ref a from rx)
 obtain⟨p,_,_⟩:=(show ObjOk X.prog X.w H s.heap a (f6 dx a (.ref C)) from I.hok a _ ha)
 exact PySem.W.kia_one (aAx xc) I.kIn ⟨p,fun d z=>let ⟨fs,hf⟩:=hdx d z;I.hok.there hf⟩ e (fun z=>nomatch z) fun tk=>⟨.bl b,H,I.tok tk,rfl,q⟩
end
end L2
namespace L2
open PySem PySem.Spec PyProof.Rows
section
variable {X:Cx}
theorem z4 {e:Expr} {t t':TE} (h:PE X e t) (i:∀ σ H Q,t' σ H Q->t σ H Q):PE X e t':=fun pins s σ H Q I q=>h pins s σ H Q I (i σ H Q q)
end
end L2
namespace L2
open PySem PySem.Spec PyProof.Rows
section
variable {X:Cx} {pos:Pos}
theorem items_int:∀ {us:List Value},(∀u∈us,∃i t,u=.int i t)->∃xs:List (Int×Tok),us=xs.map fun p=>Value.int p.1 p.2
 | [],_=>⟨[],rfl⟩
 | u::us,h=>by
  obtain⟨xs,e⟩:=items_int fun x hx=>h x (List.mem_cons_of_mem _ hx)
  obtain⟨i,t,rfl⟩:=h u List.mem_cons_self
  exact⟨(i,t)::xs,by rw[e];rfl⟩
end
section
variable {X:Cx}
noncomputable def aGi (K:PySem.W.Frag):R2:=fun x y H Q=>∃ds es,Rep K H (.tup ds) x/\Rep K H (.tup es) y/\depL (ds.take es.length)<=100/\(noEL (ds.take es.length)=true/\noEL es=true)/\Q (.bl (!eqDL ds es)) H
theorem aEz (hu:X.A.units+150<cLine):OpR X (compareOp .NotEq) (aGi X.K):=by
 intro pins s σ H x y v u Q I rv ru h
 obtain⟨ds,es,h,g,hd,⟨nd,ne⟩,q⟩:=h
 obtain⟨a,xs,rfl,h1,h2⟩:=(show ∃a xs,x=.ref a/\SqT X.K H a xs/\RepL X.K H ds xs from h)
 obtain⟨b,ys,rfl,g1,g2⟩:=(show ∃a xs,y=.ref a/\SqT X.K H a xs/\RepL X.K H es xs from g)
 cases rv;cases ru
 obtain⟨i1,r1,p1,_⟩:=I.tuple h1
 obtain⟨i2,r2,p2,_⟩:=I.tuple g1
 have l1:=h2.length.trans r1.length
 have l2:=g2.length.trans r2.length
 rw[dO] at q
 show wpAny (model X.prog X.w) X.A (richCompare .NotEq (.ref a) (.ref b)) _ _ _
 refine SeqAt.RcNeAt.tuples p1 p2 (by omega) (e:=fun j=>eqD (ds.getD j .non) (es.getD j .non)) (fun j a1 a2=>?_) _ _ _ _ ⟨.bl _,H,I,rfl,?_⟩
 ·have a1':j<i1.length:=by simpa using a1
  have a2':j<i2.length:=by simpa using a2
  have:=eqAt_DL I ds es nd ne h2 g2 r1 r2 (A:=X.A.in1) (by rw[eS];omega) j a1' a2'
  simpa using this
 ·rw[List.size_toArray,List.size_toArray,<- l1,<- l2]
  exact q
end
theorem aM {t u:TS} {D:Ends} {σ:St} {H:Hp} (h:∀R:TS,R=u->eO t R D σ H):eO t u D σ H:=h u rfl
noncomputable def FR (lo:Int) (n:Nat) (g:TG) (tb:TS) (D:Ends) (σ:St) (H:Hp):Prop:=∃W:Nat->Nat->St->Hp->Prop,(∃m,W 0 m σ H)/\∀i m σ H,W i m σ H ->
   ((Itr lo n).stop i H/\D.nx σ H)\/((Itr lo n).go i H/\∃N:St->Hp->Prop,(∀ σ' H',N σ' H'->∃m',m'<m/\W (i+1) m' σ' H')/\∀x H',(Itr lo n).yld i H x H'->g x σ H' fun σ2 H2=>tb { D with nx:=N,ct:=N,bk:=D.nx } σ2 H2)
theorem lK {ta:TA} {g:TG} {tb:TS} {D:Ends} {σ:St} {H:Hp} (h:ta σ H fun vs H1=>∃j:Int,vs=[.int j] /\ -(2^62)<=j/\j<2^62/\FR 0 j.toNat g tb D σ H1):kL (aA0 ta) g tb D σ H:=h
theorem aA6 {lo:Int} {n:Nat} {g:TG} {tb:TS} {D:Ends} {σ:St} {H:Hp} (Pv:Nat->St->Hp->Prop) (h0:Pv 0 σ H)
  (hs:∀i σ H,i<n->Pv i σ H->g (.int (lo+i)) σ H fun σ2 H2=>tb { D with nx:=Pv (i+1),ct:=Pv (i+1),bk:=D.nx } σ2 H2) (hd:∀ σ H,Pv n σ H->D.nx σ H):FR lo n g tb D σ H:=yL Pv h0 hs hd
end L2
namespace L2
open PySem PySem.Spec PyProof.Rows
noncomputable def xE (Pt:Addr) (H:Hp):Prop:=∀b,H b=none\/(∃o xs,H b=some (.frz o (.lst xs)))\/(b=Pt/\H b=some (.tbl #[]))
theorem yC {P:Program} {w:World} {K:PySem.W.Frag} {mg mb:Str->Option Value} {CX:CXT} {k:Nat} {fa a c Pt:Addr} {fd:FuncData} {x:Str} {sp:Sp} {s₁:Shared} {vs:List Value} {ns:List Int}
  (KX:K.In s₁.heap) (hns:s₁.heap.Ns mainGlobals mg) (hb:s₁.heap.Ns builtinsNs mb) (hbb:∀x:Str,x ≠ "__name__" -> mb x=bootBuiltins x) (hlim:s₁.heap.NoLimit) (hg:s₁.gens=#[])
  (hbm:∃bm ob,mg "__builtins__" = some (.ref bm)/\bm≠builtinsNs/\s₁.heap.get? bm=some ob/\ob.cls=.type "module" /\ ob.dict=some builtinsNs/\ob.data=.plain)
  (hC:PySem.W.CodeHd s₁.heap c Pt) (hP:s₁.heap.get? Pt=some (PySem.W.tabObj #[])) (hPK:K.lookup Pt=none)
  (ha:s₁.heap.get? a=some { cls:=.type "list",data:=.seq vs.toArray }) (hi:IntsAre vs ns) (hl:ns.length<=sizeLine) (hr:Room k callerA)
  (F:∀base:Heap,K.In base->base.Ns mainGlobals mg->base.BuiltinsAt mg Pt->FnOk P w K mg base CX k fa fd [x] sp) (hbind:∀(s:Shared) (u:Value),BindsTo s fd ⟨[u],[]⟩ [(x,u)])
  (hsp:∀H:Hp,xE Pt H->SqL K H a (ns.map V.int)->H Pt=some (.tbl #[])->sp [.ref a] H (fun v _=>v=.bl true) fun _ _ _=>False)
  (hCX:∀H e s',CX [] H s₁ (fun _ _ _=>False) e s'->False) :
  codeAny (model P w) callerA (.call (.ref fa) ⟨[.ref a],[]⟩) (fun r s'=>r=.ok (.ret (.bool true))/\OldK s₁.heap s'.heap/\s'.os=s₁.os/\AllBare s'.gens) s₁:=by
 have rv:=oN hi
 have lenV:=hi.length
 have aP:a≠Pt:=fun z=>by rw[z,hP] at ha;cases ha
 have core:∀H:Hp,xE Pt H->H Pt=some (.tbl #[])->SqL K H a (ns.map V.int)->HOk P w H s₁.heap->(∀b,H b≠none->b=a\/b=Pt)->(H a≠none->K.lookup a=none) ->
   codeAny (model P w) callerA (.call (.ref fa) ⟨[.ref a],[]⟩) (fun r s'=>r=.ok (.ret (.bool true))/\OldK s₁.heap s'.heap/\s'.os=s₁.os/\AllBare s'.gens) s₁:=by
  intro H hO hT hS hok hA hK
  have base_of:∀ {b:Addr} {o:Obj},s₁.heap.get? b=some o->H b=none->(oJ s₁.heap H).get? b=some o:=fun e n=>aA2 e n
  have noD:∀ {b:Addr} {o:Obj},s₁.heap.get? b=some o->(∀its n,o.data ≠ .seq its n)->(∀qs,o.data ≠ .fields qs)->H b=none:=fun {b o} e d1 d2=>by
   cases q:H b with
   | none=>rfl
   | some u =>
    rcases hA b (by rw[q];simp) with e' | e'
    ·subst e'
     rw[ha] at e;cases e
     exact absurd rfl (d1 _ _)
    ·subst e'
     rw[hP] at e;cases e
     exact absurd rfl (d2 _)
  have nsK:∀ {b:Addr} {m:Str->Option Value},s₁.heap.Ns b m->(oJ s₁.heap H).Ns b m:=fun {b m} ⟨o,es,ep,e,d,r⟩=>⟨o,es,ep,base_of e (noD e (fun _ _ z=>by rw[d] at z;cases z) (fun _ z=>by rw[d] at z;cases z)),d,r⟩
  have hKb:K.In (oJ s₁.heap H):=fun b o e=>base_of (KX b o e) (by
   cases q:H b with
   | none=>rfl
   | some u =>
    rcases hA b (by rw[q];simp) with e' | e'
    ·subst e'
     rw[hK (by rw[q];simp)] at e;cases e
    ·subst e'
     rw[hPK] at e;cases e)
  have hM:Mod K mg (oJ s₁.heap H):=⟨hKb,nsK hns,⟨mb,nsK hb,hbb⟩,let ⟨mc,h1,h2⟩:=hlim;⟨mc,nsK h1,h2⟩⟩
  have hB:(oJ s₁.heap H).BuiltinsAt mg Pt:=by
   obtain⟨bm,ob,b1,b2,b3,b4,b5,b6⟩:=hbm
   refine⟨bm,ob,b1,b2,fun z=>?_,fun z=>?_,base_of b3 (noD b3 (fun _ _ z=>by rw[b6] at z;cases z) (fun _ z=>by rw[b6] at z;cases z)),b4,b5,b6⟩
   ·obtain⟨o,es,ep,e,d,_⟩:=hns
    rw[z,e] at b3;cases b3;rw[d] at b6;cases b6
   ·rw[z,hP] at b3;cases b3;cases b4
  have e0:Env0 P w K mg (oJ s₁.heap H) callerA [] s₁ H:=⟨rfl,hM,fun b o e=>aCt e,Nat.le_of_eq (yJ _ _),trivial,fun b hb=>absurd (show b∈([]:List Addr) from hb) (by simp),hok,.of_eq hg⟩
  refine codeAny_mono ((F _ hKb (nsK hns) hB).run callerA [] s₁ H ⟨[.ref a],[]⟩ [.ref a] [.ref a] _ _ hr e0 (hbind s₁ (.ref a)) (.cons rfl .nil) (hsp H hO hS hT)) fun r s' h=>?_
  cases r with
  | error e=>exact(hCX H e s' h).elim
  | ok fl =>
   cases fl with
   | next=>exact False.elim h
   | brk=>exact False.elim h
   | cont=>exact False.elim h
   | ret u =>
    obtain⟨v,H',os,bare,un,hok',r',q⟩:=h
    have q':v=.bl true:=q
    subst q'
    obtain rfl:u=Value.bool true:=r'
    obtain⟨more,hT'⟩:=un.tbls Pt _ hT
    have hP':s'.heap.get? Pt=some (PySem.W.tabObj (#[]++more)):=hok' Pt _ hT'
    have keep:∀b o,b≠Pt->s₁.heap.get? b=some o->s'.heap.get? b=some o:=fun b o nb e=>by
     cases q:H b with
     | none=>exact un.keep b o e q (by intro z;exact absurd (show b∈([]:List Addr) from z) (by simp)) (by simp)
     | some u =>
      rcases hO b with z | ⟨ob,xs,z⟩ | ⟨z,_⟩
      ·rw[q] at z;cases z
      ·have z2:=un.frzs b ob _ z
       obtain⟨e1,_⟩:=hok b _ z
       obtain⟨e2,_⟩:=hok' b _ z2
       rw[e] at e1;cases e1
       exact e2
      ·exact absurd z nb
    refine⟨rfl,⟨fun b o e=>?_,fun b o e=>?_⟩,os,bare⟩
    ·by_cases z:b=Pt
     ·subst z
      rw[hP] at e
      cases e
      obtain⟨oc,vsc,_,_,_,_,_,_,_,e1,e2,e3,e4,_⟩:=hC
      exact .inr (.inl ⟨⟨c,oc,vsc,e1,e2,e3,e4⟩,rfl,#[],more,rfl,hP'⟩)
     ·exact .inl (keep b o z e)
    ·by_cases z:b=Pt
     ·subst z
      exact⟨_,hP'⟩
     ·exact⟨o,keep b o z e⟩
 cases hk:K.lookup a with
 | some o =>
  have e:=KX a o hk
  rw[ha] at e
  cases e
  refine core (fun b=>if b=Pt then some (.tbl #[]) else none) (fun b=>?_) (if_pos rfl) (.inr ⟨_,vs.toArray,_,hk,rfl,rfl,rfl,by rw[List.size_toArray,lenV];exact hl,by simpa using rv⟩) (fun b u z=>?_) (fun b z=>?_) (fun z=>absurd (if_neg aP) z)
  ·by_cases hb:b=Pt
   ·exact .inr (.inr ⟨hb,if_pos hb⟩)
   ·exact .inl (if_neg hb)
  ·by_cases hb:b=Pt
   ·have z':=(if_pos hb).symm.trans z
    cases z'
    subst hb
    exact hP
   ·have z':=(if_neg hb).symm.trans z
    cases z'
  ·by_cases hb:b=Pt
   ·exact .inr hb
   ·exact absurd (if_neg hb) z
 | none =>
  refine core (fun b=>if b=a then some (.frz { cls:=.type "list",data:=.seq vs.toArray } (.lst (ns.map V.int))) else if b=Pt then some (.tbl #[]) else none) (fun b=>?_) ((if_neg aP.symm).trans (if_pos rfl)) (.inl (.inr ⟨{ cls:=.type "list",data:=.seq vs.toArray },if_pos rfl⟩)) (fun b u z=>?_) (fun b z=>?_) fun _=>hk
  ·by_cases hb:b=a
   ·exact .inr (.inl ⟨_,_,if_pos hb⟩)
   ·by_cases hb2:b=Pt
    ·exact .inr (.inr ⟨hb2,(if_neg hb).trans (if_pos hb2)⟩)
    ·exact .inl ((if_neg hb).trans (if_neg hb2))
  ·by_cases hb:b=a
   ·have z':=(if_pos hb).symm.trans z
    cases z'
    subst hb
    exact⟨ha,by rw[List.length_map];exact hl,vs,_,rv,ha⟩
   ·have z':=(if_neg hb).symm.trans z
    by_cases hb2:b=Pt
    ·have z':=(if_pos hb2).symm.trans z'
     cases z'
     subst hb2
     exact hP
    ·have z':=(if_neg hb2).symm.trans z'
     cases z'
  ·by_cases hb:b=a
   ·exact .inl hb
   ·by_cases hb2:b=Pt
    ·exact .inr hb2
    ·exact absurd ((if_neg hb).trans (if_neg hb2)) z
theorem y3 {l:PySem.W.OpenLaw} {n k:Nat} {q:Program} {loose:List Str} {XP:(Str->Option Value)->Heap->Prop} {YP:World->Heap->Prop} {d:DefRec} {K:Params->PySem.W.Frag} {CX:World->CXT} {sp:World->PySem.W.Frag->Sp} {x:Str} {Pt:Addr}
  (hn:l.most=some n) (hn2:n<=sizeLine) (hdf:d.params.defaults=[]) (hr:Room k callerA)
  (hY:∀(w:World) (h:Heap),YP w h->(K w.params).In h/\h.get? Pt=some (PySem.W.tabObj #[]))
  (F:∀(w:World) (mg:Str->Option Value) (fa:Addr) (h:Heap),(K w.params).In h->h.Ns mainGlobals mg->XP mg h->mg d.name=some (.ref fa) ->
   ∃(fd:FuncData) (c:Addr),PySem.W.codeHdIn (K w.params) c Pt=true/\(K w.params).lookup Pt=none/\(∀(s:Shared) (u:Value),BindsTo s fd ⟨[u],[]⟩ [(x,u)]) /\
    ∀base:Heap,(K w.params).In base->base.Ns mainGlobals mg->base.BuiltinsAt mg Pt->FnOk l.prog w (K w.params) mg base (CX w) k fa fd [x] (sp w (K w.params)))
  (hsp:∀(w:World) (K:PySem.W.Frag) (H:Hp) (a:Addr) (ns:List Int),ns.length<=n->xE Pt H->SqL K H a (ns.map V.int)->H Pt=some (.tbl #[])->sp w K [.ref a] H (fun v _=>v=.bl true) fun _ _ _=>False)
  (hCX:∀(w:World) (H:Hp) (s:Shared) (e:Value) (s':Shared),CX w [] H s (fun _ _ _=>False) e s'->False) :
  PySem.W.WalkO q loose XP YP l.row.toRowW d [] (fun f vs=>PySem.call f vs):=by
 refine Att.attach_call hn hdf fun w s₀ s₁ mg mb fa o pm cd doc a vs ns G Y ho hd hcd hmg hobj hints hlen hg=>?_
 obtain⟨KX,hP⟩:=hY w _ Y
 obtain⟨fd,c,hC,hPK,hb,hF⟩:=F w mg fa _ KX G.T.g G.X hmg
 exact yC KX G.T.g G.T.b G.T.builtins G.T.nolimit hg G.T.bmain (PySem.W.codeHd_of_K KX hC) hP hPK hobj hints (Nat.le_trans hlen hn2) hr hF hb (fun H hO hS hT=>hsp w (K w.params) H a ns hlen hO hS hT) fun H e s'=>hCX w H s₁ e s'
end L2
namespace MM
noncomputable def Cg (n a b:Int):Prop:=n∣a-b
theorem Cg.refl (n a:Int):Cg n a a:=⟨0,by omega⟩
theorem Cg.symm {n a b:Int} (h:Cg n a b):Cg n b a:=by
 obtain⟨k,h⟩:=h;exact⟨-k,by grind⟩
theorem Cg.trans {n a b c:Int} (h:Cg n a b) (g:Cg n b c):Cg n a c:=by
 obtain⟨k,h⟩:=h;obtain⟨l,g⟩:=g;exact⟨k+l,by grind⟩
theorem Cg.mul {n a b c d:Int} (h:Cg n a b) (g:Cg n c d):Cg n (a*c) (b*d):=by
 obtain⟨k,h⟩:=h;obtain⟨l,g⟩:=g;exact⟨a*l+d*k,by grind⟩
theorem Cg.add {n a b c d:Int} (h:Cg n a b) (g:Cg n c d):Cg n (a+c) (b+d):=by
 obtain⟨k,h⟩:=h;obtain⟨l,g⟩:=g;exact⟨k+l,by grind⟩
theorem Cg.sub {n a b c d:Int} (h:Cg n a b) (g:Cg n c d):Cg n (a-c) (b-d):=by
 obtain⟨k,h⟩:=h;obtain⟨l,g⟩:=g;exact⟨k-l,by grind⟩
theorem Cg.pow {n a b:Int} (h:Cg n a b) (k:Nat):Cg n (a^k) (b^k):=by
 induction k with
 | zero=>rw[Int.pow_zero,Int.pow_zero];exact Cg.refl _ _
 | succ k ih=>rw[Int.pow_succ,Int.pow_succ];exact ih.mul h
theorem b7 (n a:Int):Cg n (a%n) a:=⟨-(a/n),by have:=Int.emod_add_mul_ediv a n;grind⟩
theorem f7 {n a b:Int} (h:Cg n a b):a%n=b%n:=Int.emod_eq_emod_iff_emod_sub_eq_zero.mpr (Int.emod_eq_zero_of_dvd h)
theorem aDz {n a b:Int} (h:a%n=b%n):Cg n a b:=Int.dvd_of_emod_eq_zero (Int.emod_eq_emod_iff_emod_sub_eq_zero.mp h)
theorem aDe {n a b:Int} (h:Cg n a b) (h0:0<=a) (h1:a<n):a=b%n:=by
 have:=f7 h;rw[Int.emod_eq_of_lt h0 h1] at this;exact this
structure PowInv (base often n done square left:Int):Prop where
 d0:0<=done
 d1:done<n
 s0:0<=square
 s1:square<n
 l0:0<=left
 cg:Cg n (done*square^left.toNat) (base^often.toNat)
theorem xU {base often n:Int} (hn:0<n) (ho:0<=often):PowInv base often n (1%n) (base%n) often :=
 ⟨Int.emod_nonneg _ (by omega),Int.emod_lt_of_pos _ hn,Int.emod_nonneg _ (by omega),Int.emod_lt_of_pos _ hn,ho,by
  have:=(b7 n 1).mul ((b7 n base).pow often.toNat)
  rwa [Int.one_mul] at this⟩
theorem zB (a:Int) (k:Nat):(a*a)^k=a^(2*k):=by
 induction k with
 | zero=>simp
 | succ k ih=>rw[Int.pow_succ,ih,show 2*(k+1)=2*k+1+1 by omega,Int.pow_succ,Int.pow_succ,Int.mul_assoc]
theorem zT {base often n done square left:Int} (hn:0<n) (h:PowInv base often n done square left) (hl:left%2≠1):PowInv base often n done (square*square%n) (left/2):=by
 refine⟨h.d0,h.d1,Int.emod_nonneg _ (by omega),Int.emod_lt_of_pos _ hn,by have:=h.l0;omega,?_⟩
 have e:left.toNat=2*(left/2).toNat:=by have:=h.l0;omega
 have:=(Cg.refl n done).mul ((b7 n (square*square)).pow (left/2).toNat)
 refine this.trans ?_
 rw[zB,<- e];exact h.cg
theorem aCj {base often n done square left:Int} (hn:0<n) (h:PowInv base often n done square left) (hl:left%2=1):PowInv base often n (done*square%n) (square*square%n) (left/2):=by
 refine⟨Int.emod_nonneg _ (by omega),Int.emod_lt_of_pos _ hn,Int.emod_nonneg _ (by omega),Int.emod_lt_of_pos _ hn,by have:=h.l0;omega,?_⟩
 have e:left.toNat=2*(left/2).toNat+1:=by have:=h.l0;omega
 have:=(b7 n (done*square)).mul ((b7 n (square*square)).pow (left/2).toNat)
 refine this.trans ?_
 have e2:done*square*(square*square)^(left/2).toNat=done*square^left.toNat:=by
  rw[e,zB,Int.pow_succ];grind
 rw[e2];exact h.cg
theorem aCk {base often n done square left:Int} (h:PowInv base often n done square left) (hl:¬ 0<left):done=base^often.toNat%n:=by
 have e:left.toNat=0:=by omega
 have c:=h.cg
 rw[e,Int.pow_zero,Int.mul_one] at c
 exact aDe c h.d0 h.d1
structure GcdInv (a b great small:Int):Prop where
 g0:0<=great
 s0:0<=small
 gb:great<=a.natAbs\/great<=b.natAbs
 sb:small<=b.natAbs
 gc:Nat.gcd great.toNat small.toNat=Int.gcd a b
theorem pJ (a b:Int):GcdInv a b (if a<0 then -a else a) (if b<0 then -b else b):=by
 have e1:(if a<0 then -a else a)=(a.natAbs:Int):=by split <;> omega
 have e2:(if b<0 then -b else b)=(b.natAbs:Int):=by split <;> omega
 rw[e1,e2]
 exact⟨by omega,by omega,.inl (Int.le_refl _),Int.le_refl _,by simp[Int.gcd]⟩
theorem tT {a b great small:Int} (h:GcdInv a b great small) (hs:0<small):GcdInv a b small (great%small):=by
 have h0:=h.g0
 have l1:=Int.emod_lt_of_pos great hs
 have l2:=Int.emod_nonneg great (show small≠0 by omega)
 have sb:=h.sb
 refine⟨h.s0,l2,.inr h.sb,by omega,?_⟩
 have e:(great%small).toNat=great.toNat%small.toNat:=Int.toNat_emod h.g0 h.s0
 rw[e,<- h.gc,Nat.gcd_comm small.toNat,<- Nat.gcd_rec,Nat.gcd_comm]
theorem wQ {a b great small:Int} (h:GcdInv a b great small) (hs:¬ 0<small):great=Int.gcd a b:=by
 have s0:=h.s0
 have g0:=h.g0
 have e:small.toNat=0:=by omega
 have c:=h.gc
 rw[e,Nat.gcd_zero_right] at c
 omega
structure UndInv (a n great gt small st:Int):Prop where
 g0:0<great
 g1:great<=n
 s0:0<=small
 s1:small<=n
 cg:Cg n great (gt*a)
 cs:Cg n small (st*a)
 gc:Nat.gcd great.toNat small.toNat=Int.gcd a n
 bd:great*st.natAbs+small*gt.natAbs<=n
noncomputable def bP (n:Int):Prop:=2<=n/\∀d,2<=d->d*d<=n->n%d≠0
noncomputable def mV (n:Int):Bool:=@decide (bP n) (Classical.propDecidable _)
theorem isPrB_iff {n:Int}:mV n=true↔bP n:=by unfold mV;exact @decide_eq_true_iff _ (Classical.propDecidable _)
theorem tR {n:Int} (h:bP n):mV n=true:=isPrB_iff.mpr h
theorem pH {n:Int} (h:¬ bP n):mV n=false:=by
 cases e:mV n with
 | false=>rfl
 | true=>exact absurd (isPrB_iff.mp e) h
theorem aB1 {a b:Int} (h0:0<=a) (h:a<=b):a*a<=b*b:=Int.mul_le_mul h h h0 (by omega)
theorem zQ {n:Int} (h:bP n) {d:Int} (h2:2<=d) (hd:d<n):n%d≠0:=by
 intro e
 by_cases hs:d*d<=n
 ·exact h.2 d h2 hs e
 ·obtain⟨k,hk⟩:=Int.dvd_of_emod_eq_zero e
  have n2:=h.1
  have k1:0<k:=by
   by_cases hk0:0<k
   ·exact hk0
   ·have:d*k<=0:=Int.mul_nonpos_of_nonneg_of_nonpos (by omega) (by omega)
    omega
  have k2:2<=k:=by
   by_cases k2:2<=k
   ·exact k2
   ·have:k=1:=by omega
    subst this
    omega
  have kd:k<d:=by
   by_cases kd:k<d
   ·exact kd
   ·have:=Int.mul_le_mul_of_nonneg_left (show d<=k by omega) (show 0<=d by omega)
    omega
  refine h.2 k k2 ?_ ?_
  ·have:=Int.mul_le_mul_of_nonneg_right (show k<=d by omega) (show 0<=k by omega)
   omega
  ·rw[hk,Int.mul_emod_left]
theorem qO {n:Int} (h:bP n) {d:Int} (h2:2<=d) (hd:d∣n):d=n:=by
 have n2:=h.1
 have hle:d<=n:=Int.le_of_dvd (by omega) hd
 by_cases e:d=n
 ·exact e
 ·exact absurd (Int.emod_eq_zero_of_dvd hd) (zQ h h2 (by omega))
theorem iH {p:Nat} (h:bP p) {k:Nat} (hk:¬ p∣k):Nat.Coprime p k:=by
 have hg:Nat.gcd p k=1:=by
  have hd:=Nat.gcd_dvd_left p k
  have p2:=h.1
  by_cases g2:2<=Nat.gcd p k
  ·have:((Nat.gcd p k:Nat):Int)=p:=qO h (by omega) (Int.natCast_dvd_natCast.mpr hd)
   have e:Nat.gcd p k=p:=by omega
   exact absurd (e ▸ Nat.gcd_dvd_right p k) hk
  ·have:0<Nat.gcd p k:=Nat.gcd_pos_of_pos_left _ (by omega)
   omega
 exact hg
theorem gU {p:Nat} (h:bP p) {a b:Nat} (hd:p∣a*b) (ha:¬ p∣a):p∣b:=(iH h ha).dvd_of_dvd_mul_left hd
noncomputable def ch:Nat->Nat->Nat
 | _,0=>1
 | 0,_+1=>0
 | n+1,k+1=>ch n k+ch n (k+1)
theorem fA (n:Nat):ch n 0=1:=by cases n <;> rfl
theorem g8 (n k:Nat):ch (n+1) (k+1)=ch n k+ch n (k+1):=rfl
theorem eY:∀(n k:Nat),n<k->ch n k=0
 | 0,k+1,_=>rfl
 | n+1,k+1,h=>by rw[g8,eY n k (by omega),eY n (k+1) (by omega)]
theorem rX:∀n,ch n n=1
 | 0=>rfl
 | n+1=>by rw[g8,rX n,eY n (n+1) (by omega)]
theorem aFj (n:Nat):∀k,(k+1)*ch (n+1) (k+1)=(n+1)*ch n k:=by
 induction n with
 | zero =>
  intro k
  cases k with
  | zero=>rfl
  | succ k=>rw[eY 1 (k+2) (by omega),eY 0 (k+1) (by omega)];omega
 | succ n ih =>
  intro k
  rw[g8 (n+1) k,Nat.mul_add,ih k]
  cases k with
  | zero=>rw[fA,fA];omega
  | succ j =>
   have:=ih j
   have e:=g8 n j
   rw[e] at this ⊢
   grind
noncomputable def bi (a:Int) (n:Nat):Nat->Int
 | 0=>0
 | m+1=>bi a n m+(ch n m:Int)*a^m
theorem xA (a:Int) (n:Nat):∀m,bi a (n+1) (m+1)=bi a n (m+1)+a*bi a n m
 | 0=>by simp[bi,fA]
 | m+1=>by
  rw[show bi a (n+1) (m+1+1)=bi a (n+1) (m+1)+(ch (n+1) (m+1):Int)*a^(m+1) from rfl,xA a n m,g8,
   show bi a n (m+1+1)=bi a n (m+1)+(ch n (m+1):Int)*a^(m+1) from rfl,show bi a n (m+1)=bi a n m+(ch n m:Int)*a^m from rfl,Int.pow_succ,Int.natCast_add]
  grind
theorem aBl (a:Int):∀n:Nat,(a+1)^n=bi a n (n+1)
 | 0=>by simp[bi,fA]
 | n+1=>by
  rw[xA,show bi a n (n+1+1)=bi a n (n+1)+(ch n (n+1):Int)*a^(n+1) from rfl,eY n (n+1) (by omega),Int.pow_succ,aBl a n]
  grind
theorem aDs {p:Nat} (h:bP p) {k:Nat} (h0:0<k) (hk:k<p):p∣ch p k:=by
 obtain⟨n,rfl⟩:∃n,p=n+1:=⟨p-1,by omega⟩
 obtain⟨j,rfl⟩:∃j,k=j+1:=⟨k-1,by omega⟩
 refine gU h (a:=j+1) ⟨ch n j,aFj n j⟩ fun hd=>?_
 have:=Nat.le_of_dvd (by omega) hd
 omega
theorem aD0 {p:Nat} (h:bP p) (a:Int):∀m,m<p->Cg p (bi a p (m+1)) 1
 | 0,_=>by
  have:bi a p 1=1:=by simp[bi,fA]
  rw[this];exact Cg.refl _ _
 | m+1,hm=>by
  have h1:=aD0 h a m (by omega)
  obtain⟨c,hc⟩:=aDs h (k:=m+1) (by omega) hm
  have h2:Cg p ((ch p (m+1):Int)*a^(m+1)) 0:=⟨c*a^(m+1),by rw[hc,Int.natCast_mul];grind⟩
  have:=h1.add h2
  rwa [Int.add_zero] at this
theorem mY {p:Nat} (h:bP p):∀a:Nat,Cg p ((a:Int)^p) a
 | 0=>by
  have p2:=h.1
  have:((0:Nat):Int)^p=0:=Int.zero_pow (by omega)
  rw[this];exact Cg.refl _ _
 | a+1=>by
  have ih:=mY h a
  have p2:=h.1
  obtain⟨n,hn⟩:∃n,p=n+1:=⟨p-1,by omega⟩
  have e:((a+1:Nat):Int)^p=bi a p p+(a:Int)^p:=by
   rw[Int.natCast_add,show ((1:Nat):Int)=1 from rfl,aBl,show bi (a:Int) p (p+1)=bi a p p+(ch p p:Int)*(a:Int)^p from rfl,rX]
   grind
  have e2:=aD0 h a n (by omega)
  rw[<- hn] at e2
  rw[e]
  have:=e2.add ih
  rwa [Int.add_comm 1] at this
theorem fermat {p:Int} (h:bP p) (a:Int):Cg p (a^p.toNat) a:=by
 have p2:=h.1
 obtain⟨q,rfl⟩:=Int.eq_ofNat_of_zero_le (show 0<=p by omega)
 have h1:=mY h (a%q).toNat
 have e:(((a%(q:Int)).toNat:Nat):Int)=a%q:=Int.toNat_of_nonneg (Int.emod_nonneg _ (by omega))
 rw[e] at h1
 rw[Int.toNat_natCast]
 exact((b7 (q:Int) a).symm.pow q).trans (h1.trans (b7 _ a))
end MM
namespace MM
noncomputable def prod:List (Int×Int)->Int
 | []=>1
 | q::r=>q.1^q.2.toNat*prod r
theorem gH (l r:List (Int×Int)):prod (l++r)=prod l*prod r:=by
 induction l with
 | nil=>simp[prod]
 | cons q l ih=>rw[List.cons_append,prod,prod,ih,Int.mul_assoc]
structure PartsOk (l:List (Int×Int)):Prop where
 pr:∀q∈l,bP q.1/\1<=q.2
 up:l.Pairwise fun a b=>a.1<b.1
noncomputable def Parts (n:Int) (l:List (Int×Int)):Prop:=PartsOk l/\prod l=n
theorem cP {p:Int} (h:1<=p) (k:Nat):1<=p^k:=by
 induction k with
 | zero=>simp
 | succ k ih =>
  rw[Int.pow_succ]
  have:=Int.mul_le_mul_of_nonneg_right ih (show 0<=p by omega)
  omega
theorem iB {p:Int} (h:2<=p) {k:Nat} (hk:1<=k):2<=p^k:=by
 obtain⟨j,rfl⟩:∃j,k=j+1:=⟨k-1,by omega⟩
 rw[Int.pow_succ]
 have h1:=cP (show 1<=p by omega) j
 have:=Int.mul_le_mul_of_nonneg_right h1 (show 0<=p by omega)
 omega
theorem qK {l:List (Int×Int)} (h:∀q∈l,bP q.1/\1<=q.2):(2:Int)^l.length<=prod l:=by
 induction l with
 | nil=>simp[prod]
 | cons q l ih =>
  have h1:=ih fun x hx=>h x (List.mem_cons_of_mem _ hx)
  have h2:=h q List.mem_cons_self
  have h3:2<=q.1^q.2.toNat:=iB h2.1.1 (by omega)
  rw[List.length_cons,Int.pow_succ,prod,Int.mul_comm]
  exact Int.mul_le_mul h3 h1 (Int.pow_nonneg (by decide)) (by omega)
theorem gX {l:List (Int×Int)} (h:∀q∈l,bP q.1/\1<=q.2) (hn:prod l<=10^9):l.length<30:=by
 refine Classical.byContradiction fun hc=>?_
 have h1:=qK h
 have h2:(2:Int)^30<=2^l.length:=by
  obtain⟨k,hk⟩:∃k,l.length=30+k:=⟨l.length-30,by omega⟩
  rw[hk,Int.pow_add]
  have:=cP (show (1:Int)<=2 by decide) k
  have:=Int.mul_le_mul_of_nonneg_left this (show (0:Int)<=2^30 by decide)
  omega
 have h3:(2:Int)^30=1073741824:=by decide
 omega
theorem dE {l:List (Int×Int)} (h:∀q∈l,bP q.1/\1<=q.2):1<=prod l:=by
 have:=qK h
 have:=cP (show (1:Int)<=2 by decide) l.length
 omega
structure DivInv (l0 t left o:Int):Prop where
 l1:1<=left
 o0:0<=o
 eq:l0=left*t^o.toNat
theorem pL {l0 t:Int} (h:1<=l0):DivInv l0 t l0 0:=⟨h,Int.le_refl _,by simp⟩
theorem tV {l0 t left o:Int} (ht:2<=t) (h:DivInv l0 t left o) (hd:left%t=0):DivInv l0 t (left/t) (o+1)/\left/t<left:=by
 have l1:=h.l1
 obtain⟨k,hk⟩:=Int.dvd_of_emod_eq_zero hd
 have e:left/t=k:=by rw[hk,Int.mul_ediv_cancel_left _ (by omega)]
 have k1:1<=k:=by
  refine Classical.byContradiction fun hc=>?_
  have:t*k<=0:=Int.mul_nonpos_of_nonneg_of_nonpos (by omega) (by omega)
  omega
 rw[e]
 have o0:=h.o0
 refine⟨⟨k1,by omega,?_⟩,?_⟩
 ·have e2:(o+1).toNat=o.toNat+1:=by omega
  rw[h.eq,e2,Int.pow_succ,hk]
  grind
 ·have:=Int.mul_le_mul_of_nonneg_right ht (show 0<=k by omega)
  omega
theorem aBd {l0 t left o:Int} (ht:2<=t) (h:DivInv l0 t left o):left<=l0:=by
 have:=cP (show 1<=t by omega) o.toNat
 have l1:=h.l1
 have:=Int.mul_le_mul_of_nonneg_left this (show 0<=left by omega)
 have e:=h.eq
 omega
theorem rS {l0 t left o:Int} (h:DivInv l0 t left o):left∣l0:=⟨t^o.toNat,h.eq⟩
theorem iK {a b d:Int} (h:a∣b) (hb:b%d≠0):a%d≠0:=fun e=>hb (Int.emod_eq_zero_of_dvd (Int.dvd_trans (Int.dvd_of_emod_eq_zero e) h))
structure PtInv (n:Int) (l:List (Int×Int)) (left t:Int):Prop where
 l1:1<=left
 t2:2<=t
 eq:n=prod l*left
 lo:∀d,2<=d->d<t->left%d≠0
 ok:PartsOk l
 le:∀q∈l,q.1<=t/\left%q.1≠0
theorem zN {n:Int} (h:1<=n):PtInv n [] n 2:=⟨h,by omega,by simp[prod],fun d a b=>by omega,⟨fun _ h=>(by cases h),List.Pairwise.nil⟩,fun _ h=>(by cases h)⟩
theorem aCe {n:Int} {l:List (Int×Int)} {left t r left' o:Int} (h:PtInv n l left t) (pr:bP r) (tr:t<=r) (rd:left%r=0) (ra:∀d,2<=d->d<r->left%d≠0) (D:DivInv left r left' o) (hd:left'%r≠0):PtInv n (l++[(r,o)]) left' r/\1<=o/\left'<left:=by
 have o1:1<=o:=by
  refine Classical.byContradiction fun hc=>?_
  have o0:=D.o0
  have:o=0:=by omega
  subst this
  have e:=D.eq
  simp at e
  rw[<- e] at hd
  exact hd rd
 have lt:left'<left:=by
  have h2:=iB pr.1 (show 1<=o.toNat by omega)
  have l1:=D.l1
  have:=Int.mul_le_mul_of_nonneg_left h2 (show 0<=left' by omega)
  have e:=D.eq
  omega
 refine⟨⟨D.l1,pr.1,?_,fun d a b=>iK (rS D) (ra d a b),⟨?_,?_⟩,?_⟩,o1,lt⟩
 ·rw[gH,h.eq,D.eq];simp only[prod];grind
 ·intro q hq
  rcases List.mem_append.mp hq with hq | hq
  ·exact h.ok.pr q hq
  ·rw[List.mem_singleton.mp hq];exact⟨pr,o1⟩
 ·rw[List.pairwise_append]
  refine⟨h.ok.up,List.pairwise_singleton ..,fun a ha b hb=>?_⟩
  rw[List.mem_singleton.mp hb]
  have ⟨a1,a2⟩:=h.le a ha
  refine Classical.byContradiction fun hc=>?_
  have:a.1=r:=by
   show a.1=r
   have:¬ a.1<r:=hc
   omega
  rw[this] at a2
  exact a2 rd
 ·intro q hq
  rcases List.mem_append.mp hq with hq | hq
  ·have ⟨a1,a2⟩:=h.le q hq
   exact⟨by omega,iK (rS D) a2⟩
  ·rw[List.mem_singleton.mp hq];exact⟨Int.le_refl _,hd⟩
theorem aEf {n:Int} {l:List (Int×Int)} {left t:Int} (h:PtInv n l left t) (he:¬ 1<left):Parts n l:=by
 have l1:=h.l1
 have:left=1:=by omega
 refine⟨h.ok,?_⟩
 rw[h.eq,this,Int.mul_one]
theorem tE {n:Int} {l:List (Int×Int)} (h:Parts n l):l=[(n,1)]↔bP n:=by
 constructor
 ·intro e
  have:=h.1.pr (n,1) (by rw[e];simp)
  exact this.1
 ·intro hp
  obtain⟨ok,e⟩:=h
  have n2:=hp.1
  cases l with
  | nil=>simp[prod] at e;omega
  | cons q r =>
   have h1:=ok.pr q List.mem_cons_self
   have q2:=h1.1.1
   have hr:=dE (l:=r) fun x hx=>ok.pr x (List.mem_cons_of_mem _ hx)
   have hdv:q.1∣n:=by
    obtain⟨j,hj⟩:∃j,q.2.toNat=j+1:=⟨q.2.toNat-1,by omega⟩
    refine⟨q.1^j*prod r,?_⟩
    rw[<- e,prod,hj,Int.pow_succ];grind
   have qn:=qO hp q2 hdv
   obtain⟨j,hj⟩:∃j,q.2.toNat=j+1:=⟨q.2.toNat-1,by omega⟩
   have e2:n*(n^j*prod r)=n*1:=by
    rw[Int.mul_one]
    conv=>rhs;rw[<- e]
    rw[prod,hj,qn,Int.pow_succ];grind
   have e3:n^j*prod r=1:=Int.eq_of_mul_eq_mul_left (by omega) e2
   have p1:=cP (show 1<=n by omega) j
   have hpr:prod r=1:=by
    have:=Int.mul_le_mul_of_nonneg_right p1 (show 0<=prod r by omega)
    omega
   have j0:j=0:=by
    refine Classical.byContradiction fun hc=>?_
    have:=iB hp.1 (show 1<=j by omega)
    rw[hpr] at e3
    omega
   have r0:r=[]:=by
    have g:=qK (l:=r) fun x hx=>ok.pr x (List.mem_cons_of_mem _ hx)
    rw[hpr] at g
    cases r with
    | nil=>rfl
    | cons y z =>
     rw[List.length_cons,Int.pow_succ] at g
     have:=cP (show (1:Int)<=2 by decide) z.length
     omega
   have q1:q.2=1:=by omega
   rw[r0]
   obtain⟨a,b⟩:=q
   simp only at qn q1
   rw[qn,q1]
structure LtInv (n:Int) (l:List (Int×Int)) (left t:Int):Prop where
 l1:1<=left
 t2:2<=t
 eq:n=prod l*left
 lo:∀d,2<=d->d<t->left%d≠0
 ok:PartsOk l
 le:∀q∈l,q.1<t
 tb:1<left->t<=left
theorem aAu {n:Int} (h:1<=n):LtInv n [] n 2:=⟨h,by omega,by simp[prod],fun d a b=>by omega,⟨fun _ h=>(by cases h),List.Pairwise.nil⟩,fun _ h=>(by cases h),fun h=>by omega⟩
theorem aFz {n:Int} {l:List (Int×Int)} {left t:Int} (h:LtInv n l left t):left<=n:=by
 have p:=dE h.ok.pr
 have l1:=h.l1
 have:=Int.mul_le_mul_of_nonneg_right p (show 0<=left by omega)
 have e:=h.eq
 omega
theorem aDk {left t:Int} (h:∀d,2<=d->d<t->left%d≠0) (h1:1<left):t<=left:=by
 refine Classical.byContradiction fun hc=>h left (by omega) (by omega) (Int.emod_self ..)
theorem aCy {n:Int} {l:List (Int×Int)} {left t:Int} (h:LtInv n l left t) (h1:1<left) (hs:t*t>left):LtInv n l left left/\bP left:=by
 have p:bP left:=⟨by omega,fun d d2 dd=>h.lo d d2 (by
  refine Classical.byContradiction fun hc=>?_
  have:=aB1 (show 0<=t by have:=h.t2;omega) (show t<=d by omega)
  omega)⟩
 have:=h.tb h1
 exact⟨⟨h.l1,by omega,h.eq,fun d a b=>zQ p a b,h.ok,fun q hq=>by have:=h.le q hq;omega,fun _=>Int.le_refl _⟩,p⟩
theorem aCx {n:Int} {l:List (Int×Int)} {left t left' o:Int} (h:LtInv n l left t) (D:DivInv left t left' o) (hd:left'%t≠0):LtInv n (if 0<o then l++[(t,o)] else l) left' (t+1)/\left'<=left:=by
 have hle:=aBd h.t2 D
 have lo':∀d,2<=d->d<t+1->left'%d≠0:=fun d a b=>by
  by_cases e:d=t
  ·rw[e];exact hd
  ·exact iK (rS D) (h.lo d a (by omega))
 by_cases o0:0<o
 ·rw[if_pos o0]
  have td:left%t=0:=by
   have e:=D.eq
   obtain⟨j,hj⟩:∃j,o.toNat=j+1:=⟨o.toNat-1,by omega⟩
   refine Int.emod_eq_zero_of_dvd ⟨left'*t^j,?_⟩
   rw[e,hj,Int.pow_succ];grind
  have pr:bP t:=⟨h.t2,fun d d2 dd e=>by
   have t2:=h.t2
   have dr:d<t:=by
    have:=Int.mul_le_mul_of_nonneg_right d2 (show 0<=d by omega)
    omega
   exact h.lo d d2 dr (Int.emod_eq_zero_of_dvd (Int.dvd_trans (Int.dvd_of_emod_eq_zero e) (Int.dvd_of_emod_eq_zero td)))⟩
  refine⟨⟨D.l1,by have:=h.t2;omega,?_,lo',⟨?_,?_⟩,?_,aDk lo'⟩,hle⟩
  ·rw[gH,h.eq,D.eq];simp only[prod];grind
  ·intro q hq
   rcases List.mem_append.mp hq with hq | hq
   ·exact h.ok.pr q hq
   ·rw[List.mem_singleton.mp hq];exact⟨pr,by show 1<=o;omega⟩
  ·rw[List.pairwise_append]
   refine⟨h.ok.up,List.pairwise_singleton ..,fun a ha b hb=>?_⟩
   rw[List.mem_singleton.mp hb]
   exact h.le a ha
  ·intro q hq
   rcases List.mem_append.mp hq with hq | hq
   ·have:=h.le q hq;omega
   ·rw[List.mem_singleton.mp hq];show t<t+1;omega
 ·rw[if_neg o0]
  have:o=0:=by have:=D.o0;omega
  subst this
  have e:=D.eq
  simp at e
  subst e
  exact⟨⟨D.l1,by have:=h.t2;omega,h.eq,lo',h.ok,fun q hq=>by have:=h.le q hq;omega,aDk lo'⟩,hle⟩
theorem aE4 {n:Int} {l:List (Int×Int)} {left t:Int} (h:LtInv n l left t) (he:¬ 1<left):Parts n l:=by
 have l1:=h.l1
 have:left=1:=by omega
 refine⟨h.ok,?_⟩
 rw[h.eq,this,Int.mul_one]
noncomputable def aBw (n:Nat):Nat->Nat->Bool
 | 0,_=>true
 | k+1,d=>decide (n%d≠0)&&aBw n k (d+1)
theorem vL {n:Nat}:∀(k d:Nat),aBw n k d=true->∀e,d<=e->e<d+k->n%e≠0
 | 0,d,_,e,h1,h2=>by omega
 | k+1,d,h,e,h1,h2=>by
  simp only[aBw,Bool.and_eq_true,decide_eq_true_eq] at h
  by_cases q:e=d
  ·rw[q];exact h.1
  ·exact vL k (d+1) h.2 e (by omega) (by omega)
theorem aEj {n k:Nat} (h2:2<=n) (hk:n<(k+2)*(k+2)) (h:aBw n k 2=true):bP n:=by
 refine⟨by omega,fun d d2 dd=>?_⟩
 obtain⟨e,rfl⟩:=Int.eq_ofNat_of_zero_le (show 0<=d by omega)
 have he:e<2+k:=by
  refine Classical.byContradiction fun hc=>?_
  have:(k+2)*(k+2)<=e*e:=Nat.mul_le_mul (by omega) (by omega)
  have:e*e<=n:=by exact_mod_cast dd
  omega
 have:=vL k 2 h e (by omega) he
 intro z
 apply this
 have z':((n%e:Nat):Int)=0:=by rw[Int.natCast_emod];exact z
 omega
theorem uP:bP 1000003:=aEj (n:=1000003) (k:=999) (by decide) (by decide) (by decide +kernel)
end MM
namespace MM
theorem mF (a b:Int) (k:Nat):(a*b)^k=a^k*b^k:=by
 induction k with
 | zero=>simp
 | succ k ih=>rw[Int.pow_succ,Int.pow_succ,Int.pow_succ,ih];grind
theorem zS (a:Int) (x y:Nat):(a^x)^y=(a^y)^x:=by
 rw[<- Int.pow_mul,<- Int.pow_mul,Nat.mul_comm]
theorem m1 {a x y n:Int} (hx:0<=x) (hy:0<=y):a^x.toNat%n*(a^y.toNat%n)%n=a^(x+y).toNat%n:=by
 have e:(x+y).toNat=x.toNat+y.toNat:=by omega
 rw[e,Int.pow_add]
 exact f7 ((b7 n _).mul (b7 n _))
theorem m2 (a b:Int) (x:Nat) (n:Int):(a*b)^x%n=a^x%n*(b^x%n)%n:=by
 rw[mF]
 exact f7 ((b7 n _).mul (b7 n _)).symm
theorem m3 (a:Int) (x y:Nat) (n:Int):(a^x%n)^y%n=(a^y%n)^x%n:=by
 have h1:=(b7 n (a^x)).pow y
 have h2:=(b7 n (a^y)).pow x
 rw[zS] at h1
 exact f7 (h1.trans h2.symm)
theorem tU {a n v:Int} (h:Cg n (v*a) 1):Int.gcd a n=1:=by
 have d1:((Int.gcd a n:Nat):Int)∣a:=Int.gcd_dvd_left ..
 have d2:((Int.gcd a n:Nat):Int)∣n:=Int.gcd_dvd_right ..
 have d3:((Int.gcd a n:Nat):Int)∣v*a-1:=Int.dvd_trans d2 h
 have d4:((Int.gcd a n:Nat):Int)∣v*a:=Int.dvd_trans d1 (Int.dvd_mul_left ..)
 have d5:((Int.gcd a n:Nat):Int)∣1:=by
  have:=Int.dvd_sub d4 d3
  rwa [show v*a-(v*a-1)=1 by omega] at this
 have:=Int.le_of_dvd (by decide) d5
 have p:Int.gcd a n≠0:=fun z=>by
  rw[z] at d5
  obtain⟨k,hk⟩:=d5
  simp at hk
 omega
theorem gI {n:Int} {l:List (Int×Int)} (h:Parts n l) {q:Int×Int} (hq:q∈l):q.1<=n/\q.2<=n:=by
 obtain⟨ok,e⟩:=h
 obtain⟨a,b,rfl⟩:=List.append_of_mem hq
 have h1:=ok.pr q hq
 have pa:=dE (l:=a) fun x hx=>ok.pr x (List.mem_append_left _ hx)
 have pb:=dE (l:=b) fun x hx=>ok.pr x (List.mem_append_right _ (List.mem_cons_of_mem _ hx))
 rw[gH,prod] at e
 have q2:=h1.1.1
 have hp:q.1<=q.1^q.2.toNat/\q.2<=q.1^q.2.toNat:=by
  obtain⟨j,hj⟩:∃j,q.2.toNat=j+1:=⟨q.2.toNat-1,by omega⟩
  have hq2:q.2=((j:Nat):Int)+1:=by omega
  rw[hj]
  have hj1:∀j:Nat,((j:Nat):Int)+1<=q.1^j:=by
   intro j
   induction j with
   | zero=>simp
   | succ j ih =>
    rw[Int.pow_succ]
    have:=Int.mul_le_mul ih q2 (by decide) (Int.pow_nonneg (by omega))
    omega
  constructor
  ·rw[Int.pow_succ]
   have:=Int.mul_le_mul_of_nonneg_right (cP (show 1<=q.1 by omega) j) (show 0<=q.1 by omega)
   omega
  ·have:=hj1 (j+1)
   omega
 have h2:q.1^q.2.toNat<=q.1^q.2.toNat*prod b:=by
  have:=Int.mul_le_mul_of_nonneg_left pb (show 0<=q.1^q.2.toNat by omega)
  omega
 have h3:q.1^q.2.toNat*prod b<=prod a*(q.1^q.2.toNat*prod b):=by
  have:=Int.mul_le_mul_of_nonneg_right pa (show 0<=q.1^q.2.toNat*prod b by omega)
  omega
 omega
end MM
namespace MM
theorem bX {p a b:Int} (h:bP p) (hd:p∣a*b):p∣a\/p∣b:=by
 have p2:=h.1
 obtain⟨q,rfl⟩:=Int.eq_ofNat_of_zero_le (show 0<=p by omega)
 have hd':q∣a.natAbs*b.natAbs:=by
  have:=Int.natAbs_dvd_natAbs.mpr hd
  rwa [Int.natAbs_mul] at this
 by_cases ha:q∣a.natAbs
 ·left;exact Int.natAbs_dvd_natAbs.mp ha
 ·right;exact Int.natAbs_dvd_natAbs.mp (gU h hd' ha)
theorem iG {p a:Int} (h:bP p) {k:Nat} (hd:p∣a^k):p∣a:=by
 induction k with
 | zero =>
  have:=Int.le_of_dvd (by decide) (by simpa using hd:p∣1)
  have:=h.1
  omega
 | succ k ih =>
  rw[Int.pow_succ] at hd
  rcases bX h hd with z | z
  ·exact ih z
  ·exact z
theorem jW {p q:Int} (hp:bP p) (hq:bP q) (hd:p∣q):p=q:=qO hq hp.1 hd
theorem kG {p:Int} (h:bP p):∀ {l:List (Int×Int)},(∀q∈l,bP q.1/\1<=q.2)->p∣prod l->∃q∈l,q.1=p
 | [],_,hd=>by
  have:=Int.le_of_dvd (by decide) (by simpa [prod] using hd:p∣1)
  have:=h.1
  omega
 | q::r,hl,hd=>by
  rw[prod] at hd
  rcases bX h hd with z | z
  ·exact⟨q,List.mem_cons_self,(jW h (hl q List.mem_cons_self).1 (iG h z)).symm⟩
  ·obtain⟨x,hx,e⟩:=kG h (fun x hx=>hl x (List.mem_cons_of_mem _ hx)) z
   exact⟨x,List.mem_cons_of_mem _ hx,e⟩
theorem qP {p:Int} {k:Int} (hk:1<=k):p∣p^k.toNat:=by
 obtain⟨j,hj⟩:∃j,k.toNat=j+1:=⟨k.toNat-1,by omega⟩
 rw[hj,Int.pow_succ]
 exact Int.dvd_mul_left ..
theorem jB {l:List (Int×Int)} (hl:∀q∈l,bP q.1/\1<=q.2) {q:Int×Int} (hq:q∈l):q.1∣prod l:=by
 induction l with
 | nil=>cases hq
 | cons x r ih =>
  rw[prod]
  rcases List.mem_cons.mp hq with rfl | hq
  ·exact Int.dvd_trans (qP (hl _ List.mem_cons_self).2) (Int.dvd_mul_right ..)
  ·exact Int.dvd_trans (ih (fun x hx=>hl x (List.mem_cons_of_mem _ hx)) hq) (Int.dvd_mul_left ..)
theorem PartsOk.tail {q:Int×Int} {r:List (Int×Int)} (h:PartsOk (q::r)):PartsOk r:=⟨fun x hx=>h.pr x (List.mem_cons_of_mem _ hx),(List.pairwise_cons.mp h.up).2⟩
theorem PartsOk.head_not {q:Int×Int} {r:List (Int×Int)} (h:PartsOk (q::r)):¬ q.1∣prod r:=fun hd=>by
 obtain⟨x,hx,e⟩:=kG (h.pr q List.mem_cons_self).1 h.tail.pr hd
 have:=(List.pairwise_cons.mp h.up).1 x hx
 omega
theorem g5 {p a:Int} (h:bP p) (ha:¬ p∣a):Cg p (a^(p-1).toNat) 1:=by
 have f:=fermat h a
 have p2:=h.1
 obtain⟨j,hj⟩:∃j,p.toNat=j+1:=⟨p.toNat-1,by omega⟩
 have e:(p-1).toNat=j:=by omega
 rw[hj,Int.pow_succ] at f
 rw[e]
 have f':p∣a*(a^j-1):=by
  have e2:a*(a^j-1)=a^j*a-a:=by grind
  rw[e2];exact f
 rcases bX h f' with z | z
 ·exact absurd z ha
 ·exact z
theorem fY {n a:Int} {e f:Nat} (h:Cg n (a^e) 1) (hd:e∣f):Cg n (a^f) 1:=by
 obtain⟨c,rfl⟩:=hd
 rw[Int.pow_mul]
 have:=h.pow c
 rwa [Int.one_pow] at this
theorem oR {p:Int} (h:0<=p) (k:Nat):(p^k).toNat=p.toNat^k:=by
 obtain⟨q,rfl⟩:=Int.eq_ofNat_of_zero_le h
 rw[<- Int.natCast_pow]
 rfl
structure Ord (a n o:Int):Prop where
 pos:1<=o
 cg:Cg n (a^o.toNat) 1
 least:∀e,1<=e->e<o->¬ Cg n (a^e.toNat) 1
theorem gZ {Pr:Nat->Prop}:∀n,Pr n->∃d,Pr d/\d<=n/\∀e,e<d->¬ Pr e:=by
 intro n
 induction n using Nat.strongRecOn with
 | _ n ih =>
  intro h
  by_cases q:∃m,m<n/\Pr m
  ·obtain⟨m,hm,pm⟩:=q
   obtain⟨d,h1,h2,h3⟩:=ih m hm pm
   exact⟨d,h1,by omega,h3⟩
  ·exact⟨n,h,Nat.le_refl _,fun e he z=>q ⟨e,he,z⟩⟩
theorem yK {m:Int} (hm:2<=m):∃p,bP p/\p∣m:=by
 obtain⟨d,⟨d2,dd⟩,_,dl⟩:=gZ (Pr:=fun d=>2<=d/\(d:Int)∣m) m.toNat ⟨by omega,by rw[show ((m.toNat:Nat):Int)=m by omega];exact Int.dvd_refl _⟩
 refine⟨d,⟨by omega,fun e e2 ee z=>?_⟩,dd⟩
 obtain⟨f,rfl⟩:=Int.eq_ofNat_of_zero_le (show 0<=e by omega)
 have lt:f<d:=by
  have:f*f<=d:=by exact_mod_cast ee
  have:2*f<=f*f:=Nat.mul_le_mul_right f (by omega)
  omega
 exact dl f lt ⟨by omega,Int.dvd_trans (Int.dvd_of_emod_eq_zero z) dd⟩
theorem aAe {a n o:Int} (ho:1<=o) (hc:Cg n (a^o.toNat) 1) (hq:∀q,bP q->q∣o->¬ Cg n (a^(o/q).toNat) 1):Ord a n o:=by
 refine⟨ho,hc,?_⟩
 obtain⟨d,⟨d1,dc⟩,dle,dl⟩:=gZ (Pr:=fun d=>1<=d/\Cg n (a^d) 1) o.toNat ⟨by omega,hc⟩
 have dd:d∣o.toNat:=by
  by_cases z:o.toNat%d=0
  ·exact Nat.dvd_of_mod_eq_zero z
  ·exfalso
   have lt:o.toNat%d<d:=Nat.mod_lt _ (by omega)
   refine dl _ lt ⟨by omega,?_⟩
   have e:o.toNat=d*(o.toNat/d)+o.toNat%d:=(Nat.div_add_mod _ _).symm
   rw[e,Int.pow_add,Int.pow_mul] at hc
   have h1:=dc.pow (o.toNat/d)
   rw[Int.one_pow] at h1
   have h2:=h1.mul (Cg.refl n (a^(o.toNat%d)))
   rw[Int.one_mul] at h2
   exact h2.symm.trans hc
 obtain⟨m,hm⟩:=dd
 have m1:1<=m:=by
  cases m with
  | zero=>simp at hm;omega
  | succ m=>omega
 by_cases m2:m=1
 ·intro e e1 e2
  refine fun z=>dl e.toNat ?_ ⟨by omega,z⟩
  rw[m2] at hm
  omega
 ·exfalso
  obtain⟨p,hp,hpm⟩:=yK (show (2:Int)<=(m:Nat) by omega)
  have p2:=hp.1
  obtain⟨c,hc'⟩:=hpm
  have eo:o=p*(d*c):=by
   have:(o:Int)=((d*m:Nat):Int):=by omega
   rw[this,Int.natCast_mul,hc'];grind
  refine hq p hp ⟨d*c,eo⟩ ?_
  rw[eo,Int.mul_ediv_cancel_left _ (by omega)]
  have c0:0<=c:=by
   refine Classical.byContradiction fun z=>?_
   have:=Int.mul_le_mul_of_nonneg_left (show c <= -1 by omega) (show 0<=p by omega)
   omega
  refine fY dc ?_
  obtain⟨c',rfl⟩:=Int.eq_ofNat_of_zero_le c0
  rw[<- Int.natCast_mul]
  exact⟨c',rfl⟩
structure OrdInv (a n F o:Int) (done:List (Int×Int)):Prop where
 pos:1<=o
 dvd:o∣F
 cg:Cg n (a^o.toNat) 1
 no:∀q∈done,q.1∣o->¬ Cg n (a^(o/q.1).toNat) 1
end MM
namespace L2
open PySem PySem.Spec PyProof.Rows
section
variable {X:Cx}
theorem aB2 {pins:List (Addr×Obj)} {σ:St} {H:Hp} {s:Shared} {a:Addr} {xs:List V} (I:Inv X pins σ H s) (h:SqT X.K H a xs):∃o,s.heap.get? a=some o/\o.cls=.type "tuple" := by
 obtain⟨its,r,⟨o,e,c,_⟩,_⟩:=I.tuple h
 exact⟨o,e,c⟩
noncomputable def aFv (K:PySem.W.Frag):List V->Hp->VK->Prop:=fun vs H Q=>∃a xs c,vs=[.ref a,.ty c]/\SqT K H a xs/\(c = "int" \/ c = "bool" \/ c = "tuple" \/ c = "list" \/ c = "str" \/ c = "dict")/\Q (.bl (cU "tuple" c)) H
theorem r6:d6 X (.builtin "isinstance") (aFv X.K):=by
 intro pins s σ H xs us Q I r h
 obtain⟨a,zs,c,rfl,ha,hc,q⟩:=h
 obtain⟨u,w',rfl,rx,rc⟩:=kB r
 cases rx
 cases (show w'=Value.type c from rc)
 exact PySem.W.kia_one PySem.W.kitx_tuple I.kIn (aB2 I ha) (mH (by simp) hc) (fun z=>nomatch z) fun tk=>⟨.bl _,H,I.tok tk,rfl,q⟩
end
end L2
namespace MM
open PySem L2
noncomputable abbrev Row:=Int×Int×Dt
noncomputable def rwD (r:Row):Dt:=.tup [.int r.1,.int r.2.1,r.2.2]
noncomputable def asc:Int->List Row->Prop
 | _,[]=>True
 | l,r::rs=>l<r.1/\1<=r.2.1/\r.2.1<=200/\asc r.1 rs
noncomputable def prd:List Row->Int
 | []=>1
 | r::rs=>r.1^r.2.1.toNat*prd rs
theorem cG {a:Int} (h:1<=a):∀n:Nat,1<=a^n
 | 0=>by simp
 | n+1=>by
  have:=cG h n
  have b:=Int.mul_le_mul this h (by decide) (by omega)
  rw[Int.pow_succ]
  omega
theorem dH {a b:Int} (ha:0<=a) (hb:1<=b):a<=a*b:=by
 have:=Int.mul_le_mul_of_nonneg_left hb ha
 omega
theorem cW {a:Int} (h:1<=a) {i n:Nat} (hi:i<=n):a^i<=a^n:=by
 obtain⟨d,rfl⟩:=Nat.le.dest hi
 rw[Int.pow_add]
 exact dH (by have:=cG h i;omega) (cG h d)
theorem eQ {a:Int} (h:1<=a) {n:Nat} (hn:1<=n):a<=a^n:=by
 have:=cW h hn
 have e:a^1=a:=by rw[Int.pow_succ,Int.pow_zero,Int.one_mul]
 omega
theorem qN:∀(a b:List Row),prd (a++b)=prd a*prd b
 | [],b=>by simp[prd]
 | x::xs,b=>by
  show x.1^x.2.1.toNat*prd (xs++b)=x.1^x.2.1.toNat*prd xs*prd b
  rw[qN xs b,Int.mul_assoc]
theorem prd_snoc (a:List Row) (r:Row):prd (a++[r])=prd a*r.1^r.2.1.toNat:=by
 rw[qN]
 show prd a*(r.1^r.2.1.toNat*1)=_
 rw[Int.mul_one]
structure HeadOk (n b:Int) (rows:List Row):Prop where
 ne:rows≠[]
 up:asc 1 rows
 b1:1<=b
 bn:b<=n-1
 home:b^(n-1).toNat%n=1
 dv:(n-1)%prd rows=0
structure FullOk (n b:Int) (rows:List Row):Prop extends HeadOk n b rows where
 all:prd rows=n-1
 off:∀r∈rows,b^((n-1)/r.1).toNat%n≠1
structure ShareOk (n b:Int) (rows:List Row):Prop extends HeadOk n b rows where
 odd:n%2=1
 big:n<prd rows*prd rows
 off:∀r∈rows,Int.gcd (b^((n-1)/r.1).toNat%n-1) n=1
inductive RP:Nat->Bool->Int->Dt->Prop
 | two {k:Nat} {f:Bool}:RP (k+1) f 2 (.tup [.str (Str.ofString "two")])
 | full {k:Nat} {f:Bool} {n b:Int} {rows:List Row}:3<=n->bP n->FullOk n b rows->(∀r∈rows,RP k true r.1 r.2.2)->RP (k+1) f n (.tup [.str (Str.ofString "full"),.int b,.tup (rows.map rwD)])
 | share {k:Nat} {n b:Int} {rows:List Row}:3<=n->bP n->ShareOk n b rows->(∀r∈rows,RP k false r.1 r.2.2)->RP (k+1) false n (.tup [.str (Str.ofString "share"),.int b,.tup (rows.map rwD)])
theorem jA:∀(rows:List Row),(∀r∈rows,noL r.2.2=true)->noLL (rows.map rwD)=true
 | [],_=>rfl
 | r::rs,h=>by
  show ((true&&(true&&(noL r.2.2&&true)))&&noLL (rs.map rwD))=true
  rw[h r List.mem_cons_self,jA rs fun x hx=>h x (List.mem_cons_of_mem r hx)]
  rfl
mutual
noncomputable def cnD:Dt->Nat
 | .tup ds=>1+cnL ds
 | .non=>0
 | .bl _=>0
 | .int _=>0
 | .str _=>0
 | .lst _=>0
 | .emp=>0
noncomputable def cnL:List Dt->Nat
 | []=>0
 | d::ds=>cnD d+cnL ds
end
noncomputable def cnR:List Row->Nat
 | []=>0
 | r::rs=>1+cnD r.2.2+cnR rs
theorem jL:∀rows:List Row,cnL (rows.map rwD)=cnR rows
 | []=>by simp[cnL,cnR]
 | r::rs=>by
  show cnL (rwD r::rs.map rwD)=_
  simp only[cnL,cnR,rwD,cnD,jL rs]
  omega
theorem tX (z:Str) (b:Int) (rows:List Row):cnD (.tup [.str z,.int b,.tup (rows.map rwD)])=2+cnR rows:=by
 simp only[cnD,cnL,jL]
 omega
end MM
namespace L2
open PySem PySem.Spec PyProof.Rows
noncomputable def u7 (kvs:List (Key×V)) (k:Key):Option V:=(kvs.find? fun kv=>decide (kv.1=k)).map (·.2)
theorem aA3 {kvs:List (Key×V)} {vs:List (Key×Value)} (r:KV kvs vs) (k:Key):RelO (u7 kvs k) (valueAt vs k):=by
 unfold u7 valueAt
 induction r with
 | nil=>exact True.intro
 | @cons p q ps qs h t ih =>
  obtain⟨h1,h2⟩:=h
  by_cases e:p.1=k
  ·have e':q.1=k:=h1.symm.trans e
   simp[List.find?_cons,e,e'];exact h2
  ·have e':¬ q.1=k:=fun z=>e (h1.trans z)
   simp[List.find?_cons,e,e'];simpa using ih
noncomputable def DiK (P:Program) (w:World) (K:PySem.W.Frag) (a:Addr) (kvs:List (Key×V)):Prop :=
 ∃(o:Obj),∃es ep vs,K.lookup a=some o/\o.ExactDict/\o.data=.dict es ep/\KeysOf (e7 P w) es/\Pairs (e7 P w) es.toList vs/\(vs.map (·.1)).Nodup/\KV kvs vs
theorem DiK.of {P:Program} {w:World} {K:PySem.W.Frag} {a:Addr} {kvs:List (Key×V)} {h:Heap} (d:DiK P w K a kvs) (hk:K.In h):∃vs,KV kvs vs/\h.DictOf (e7 P w) a vs:=by
 obtain⟨o,es,ep,vs,h1,h2,h3,h4,h5,h6,h7⟩:=d
 exact⟨vs,h7,o,es,ep,hk a o h1,h2,h3,h4,h5,h6⟩
section
variable {X:Cx} {i:Nat} {x:Str} {p pos:Pos}
noncomputable def aFu (P:Program) (w:World) (K:PySem.W.Frag):R2:=fun x y H Q=>∃a k kvs v,x=.ref a/\y=kV k/\DiK P w K a kvs/\u7 kvs k=some v/\Q v H
theorem aFb {k:Key} {u:Value} {P:Program} {w:World} (r:RelV (kV k) u):(e7 P w).is k u=true:=by
 rw[uZ]
 cases k with
 | inl i=>obtain⟨t,rfl⟩:=(r:∃t,u=.int i t);exact yF i t
 | inr z=>obtain⟨t,rfl⟩:=(r:∃t,u=.str z t);exact dI z t
theorem aAz:IxR X (aFu X.prog X.w X.K):=by
 intro value slice pins s σ H x y v u Q I rx ry h hs
 obtain⟨a,k,kvs,z,rfl,rfl,hd,he,q⟩:=h
 cases rx
 obtain⟨vs,rel,dd⟩:=hd.of I.kIn
 obtain⟨w',hw,rw'⟩:=RelO.some_of (v:=z) (o:=valueAt vs k) (by rw[<- he];exact aA3 rel k)
 exact tail_any dd.typeIs PySem.F.slot_dict_getitem.lookup (wpAny_getItem_of (aFb ry) dd.mapOf hw ⟨z,H,I.tok _,rw',q⟩) hs
noncomputable def aD5 (X:Cx) (CX:CXT) (E:XK) (k i:Nat) (t:TA):TE:=fun σ H Q=>∃f fd ps sp,σ[i]? = some (some (.ref f))/\PySem.W.keepIn X.K (.ref f)=true/\FnOk X.prog X.w X.K X.mg X.base CX k f fd ps sp/\Binds X.K fd ps []/\t σ H fun vs H1=>sp vs H1 Q E
theorem z8 {e:Expr} {es:List Expr} {k:Nat} {t:TA} {CX:CXT} {E:XK} (hx:Passes CX X E) (hN:X.N[i]? = some x) (hv:Vis X.env.scope x) (hr:Room k X.A) (ha:PA X (e::es) t) (hd:autoParam ((x==("__debug__" : Str))=false) L2.au1._auto_1) (hcd:autoParam ((x==("__classdict__" : Str))=false) L2.au1._auto_1)
  (he:autoParam (starEach (e::es) X.env=(false,eval e X.env)::starEach es X.env) L2.au4._auto_1) (hpl:autoParam ((backTo pos (starEach es X.env)).any (·.1)=false) L2.au4._auto_1):PE X (.Call (.Name x p) (e::es) [] pos) (aD5 X CX E k i t):=by
 intro pins s σ H Q I h
 obtain⟨f,fd,ps,sp,e1,hk,F,hb,hsp⟩:=h
 refine wpAny_Call_Name_kw (aAw I hN hv e1 (fun u r=>?_) hd hcd)
 cases (show u=Value.ref f from r)
 refine PySem.W.callWith_K (h₀:=X.base) I.ok.mod.kin hk (thn (ha pos pins s σ H _ I hsp) fun us s1 ⟨vs,H1,I1,r,q⟩=>⟨I1.kIn,?_⟩) he hpl
 exact zG (dvs:=[]) (ds:=[]) F hr hb .nil hx I1 r (by simpa using q)
end
end L2
namespace L2
open PySem PySem.Spec PyProof.Rows
noncomputable def Kd (K:PySem.W.Frag) (H:Hp) (x:V) (n:String):Prop:=TyOf K H x (.type n)\/(n = "tuple" /\ ∃a xs,x=.ref a/\SqT K H a xs)\/(n = "list" /\ ∃a xs,x=.ref a/\SqL K H a xs)
noncomputable def aDq (K:PySem.W.Frag):List V->Hp->VK->Prop:=fun vs H Q=>∃x n c,vs=[x,.ty c]/\Kd K H x n/\(c = "int" \/ c = "bool" \/ c = "tuple" \/ c = "list" \/ c = "str" \/ c = "dict")/\Q (.bl (cU n c)) H
section
variable {X:Cx}
theorem bJ:d6 X (.builtin "isinstance") (aDq X.K):=by
 intro pins s σ H xs us Q I r h
 obtain⟨x,n,c,rfl,hk,hc,q⟩:=h
 rcases hk with ty | ⟨rfl,a,zs,rfl,ha⟩ | ⟨rfl,a,zs,rfl,ha⟩
 ·exact gN pins s σ H _ us Q I r (isi ty q hc)
 ·exact r6 pins s σ H _ us Q I r ⟨a,zs,c,rfl,ha,hc,q⟩
 ·obtain⟨u,w',rfl,rx,rc⟩:=kB r
  cases rx
  cases (show w'=Value.type c from rc)
  obtain⟨its,_,⟨o,n,e,hcl,_⟩,_⟩:=I.list ha
  exact PySem.W.kia_one PySem.W.kitx_list I.kIn ⟨o,e,hcl⟩ (mH (by simp) hc) (fun z=>nomatch z) fun tk=>⟨.bl _,H,I.tok tk,rfl,q⟩
theorem isk {K:PySem.W.Frag} {H:Hp} {x:V} {n c:String} {Q:VK} (k:Kd K H x n) (q:Q (.bl (cU n c)) H) (hc:autoParam (c = "int" \/ c = "bool" \/ c = "tuple" \/ c = "list" \/ c = "str" \/ c = "dict") L2.au1._auto_1):aDq K [x,.ty c] H Q:=⟨x,n,c,rfl,k,hc,q⟩
noncomputable def kdD:Dt->String
 | .non => "NoneType"
 | .bl _ => "bool"
 | .int _ => "int"
 | .str _ => "str"
 | .tup _ => "tuple"
 | .lst _ => "list"
 | .emp => "dict"
theorem cF {K:PySem.W.Frag} {H:Hp}:∀ {d:Dt} {x:V},Rep K H d x->Kd K H x (kdD d)
 | .non,_,h=>by cases (show _=V.non from h);exact .inl .non
 | .bl b,_,h=>by cases (show _=V.bl b from h);exact .inl (.bl _)
 | .int i,_,h=>by cases (show _=V.int i from h);exact .inl (.int _)
 | .str x,_,h=>by cases (show _=V.str x from h);exact .inl (.str _)
 | .tup ds,_,h=>by
  obtain⟨a,xs,rfl,ha,_⟩:=h
  exact .inr (.inl ⟨rfl,a,xs,rfl,ha⟩)
 | .lst ds,_,h=>by
  obtain⟨a,xs,rfl,ha,_⟩:=h
  exact .inr (.inr ⟨rfl,a,xs,rfl,ha⟩)
 | .emp,_,h=>by
  obtain⟨a,rfl,ha⟩:=h
  exact .inl (.dK ha)
end
end L2
namespace MM
noncomputable def fE:List Int->Int
 | []=>0
 | b::r=>b+2*fE r
theorem sL (l:List Int) (b:Int):fE (l++[b])=fE l+2^l.length*b:=by
 induction l with
 | nil=>simp[fE]
 | cons c l ih=>rw[List.cons_append,fE,fE,ih,List.length_cons,Int.pow_succ];grind
structure BitInv (o l:Int) (bs:List Int):Prop where
 l0:0<=l
 eq:o=fE bs+2^bs.length*l
 bit:∀b∈bs,b=0\/b=1
theorem yT {o:Int} (h:0<=o):BitInv o o []:=⟨h,by simp[fE],fun _ h=>(by cases h)⟩
theorem aBj {o l:Int} {bs:List Int} (I:BitInv o l bs):BitInv o (l/2) (bs++[l%2]):=by
 have l0:=I.l0
 refine⟨by omega,?_,fun b hb=>?_⟩
 ·rw[sL,List.length_append,List.length_singleton,Int.pow_succ]
  have e:l=2*(l/2)+l%2:=by omega
  have:=I.eq
  generalize l/2=q at e ⊢
  generalize l%2=r at e ⊢
  subst e
  grind
 ·rcases List.mem_append.mp hb with hb | hb
  ·exact I.bit b hb
  ·rw[List.mem_singleton.mp hb];omega
theorem f8 {bs:List Int} (h:∀b∈bs,b=0\/b=1):0<=fE bs:=by
 induction bs with
 | nil=>exact Int.le_refl _
 | cons b r ih =>
  have:=ih fun x hx=>h x (List.mem_cons_of_mem _ hx)
  have:=h b List.mem_cons_self
  rw[fE];omega
theorem sR {k:Nat} (h:100<=k):(10:Int)^30<2^k:=by
 obtain⟨j,rfl⟩:∃j,k=100+j:=⟨k-100,by omega⟩
 rw[Int.pow_add]
 have:=cP (show (1:Int)<=2 by decide) j
 have:=Int.mul_le_mul_of_nonneg_left this (show (0:Int)<=2^100 by decide)
 have e:(2:Int)^100=1267650600228229401496703205376:=by decide
 omega
theorem aDg {o l:Int} {bs:List Int} (I:BitInv o l bs) (hl:0<l) (ho:o<=10^30):bs.length<100:=by
 refine Classical.byContradiction fun hc=>?_
 have h1:=sR (k:=bs.length) (by omega)
 have h2:=Int.mul_le_mul_of_nonneg_left (show 1<=l by omega) (show (0:Int)<=2^bs.length by omega)
 have h3:=f8 I.bit
 have:=I.eq
 omega
theorem aDh {o:Int} {bs:List Int} (I:BitInv o 0 bs):fE bs=o:=by
 have:=I.eq
 rw[Int.mul_zero,Int.add_zero] at this
 exact this.symm
theorem zI {bs:List Int} {j:Nat} {c:Int} (hx:bs.reverse[j]? = some c):c∈bs/\fE (bs.drop (bs.length-(j+1)))=c+2*fE (bs.drop (bs.length-j)):=by
 obtain⟨hj,rfl⟩:=List.getElem?_eq_some_iff.mp hx
 rw[List.length_reverse] at hj
 refine⟨List.mem_reverse.mp (List.getElem_mem _),?_⟩
 rw[List.getElem_reverse]
 have hl:bs.length-(j+1)<bs.length:=by omega
 rw[List.drop_eq_getElem_cons hl,fE]
 have e1:bs.length-(j+1)+1=bs.length-j:=by omega
 have e2:bs.length-(j+1)=bs.length-1-j:=by omega
 rw[e1]
 congr 1
 congr 1
theorem zV {b v n:Int} (hv:0<=v):b^v.toNat%n*(b^v.toNat%n)%n=b^(0+2*v).toNat%n:=by
 have e:(0+2*v).toNat=v.toNat+v.toNat:=by omega
 rw[e,Int.pow_add]
 exact f7 ((b7 n _).mul (b7 n _))
theorem zU {b v n:Int} (hv:0<=v):b^v.toNat%n*(b^v.toNat%n)%n*b%n=b^(1+2*v).toNat%n:=by
 have e:(1+2*v).toNat=v.toNat+v.toNat+1:=by omega
 rw[e,Int.pow_succ,Int.pow_add]
 exact f7 (((b7 n _).trans ((b7 n _).mul (b7 n _))).mul (Cg.refl n b))
end MM
namespace MM
noncomputable abbrev PZ:=Int×Int
noncomputable def pm (d:Int) (P Q:PZ):PZ:=(P.1*Q.1+d*P.2*Q.2,P.1*Q.2+P.2*Q.1)
noncomputable def pw (d:Int) (P:PZ):Nat->PZ
 | 0=>(1,0)
 | k+1=>pm d (pw d P k) P
theorem iZ (d:Int) (P Q:PZ):pm d P Q=pm d Q P:=by
 unfold pm;refine Prod.ext ?_ ?_ <;> simp only <;> grind
theorem l7 (d:Int) (P Q R:PZ):pm d (pm d P Q) R=pm d P (pm d Q R):=by
 unfold pm;refine Prod.ext ?_ ?_ <;> simp only <;> grind
theorem fS (d:Int) (P:PZ):pm d P (1,0)=P:=by
 unfold pm;refine Prod.ext ?_ ?_ <;> simp
theorem uW (d:Int) (P:PZ):pm d (1,0) P=P:=by rw[iZ,fS]
theorem lZ (d:Int) (P:PZ) (a:Nat):∀b,pw d P (a+b)=pm d (pw d P a) (pw d P b)
 | 0=>by rw[Nat.add_zero,pw,fS]
 | b+1=>by rw[<- Nat.add_assoc,pw,lZ d P a b,pw,l7]
theorem zM (d:Int) (P:PZ):∀k,pw d (pm d P P) k=pw d P (2*k)
 | 0=>rfl
 | k+1=>by
  rw[pw,zM d P k,show 2*(k+1)=2*k+1+1 by omega,pw,pw,l7]
noncomputable def CP (n:Int) (P Q:PZ):Prop:=Cg n P.1 Q.1/\Cg n P.2 Q.2
theorem CP.refl (n:Int) (P:PZ):CP n P P:=⟨Cg.refl _ _,Cg.refl _ _⟩
theorem CP.symm {n:Int} {P Q:PZ} (h:CP n P Q):CP n Q P:=⟨h.1.symm,h.2.symm⟩
theorem CP.trans {n:Int} {P Q R:PZ} (h:CP n P Q) (g:CP n Q R):CP n P R:=⟨h.1.trans g.1,h.2.trans g.2⟩
theorem CP.mul {n d:Int} {P P' Q Q':PZ} (h:CP n P P') (g:CP n Q Q'):CP n (pm d P Q) (pm d P' Q') :=
 ⟨(h.1.mul g.1).add (((Cg.refl n d).mul h.2).mul g.2),(h.1.mul g.2).add (h.2.mul g.1)⟩
theorem CP.pw {n d:Int} {P P':PZ} (h:CP n P P'):∀k,CP n (pw d P k) (pw d P' k)
 | 0=>CP.refl _ _
 | k+1=>(CP.pw h k).mul h
noncomputable def rp (n:Int) (P:PZ):PZ:=(P.1%n,P.2%n)
theorem fK (n:Int) (P:PZ):CP n (rp n P) P:=⟨b7 n _,b7 n _⟩
theorem wY {n:Int} {P Q:PZ} (h:CP n P Q):rp n P=rp n Q:=Prod.ext (f7 h.1) (f7 h.2)
structure Rst (n:Int) (P:PZ):Prop where
 a0:0<=P.1
 a1:P.1<n
 b0:0<=P.2
 b1:P.2<n
theorem Rst.of {n:Int} (hn:0<n) (P:PZ):Rst n (rp n P):=⟨Int.emod_nonneg _ (by omega),Int.emod_lt_of_pos _ hn,Int.emod_nonneg _ (by omega),Int.emod_lt_of_pos _ hn⟩
theorem Rst.rp {n:Int} {P:PZ} (h:Rst n P):rp n P=P:=Prod.ext (Int.emod_eq_of_lt h.a0 h.a1) (Int.emod_eq_of_lt h.b0 h.b1)
structure PPInv (d n:Int) (P:PZ) (often:Int) (done square:PZ) (left:Int):Prop where
 rd:Rst n done
 rs:Rst n square
 l0:0<=left
 cg:CP n (pm d done (pw d square left.toNat)) (pw d P often.toNat)
theorem aAg {n:Int} (hn:0<n):((1%n,0):PZ)=rp n (1,0):=by
 unfold rp;refine Prod.ext rfl ?_;simp
theorem zR {d n:Int} {P:PZ} {often:Int} (hn:0<n) (ho:0<=often):PPInv d n P often (1%n,0) (rp n P) often:=by
 rw[aAg hn]
 refine⟨.of hn _,.of hn _,ho,?_⟩
 have h:=(fK n (1,0)).mul (d:=d) ((fK n P).pw (d:=d) often.toNat)
 rwa [uW] at h
theorem aCh {d n:Int} {P done square:PZ} {often left:Int} (hn:0<n) (I:PPInv d n P often done square left) (h:left%2≠1):PPInv d n P often done (rp n (pm d square square)) (left/2):=by
 have l0:=I.l0
 refine⟨I.rd,.of hn _,by omega,?_⟩
 have e:left.toNat=2*(left/2).toNat:=by omega
 have c:=I.cg
 rw[e,<- zM] at c
 exact((CP.refl n done).mul ((fK n _).pw _)).trans c
theorem aEk {d n:Int} {P done square:PZ} {often left:Int} (hn:0<n) (I:PPInv d n P often done square left) (h:left%2=1):PPInv d n P often (rp n (pm d done square)) (rp n (pm d square square)) (left/2):=by
 have l0:=I.l0
 refine⟨.of hn _,.of hn _,by omega,?_⟩
 have e:left.toNat=2*(left/2).toNat+1:=by omega
 have c:=I.cg
 rw[e,pw,<- zM,iZ d (pw _ _ _) square,<- l7] at c
 exact((fK n _).mul ((fK n _).pw _)).trans c
theorem aEl {d n:Int} {P done square:PZ} {often left:Int} (I:PPInv d n P often done square left) (h:¬ 0<left):done=rp n (pw d P often.toNat):=by
 have l0:=I.l0
 have e:left.toNat=0:=by omega
 have c:=I.cg
 rw[e,pw,fS] at c
 rw[<- wY c,I.rd.rp]
theorem aCd {d n v:Int} {P:PZ} (hv:0<=v):rp n (pm d (rp n (pw d P v.toNat)) (rp n (pw d P v.toNat)))=rp n (pw d P (0+2*v).toNat):=by
 have e:(0+2*v).toNat=v.toNat+v.toNat:=by omega
 rw[e,lZ]
 exact wY ((fK n _).mul (fK n _))
theorem aCc {d n v:Int} {P:PZ} (hv:0<=v):rp n (pm d (rp n (pm d (rp n (pw d P v.toNat)) (rp n (pw d P v.toNat)))) P)=rp n (pw d P (1+2*v).toNat):=by
 have e:(1+2*v).toNat=v.toNat+v.toNat+1:=by omega
 rw[e,pw,lZ]
 exact wY (((fK n _).trans ((fK n _).mul (fK n _))).mul (CP.refl n P))
theorem j5 {a b:Int} {x y z:Nat} (ha:a.natAbs<x) (hb:b.natAbs<y) (h:x*y<=z):(a*b).natAbs<z:=by
 rw[Int.natAbs_mul]
 have:=Nat.mul_lt_mul'' ha hb
 omega
end MM
namespace MM
open PySem L2
noncomputable def dL:Int->List Row->Prop
 | _,[]=>True
 | l,r::rs=>l<r.1/\1<=r.2.1/\dL r.1 rs
noncomputable def fI:Int->List Row->Int
 | l,[]=>l
 | _,r::rs=>fI r.1 rs
theorem ascU_snoc:∀ {rs:List Row} {l:Int} {r:Row},dL l (rs++[r])↔dL l rs/\fI l rs<r.1/\1<=r.2.1
 | [],l,r=>by simp[dL,fI]
 | a::as,l,r=>by
  show (l<a.1/\1<=a.2.1/\dL a.1 (as++[r]))↔(l<a.1/\1<=a.2.1/\dL a.1 as)/\fI a.1 as<r.1/\1<=r.2.1
  rw[ascU_snoc]
  constructor
  ·rintro⟨h1,h2,h3,h4⟩;exact⟨⟨h1,h2,h3⟩,h4⟩
  ·rintro⟨⟨h1,h2,h3⟩,h4⟩;exact⟨h1,h2,h3,h4⟩
theorem mG:∀(rs:List Row) (l:Int) (r:Row),fI l (rs++[r])=r.1
 | [],_,_=>rfl
 | a::as,l,r=>mG as a.1 r
theorem pV:∀ {rs:List Row} {l:Int},dL l rs->l<=fI l rs
 | [],l,_=>Int.le_refl l
 | a::as,l,h=>by
  have:=pV h.2.2
  have:=h.1
  show l<=fI a.1 as
  omega
theorem gQ:∀ {a b:List Row} {l:Int},dL l (a++b)->dL l a
 | [],_,_,_=>True.intro
 | x::xs,b,l,h=>⟨h.1,h.2.1,gQ h.2.2⟩
theorem cE:∀ {rs:List Row} {l:Int},dL l rs->∀r∈rs,l<r.1/\1<=r.2.1
 | [],_,_,r,hr=>by cases hr
 | a::as,l,h,r,hr=>by
  rcases List.mem_cons.mp hr with e | hr
  ·subst e;exact⟨h.1,h.2.1⟩
  ·have q:=cE h.2.2 r hr
   have:=h.1
   exact⟨by omega,q.2⟩
theorem cO:∀ {rs:List Row} {l:Int},0<=l->dL l rs->1<=prd rs
 | [],_,_,_=>by decide
 | a::as,l,h0,h=>by
  have x:=cG (show 1<=a.1 by have:=h.1;omega) a.2.1.toNat
  have y:=cO (show 0<=a.1 by have:=h.1;omega) h.2.2
  have:=dH (show 0<=a.1^a.2.1.toNat by omega) y
  show 1<=a.1^a.2.1.toNat*prd as
  omega
theorem sY {a b:List Row} (h:dL 1 (a++b)):prd a<=prd (a++b):=by
 rw[qN]
 have pa:=cO (by decide) (gQ h)
 have pb:1<=prd b:=by
  have:∀ {a:List Row} {l:Int},0<=l->dL l (a++b)->1<=prd b:=by
   intro a
   induction a with
   | nil=>exact fun h0 h=>cO h0 h
   | cons x xs ih=>exact fun {l} h0 h=>ih (l:=x.1) (by have:=h.1;omega) h.2.2
  exact this (by decide) h
 exact dH (by omega) pb
theorem aB8 {r s:Row} (h:rwD r=rwD s):r=s:=by
 obtain⟨a,b,c⟩:=r
 obtain⟨x,y,z⟩:=s
 unfold rwD at h
 cases h
 rfl
theorem cI:∀ {a b:List Row},a.map rwD=b.map rwD->a=b
 | [],[],_=>rfl
 | [],_::_,h=>by cases h
 | _::_,[],h=>by cases h
 | x::xs,y::ys,h=>by
  rw[List.map_cons,List.map_cons] at h
  have h1:=aB8 (List.cons.inj h).1
  rw[h1,cI (List.cons.inj h).2]
structure RowsP (d:Dt) (m:Int) (rows:List Row):Prop where
 eq:d=.tup (rows.map rwD)
 ne:rows≠[]
 up:dL 1 rows
 le:prd rows<=m
theorem RowsP.unique {d:Dt} {m:Int} {a b:List Row} (h:RowsP d m a) (g:RowsP d m b):a=b:=by
 have:=h.eq.symm.trans g.eq
 exact cI (Dt.tup.inj this)
theorem RowsP.take {ds:List Dt} {m:Int} {rows pre:List Row} {j:Nat} (h:RowsP (.tup ds) m rows) (hp:ds.take j=pre.map rwD):rows.take j=pre:=by
 have e:=Dt.tup.inj h.eq
 rw[e,<- List.map_take] at hp
 exact cI hp
theorem RowsP.at {ds:List Dt} {m:Int} {rows:List Row} {j:Nat} {d:Dt} (h:RowsP (.tup ds) m rows) (hd:ds[j]? = some d):∃r,rows[j]? = some r/\d=rwD r:=by
 have e:=Dt.tup.inj h.eq
 rw[e,List.getElem?_map] at hd
 cases q:rows[j]? with
 | none=>rw[q] at hd;cases hd
 | some r=>rw[q] at hd;cases hd;exact⟨r,rfl,rfl⟩
end MM
namespace MM
open PySem L2
theorem fC {p:Int} (h:bP p) (h2:2<p):p%2=1:=by
 have:=h.2 2 (by decide)
 refine Classical.byContradiction fun w=>?_
 by_cases h4:4<=p
 ·exact this (by omega) (by omega)
 ·omega
theorem pA {p:Int} (h:p%2=1):∀n:Nat,p^n%2=1
 | 0=>by simp
 | n+1=>by rw[Int.pow_succ,Int.mul_emod,pA h n,h];rfl
end MM
namespace MM
open PySem L2
theorem x9 (a b:Int):∀k:Nat,(a*b)^k=a^k*b^k
 | 0=>by simp
 | k+1=>by rw[Int.pow_succ,Int.pow_succ,Int.pow_succ,x9 a b k];grind
theorem eB {a b:Int} (h0:0<=a) (h:a<=b):∀k:Nat,a^k<=b^k
 | 0=>by simp
 | k+1=>by
  rw[Int.pow_succ,Int.pow_succ]
  exact Int.mul_le_mul (eB h0 h k) h h0 (Int.pow_nonneg (by omega))
theorem sX:∀ {rows:List Row} {l:Int},2<=l->dL l rows->(∀r∈rows,bP r.1)->prd rows%2=1
 | [],_,_,_,_=>rfl
 | r::rs,l,hl,h,hp=>by
  obtain⟨h1,h2,h4⟩:=h
  have a:=pA (fC (hp r List.mem_cons_self) (by omega)) r.2.1.toNat
  have b:=sX (show 2<=r.1 by omega) h4 fun x hx=>hp x (List.mem_cons_of_mem r hx)
  show (r.1^r.2.1.toNat*prd rs)%2=1
  rw[Int.mul_emod,a,b];rfl
theorem rW:∀ {rows:List Row} {l:Int},2<=l->dL l rows->(∀r∈rows,(2:Int)^(cnD r.2.2+3)<=r.1^10)->(4:Int)^rows.length*2^cnR rows<=prd rows^10
 | [],_,_,_,_=>by decide
 | r::rs,l,hl,h,hp=>by
  obtain⟨h1,h2,h4⟩:=h
  have a:=hp r List.mem_cons_self
  have b:=rW (show 2<=r.1 by omega) h4 fun x hx=>hp x (List.mem_cons_of_mem r hx)
  have c:=eB (show 0<=r.1 by omega) (eQ (show 1<=r.1 by omega) (show 1<=r.2.1.toNat by omega)) 10
  have d:=Int.mul_le_mul (Int.le_trans a c) b (by
   have:=cG (show (1:Int)<=4 by decide) rs.length
   have:=cG (show (1:Int)<=2 by decide) (cnR rs)
   exact Int.mul_nonneg (by omega) (by omega)) (by
   have:=cG (cG (show 1<=r.1 by omega) r.2.1.toNat) 10
   omega)
  show (4:Int)^(rs.length+1)*2^(1+cnD r.2.2+cnR rs)<=(r.1^r.2.1.toNat*prd rs)^10
  rw[x9]
  have e:(4:Int)^(rs.length+1)*2^(1+cnD r.2.2+cnR rs)=2^(cnD r.2.2+3)*(4^rs.length*2^cnR rs):=by
   simp only[Int.pow_succ,Int.pow_add]
   grind
  omega
theorem aAo {n:Int} (h:4<=n):(n+1)^10<=16*n^10:=by
 have a:=eB (show 0<=4*(n+1) by omega) (show 4*(n+1)<=5*n by omega) 10
 rw[x9,x9] at a
 have e1:(4:Int)^10=1048576:=by decide
 have e2:(5:Int)^10=9765625:=by decide
 have p0:0<=n^10:=Int.pow_nonneg (by omega)
 rw[e1,e2] at a
 omega
theorem tZ {n W:Int} {rows:List Row} (n3:3<=n) (we:W%2=0) (w2:2<=W) (wn:W<=n+1) (ne:rows≠[]) (up:dL 1 rows) (dv:W%prd rows=0) (hp:∀r∈rows,bP r.1) (hc:∀r∈rows,(r.1=2->cnD r.2.2=1)/\(r.1≠2->(2:Int)^(cnD r.2.2+3)<=r.1^10)):(2:Int)^(3+cnR rows+3)<=n^10:=by
 have dvd:=Int.dvd_of_emod_eq_zero dv
 have le:=Int.le_of_dvd (show 0<W by omega) dvd
 have e10:(2:Int)^10=1024:=by decide
 cases rows with
 | nil=>exact absurd rfl ne
 | cons r rs =>
  have up':=up
  obtain⟨h1,h2,h4⟩:=up
  by_cases e2:r.1=2
  ·have c1:=(hc r List.mem_cons_self).1 e2
   have b:=rW (show 2<=r.1 by omega) h4 fun x hx=>(hc x (List.mem_cons_of_mem r hx)).2 (by
    have:=(cE h4 x hx).1
    omega)
   have p1:=cO (show 0<=r.1 by omega) h4
   have q:2*prd rs<=W:=by
    have z:prd (r::rs)=r.1^r.2.1.toNat*prd rs:=rfl
    have y:=eQ (show 1<=r.1 by omega) (show 1<=r.2.1.toNat by omega)
    have:=Int.mul_le_mul_of_nonneg_right y (show 0<=prd rs by omega)
    rw[e2] at this z
    omega
   have m:=eB (show 0<=2*prd rs by omega) (show 2*prd rs<=n+1 by omega) 10
   rw[x9,e10] at m
   have e:(2:Int)^(3+cnR (r::rs)+3)=256*2^cnR rs:=by
    show (2:Int)^(3+(1+cnD r.2.2+cnR rs)+3)=_
    rw[c1,show 3+(1+1+cnR rs)+3=cnR rs+8 by omega,Int.pow_add]
    have:(2:Int)^8=256:=by decide
    omega
   rw[e]
   cases rs with
   | nil =>
    have:=eB (show (0:Int)<=3 by decide) n3 10
    have z:(3:Int)^10=59049:=by decide
    show 256*(2:Int)^0<=n^10
    have:(2:Int)^0=1:=by decide
    omega
   | cons s ss =>
    have l4:(4:Int)<=4^(s::ss).length:=eQ (by decide) (by simp)
    have x:=cG (show (1:Int)<=2 by decide) (cnR (s::ss))
    have:=Int.mul_le_mul_of_nonneg_right l4 (show (0:Int)<=2^cnR (s::ss) by omega)
    have s3:3<=prd (s::ss):=by
     have y:=eQ (show 1<=s.1 by have:=h4.1;omega) (show 1<=s.2.1.toNat by have:=h4.2.1;omega)
     have p2:=cO (show 0<=s.1 by have:=h4.1;omega) h4.2.2
     have:=dH (show 0<=s.1^s.2.1.toNat by have:=h4.1;omega) p2
     have:=h4.1
     show 3<=s.1^s.2.1.toNat*prd ss
     omega
    have nx:=aAo (show 4<=n by omega)
    omega
  ·have b:=rW (l:=2) (by decide) (show dL 2 (r::rs) from ⟨by omega,h2,h4⟩) fun x hx=>(hc x hx).2 (by
    rcases List.mem_cons.mp hx with e | hx
    ·rw[e];exact e2
    ·have:=(cE h4 x hx).1
     omega)
   have od:=sX (l:=2) (by decide) (show dL 2 (r::rs) from ⟨by omega,h2,h4⟩) hp
   have p1:=cO (by decide) up'
   have q:2*prd (r::rs)<=W:=by
    obtain⟨t,ht⟩:=dvd
    have t0:0<t:=by
     refine Classical.byContradiction fun w=>?_
     have:=Int.mul_nonpos_of_nonneg_of_nonpos (show 0<=prd (r::rs) by omega) (show t<=0 by omega)
     omega
    have t2:t≠1:=fun z=>by rw[z] at ht;omega
    have:=Int.mul_le_mul_of_nonneg_left (show 2<=t by omega) (show 0<=prd (r::rs) by omega)
    omega
   have m:=eB (show 0<=2*prd (r::rs) by omega) (show 2*prd (r::rs)<=n+1 by omega) 10
   rw[x9,e10] at m
   have e:(2:Int)^(3+cnR (r::rs)+3)=64*2^cnR (r::rs):=by
    rw[show 3+cnR (r::rs)+3=cnR (r::rs)+6 by omega,Int.pow_add]
    have:(2:Int)^6=64:=by decide
    omega
   have l4:(4:Int)<=4^(r::rs).length:=eQ (by decide) (by simp)
   have x:=cG (show (1:Int)<=2 by decide) (cnR (r::rs))
   have:=Int.mul_le_mul_of_nonneg_right l4 (show (0:Int)<=2^cnR (r::rs) by omega)
   have s3:3<=prd (r::rs):=by
    have y:=eQ (show 1<=r.1 by omega) (show 1<=r.2.1.toNat by omega)
    have p2:=cO (show 0<=r.1 by omega) h4
    have:=dH (show 0<=r.1^r.2.1.toNat by omega) p2
    show 3<=r.1^r.2.1.toNat*prd rs
    omega
   have nx:=aAo (show 4<=n by omega)
   rw[e]
   omega
end MM
namespace MM
open PySem L2
theorem j9:∀ {rows:List Row} {j:Nat},(∀r∈rows,dep r.2.2<=j)->depL (rows.map rwD)<=j+1
 | [],j,_=>Nat.zero_le _
 | r::rs,j,h=>by
  have a:=h r List.mem_cons_self
  have b:=j9 fun x hx=>h x (List.mem_cons_of_mem r hx)
  show max (max 0 (max 0 (max (dep r.2.2) 0))+1) (depL (rs.map rwD))<=j+1
  omega
theorem iM:∀ {rows:List Row},(∀r∈rows,bY r.2.2<=250*cnD r.2.2)->lenDL (rows.map rwD)<=250*cnR rows
 | [],_=>Nat.zero_le _
 | r::rs,h=>by
  have a:=h r List.mem_cons_self
  have b:=iM fun x hx=>h x (List.mem_cons_of_mem r hx)
  show ((101+2+(101+2+(bY r.2.2+2+0)))+3)+2+lenDL (rs.map rwD)<=250*(1+cnD r.2.2+cnR rs)
  omega
end MM
namespace MM
open PySem L2
theorem aCi {rs:List Row} {l:Int} (h0:0<=l) (h:dL l rs):∀r∈rs,r.1^r.2.1.toNat<=prd rs:=by
 induction rs generalizing l with
 | nil=>intro r hr;cases hr
 | cons a as ih =>
  intro r hr
  have x:=cG (show 1<=a.1 by have:=h.1;omega) a.2.1.toNat
  have y:=cO (show 0<=a.1 by have:=h.1;omega) h.2.2
  show r.1^r.2.1.toNat<=a.1^a.2.1.toNat*prd as
  rcases List.mem_cons.mp hr with e | hr
  ·subst e
   exact dH (by omega) y
  ·have:=ih (l:=a.1) (by have:=h.1;omega) h.2.2 r hr
   have z:=dH (show 0<=prd as by omega) x
   rw[Int.mul_comm] at z
   omega
theorem lF {p:Int} (h:2<=p):∀n:Nat,(2:Int)^n<=p^n
 | 0=>by rw[Int.pow_zero,Int.pow_zero];exact Int.le_refl _
 | n+1=>by
  rw[Int.pow_succ,Int.pow_succ]
  have:=lF h n
  have h2:=cG (show (1:Int)<=2 by decide) n
  exact Int.mul_le_mul this h (by decide) (by omega)
theorem RowsP.often {d:Dt} {m:Int} {rows:List Row} (h:RowsP d m rows) (hm:m<=10^31):∀r∈rows,2<=r.1/\r.1<=m/\1<=r.2.1/\r.2.1<=200:=by
 intro r hr
 have a:=cE h.up r hr
 have b:=aCi (by decide) h.up r hr
 have c:=h.le
 have r2:2<=r.1:=by omega
 have e:=lF r2 r.2.1.toNat
 refine⟨r2,?_,a.2,?_⟩
 ·have:=cW (show 1<=r.1 by omega) (show 1<=r.2.1.toNat by omega)
  rw[Int.pow_one] at this
  omega
 ·apply Int.not_lt.mp
  intro h200
  have:=cW (show (1:Int)<=2 by decide) (show 104<=r.2.1.toNat by omega)
  have q:(2:Int)^104=20282409603651670423947251286016:=by decide
  rw[q] at this
  omega
end MM
namespace MM
theorem aDc {r:Int} (hr:2<=r):∀(m:Nat) (l0 left o:Int),left.toNat=m->DivInv l0 r left o->∃left' o',DivInv l0 r left' o'/\left'%r≠0:=by
 intro m
 induction m using Nat.strongRecOn with
 | _ m ih =>
  intro l0 left o e h
  by_cases hd:left%r=0
  ·obtain⟨h2,lt⟩:=tV hr h hd
   have:=h2.l1
   exact ih _ (by omega) l0 _ _ rfl h2
  ·exact⟨left,o,h,hd⟩
theorem pE {n:Int} (hn:2<=n):∃p,bP p/\n%p=0/\∀d,2<=d->d<p->n%d≠0:=by
 obtain⟨d,⟨d2,dd⟩,_,dl⟩:=gZ (Pr:=fun d=>2<=d/\(d:Int)∣n) n.toNat ⟨by omega,by rw[show ((n.toNat:Nat):Int)=n by omega];exact Int.dvd_refl _⟩
 have lo:∀e:Int,2<=e->e<d->n%e≠0:=fun e e2 ed z=>by
  obtain⟨f,rfl⟩:=Int.eq_ofNat_of_zero_le (show 0<=e by omega)
  exact dl f (by omega) ⟨by omega,Int.dvd_of_emod_eq_zero z⟩
 refine⟨d,⟨by omega,fun e e2 ee z=>?_⟩,Int.emod_eq_zero_of_dvd dd,lo⟩
 have lt:e<d:=by
  have:=Int.mul_le_mul_of_nonneg_right e2 (show 0<=e by omega)
  omega
 exact lo e e2 lt (Int.emod_eq_zero_of_dvd (Int.dvd_trans (Int.dvd_of_emod_eq_zero z) dd))
theorem z9 {n:Int}:∀(m:Nat) (l:List (Int×Int)) (left t:Int),left.toNat=m->PtInv n l left t->∃l',Parts n l':=by
 intro m
 induction m using Nat.strongRecOn with
 | _ m ih =>
  intro l left t e h
  by_cases h1:1<left
  ·obtain⟨p,hp,pd,pl⟩:=pE (show 2<=left by omega)
   obtain⟨left',o,D,hd⟩:=aDc hp.1 _ left left 0 rfl (pL (by omega))
   have tp:t<=p:=Classical.byContradiction fun z=>h.lo p hp.1 (by omega) pd
   obtain⟨I2,o1,lt⟩:=aCe h hp tp pd pl D hd
   have:=I2.l1
   exact ih _ (by omega) _ _ _ rfl I2
  ·exact⟨l,aEf h h1⟩
theorem gJ {n:Int} (h:1<=n):∃l,Parts n l:=z9 _ [] n 2 rfl (zN h)
structure StepInv (a n o d pw:Int):Prop where
 d1:1<=d
 d2:d<=o
 eq:pw=a^d.toNat%n
 no:∀e,1<=e->e<d->¬ Cg n (a^e.toNat) 1
end MM
namespace MM
noncomputable def mev:List Int->Int->Int
 | [],_=>1
 | c::t,x=>c+x*mev t x
theorem wF (r:Int):∀(t q:List Int),q.length<t.length->∃s:List Int,s.length=t.length/\∀x,mev s x=mev t x+r*mev q x
 | [],q,h=>by simp at h
 | a::t,[],_=>⟨(a+r)::t,rfl,fun x=>by simp only[mev];grind⟩
 | a::t,b::q,h=>by
  obtain⟨s,e,hs⟩:=wF r t q (by simpa using h)
  exact⟨(a+r*b)::s,by simp[e],fun x=>by simp only[mev];rw[hs];grind⟩
theorem wE (r:Int):∀(t:List Int) (c:Int),∃q:List Int,q.length=t.length/\∀x,mev (c::t) x-mev (c::t) r=(x-r)*mev q x
 | [],c=>⟨[],rfl,fun x=>by simp only[mev];grind⟩
 | b::t,c=>by
  obtain⟨q,e,hq⟩:=wE r t b
  obtain⟨s,e2,hs⟩:=wF r (b::t) q (by rw[e];simp)
  refine⟨s,e2,fun x=>?_⟩
  rw[hs]
  have h1:=hq x
  have e3:mev (c::b::t) x-mev (c::b::t) r=(x-r)*mev (b::t) x+r*(mev (b::t) x-mev (b::t) r):=by
   rw[show mev (c::b::t) x=c+x*mev (b::t) x from rfl,show mev (c::b::t) r=c+r*mev (b::t) r from rfl];grind
  rw[e3,h1];grind
theorem xQ {p:Int} (hp:bP p):∀(n:Nat) (t:List Int),t.length=n->∀xs:List Int,(xs.Pairwise fun a b=>¬ Cg p a b)->(∀x∈xs,Cg p (mev t x) 0)->xs.length<=n:=by
 intro n
 induction n with
 | zero =>
  intro t ht xs _ h0
  cases t with
  | cons _ _=>simp at ht
  | nil =>
   cases xs with
   | nil=>exact Nat.le_refl _
   | cons x xs =>
    have:=h0 x List.mem_cons_self
    have:p∣1:=by simpa [mev,Cg] using this
    have:=Int.le_of_dvd (by decide) this
    have:=hp.1
    omega
 | succ n ih =>
  intro t ht xs hd h0
  cases t with
  | nil=>simp at ht
  | cons c t =>
   cases xs with
   | nil=>exact Nat.zero_le _
   | cons r xs =>
    obtain⟨q,e,hq⟩:=wE r t c
    have ht':t.length=n:=by simpa using ht
    rw[List.pairwise_cons] at hd
    have:=ih q (by rw[e,ht']) xs hd.2 fun s hs=>by
     have h1:=(h0 s (List.mem_cons_of_mem _ hs)).sub (h0 r List.mem_cons_self)
     rw[hq s] at h1
     have h2:p∣(s-r)*mev q s:=by simpa [Cg] using h1
     rcases bX hp h2 with z | z
     ·exact absurd (Cg.symm z) (hd.1 s hs)
     ·show p∣_;simpa using z
    simp only[List.length_cons]
    omega
theorem wD (x:Int):∀k:Nat,mev (List.replicate k 0) x=x^k
 | 0=>by simp[mev]
 | k+1=>by rw[List.replicate_succ,mev,wD x k,Int.pow_succ];grind
theorem y6 {p:Int}:∀(m:Nat) (lo:Int),0<=lo->lo+m<=p->((List.range m).map fun (i:Nat)=>lo+(i:Int)).Pairwise fun a b=>¬ Cg p a b:=by
 intro m lo h0 h1
 rw[List.pairwise_map]
 refine List.Pairwise.imp_of_mem (R:=fun a b=>a<b) ?_ List.pairwise_lt_range
 intro a b ha hb hab hc
 have hb':=List.mem_range.mp hb
 have:p∣(lo+(b:Int))-(lo+a):=hc.symm
 have:=Int.le_of_dvd (by omega) this
 omega
theorem aCu {p:Int} (hp:bP p) {d:Nat} (h1:1<=d) (hd:(d:Int)<p-1):∃x,1<=x/\x<p/\¬ Cg p (x^d) 1:=by
 refine Classical.byContradiction fun hc=>?_
 have all:∀x,1<=x->x<p->Cg p (x^d) 1:=fun x a b=>Classical.byContradiction fun z=>hc ⟨x,a,b,z⟩
 have p2:=hp.1
 obtain⟨k,rfl⟩:∃k,d=k+1:=⟨d-1,by omega⟩
 have:=xQ hp (k+1) ((-1)::List.replicate k 0) (by simp) ((List.range (p-1).toNat).map fun (i:Nat)=>1+(i:Int)) (y6 _ _ (by decide) (by omega)) fun x hx=>by
  obtain⟨i,hi,rfl⟩:=List.mem_map.mp hx
  have hi:=List.mem_range.mp hi
  have h:=all (1+(i:Int)) (by omega) (by omega)
  rw[mev,wD]
  have:=h.sub (Cg.refl p 1)
  rw[show (1:Int)-1=0 by decide] at this
  rw[Int.pow_succ] at this
  rwa [show -1+(1+(i:Int))*(1+(i:Int))^k=(1+(i:Int))^k*(1+(i:Int))-1 by grind]
 rw[List.length_map,List.length_range] at this
 omega
theorem Ord.dvd {a n o:Int} (h:Ord a n o) {e:Nat} (hc:Cg n (a^e) 1):o.toNat∣e:=by
 have op:=h.pos
 by_cases z:e%o.toNat=0
 ·exact Nat.dvd_of_mod_eq_zero z
 ·exfalso
  have lt:e%o.toNat<o.toNat:=Nat.mod_lt _ (by omega)
  refine h.least (e%o.toNat:Nat) (by omega) (by omega) ?_
  rw[Int.toNat_natCast]
  have ee:e=o.toNat*(e/o.toNat)+e%o.toNat:=(Nat.div_add_mod _ _).symm
  rw[ee,Int.pow_add,Int.pow_mul] at hc
  have h1:=h.cg.pow (e/o.toNat)
  rw[Int.one_pow] at h1
  have h2:=h1.mul (Cg.refl n (a^(e%o.toNat)))
  rw[Int.one_mul] at h2
  exact h2.symm.trans hc
theorem aCp {a b n:Int} {x y:Nat} (ha:Ord a n x) (hb:Ord b n y) (hg:Nat.Coprime x y):Ord (a*b) n ((x*y:Nat):Int):=by
 have x1:=ha.pos
 have y1:=hb.pos
 have ca:=ha.cg
 have cb:=hb.cg
 rw[Int.toNat_natCast] at ca cb
 have xy:1<=x*y:=Nat.mul_pos (by omega) (by omega)
 have key:∀ {a b:Int} {x y:Nat},Ord a n x->Ord b n y->Nat.Coprime x y->∀q:Nat,2<=q->q∣x->¬ Cg n ((a*b)^(x*y/q)) 1:=by
  intro a b x y ha hb hg q q2 qx z
  obtain⟨c,rfl⟩:=qx
  have cb:=hb.cg
  rw[Int.toNat_natCast] at cb
  have c1:1<=c:=by
   have:=ha.pos
   cases c with
   | zero=>simp at this
   | succ c=>omega
  have e:q*c*y/q=c*y:=by rw[Nat.mul_assoc,Nat.mul_div_cancel_left _ (by omega)]
  rw[e,mF] at z
  have h1:Cg n (b^(c*y)) 1:=fY cb ⟨c,Nat.mul_comm _ _⟩
  have h2:=(Cg.refl n (a^(c*y))).mul h1
  rw[Int.mul_one] at h2
  have h3:=h2.symm.trans z
  have d:=ha.dvd h3
  rw[Int.toNat_natCast] at d
  have d2:q*c∣c:=hg.dvd_of_dvd_mul_right d
  have:=Nat.le_of_dvd (by omega) d2
  have:=Nat.mul_le_mul_right c q2
  omega
 refine aAe (by omega) ?_ fun q hq qd=>?_
 ·rw[Int.toNat_natCast,mF]
  have h1:Cg n (a^(x*y)) 1:=fY ca ⟨y,rfl⟩
  have h2:Cg n (b^(x*y)) 1:=fY cb ⟨x,Nat.mul_comm _ _⟩
  have:=h1.mul h2
  rwa [Int.one_mul] at this
 ·have q2:=hq.1
  obtain⟨r,rfl⟩:=Int.eq_ofNat_of_zero_le (show 0<=q by omega)
  have qd':r∣x*y:=Int.natCast_dvd_natCast.mp qd
  rw[show ((x*y:Nat):Int)/(r:Int)=((x*y/r:Nat):Int) from (Int.natCast_ediv _ _).symm,Int.toNat_natCast]
  by_cases hx:r∣x
  ·exact key ha hb hg r (by omega) hx
  ·have hy:=gU hq qd' hx
   have:=key hb ha hg.symm r (by omega) hy
   rwa [Int.mul_comm a b,Nat.mul_comm x y]
theorem aAd {p:Int} (hp:bP p) {q:Int} {k:Nat} (hq:bP q) (hk:1<=k) (hd:q^k∣p-1):∃y,Ord y p (q^k):=by
 have p2:=hp.1
 have q2:=hq.1
 obtain⟨m,hm⟩:=hd
 obtain⟨j,rfl⟩:∃j,k=j+1:=⟨k-1,by omega⟩
 have m1:1<=m:=by
  refine Classical.byContradiction fun z=>?_
  have:=cP (show 1<=q by omega) (j+1)
  have:=Int.mul_le_mul_of_nonneg_left (show m<=0 by omega) (show 0<=q^(j+1) by omega)
  omega
 have qj:=cP (show 1<=q by omega) j
 have em:q^(j+1)*m=q*(q^j*m):=by rw[Int.pow_succ];grind
 have d1:1<=q^j*m:=by
  have:=Int.mul_le_mul qj m1 (by decide) (by omega)
  omega
 have d2:q^j*m<p-1:=by
  have:=Int.mul_le_mul_of_nonneg_right q2 (show 0<=q^j*m by omega)
  omega
 obtain⟨x,x1,x2,hx⟩:=aCu hp (d:=(q^j*m).toNat) (by omega) (by omega)
 have nx:¬ p∣x:=fun z=>by have:=Int.le_of_dvd (by omega) z;omega
 have f:=g5 hp nx
 have qn:(q^(j+1)).toNat=q.toNat^(j+1):=oR (by omega) _
 have qn':(q^j).toNat=q.toNat^j:=oR (by omega) _
 refine⟨x^m.toNat,aAe (by have:=cP (show 1<=q by omega) (j+1);omega) ?_ fun r hr rd=>?_⟩
 ·rw[<- Int.pow_mul]
  have e:m.toNat*(q^(j+1)).toNat=(p-1).toNat:=by
   have:=cP (show 1<=q by omega) (j+1)
   rw[hm,Int.toNat_mul (by omega) (by omega),Nat.mul_comm]
  rw[e];exact f
 ·have rq:r=q:=jW hr hq (iG hr rd)
  subst rq
  rw[<- Int.pow_mul]
  have e1:r^(j+1)/r=r^j:=by rw[Int.pow_succ,Int.mul_ediv_cancel _ (by omega)]
  rw[e1]
  have e:m.toNat*(r^j).toNat=(r^j*m).toNat:=by rw[Int.toNat_mul (by omega) (by omega),Nat.mul_comm]
  rw[e];exact hx
theorem oY {p:Int} (hp:bP p):∀(l:List (Int×Int)),PartsOk l->prod l∣p-1->∃g,Ord g p (prod l)
 | [],_,_=>⟨1,by decide,by rw[Int.one_pow];exact Cg.refl _ _,fun e a b=>by simp only[prod] at b;omega⟩
 | q::l,h,hd=>by
  have hq:=h.pr q List.mem_cons_self
  have q2:=hq.1.1
  have d1:q.1^q.2.toNat∣p-1:=Int.dvd_trans ⟨prod l,rfl⟩ hd
  have d2:prod l∣p-1:=Int.dvd_trans ⟨q.1^q.2.toNat,by rw[prod,Int.mul_comm]⟩ hd
  obtain⟨y,hy⟩:=aAd hp hq.1 (by have:=hq.2;omega) d1
  obtain⟨g,hg⟩:=oY hp l h.tail d2
  have e1:=cP (show 1<=q.1 by omega) q.2.toNat
  have e2:=dE h.tail.pr
  have nd:=h.head_not
  obtain⟨a,ha⟩:=Int.eq_ofNat_of_zero_le (show 0<=q.1^q.2.toNat by omega)
  obtain⟨b,hb⟩:=Int.eq_ofNat_of_zero_le (show 0<=prod l by omega)
  rw[ha] at hy
  rw[hb] at hg
  have cop:Nat.Coprime a b:=by
   have e3:a=q.1.natAbs^q.2.toNat:=by rw[<- Int.natAbs_pow,ha];rfl
   have e4:b=(prod l).natAbs:=by rw[hb];rfl
   rw[e3,e4]
   refine Nat.Coprime.pow_left _ ?_
   obtain⟨m,hm⟩:=Int.eq_ofNat_of_zero_le (show 0<=q.1 by omega)
   have hp':=hq.1
   rw[hm] at hp' nd ⊢
   exact iH hp' fun z=>nd (Int.natAbs_dvd_natAbs.mp z)
  refine⟨y*g,?_⟩
  rw[prod,ha,hb,<- Int.natCast_mul]
  exact aCp hy hg cop
theorem Ord.rest {a n o:Int} (h:Ord a n o):Ord (a%n) n o :=
 ⟨h.pos,((b7 n a).pow _).trans h.cg,fun e e1 e2 z=>h.least e e1 e2 (((b7 n a).pow _).symm.trans z)⟩
theorem oW {p:Int} (hp:bP p):∃g,1<=g/\g<p/\Ord g p (p-1):=by
 have p2:=hp.1
 obtain⟨l,hl⟩:=gJ (show 1<=p-1 by omega)
 obtain⟨g,hg⟩:=oY hp l hl.1 (by rw[hl.2];exact Int.dvd_refl _)
 rw[hl.2] at hg
 have hr:=hg.rest
 refine⟨g%p,?_,Int.emod_lt_of_pos _ (by omega),hr⟩
 have h0:=Int.emod_nonneg g (show p≠0 by omega)
 refine Classical.byContradiction fun z=>?_
 have e:g%p=0:=by omega
 have c:=hr.cg
 rw[e,Int.zero_pow (by omega)] at c
 have:p∣1:=by
  have:=Cg.symm c
  simpa [Cg] using this
 have:=Int.le_of_dvd (by decide) this
 omega
end MM
namespace MM
noncomputable def pl (n:Int):List (Int×Int):=@dite _ (1<=n) (Classical.propDecidable _) (fun h=>Classical.choose (gJ h)) (fun _=>[])
theorem xX {p:Int} {l:List (Int×Int)} {j:Nat} (hp:bP p) (hj:p<=2^(j+1)) (hl:Parts (p-1) l) {q:Int×Int} (hq:q∈l):q.1<=2^j:=by
 have hqp:=(hl.1.pr q hq).1
 have q2:=hqp.1
 have p2:=hp.1
 have hd:q.1∣p-1:=by rw[<- hl.2];exact jB hl.1.pr hq
 have hle:=Int.le_of_dvd (by omega) hd
 rw[Int.pow_succ] at hj
 by_cases e:q.1=2
 ·omega
 ·have odd:p%2=1:=by
   by_cases h4:4<=p
   ·have:=hp.2 2 (by omega) (by omega)
    omega
   ·omega
  obtain⟨m,hm⟩:∃m,p-1=2*m:=⟨(p-1)/2,by omega⟩
  rw[hm] at hd
  rcases bX hqp hd with h | h
  ·have:=Int.le_of_dvd (by omega) h
   omega
  ·have:=Int.le_of_dvd (by omega) h
   omega
noncomputable def aBp (b p:Int) (l:List (Int×Int)):Prop:=∀q∈l,¬ Cg p (b^((p-1)/q.1).toNat) 1
structure LRoot (p b:Int):Prop where
 b1:1<=b
 b2:b<p
 ord:Ord b p (p-1)
 no:∀x,1<=x->x<b->¬ Ord x p (p-1)
noncomputable def lroot (p:Int):Int:=@dite _ (∃b,LRoot p b) (Classical.propDecidable _) (fun h=>Classical.choose h) (fun _=>0)
end MM
namespace MM
open PySem L2
noncomputable def pwq (q:Int×Int):Int:=q.1^q.2.toNat
noncomputable abbrev dsc (l:List (Int×Int)):Prop:=l.Pairwise fun x y=>pwq y<pwq x
theorem dF (q:Int×Int) (l:List (Int×Int)):prod (q::l)=pwq q*prod l:=rfl
theorem xT {a b:List (Int×Int)} (h:a.Perm b):prod a=prod b:=by
 induction h with
 | nil=>rfl
 | cons x _ ih=>rw[dF,dF,ih]
 | swap x y l=>rw[dF,dF,dF,dF,<- Int.mul_assoc,<- Int.mul_assoc,Int.mul_comm (pwq y)]
 | trans _ _ h1 h2=>exact h1.trans h2
theorem l5 (l:List (Int×Int)) (q:Int×Int):prod (l++[q])=prod l*pwq q:=by
 rw[xT (List.perm_append_comm),Int.mul_comm]
 show pwq q*(prod l)=_
 rfl
theorem iE:∀a b:List (Int×Int),prod (a++b)=prod a*prod b
 | [],b=>by rw[List.nil_append];show _=1*prod b;rw[Int.one_mul]
 | q::r,b=>by rw[List.cons_append,dF,dF,iE r b,Int.mul_assoc]
noncomputable def Pos (l:List (Int×Int)):Prop:=∀q∈l,1<=pwq q
structure Few (p:Int) (l':List (Int×Int)) (m:Nat):Prop where
 pm:l'.Perm (pl (p-1))
 ds:dsc l'
 ml:m<=l'.length
 big:p<prod (l'.take m)*prod (l'.take m)
 sm:∀j,j<m->prod (l'.take j)*prod (l'.take j)<=p
section
variable {p:Int} {l':List (Int×Int)} {m:Nat}
end
structure LBs (p b:Int) (l:List (Int×Int)):Prop where
 b1:1<=b
 b2:b<p
 ok:aBp b p l
 no:∀x,1<=x->x<b->¬ aBp x p l
structure SPd (n:Int) (l':List (Int×Int)) (m:Nat) (l:List (Int×Int)) (b:Int):Prop where
 few:Few n l' m
 pm:l.Perm (l'.take m)
 up:l.Pairwise fun x y=>x.1<y.1
 lb:LBs n b l
theorem mW {p a:Int} (hp:bP p) (h:¬ p∣a):Int.gcd a p=1:=by
 have p2:=hp.1
 have d1:=Int.gcd_dvd_left (a:=a) (b:=p)
 have d2:=Int.gcd_dvd_right (a:=a) (b:=p)
 refine Classical.byContradiction fun c=>?_
 have pos:0<Int.gcd a p:=Int.gcd_pos_of_ne_zero_right a (by omega)
 have e:((Int.gcd a p:Nat):Int)=p:=qO hp (by omega) d2
 rw[e] at d1
 exact h d1
end MM
namespace MM
theorem uO {p:Nat} (hp:bP p) (h3:3<=p):p%2=1:=by
 by_cases h4:p=3
 ·omega
 ·have:=hp.2 2 (by decide) (by omega)
  omega
end MM
namespace MM
noncomputable def pa (A B:PZ):PZ:=(A.1+B.1,A.2+B.2)
noncomputable def ps (c:Int) (A:PZ):PZ:=(c*A.1,c*A.2)
noncomputable def bip (d:Int) (A:PZ) (n:Nat):Nat->PZ
 | 0=>(0,0)
 | m+1=>pa (bip d A n m) (ps (ch n m) (pw d A m))
theorem cA {A B:PZ} (h1:A.1=B.1) (h2:A.2=B.2):A=B:=Prod.ext h1 h2
theorem t8 (d:Int) (A:PZ) (n:Nat):∀m,bip d A (n+1) (m+1)=pa (bip d A n (m+1)) (pm d (bip d A n m) A)
 | 0=>by
  refine cA ?_ ?_ <;> simp[bip,pa,ps,pm,pw,fA]
 | m+1=>by
  rw[show bip d A (n+1) (m+1+1)=pa (bip d A (n+1) (m+1)) (ps (ch (n+1) (m+1)) (pw d A (m+1))) from rfl,t8 d A n m,g8,
   show bip d A n (m+1+1)=pa (bip d A n (m+1)) (ps (ch n (m+1)) (pw d A (m+1))) from rfl,show bip d A n (m+1)=pa (bip d A n m) (ps (ch n m) (pw d A m)) from rfl,show pw d A (m+1)=pm d (pw d A m) A from rfl,Int.natCast_add]
  generalize bip d A n m=X
  generalize pw d A m=Y
  obtain⟨x1,x2⟩:=X
  obtain⟨y1,y2⟩:=Y
  obtain⟨a1,a2⟩:=A
  generalize (ch n m:Int)=u
  generalize (ch n (m+1):Int)=v
  refine cA ?_ ?_ <;> simp only[pa,ps,pm] <;> grind
theorem w8 (d:Int) (A:PZ):∀n:Nat,pw d (pa A (1,0)) n=bip d A n (n+1)
 | 0=>by refine cA ?_ ?_ <;> simp[bip,pa,ps,pw,fA]
 | n+1=>by
  rw[t8,show bip d A n (n+1+1)=pa (bip d A n (n+1)) (ps (ch n (n+1)) (pw d A (n+1))) from rfl,eY n (n+1) (by omega),show pw d (pa A (1,0)) (n+1)=pm d (pw d (pa A (1,0)) n) (pa A (1,0)) from rfl,w8 d A n]
  generalize bip d A n (n+1)=X
  generalize pw d A (n+1)=Y
  obtain⟨x1,x2⟩:=X
  obtain⟨y1,y2⟩:=Y
  obtain⟨a1,a2⟩:=A
  refine cA ?_ ?_ <;> simp only[pa,ps,pm] <;> grind
theorem aBk {p:Nat} (h:bP p) (d:Int) (A:PZ):∀m,m<p->CP p (bip d A p (m+1)) (1,0)
 | 0,_=>by
  have:bip d A p 1=(1,0):=by refine cA ?_ ?_ <;> simp[bip,pa,ps,pw,fA]
  rw[this];exact CP.refl _ _
 | m+1,hm=>by
  have h1:=aBk h d A m (by omega)
  obtain⟨c,hc⟩:=aDs h (k:=m+1) (by omega) hm
  have z:∀x:Int,Cg p ((ch p (m+1):Int)*x) 0:=fun x=>⟨c*x,by rw[hc,Int.natCast_mul];grind⟩
  constructor
  ·have:=h1.1.add (z (pw d A (m+1)).1)
   rwa [Int.add_zero] at this
  ·have:=h1.2.add (z (pw d A (m+1)).2)
   rwa [Int.add_zero] at this
theorem frob {p:Nat} (h:bP p) (d:Int) (A:PZ):CP p (pw d (pa A (1,0)) p) (pa (pw d A p) (1,0)):=by
 have p2:=h.1
 obtain⟨n,hn⟩:∃n,p=n+1:=⟨p-1,by omega⟩
 have e2:=aBk h d A n (by omega)
 rw[<- hn] at e2
 rw[w8,show bip d A p (p+1)=pa (bip d A p p) (ps (ch p p) (pw d A p)) from rfl,rX]
 have e:pa (bip d A p p) (ps ((1:Nat):Int) (pw d A p))=pa (pw d A p) (bip d A p p):=by
  refine cA ?_ ?_ <;> simp[pa,ps] <;> omega
 rw[e]
 exact⟨(Cg.refl _ _).add e2.1,(Cg.refl _ _).add e2.2⟩
theorem vQ (d:Int):∀k:Nat,pw d (0,1) (2*k+1)=(0,d^k)
 | 0=>by refine cA ?_ ?_ <;> simp[pw,pm]
 | k+1=>by
  rw[show 2*(k+1)+1=2*k+1+1+1 by omega,pw,pw,vQ d k,Int.pow_succ]
  refine cA ?_ ?_ <;> simp[pm] <;> grind
theorem vR {p:Nat} (h:bP p) (h3:3<=p) {d:Int} (hd:Cg p (d^(p/2)) (-1)):∀f:Nat,CP p (pw d ((f:Int),1) p) ((f:Int),-1)
 | 0=>by
  have ho:=uO h h3
  have e:pw d (((0:Nat):Int),1) p=(0,d^(p/2)):=by
   have:=vQ d (p/2)
   rwa [show 2*(p/2)+1=p by omega] at this
  rw[e]
  exact⟨Cg.refl _ _,hd⟩
 | f+1=>by
  have ih:=vR h h3 hd f
  have e:(((f+1:Nat):Int),(1:Int))=pa ((f:Int),1) (1,0):=by refine cA ?_ ?_ <;> simp[pa]
  rw[e]
  refine(frob h d _).trans ?_
  constructor
  ·have:=ih.1.add (Cg.refl (p:Int) 1)
   rw[Int.natCast_add];exact this
  ·exact ih.2.add (Cg.refl (p:Int) 0)
end MM
namespace MM
noncomputable def nmP (d:Int) (A:PZ):Int:=A.1*A.1-d*(A.2*A.2)
theorem aAn (d:Int) (A B:PZ):nmP d (pm d A B)=nmP d A*nmP d B:=by
 unfold nmP pm;simp only;grind
noncomputable def aBo (p d:Int):Prop:=∀x,¬ Cg p (x*x) d
theorem rM {p a:Int} (hp:bP p) (ha:¬ p∣a):∃s,Cg p (s*a) 1:=by
 have p2:=hp.1
 refine⟨a^(p-2).toNat,?_⟩
 have f:=g5 hp ha
 rw[show (p-1).toNat=(p-2).toNat+1 by omega,Int.pow_succ] at f
 exact f
theorem dv0 {p a:Int}:Cg p a 0↔p∣a:=by unfold Cg;rw[Int.sub_zero]
theorem fU {p d:Int} (hp:bP p) (hd:aBo p d) {A:PZ} (h:p∣nmP d A):CP p A (0,0):=by
 have hy:p∣A.2:=by
  refine Classical.byContradiction fun ny=>?_
  obtain⟨s,hs⟩:=rM hp ny
  refine hd (A.1*s) ?_
  have h1:Cg p (A.1*A.1) (d*(A.2*A.2)):=h
  have h2:=(h1.mul (Cg.refl p (s*s)))
  have h3:=(Cg.refl p d).mul (hs.mul hs)
  have e1:A.1*A.1*(s*s)=A.1*s*(A.1*s):=by grind
  have e2:d*(A.2*A.2)*(s*s)=d*(s*A.2*(s*A.2)):=by grind
  rw[e1,e2] at h2
  have h4:=h2.trans h3
  rwa [Int.mul_one,Int.mul_one] at h4
 have hx:p∣A.1*A.1:=by
  obtain⟨k,hk⟩:=hy
  obtain⟨m,hm⟩:=h
  refine⟨m+d*(k*A.2),?_⟩
  unfold nmP at hm
  have:A.1*A.1=p*m+d*(A.2*A.2):=by omega
  rw[this]
  have e:d*(A.2*A.2)=p*(d*(k*A.2)):=by
   have e0:A.2*A.2=p*(k*A.2):=by
    rw[<- Int.mul_assoc,<- hk]
   rw[e0];grind
  rw[e];grind
 refine⟨dv0.mpr ?_,dv0.mpr hy⟩
 rcases bX hp hx with z | z <;> exact z
theorem vB {p d:Int} {A:PZ} (h:CP p A (0,0)):p∣nmP d A:=by
 have h1:=h.1.mul h.1
 have h2:=(Cg.refl p d).mul (h.2.mul h.2)
 have:=h1.sub h2
 have e:(0:Int)*0-d*(0*0)=0:=by simp
 have h3:Cg p (A.1*A.1-d*(A.2*A.2)) ((0:Int)*0-d*(0*0)):=this
 rw[e] at h3
 exact dv0.mp h3
theorem dom {p d:Int} (hp:bP p) (hd:aBo p d) {A B:PZ} (h:CP p (pm d A B) (0,0)):CP p A (0,0)\/CP p B (0,0):=by
 have:=vB (d:=d) h
 rw[aAn] at this
 rcases bX hp this with z | z
 ·exact .inl (fU hp hd z)
 ·exact .inr (fU hp hd z)
noncomputable def sb (A B:PZ):PZ:=(A.1-B.1,A.2-B.2)
theorem sb_cp {p:Int} {A B:PZ}:CP p (sb A B) (0,0)↔CP p A B:=by
 unfold CP sb Cg;simp
noncomputable def mvP (d:Int):List PZ->PZ->PZ
 | [],_=>(1,0)
 | c::t,x=>pa c (pm d x (mvP d t x))
theorem wC (d:Int) (r:PZ):∀(t q:List PZ),q.length<t.length->∃s:List PZ,s.length=t.length/\∀x,mvP d s x=pa (mvP d t x) (pm d r (mvP d q x))
 | [],q,h=>by simp at h
 | a::t,[],_=>⟨pa a r::t,rfl,fun x=>by simp only[mvP];refine cA ?_ ?_ <;> simp only[pa,pm] <;> grind⟩
 | a::t,b::q,h=>by
  obtain⟨s,e,hs⟩:=wC d r t q (by simpa using h)
  exact⟨pa a (pm d r b)::s,by simp[e],fun x=>by simp only[mvP];rw[hs];refine cA ?_ ?_ <;> simp only[pa,pm] <;> grind⟩
theorem wB (d:Int) (r:PZ):∀(t:List PZ) (c:PZ),∃q:List PZ,q.length=t.length/\∀x,sb (mvP d (c::t) x) (mvP d (c::t) r)=pm d (sb x r) (mvP d q x)
 | [],c=>⟨[],rfl,fun x=>by simp only[mvP];refine cA ?_ ?_ <;> simp only[pa,pm,sb] <;> grind⟩
 | b::t,c=>by
  obtain⟨q,e,hq⟩:=wB d r t b
  obtain⟨s,e2,hs⟩:=wC d r (b::t) q (by rw[e];simp)
  refine⟨s,e2,fun x=>?_⟩
  rw[hs]
  have h1:=hq x
  have h11:=congrArg Prod.fst h1
  have h12:=congrArg Prod.snd h1
  rw[show mvP d (c::b::t) x=pa c (pm d x (mvP d (b::t) x)) from rfl,show mvP d (c::b::t) r=pa c (pm d r (mvP d (b::t) r)) from rfl]
  generalize mvP d (b::t) x=U at *
  generalize mvP d (b::t) r=V at *
  generalize mvP d q x=Y at *
  simp only[sb,pm] at h11 h12
  refine cA ?_ ?_ <;> simp only[pa,pm,sb] <;> grind
theorem uN {p d:Int} (hp:bP p) (hd:aBo p d):∀(n:Nat) (t:List PZ),t.length=n->∀xs:List PZ,(xs.Pairwise fun a b=>¬ CP p a b)->(∀x∈xs,CP p (mvP d t x) (0,0))->xs.length<=n:=by
 intro n
 induction n with
 | zero =>
  intro t ht xs _ h0
  cases t with
  | cons _ _=>simp at ht
  | nil =>
   cases xs with
   | nil=>exact Nat.le_refl _
   | cons x xs =>
    have:=(h0 x List.mem_cons_self).1
    have:p∣1:=dv0.mp this
    have:=Int.le_of_dvd (by decide) this
    have:=hp.1
    omega
 | succ n ih =>
  intro t ht xs hx h0
  cases t with
  | nil=>simp at ht
  | cons c t =>
   cases xs with
   | nil=>exact Nat.zero_le _
   | cons r xs =>
    obtain⟨q,e,hq⟩:=wB d r t c
    have ht':t.length=n:=by simpa using ht
    rw[List.pairwise_cons] at hx
    have:=ih q (by rw[e,ht']) xs hx.2 fun s hs=>by
     have h1:CP p (sb (mvP d (c::t) s) (mvP d (c::t) r)) (0,0):=sb_cp.mpr ((h0 s (List.mem_cons_of_mem _ hs)).trans (h0 r List.mem_cons_self).symm)
     rw[hq s] at h1
     rcases dom hp hd h1 with z | z
     ·exact absurd (sb_cp.mp z).symm (hx.1 s hs)
     ·exact z
    simp only[List.length_cons]
    omega
theorem wA (d:Int) (x:PZ):∀k:Nat,mvP d (List.replicate k (0,0)) x=pw d x k
 | 0=>rfl
 | k+1=>by
  rw[List.replicate_succ,mvP,wA d x k,pw,iZ d (pw d x k) x]
  refine cA ?_ ?_ <;> simp[pa]
theorem tD {p d:Int} (hp:bP p) (hd:aBo p d) {m:Nat} (hm:1<=m) (xs:List PZ) (hx:xs.Pairwise fun a b=>¬ CP p a b) (h:∀x∈xs,CP p (pw d x m) (1,0)):xs.length<=m:=by
 obtain⟨k,rfl⟩:∃k,m=k+1:=⟨m-1,by omega⟩
 refine uN hp hd (k+1) ((-1,0)::List.replicate k (0,0)) (by simp) xs hx fun x hx=>?_
 have h1:=h x hx
 rw[mvP,wA,iZ]
 show CP p (pa (-1,0) (pw d x (k+1))) (0,0)
 have h2:=sb_cp.mpr h1
 have e:pa (-1,0) (pw d x (k+1))=sb (pw d x (k+1)) (1,0):=by
  refine cA ?_ ?_ <;> simp only[pa,sb] <;> omega
 rw[e];exact h2
end MM
namespace MM
noncomputable def cj (A:PZ):PZ:=(A.1,-A.2)
theorem aGa (d:Int) (A B:PZ):cj (pm d A B)=pm d (cj A) (cj B):=by
 refine cA ?_ ?_ <;> simp only[cj,pm] <;> grind
theorem aDy (d:Int) (A:PZ):∀k,pw d (cj A) k=cj (pw d A k)
 | 0=>by refine cA ?_ ?_ <;> simp[pw,cj]
 | k+1=>by rw[pw,pw,aDy d A k,aGa]
theorem aGb {p:Int} {A B:PZ} (h:CP p A B):CP p (cj A) (cj B):=⟨h.1,by
 have:=(Cg.refl p 0).sub h.2
 rw[Int.zero_sub,Int.zero_sub] at this
 exact this⟩
theorem sV (d:Int) (A B:PZ):∀k,pw d (pm d A B) k=pm d (pw d A k) (pw d B k)
 | 0=>by refine cA ?_ ?_ <;> simp[pw,pm]
 | k+1=>by
  rw[pw,pw,pw,sV d A B k]
  refine cA ?_ ?_ <;> simp only[pm] <;> grind
theorem lY (d:Int) (A:PZ) (a:Nat):∀b,pw d A (a*b)=pw d (pw d A a) b
 | 0=>rfl
 | b+1=>by rw[Nat.mul_succ,lZ,lY d A a b,pw]
theorem lX (d:Int):∀k,pw d (1,0) k=(1,0)
 | 0=>rfl
 | k+1=>by rw[pw,lX d k,fS]
structure Fld (p:Nat) (d:Int):Prop where
 pr:bP (p:Int)
 p3:3<=p
 ns:aBo p d
 eu:Cg p (d^(p/2)) (-1)
noncomputable def Uf (p:Nat) (d:Int) (f:Nat) (u:PZ):Prop:=CP p (pm d ((f:Int),-1) u) ((f:Int),1)
variable {p:Nat} {d:Int}
theorem yX (F:Fld p d) (f:Int) (e:Int) (he:e=1\/e = -1):¬ CP p (f,e) (0,0):=fun z=>by
 have h:(p:Int)∣e:=dv0.mp z.2
 have p3:=F.p3
 rcases he with rfl | rfl
 ·have:=Int.le_of_dvd (by decide) h;omega
 ·have:=Int.le_of_dvd (by decide) (Int.dvd_neg.mpr h);omega
theorem cancel (F:Fld p d) {A B C:PZ} (ha:¬ CP p A (0,0)) (h:CP p (pm d A B) (pm d A C)):CP p B C:=by
 have h1:=sb_cp.mpr h
 have e:sb (pm d A B) (pm d A C)=pm d A (sb B C):=by refine cA ?_ ?_ <;> simp only[sb,pm] <;> grind
 rw[e] at h1
 rcases dom F.pr F.ns h1 with z | z
 ·exact absurd z ha
 ·exact sb_cp.mp z
theorem Uf.ex (F:Fld p d) (f:Nat):∃u,Uf p d f u:=by
 have nz:¬ (p:Int)∣nmP d ((f:Int),1):=fun z=>yX F _ _ (.inl rfl) (fU F.pr F.ns z)
 obtain⟨s,hs⟩:=rM F.pr nz
 refine⟨ps s (pm d ((f:Int),1) ((f:Int),1)),?_⟩
 have e:pm d ((f:Int),-1) (ps s (pm d ((f:Int),1) ((f:Int),1)))=(s*nmP d ((f:Int),1)*f,s*nmP d ((f:Int),1)*1):=by
  refine cA ?_ ?_ <;> simp only[ps,pm,nmP] <;> grind
 unfold Uf
 rw[e]
 have h1:=hs.mul (Cg.refl p (f:Int))
 have h2:=hs.mul (Cg.refl p 1)
 rw[Int.one_mul] at h1
 rw[Int.one_mul] at h2
 exact⟨h1,h2⟩
theorem Uf.one (F:Fld p d) {f:Nat} {u:PZ} (h:Uf p d f u):¬ CP p u (1,0):=fun z=>by
 have h1:=(CP.refl (p:Int) ((f:Int),-1)).mul (d:=d) z
 rw[fS] at h1
 have h2:=(h1.symm.trans h).2
 have h3:(p:Int) ∣ -1-1:=h2
 have p3:=F.p3
 have:=Int.le_of_dvd (by decide) (Int.dvd_neg.mpr h3)
 omega
theorem Uf.inj (F:Fld p d) {f g:Nat} {u v:PZ} (hf:Uf p d f u) (hg:Uf p d g v) (e:CP p u v) (f1:f<p) (g1:g<p):f=g:=by
 have hg':CP p (pm d ((g:Int),-1) u) ((g:Int),1):=((CP.refl _ _).mul e).trans hg
 have a1:=hf.1.sub hg'.1
 have a2:=hf.2.sub hg'.2
 have key:CP p (pm d ((f:Int)-g,0) (sb u (1,0))) (0,0):=by
  have e1:(pm d ((f:Int)-g,0) (sb u (1,0))).1=(pm d ((f:Int),-1) u).1-(pm d ((g:Int),-1) u).1-((f:Int)-g):=by simp only[pm,sb];grind
  have e2:(pm d ((f:Int)-g,0) (sb u (1,0))).2=(pm d ((f:Int),-1) u).2-(pm d ((g:Int),-1) u).2:=by simp only[pm,sb];grind
  refine⟨?_,?_⟩
  ·rw[e1]
   have:=a1.sub (Cg.refl p ((f:Int)-g))
   have e3:(f:Int)-g-((f:Int)-g)=0:=by omega
   have h:Cg p ((pm d ((f:Int),-1) u).1-(pm d ((g:Int),-1) u).1-((f:Int)-g)) ((f:Int)-g-((f:Int)-g)):=this
   rwa [e3] at h
  ·rw[e2]
   have e3:(1:Int)-1=0:=by decide
   have h:Cg p ((pm d ((f:Int),-1) u).2-(pm d ((g:Int),-1) u).2) (1-1):=a2
   rwa [e3] at h
 rcases dom F.pr F.ns key with z | z
 ·have h:(p:Int)∣(f:Int)-g:=dv0.mp z.1
  by_cases lt:f<g
  ·have:=Int.le_of_dvd (by omega) (Int.dvd_neg.mpr h);omega
  ·by_cases gt:g<f
   ·have:=Int.le_of_dvd (by omega) h;omega
   ·omega
 ·exact absurd (sb_cp.mp z) (hf.one F)
theorem Uf.home (F:Fld p d) {f:Nat} {u:PZ} (h:Uf p d f u):CP p (pw d u (p+1)) (1,0):=by
 have fr:=vR F.pr F.p3 F.eu f
 have fc:=aGb fr
 rw[<- aDy] at fc
 have c1:cj ((f:Int),1)=((f:Int),-1):=rfl
 have c2:cj ((f:Int),-1)=((f:Int),1):=by refine cA rfl ?_;simp[cj]
 rw[c1,c2] at fc
 have h1:CP p (pw d ((f:Int),-1) (p+1)) (nmP d ((f:Int),1),0):=by
  have:=fc.mul (d:=d) (CP.refl (p:Int) ((f:Int),-1))
  have e:pm d ((f:Int),1) ((f:Int),-1)=(nmP d ((f:Int),1),0):=by refine cA ?_ ?_ <;> simp only[pm,nmP] <;> grind
  rw[e] at this
  exact this
 have h2:CP p (pw d ((f:Int),1) (p+1)) (nmP d ((f:Int),1),0):=by
  have:=fr.mul (d:=d) (CP.refl (p:Int) ((f:Int),1))
  have e:pm d ((f:Int),-1) ((f:Int),1)=(nmP d ((f:Int),1),0):=by refine cA ?_ ?_ <;> simp only[pm,nmP] <;> grind
  rw[e] at this
  exact this
 have h3:=CP.pw (d:=d) h (p+1)
 rw[sV] at h3
 have nz:¬ CP p (pw d ((f:Int),-1) (p+1)) (0,0):=fun z=>by
  have:=dv0.mp (h1.symm.trans z).1
  exact yX F _ _ (.inl rfl) (fU F.pr F.ns this)
 refine cancel F nz ?_
 rw[fS]
 exact h3.trans (h2.trans h1.symm)
noncomputable def uf (p:Nat) (d:Int) (f:Nat):PZ:=@dite _ (∃u,Uf p d f u) (Classical.propDecidable _) (fun h=>Classical.choose h) (fun _=>(0,0))
theorem sQ (F:Fld p d) (f:Nat):Uf p d f (uf p d f):=by
 unfold uf
 rw[dif_pos (Uf.ex F f)]
 exact Classical.choose_spec (Uf.ex F f)
noncomputable def uB (p:Nat) (d:Int):List PZ:=(1,0)::(List.range p).map (uf p d)
theorem xC (F:Fld p d):(uB p d).Pairwise fun a b=>¬ CP p a b:=by
 unfold uB
 rw[List.pairwise_cons]
 refine⟨fun x hx z=>?_,?_⟩
 ·obtain⟨f,_,rfl⟩:=List.mem_map.mp hx
  exact(sQ F f).one F z.symm
 ·rw[List.pairwise_map]
  refine List.Pairwise.imp_of_mem (R:=fun a b=>a<b) ?_ List.pairwise_lt_range
  intro a b ha hb hab hc
  have:=Uf.inj F (sQ F a) (sQ F b) hc (List.mem_range.mp ha) (List.mem_range.mp hb)
  omega
theorem pW (F:Fld p d):∀x∈uB p d,CP p (pw d x (p+1)) (1,0):=by
 intro x hx
 rcases List.mem_cons.mp hx with rfl | hx
 ·rw[lX];exact CP.refl _ _
 ·obtain⟨f,_,rfl⟩:=List.mem_map.mp hx
  exact(sQ F f).home F
theorem uA:(uB p d).length=p+1:=by unfold uB;simp
theorem aC5 (F:Fld p d) {v:PZ} (hv:CP p (pw d v (p+1)) (1,0)):∃x∈uB p d,CP p v x:=by
 refine Classical.byContradiction fun w=>?_
 have:=tD F.pr F.ns (m:=p+1) (by omega) (v::uB p d) (List.pairwise_cons.mpr ⟨fun x hx z=>w ⟨x,hx,z⟩,xC F⟩) fun x hx=>by
  rcases List.mem_cons.mp hx with rfl | hx
  ·exact hv
  ·exact pW F x hx
 rw[List.length_cons,uA] at this
 omega
theorem aAl (F:Fld p d) {m:Nat} (h1:1<=m) (h2:m<p+1):∃x,CP p (pw d x (p+1)) (1,0)/\¬ CP p (pw d x m) (1,0):=by
 refine Classical.byContradiction fun w=>?_
 have:=tD F.pr F.ns h1 (uB p d) (xC F) fun x hx=>Classical.byContradiction fun z=>w ⟨x,pW F x hx,z⟩
 rw[uA] at this
 omega
structure OrP (p:Nat) (d:Int) (u:PZ) (o:Nat):Prop where
 pos:1<=o
 cg:CP p (pw d u o) (1,0)
 least:∀e,1<=e->e<o->¬ CP p (pw d u e) (1,0)
theorem jU {u:PZ} {a:Nat} (h:CP p (pw d u a) (1,0)) (b:Nat):CP p (pw d u (a*b)) (1,0):=by
 rw[lY]
 have:=CP.pw (d:=d) h b
 rwa [lX] at this
theorem OrP.dvd {u:PZ} {o e:Nat} (h:OrP p d u o) (hc:CP p (pw d u e) (1,0)):o∣e:=by
 have op:=h.pos
 by_cases z:e%o=0
 ·exact Nat.dvd_of_mod_eq_zero z
 ·exfalso
  refine h.least (e%o) (by omega) (Nat.mod_lt _ (by omega)) ?_
  have ee:e=o*(e/o)+e%o:=(Nat.div_add_mod _ _).symm
  have h1:=jU h.cg (e/o)
  rw[ee,lZ] at hc
  have h2:=h1.mul (d:=d) (CP.refl (p:Int) (pw d u (e%o)))
  rw[uW] at h2
  exact h2.symm.trans hc
theorem OrP.of {u:PZ} {o:Nat} (ho:1<=o) (hc:CP p (pw d u o) (1,0)) (hq:∀q:Nat,bP (q:Int)->q∣o->¬ CP p (pw d u (o/q)) (1,0)):OrP p d u o:=by
 obtain⟨e,⟨e1,ec⟩,ele,el⟩:=gZ (Pr:=fun e=>1<=e/\CP p (pw d u e) (1,0)) o ⟨ho,hc⟩
 have E:OrP p d u e:=⟨e1,ec,fun x x1 x2 z=>el x x2 ⟨x1,z⟩⟩
 obtain⟨m,hm⟩:=E.dvd hc
 by_cases m1:m=1
 ·rw[m1,Nat.mul_one] at hm
  rw[hm];exact E
 ·exfalso
  have m2:2<=m:=by
   cases m with
   | zero=>simp at hm;omega
   | succ m=>omega
  obtain⟨q,qp,qd,_⟩:=pE (n:=(m:Int)) (by omega)
  have q2:=qp.1
  obtain⟨r,rfl⟩:=Int.eq_ofNat_of_zero_le (show 0<=q by omega)
  have rd:r∣m:=Int.natCast_dvd_natCast.mp (Int.dvd_of_emod_eq_zero qd)
  obtain⟨k,rfl⟩:=rd
  refine hq r qp ⟨e*k,by rw[hm];grind⟩ ?_
  have ee:o/r=e*k:=by
   rw[hm,show e*(r*k)=r*(e*k) by grind,Nat.mul_div_cancel_left _ (by omega)]
  rw[ee]
  exact jU ec k
theorem OrP.mul {u v:PZ} {x y:Nat} (ha:OrP p d u x) (hb:OrP p d v y) (hg:Nat.Coprime x y):OrP p d (pm d u v) (x*y):=by
 have x1:=ha.pos
 have y1:=hb.pos
 have key:∀ {u v:PZ} {x y:Nat},OrP p d u x->OrP p d v y->Nat.Coprime x y->∀q:Nat,2<=q->q∣x->¬ CP p (pw d (pm d u v) (x*y/q)) (1,0):=by
  intro u v x y ha hb hg q q2 qx z
  obtain⟨c,rfl⟩:=qx
  have c1:1<=c:=by
   have:=ha.pos
   cases c with
   | zero=>simp at this
   | succ c=>omega
  have e:q*c*y/q=c*y:=by rw[Nat.mul_assoc,Nat.mul_div_cancel_left _ (by omega)]
  rw[e,sV] at z
  have h1:CP p (pw d v (c*y)) (1,0):=by rw[Nat.mul_comm];exact jU hb.cg c
  have h2:=(CP.refl (p:Int) (pw d u (c*y))).mul (d:=d) h1
  rw[fS] at h2
  have dd:=ha.dvd (h2.symm.trans z)
  have d2:q*c∣c:=hg.dvd_of_dvd_mul_right dd
  have:=Nat.le_of_dvd (by omega) d2
  have:=Nat.mul_le_mul_right c q2
  omega
 refine .of (Nat.mul_pos (by omega) (by omega)) ?_ fun q hq qd=>?_
 ·rw[sV]
  have h1:=jU ha.cg y
  have h2:=jU hb.cg x
  rw[Nat.mul_comm y x] at h2
  have:=h1.mul (d:=d) h2
  rwa [fS] at this
 ·have q2:=hq.1
  by_cases hx:q∣x
  ·exact key ha hb hg q (by omega) hx
  ·have hy:=gU hq qd hx
   have:=key hb ha hg.symm q (by omega) hy
   rwa [iZ d u v,Nat.mul_comm x y]
noncomputable abbrev Hm (p:Nat) (d:Int) (u:PZ):Prop:=CP p (pw d u (p+1)) (1,0)
theorem Hm.pw {u:PZ} (h:Hm p d u) (k:Nat):Hm p d (pw d u k):=by
 show CP p (MM.pw d (MM.pw d u k) (p+1)) (1,0)
 rw[<- lY,Nat.mul_comm]
 exact jU h k
theorem Hm.mul {u v:PZ} (h:Hm p d u) (g:Hm p d v):Hm p d (pm d u v):=by
 show CP p (MM.pw d (pm d u v) (p+1)) (1,0)
 rw[sV]
 have:=CP.mul (d:=d) h g
 rwa [fS] at this
theorem aCq (F:Fld p d) {q k:Nat} (hq:bP (q:Int)) (hk:1<=k) (hd:q^k∣p+1):∃y,Hm p d y/\OrP p d y (q^k):=by
 have q2:=hq.1
 obtain⟨m,hm⟩:=hd
 obtain⟨j,rfl⟩:∃j,k=j+1:=⟨k-1,by omega⟩
 have m1:1<=m:=by
  cases m with
  | zero=>simp at hm
  | succ m=>omega
 have qj:1<=q^j:=Nat.pow_pos (by omega)
 have em:p+1=q*(q^j*m):=by rw[hm,Nat.pow_succ];grind
 have d1:1<=q^j*m:=Nat.mul_pos qj m1
 have d2:q^j*m<p+1:=by
  rw[em]
  have:=Nat.mul_le_mul_right (q^j*m) (show 2<=q by omega)
  omega
 obtain⟨x,hx,nx⟩:=aAl F d1 d2
 refine⟨pw d x m,Hm.pw hx m,.of (Nat.pow_pos (by omega)) ?_ fun r hr rd=>?_⟩
 ·rw[<- lY,Nat.mul_comm,<- hm];exact hx
 ·have rq:r=q:=by
   have h1:(r:Int)∣(q:Int)^(j+1):=by
    have:=Int.natCast_dvd_natCast.mpr rd
    rwa [Int.natCast_pow] at this
   have:=jW hr hq (iG hr h1)
   exact_mod_cast this
  subst rq
  rw[<- lY]
  have e1:r^(j+1)/r=r^j:=by rw[Nat.pow_succ,Nat.mul_div_cancel _ (by omega)]
  rw[e1,Nat.mul_comm]
  exact nx
theorem tG (F:Fld p d):∀(l:List (Int×Int)),PartsOk l->prod l∣(p:Int)+1->∃g,Hm p d g/\OrP p d g (prod l).toNat
 | [],_,_=>⟨(1,0),by show CP p (pw d (1,0) (p+1)) (1,0);rw[lX];exact CP.refl _ _,by decide,by show CP p (pw d (1,0) 1) (1,0);rw[lX];exact CP.refl _ _,fun e a b=>by
   have:(prod []).toNat=1:=rfl
   omega⟩
 | q::l,h,hd=>by
  have hq:=h.pr q List.mem_cons_self
  have q2:=hq.1.1
  have e1:=cP (show 1<=q.1 by omega) q.2.toNat
  have e2:=dE h.tail.pr
  obtain⟨r,hr⟩:=Int.eq_ofNat_of_zero_le (show 0<=q.1 by omega)
  have d1:q.1^q.2.toNat∣(p:Int)+1:=Int.dvd_trans ⟨prod l,rfl⟩ hd
  have d2:prod l∣(p:Int)+1:=Int.dvd_trans ⟨q.1^q.2.toNat,by rw[prod,Int.mul_comm]⟩ hd
  have d1':r^q.2.toNat∣p+1:=by
   rw[hr,<- Int.natCast_pow] at d1
   exact Int.natCast_dvd_natCast.mp (by rw[Int.natCast_add];exact d1)
  obtain⟨y,hy1,hy⟩:=aCq F (q:=r) (by rw[<- hr];exact hq.1) (by have:=hq.2;omega) d1'
  obtain⟨g,hg1,hg⟩:=tG F l h.tail d2
  have nd:=h.head_not
  obtain⟨b,hb⟩:=Int.eq_ofNat_of_zero_le (show 0<=prod l by omega)
  have eb:(prod l).toNat=b:=by rw[hb];rfl
  rw[eb] at hg
  have cop:Nat.Coprime (r^q.2.toNat) b:=by
   refine Nat.Coprime.pow_left _ ?_
   have hp':=hq.1
   rw[hr] at hp' nd
   refine iH hp' fun z=>nd ?_
   rw[hb];exact Int.natCast_dvd_natCast.mpr z
  refine⟨pm d y g,Hm.mul hy1 hg1,?_⟩
  have e:(prod (q::l)).toNat=r^q.2.toNat*b:=by
   rw[prod,hr,hb,<- Int.natCast_pow,<- Int.natCast_mul];rfl
  rw[e]
  exact hy.mul hg cop
theorem aC7 (F:Fld p d):∃f,f<p/\∀u,Uf p d f u->OrP p d u (p+1):=by
 obtain⟨l,hl⟩:=gJ (show (1:Int)<=(p:Int)+1 by omega)
 obtain⟨g,hg1,hg⟩:=tG F l hl.1 (by rw[hl.2];exact Int.dvd_refl _)
 rw[hl.2,show ((p:Int)+1).toNat=p+1 by omega] at hg
 obtain⟨x,hx,e⟩:=aC5 F hg1
 have p3:=F.p3
 rcases List.mem_cons.mp hx with rfl | hx
 ·exfalso
  refine hg.least 1 (Nat.le_refl _) (by omega) ?_
  rw[show pw d g 1=g from uW d g]
  exact e
 ·obtain⟨f,hf,rfl⟩:=List.mem_map.mp hx
  refine⟨f,List.mem_range.mp hf,fun u hu=>?_⟩
  have e2:CP p u g:=(cancel F (yX F _ _ (.inr rfl)) (hu.trans (sQ F f).symm)).trans e.symm
  exact⟨hg.pos,(CP.pw e2 _).trans hg.cg,fun k k1 k2 z=>hg.least k k1 k2 ((CP.pw e2.symm k).trans z)⟩
end MM
namespace MM
theorem aBt {p:Nat} {d:Int} (F:Fld p d) (f:Nat) {v:Int} (hv:Cg p (v*(((f:Int)*f-d*1*1)%p)) 1) (B:PZ) (hB:B=rp p (pm d ((f:Int),1) ((f:Int),1))):Uf p d f (B.1*v%p,B.2*v%p):=by
 have c1:CP p (B.1*v%p,B.2*v%p) (ps v (pm d ((f:Int),1) ((f:Int),1))):=by
  have b:=fK p (pm d ((f:Int),1) ((f:Int),1))
  rw[<- hB] at b
  have b1:=b.1.mul (Cg.refl (p:Int) v)
  have b2:=b.2.mul (Cg.refl (p:Int) v)
  refine⟨(b7 (p:Int) _).trans ?_,(b7 (p:Int) _).trans ?_⟩
  ·show Cg p (B.1*v) (v*(pm d ((f:Int),1) ((f:Int),1)).1)
   rw[Int.mul_comm v];exact b1
  ·show Cg p (B.2*v) (v*(pm d ((f:Int),1) ((f:Int),1)).2)
   rw[Int.mul_comm v];exact b2
 have hs:Cg p (v*nmP d ((f:Int),1)) 1:=by
  refine Cg.trans ?_ hv
  have:=(Cg.refl (p:Int) v).mul (b7 (p:Int) ((f:Int)*f-d*1*1)).symm
  have e:nmP d ((f:Int),1)=(f:Int)*f-d*1*1:=by simp[nmP]
  rw[e];exact this
 have e:pm d ((f:Int),-1) (ps v (pm d ((f:Int),1) ((f:Int),1)))=(v*nmP d ((f:Int),1)*f,v*nmP d ((f:Int),1)*1):=by
  refine cA ?_ ?_ <;> simp only[ps,pm,nmP] <;> grind
 have c2:=(CP.refl (p:Int) ((f:Int),-1)).mul (d:=d) c1
 rw[e] at c2
 have h1:=hs.mul (Cg.refl (p:Int) (f:Int))
 have h2:=hs.mul (Cg.refl (p:Int) 1)
 rw[Int.one_mul] at h1 h2
 exact c2.trans ⟨h1,h2⟩
theorem aEb {p:Nat} (h:3<=p) {A:PZ}:rp p A=(1,0)↔CP p A (1,0):=by
 constructor
 ·intro e
  have:=fK (p:Int) A
  rw[e] at this
  exact this.symm
 ·intro c
  rw[wY c]
  refine cA ?_ ?_
  ·exact Int.emod_eq_of_lt (by decide) (by show (1:Int)<p;omega)
  ·show (0:Int)%p=0
   simp
theorem Uf.nm {p:Nat} {d:Int} (F:Fld p d) {f:Nat} {u:PZ} (h:Uf p d f u):(u.1*u.1-d*u.2*u.2)%p=1:=by
 have p3:=F.p3
 have c:Cg p (nmP d ((f:Int),-1)*nmP d u) (nmP d ((f:Int),1)):=by
  rw[<- aAn]
  unfold Uf at h
  generalize pm d ((f:Int),-1) u=A at h
  have a:=h.1.mul h.1
  have b:=(Cg.refl (p:Int) d).mul (h.2.mul h.2)
  exact a.sub b
 have e:nmP d ((f:Int),-1)=nmP d ((f:Int),1):=by simp[nmP]
 rw[e] at c
 have nz:¬ (p:Int)∣nmP d ((f:Int),1):=fun z=>yX F _ _ (.inl rfl) (fU F.pr F.ns z)
 obtain⟨s,hs⟩:=rM F.pr nz
 have k:Cg p (nmP d u) 1:=by
  have c1:=(Cg.refl (p:Int) s).mul c
  rw[<- Int.mul_assoc] at c1
  have c2:=hs.mul (Cg.refl (p:Int) (nmP d u))
  rw[Int.one_mul] at c2
  exact c2.symm.trans (c1.trans hs)
 have e2:nmP d u=u.1*u.1-d*u.2*u.2:=by unfold nmP;rw[Int.mul_assoc]
 rw[<- e2,f7 k]
 exact Int.emod_eq_of_lt (by decide) (by omega)
theorem aCs {p:Nat} {d:Int} (F:Fld p d) {B:PZ} (h:¬ CP p B (1,0)):Int.gcd ((B.1-1)*(B.1-1)-d*B.2*B.2) p=1:=by
 have nz:¬ (p:Int)∣nmP d (sb B (1,0)):=fun z=>h (sb_cp.mp (fU F.pr F.ns z))
 have e:nmP d (sb B (1,0))=(B.1-1)*(B.1-1)-d*B.2*B.2:=by
  simp only[nmP,sb,Int.sub_zero]
  rw[Int.mul_assoc]
 rw[e] at nz
 obtain⟨s,hs⟩:=rM F.pr nz
 exact tU hs
theorem OrP.off {p:Nat} {d:Int} {u:PZ} (h:OrP p d u (p+1)) {q:Int} (hq:2<=q) (hd:q∣(p:Int)+1):¬ CP p (pw d u (((p:Int)+1)/q).toNat) (1,0):=by
 have e:=Int.ediv_mul_cancel hd
 have pos:1<=((p:Int)+1)/q:=by
  refine Classical.byContradiction fun c=>?_
  have:((p:Int)+1)/q*q<=0:=Int.mul_nonpos_of_nonpos_of_nonneg (by omega) (by omega)
  omega
 have lt:((p:Int)+1)/q<p+1:=by
  have:=Int.mul_le_mul_of_nonneg_left hq (show 0<=((p:Int)+1)/q by omega)
  omega
 exact h.least _ (by omega) (by omega)
end MM
namespace MM
open PySem L2
noncomputable def aBh (d0 m d:Int):Nat:=(if d<=d0 then d0-d else d0-d+m).toNat
theorem aBf {m d:Int} (h1:1<=d) (h2:d<=m):d%m+1=if d=m then 1 else d+1:=by
 by_cases e:d=m
 ·rw[if_pos e,e,Int.emod_self];rfl
 ·rw[if_neg e,Int.emod_eq_of_lt (by omega) (by omega)]
theorem cyc {d0 m d:Int} (h1:1<=d) (h2:d<=m) (g1:1<=d0) (g2:d0<=m) (ne:d≠d0):aBh d0 m (d%m+1)<aBh d0 m d/\1<=d%m+1/\d%m+1<=m:=by
 rw[aBf h1 h2]
 unfold aBh
 by_cases e:d=m
 ·rw[if_pos e]
  refine⟨?_,by omega,by omega⟩
  rw[if_pos (by omega),if_neg (by omega)]
  omega
 ·rw[if_neg e]
  refine⟨?_,by omega,by omega⟩
  by_cases h:d<=d0
  ·rw[if_pos h,if_pos (by omega)];omega
  ·rw[if_neg h,if_neg (by omega)];omega
noncomputable def aBg (f0 n f:Int):Nat:=(if f<=f0 then f0-f else f0-f+n).toNat
theorem cycz {f0 n f:Int} (h1:0<=f) (h2:f<n) (g1:0<=f0) (g2:f0<n) (ne:f≠f0):aBg f0 n ((f+1)%n)<aBg f0 n f/\0<=(f+1)%n/\(f+1)%n<n:=by
 have e:(f+1)%n=if f+1=n then 0 else f+1:=by
  by_cases e:f+1=n
  ·rw[if_pos e,e,Int.emod_self]
  ·rw[if_neg e,Int.emod_eq_of_lt (by omega) (by omega)]
 rw[e]
 unfold aBg
 by_cases e:f+1=n
 ·rw[if_pos e]
  refine⟨?_,by omega,by omega⟩
  rw[if_pos (by omega),if_neg (by omega)]
  omega
 ·rw[if_neg e]
  refine⟨?_,by omega,by omega⟩
  by_cases h:f<=f0
  ·rw[if_pos h,if_pos (by omega)];omega
  ·rw[if_neg h,if_neg (by omega)];omega
theorem aE3 {n x:Int} (h:2<=n):x%n=1↔Cg n x 1:=by
 have e:(1:Int)%n=1:=Int.emod_eq_of_lt (by decide) (by omega)
 constructor
 ·intro z;exact aDz (by rw[z,e])
 ·intro z;rw[f7 z,e]
theorem mD {p:Int} (h3:3<=p):(-1:Int)%p=p-1:=by
 have e:(-1:Int)%p=(-1+p)%p:=(Int.add_emod_right (-1) p).symm
 rw[e,Int.emod_eq_of_lt (by omega) (by omega)]
 omega
theorem aCv {p:Int} (h3:3<=p):¬ Cg p 1 (-1):=fun h=>by
 have:=Int.le_of_dvd (by decide) (show p∣2 from h)
 omega
theorem aC8 {p:Nat} {d:Int} (hp:bP (p:Int)) (h3:3<=p) (h:d^(((p:Int)-1)/2).toNat%(p:Int)=(p:Int)-1):Fld p d:=by
 have od:=fC hp (by omega)
 have eh:(((p:Int)-1)/2).toNat=p/2:=by omega
 rw[eh] at h
 have eu:Cg p (d^(p/2)) (-1):=aDz (by rw[h,mD (by omega)])
 refine⟨hp,h3,fun x hx=>?_,eu⟩
 have c:=(hx.pow (p/2)).trans eu
 rw[show x*x=x^2 by rw[Int.pow_succ,Int.pow_succ,Int.pow_zero,Int.one_mul],<- Int.pow_mul,show 2*(p/2)=((p:Int)-1).toNat by omega] at c
 by_cases z:(p:Int)∣x
 ·obtain⟨k,hk⟩:∃k,((p:Int)-1).toNat=k+1:=⟨((p:Int)-1).toNat-1,by omega⟩
  rw[hk,Int.pow_succ] at c
  have c0:Cg p (x^k*x) 0:=by
   unfold Cg
   rw[Int.sub_zero]
   exact Int.dvd_trans z (Int.dvd_mul_left _ _)
  have c1:=c0.symm.trans c
  have:=Int.le_of_dvd (by decide) (show (p:Int)∣1 from c1)
  omega
 ·exact aCv (by omega) ((g5 hp z).symm.trans c)
theorem xI {p:Int} (hp:bP p) (h3:3<=p):∃z,1<=z/\z<=p-1/\z^((p-1)/2).toNat%p=p-1:=by
 obtain⟨g,g1,g2,hg⟩:=oW hp
 refine⟨g,g1,by omega,?_⟩
 have od:=fC hp (by omega)
 have n1:=hg.least ((p-1)/2) (by omega) (by omega)
 have c:=hg.cg
 rw[show (p-1).toNat=((p-1)/2).toNat+((p-1)/2).toNat by omega,Int.pow_add] at c
 generalize g^((p-1)/2).toNat=y at n1 c
 have d:p∣(y-1)*(y+1):=by
  have e:(y-1)*(y+1)=y*y-1:=by grind
  rw[e];exact c
 rcases bX hp d with h | h
 ·exact absurd h n1
 ·have h':Cg p y (-1):=by
   unfold Cg
   rw[show y - -1=y+1 by omega];exact h
  rw[f7 h',mD h3]
theorem uE {p a:Int} (hp:bP p) (h3:3<=p) (ha:¬ p∣a):Cg p (a^(p-2).toNat%p*(a%p)) 1:=by
 have f:=g5 hp ha
 rw[show (p-1).toNat=(p-2).toNat+1 by omega,Int.pow_succ] at f
 exact((b7 p _).mul (b7 p a)).trans f
theorem zH {p g q:Int} (hp:bP p) (h:Ord g p (p-1)) (hq:2<=q) (hd:q∣p-1):g^((p-1)/q).toNat%p≠1/\Int.gcd (g^((p-1)/q).toNat%p-1) p=1:=by
 have p2:=hp.1
 have e:=Int.ediv_mul_cancel hd
 have pm:=h.pos
 have pos:1<=(p-1)/q:=by
  refine Classical.byContradiction fun c=>?_
  have:(p-1)/q*q<=0:=Int.mul_nonpos_of_nonpos_of_nonneg (by omega) (by omega)
  omega
 have lt:(p-1)/q<p-1:=by
  have:=Int.mul_le_mul_of_nonneg_left hq (show 0<=(p-1)/q by omega)
  omega
 have nc:=h.least _ pos lt
 refine⟨fun z=>nc ((aE3 (by omega)).mp z),mW hp fun z=>nc ?_⟩
 have:Cg p (g^((p-1)/q).toNat%p) 1:=z
 exact(b7 p _).symm.trans this
theorem aEw {p:Nat} {d:Int} (F:Fld p d) (f:Nat):Uf p d f ((rp p (pm d ((f:Int),1) ((f:Int),1))).1*(((f:Int)*f-d)^((p:Int)-2).toNat%p)%p,(rp p (pm d ((f:Int),1) ((f:Int),1))).2*(((f:Int)*f-d)^((p:Int)-2).toNat%p)%p):=by
 refine aBt F f ?_ _ rfl
 have nz:¬ (p:Int)∣nmP d ((f:Int),1):=fun z=>yX F _ _ (.inl rfl) (fU F.pr F.ns z)
 have e:nmP d ((f:Int),1)=(f:Int)*f-d:=by simp[nmP]
 rw[e] at nz
 have:=uE F.pr (by have:=F.p3;omega) nz
 rw[show (f:Int)*f-d*1*1=(f:Int)*f-d by omega]
 exact this
theorem uT {p:Int} {l:List (Int×Int)} {j:Nat} (hp:bP p) (h3:3<=p) (hj:p<=2^(j+1)) (hl:Parts (p+1) l) {q:Int×Int} (hq:q∈l):q.1<=2^j:=by
 have hqp:=(hl.1.pr q hq).1
 have q2:=hqp.1
 have hd:q.1∣p+1:=by rw[<- hl.2];exact jB hl.1.pr hq
 have od:=fC hp (by omega)
 rw[Int.pow_succ] at hj
 by_cases e:q.1=2
 ·omega
 ·obtain⟨m,hm⟩:∃m,p+1=2*m:=⟨(p+1)/2,by omega⟩
  rw[hm] at hd
  rcases bX hqp hd with h | h
  ·have:=Int.le_of_dvd (by omega) h
   omega
  ·have:=Int.le_of_dvd (by omega) h
   omega
noncomputable def rwP (r:Row):Int×Int:=(r.1,r.2.1)
theorem qM:∀rows:List Row,prd rows=prod (rows.map rwP)
 | []=>rfl
 | r::rs=>by show r.1^r.2.1.toNat*prd rs=r.1^r.2.1.toNat*prod (rs.map rwP);rw[qM rs]
theorem r9:∀ {rows:List Row} {l:Int},(rows.map rwP).Pairwise (fun x y=>x.1<y.1)->(∀r∈rows,l<r.1/\1<=r.2.1)->dL l rows
 | [],_,_,_=>True.intro
 | r::rs,l,h,hp=>by
  rw[List.map_cons,List.pairwise_cons] at h
  have a:=hp r List.mem_cons_self
  refine⟨a.1,a.2,r9 h.2 fun x hx=>⟨?_,(hp x (List.mem_cons_of_mem _ hx)).2⟩⟩
  exact h.1 (rwP x) (List.mem_map_of_mem hx)
end MM
namespace L2
open PySem PySem.Spec PyProof.Rows
structure SE (X:Cx) (e:Expr) (t:TE):Prop where
 h:PE X e t
structure SA (X:Cx) (es:List Expr) (t:TA):Prop where
 h:PA X es t
structure SS (X:Cx) (st:Stmt) (t:TS):Prop where
 h:PS X st t
structure SSs (X:Cx) (st:List Stmt) (t:TS):Prop where
 h:PSs X st t
structure ST (X:Cx) (e:Expr) (t:TT):Prop where
 h:PT X e t
structure SO (X:Cx) (e:Option Expr) (t:TO):Prop where
 h:PO X e t
theorem aF7 {X:Cx} {st:List Stmt} {t:TS} {D:Ends} {σ:St} {H:Hp} (h:SSs X st t) (q:t D σ H):∃t,PSs X st t/\t D σ H:=⟨t,h.h,q⟩
section
variable {X:Cx} {id T:String} {lo hi:Option Expr} {st:Stmt} {rest:List Stmt} {a b e o tg iter:Expr} {es:List Expr} {pos p2 p:Pos} {name:Str}
theorem cJ (F:FnOk X.prog X.w X.K X.mg X.base CX k f fd ps sp) (hr:Room k X.A) (hg:Gl X x) (hm:X.mg x=some (.ref f)) (hk:PySem.W.keepIn X.K (.ref f)=true) (hb:Binds X.K fd ps ds) (hd:Vals dvs ds) (hx:Passes CX X E) (ha:SA X (e::es) t) (hdb:autoParam ((x==("__debug__" : Str))=false) L2.au1._auto_1) (he:autoParam (starEach (e::es) X.env=(false,eval e X.env)::starEach es X.env) L2.au4._auto_1) (hpl:autoParam ((backTo pos (starEach es X.env)).any (·.1)=false) L2.au4._auto_1):SE X (.Call (.Name x p) (e::es) [] pos) (gD sp dvs E t):=⟨aK F hr hg hm hk hb hd hx ha.h hdb he hpl⟩
theorem fG (hc:d6 X (.builtin id) r) (hg:Gl X x) (hm:X.mg x=none) (hv:bootBuiltins x=some (.builtin id)) (ha:SA X (e::es) t) (hn:autoParam (x ≠ "__name__") L2.au1._auto_1) (hdb:autoParam ((x==("__debug__" : Str))=false) L2.au1._auto_1) (he:autoParam (starEach (e::es) X.env=(false,eval e X.env)::starEach es X.env) L2.au4._auto_1) (hpl:autoParam ((backTo pos (starEach es X.env)).any (·.1)=false) L2.au4._auto_1):SE X (.Call (.Name x p) (e::es) [] pos) (tCB r t):=⟨aQ hc hg hm hv ha.h hn hdb he hpl⟩
theorem oU (hc:d6 X (.type T) r) (hg:Gl X x) (hm:X.mg x=none) (hv:bootBuiltins x=some (.type T)) (ha:SA X (e::es) t) (hn:autoParam (x ≠ "__name__") L2.au1._auto_1) (hdb:autoParam ((x==("__debug__" : Str))=false) L2.au1._auto_1) (he:autoParam (starEach (e::es) X.env=(false,eval e X.env)::starEach es X.env) L2.au4._auto_1) (hpl:autoParam ((backTo pos (starEach es X.env)).any (·.1)=false) L2.au4._auto_1):SE X (.Call (.Name x p) (e::es) [] pos) (tCB r t):=⟨jY hc hg hm hv ha.h hn hdb he hpl⟩
theorem zE {sp:Heap->Sp} (F:∀b,FnOk X.prog X.w X.K X.mg b CX k f fd ps (sp b)) (hr:Room k X.A) (hfn:∀x,X.fn x=true) (hg:Gl X x) (hm:X.mg x=some (.ref f)) (hk:PySem.W.keepIn X.K (.ref f)=true) (hb:Binds X.K fd ps ds) (hd:Vals dvs ds) (hx:Passes CX X E) (ha:SA X (e::es) t) (hdb:autoParam ((x==("__debug__" : Str))=false) L2.au1._auto_1) (he:autoParam (starEach (e::es) X.env=(false,eval e X.env)::starEach es X.env) L2.au4._auto_1) (hpl:autoParam ((backTo pos (starEach es X.env)).any (·.1)=false) L2.au4._auto_1):SE X (.Call (.Name x p) (e::es) [] pos) (uJ X sp dvs E t):=⟨z7 F hr hfn hg hm hk hb hd hx ha.h hdb he hpl⟩
theorem aB6 {op:CmpOp} {r:R2} (ho:OpR X (compareOp op) r) (ha:SE X a ta) (hb:SE X b tb) (hm:behindInMarks op b=false):SE X (.Compare a [op] [b] pos) (tOp r ta tb):=⟨cH ho ha.h hb.h hm⟩
theorem oS {r:R2} (hr:IxR X r) (ha:SE X a ta) (hb:SE X b tb) (hs:xD b):SE X (.Subscript a b pos) (tOp r ta tb):=⟨aV hr ha.h hb.h hs⟩
theorem eN (h:SA X es t):SE X (.List es pos) (jS t):=⟨cY h.h⟩
theorem bT {x1} (h:SA X es t):SE X (.Tuple es x1 pos) (kJ t):=⟨bV h.h⟩
theorem eK {op:Operator} {r:R2} (ho:OpR X (binaryOp op) r) (ha:SE X a ta) (hb:SE X b tb):SE X (.BinOp a op b pos) (tOp r ta tb):=⟨aH ho ha.h hb.h⟩
theorem aDo (pa:PlainAttrs T) (slot:Slot T name id) (hty:typeOf (.builtin id)=pure (.type "method_descriptor")) (hm:MtR X id r) (ho:SE X o to) (ha:SA X (e::es) t) (hbase:autoParam (attributeBase o name X.env (eval o X.env)=eval o X.env) L2.au4._auto_1) (hfew:autoParam (((backTo cpos (starEach (e::es) X.env)).all (fun x => !x.1)&&(backToKw cpos (keywordEach [] X.env)).all (fun x=>x.1.isSome)
   && decide ((e::es).length+([]:List Keyword).length+(if ([]:List Keyword).isEmpty then 0 else 1)<30))=true) L2.au4._auto_1) (hline:(apos.endLine==cpos.line)=true:=by rfl) (hs:starEach (e::es) X.env=(false,eval e X.env)::starEach es X.env:=by rfl) (hplain:(backTo cpos (starEach es X.env)).any (·.1)=false:=by rfl):SE X (.Call (.Attribute o name apos) (e::es) [] cpos) (tBM X.K T r to t):=⟨l9 pa slot hty hm ho.h ha.h hbase hfew hline hs hplain⟩
theorem aC (ha:SE X e te) (hr:SA X es t) (hs:autoParam (starEach (e::es) X.env=(false,eval e X.env)::starEach es X.env) L2.au4._auto_1):SA X (e::es) (eJ te t):=⟨aA ha.h hr.h hs⟩
theorem eT {i:Nat} {x:Str} {e:Expr} {te:TE} {pos':Pos} (hN:X.N.Nodup) (hi:X.N[i]? = some x) (hx:Loc X.env.scope x) (he:SE X e te) (hs:autoParam (swapsWith e (some (.Name x pos')) pos.line X.env=pure false) L2.au4._auto_1) (hf:autoParam (X.fn x=true\/X.env.scope.names.lookup x=some .local) L2.au0._auto_1):SS X (.Assign [.Name x pos'] e pos) (iT te (eM i)):=⟨aU hN hi hx he.h hs hf⟩
theorem aDn {c:Expr} {a b:List Stmt} {tc:TT} (hc:ST X c tc) (ha:SSs X a t) (hb:SSs X b u):SS X (.If c a b pos) (lJ tc t u):=⟨bF hc.h ha.h hb.h⟩
theorem uK {iter:Expr} {body:List Stmt} {wi:TI} {g:TG} {tb:TS} {pos:Pos} (hp:PassesOwn (model X.prog X.w) X.A X.env X.xe) (hc:X.calm=true) (hi:PI X tg iter wi) (hg:PG X tg g) (hb:SSs X body tb) (hs:autoParam (∀x,foldedSetIterable iter X.env x=pure x) L2.au3._auto_1):SS X (.For tg iter body [] pos) (kL wi g tb):=⟨dN hp hc hi hg hb.h hs⟩
theorem vN (he:SE X e te) (hs:autoParam (swapsWith e none pos.line X.env=pure false) L2.au4._auto_1):SS X (.Expr e pos) (gA te):=⟨eP he.h hs⟩
theorem qG (he:SE X e te):SS X (.Return (some e) pos) (kK te):=⟨aN he.h⟩
theorem b8 (h1:SS X st t) (h2:SSs X rest u):SSs X (st::rest) (eO t u):=⟨aD h1.h h2.h⟩
theorem fO (h1:SS X st t):SSs X [st] t:=⟨aG h1.h⟩
theorem qF {op:CmpOp} {r:R2} (ho:OpR X (compareOp op) r) (ha:SE X a ta) (hb:SE X b tb) (hm:behindInMarks op b=false):ST X (.Compare a [op] [b] pos) (fF (tOp r ta tb)):=⟨aL ho ha.h hb.h hm⟩
theorem aD7 (ha:ST X a tA):ST X (.UnaryOp .Not a pos) (nJ tA):=⟨bH ha.h⟩
theorem aD6 {e:Expr} {t:TE} (h:SE X e t) (he:autoParam (∀whole,isTrue e X.env whole=(do let v <- whole;standAt e.pos;holding [v] (truthy v))) L2.au3._auto_1):ST X e (tB t):=⟨bL h.h he⟩
theorem qI {l:Expr} {tl:TE} (hl:SE X l tl):PI X tg l (aA1 X.K tl):=gW hl.h
theorem xN {a:Expr} {ta:TA} {p pos:Pos} (hg:Gl X "range") (hm:X.mg "range" = none) (ha:SA X [a] ta) (hs:autoParam (starEach [a] X.env=[(false,eval a X.env)]) L2.au4._auto_1):PI X tg (.Call (.Name "range" p) [a] [] pos) (aA0 ta):=jX hg hm ha.h hs
theorem bO {i j pos}:SE X (.Constant (.int i) j pos) (tC (.int i)):=⟨aB⟩
theorem sU {b j pos}:SE X (.Constant (.bool b) j pos) (tC (.bl b)):=⟨bR⟩
theorem aD9 {j pos}:SE X (.Constant .none j pos) (tC .non):=⟨iI⟩
theorem cD {x j pos}:SE X (.Constant (.str x) j pos) (tC (.str x)):=⟨bD⟩
theorem aS  : SA X [] iC:=⟨aF⟩
theorem vM  : SSs X [] f9:=⟨aT⟩
theorem sv (i:Nat) {x:Str} {pos:Pos} (hN:autoParam (X.N[i]? = some x) L2.au4._auto_1) (hv:autoParam (Vis X.env.scope x) L2.au6._auto_1) (hd:autoParam ((x==("__debug__" : Str))=false) L2.au1._auto_1) (hcd:autoParam ((x==("__classdict__" : Str))=false) L2.au1._auto_1):SE X (.Name x pos) (dZ i):=⟨pv i hN hv hd hcd⟩
theorem aB4 (L:LamCx X c P) (hck:pG sc X.env.scope N X.N js=true) (hdef:defaultsOf params X.env=([],[])):SE X (.Lambda params body sc pos) (aD4 X.mg P (X.env.qual ++ "<lambda>") params body sc (eX sc X.env)):=⟨aCl L hck hdef⟩
end
end L2
namespace L2
open PySem PySem.Spec PyProof.Rows
theorem aB5 {X:Cx} {pos:Pos}:SE X (.Dict [] [] pos) gB:=⟨vU⟩
mutual
theorem Rep.sm {K:PySem.W.Frag} {H H':Hp} (S:Same H H'):∀(d:Dt) {v:V},Rep K H d v->Rep K H' d v
 | .non,v,h=>h
 | .bl _,v,h=>h
 | .int _,v,h=>h
 | .str _,v,h=>h
 | .tup ds,v,h=>by obtain⟨a,xs,e,q,r⟩:=h;exact⟨a,xs,e,S.tk.sq q,RepL.sm S ds r⟩
 | .lst ds,v,h=>by obtain⟨a,xs,e,q,r⟩:=h;exact⟨a,xs,e,S.seq q,RepL.sm S ds r⟩
 | .emp,v,h=>by obtain⟨a,e,q⟩:=h;exact⟨a,e,S _ _ q⟩
theorem RepL.sm {K:PySem.W.Frag} {H H':Hp} (S:Same H H'):∀(ds:List Dt) {xs:List V},RepL K H ds xs->RepL K H' ds xs
 | [],xs,h=>h
 | d::ds,xs,h=>by obtain⟨x,r,e,a,b⟩:=h;exact⟨x,r,e,Rep.sm S d a,RepL.sm S ds b⟩
end
noncomputable def frH (H H':Hp):Hp:=fun a=>if (H a).isSome=true then none else H' a
theorem j8 {H H':Hp} {a:Addr} {o:HO} (h:H a=none) (e:H' a=some o):frH H H' a=some o:=by
 unfold frH
 rw[h];exact e
theorem lC {H H':Hp} {a:Addr} {o:HO} (e:frH H H' a=some o):H a=none/\H' a=some o:=by
 unfold frH at e
 cases h:H a with
 | none=>rw[h] at e;exact⟨rfl,e⟩
 | some u=>rw[h] at e;cases e
theorem i9 {H H':Hp} (S:Same H H') {a:Addr} (h:H' a=none):H a=none:=by
 cases e:H a with
 | none=>rfl
 | some o=>rw[S a o e] at h;cases h
theorem pK {H H1 H2:Hp} (S:Same H1 H2):Same (frH H H1) (frH H H2):=fun a o e=>by
 obtain⟨h1,h2⟩:=lC e
 exact j8 h1 (S a o h2)
theorem aDw {H H1 H2:Hp} (S:Same H H1):Same (frH H1 H2) (frH H H2):=fun a o e=>by
 obtain⟨h1,h2⟩:=lC e
 exact j8 (i9 S h1) h2
noncomputable def isD (K:PySem.W.Frag) (t:TE) (d:Dt):Prop:=∀(σ:St) (H:Hp) (Q:VK),(∀v H',Same H H'->Rep K (frH H H') d v->Q v H')->t σ H Q
noncomputable def u6 (K:PySem.W.Frag) (t:TA) (ds:List Dt):Prop:=∀(σ:St) (H:Hp) (Q:List V->Hp->Prop),(∀vs H',Same H H'->RepL K (frH H H') ds vs->Q vs H')->t σ H Q
section
variable {K:PySem.W.Frag}
theorem aC0:isD K (tC .non) .non:=fun σ H Q h=>h _ H (Same.refl H) rfl
theorem aFc {b:Bool}:isD K (tC (.bl b)) (.bl b):=fun σ H Q h=>h _ H (Same.refl H) rfl
theorem wP {i:Int}:isD K (tC (.int i)) (.int i):=fun σ H Q h=>h _ H (Same.refl H) rfl
theorem wO {z:Str}:isD K (tC (.str z)) (.str z):=fun σ H Q h=>h _ H (Same.refl H) rfl
theorem aC2:isD K gB .emp:=fun σ H Q h p hp=>h _ _ (fun b o e=>by rw[aO (aI e hp)];exact e) ⟨p,rfl,j8 hp aE⟩
theorem tS:u6 K iC []:=fun σ H Q h=>h _ H (Same.refl H) rfl
theorem pI {t:TE} {ta:TA} {d:Dt} {ds:List Dt} (h1:isD K t d) (h2:u6 K ta ds):u6 K (eJ t ta) (d::ds):=fun σ H Q h =>
 h1 σ H _ fun v H1 S1 R1=>h2 σ H1 _ fun vs H2 S2 R2=>h _ H2 (S1.trans S2) ⟨v,vs,rfl,Rep.sm (pK S2) d R1,RepL.sm (aDw S1) ds R2⟩
theorem wN {ta:TA} {ds:List Dt} (hl:ds.length<=1000) (h1:u6 K ta ds):isD K (kJ ta) (.tup ds):=fun σ H Q h =>
 h1 σ H _ fun vs H1 S1 R1=>⟨by rw[<- R1.length];exact Nat.le_of_lt (bK hl),fun p hp=>by
  have S2:Same H1 (upd H1 p (.tup vs)):=fun b o e=>by rw[aO (aI e hp)];exact e
  exact h _ _ (S1.trans S2) ⟨p,vs,rfl,SqT.of (j8 (i9 S1 hp) aE),RepL.sm (pK S2) ds R1⟩⟩
theorem aC1 {ta:TA} {ds:List Dt} (hl:ds.length<=1000) (h1:u6 K ta ds):isD K (jS ta) (.lst ds):=fun σ H Q h =>
 h1 σ H _ fun vs H1 S1 R1=>⟨by rw[<- R1.length];exact Nat.le_of_lt (bK hl),fun p hp=>by
  have S2:Same H1 (upd H1 p (.lst vs)):=fun b o e=>by rw[aO (aI e hp)];exact e
  exact h _ _ (S1.trans S2) ⟨p,vs,rfl,SqL.of (j8 (i9 S1 hp) aE),RepL.sm (pK S2) ds R1⟩⟩
noncomputable def FLs (K:PySem.W.Frag) (a:Addr) (g:TG) (tb:TS) (D:Ends) (σ:St) (H:Hp):Prop:=∃W:Nat->Nat->St->Hp->Prop,(∃m,W 0 m σ H)/\∀i m σ H,W i m σ H ->
 ((Itl K a).stop i H/\D.nx σ H)\/((Itl K a).go i H/\∃N:St->Hp->Prop,(∀ σ' H',N σ' H'->∃m',m'<m/\W (i+1) m' σ' H')/\∀x H',(Itl K a).yld i H x H'->g x σ H' fun σ2 H2=>tb { D with nx:=N,ct:=N,bk:=D.nx } σ2 H2)
theorem lL {te:TE} {g:TG} {tb:TS} {D:Ends} {σ:St} {H:Hp} (h:te σ H fun x H1=>∃a,x=.ref a/\(∃xs,SqL K H1 a xs)/\FLs K a g tb D σ H1):kL (aA1 K te) g tb D σ H:=h
theorem u9 {a:Addr} {xs:List V} {g:TG} {tb:TS} {D:Ends} {σ:St} {H:Hp} (Pv:Nat->St->Hp->Prop) (h0:Pv 0 σ H) (hl:∀i σ H,i<=xs.length->Pv i σ H->SqL K H a xs)
  (hs:∀i x σ H,xs[i]? = some x->Pv i σ H->g x σ H fun σ2 H2=>tb { D with nx:=Pv (i+1),ct:=Pv (i+1),bk:=D.nx } σ2 H2) (hd:∀ σ H,Pv xs.length σ H->D.nx σ H):FLs K a g tb D σ H:=mX Pv h0 hl hs hd
end
end L2
namespace HT
open PySem PySem.Spec PyProof.Rows
section
variable {prog:Program} {w:World} {A:Around} {E:Value->Shared->Prop} {s:Shared}
end
end HT
namespace L2
open PySem PySem.Spec PyProof.Rows
section
variable {X:Cx} {e:Expr} {te:TE} {pos p1 p2 p3:Pos} {kk:Nat}
theorem zA {i j:Nat} {x y:Str} {a b:Expr} {ta:TA} {px py pt:Pos} {kt k2 pt2} (hc:X.calm=true) (hN:X.N.Nodup) (hi:X.N[i]? = some x) (hj:X.N[j]? = some y) (hij:i≠j)
  (hx:X.env.scope.names.lookup x=some .local) (hy:X.env.scope.names.lookup y=some .local) (ha:SA X [a,b] ta)
  (hw:swappedStores [.Tuple [.Name x px,.Name y py] kt pt] (.Tuple [a,b] k2 pt2) X.env=pure (some [x,y]))
  (hs:autoParam (swapsWithSole [.Tuple [.Name x px,.Name y py] kt pt] (.Tuple [a,b] k2 pt2) pos.line X.env=pure false) L2.au4._auto_1) :
  SS X (.Assign [.Tuple [.Name x px,.Name y py] kt pt] (.Tuple [a,b] k2 pt2) pos) (lI i j ta):=⟨iD hc hN hi hj hij hx hy ha.h hw hs⟩
end
end L2
namespace L2
open PySem PySem.Spec PyProof.Rows
structure SW (X:Cx) (e:Expr) (t:TT):Prop where
 h:PW X e t
section
variable {X:Cx} {a b e:Expr} {es:List Expr} {pos p:Pos} {t tA tB':TT}
theorem SW.st (s:SW X e t):ST X e t:=⟨s.h.pt⟩
theorem y9 (ha:ST X a tA):SW X (.BoolOp .Or [a] pos) tA:=⟨cB ha.h⟩
theorem aDm (ha:ST X a tA) (hb:SW X (.BoolOp .Or (b::es) pos) tB'):SW X (.BoolOp .Or (a::b::es) pos) (tOr tA tB'):=⟨bS ha.h hb.h⟩
end
end L2
namespace L2
open PySem PySem.Spec PyProof.Rows
section
variable {X:Cx} {a b c e:Expr} {pos:Pos} {ta tb tc te:TE} {tA:TT}
theorem aD8 {tg:Expr} {g:TG} (he:SE X e te) (hg:PG X tg g) (hs:autoParam (swapsWithSole [tg] e pos.line X.env=pure false) L2.au4._auto_1) (hw:autoParam (swappedStores [tg] e X.env=pure none) L2.au4._auto_1)
  (h1:autoParam ((assignEach [tg] X.env).map (·.2)=[assign tg X.env]) L2.au4._auto_1):SS X (.Assign [tg] e pos) (iT te g):=⟨d9 he.h hg hs hw h1⟩
end
end L2
namespace L2
open PySem PySem.Spec PyProof.Rows
section
variable {X:Cx} {a b e elt tg iter:Expr} {rest ifs:List Expr} {pos p:Pos} {ta tb:TE}
theorem zD {scope:Scope} {N:List Str} {js:List (Option Nat)} {wi:TI} {g:TG} {tt:Heap->TT} {te:Heap->TE} (hcb:vC scope X.env.scope N X.N js=true) (hc:X.calm=true) (hfn:∀x,X.fn x=true) (hi:PI X tg iter wi)
  (hg:∀b C fp s H,PG (cL X b N scope (eX scope X.env) C fp s H) tg g) (hif:∀b C fp s H,aBn (cL X b N scope (eX scope X.env) C fp s H) ifs (tt b)) (he:∀b C fp s H,PE (cL X b N scope (eX scope X.env) C fp s H) elt (te b))
  (hs:autoParam (∀x,foldedSetIterable iter X.env x=pure x) L2.au3._auto_1):SE X (.ListComp elt [⟨tg,iter,ifs,0⟩] scope pos) (qC X js wi g tt te):=⟨eV hcb hc hfn hi hg hif he hs⟩
end
end L2
namespace L2
open PySem PySem.Spec PyProof.Rows
noncomputable def zK (K:PySem.W.Frag):List V->Hp->VK->Prop:=fun vs H Q=>∃x d,vs=[x]/\Rep K H d x/\(okD d=true/\okR d=true/\bY d<=1000000/\dep d<=100)/\Q (.str (shD d)) H
theorem nE {X:Cx} (hg:X.A.guards=some []) (hu:X.A.units+150<cLine):d6 X (.builtin "repr") (zK X.K):=by
 intro pins s σ H xs us Q I r h
 obtain⟨x,d,rfl,hd,⟨ho,hR,hl,hp⟩,q⟩:=h
 cases e:aDu d with
 | false=>exact vD hg hu pins s σ H _ us Q I r ⟨x,d,rfl,hd,ho,hR,e,hl,hp,q⟩
 | true =>
  obtain⟨u,rfl,rx⟩:=lE r
  cases d with
  | bl b =>
   cases (show x=.bl b from hd)
   cases rx
   exact PySem.P.repr_of_bool ⟨.str _,H,I.tok _,⟨_,rfl⟩,q⟩
  | str b =>
   cases (show x=.str b from hd)
   obtain⟨t,rfl⟩:=rx
   have hlen:(iP (.str b)).shown.length<=sizeLine:=Nat.le_trans (lG (.str b) ho) (Nat.le_trans hl (by decide))
   exact PySem.P.repr_of_str ⟨.str _,H,I.tok _,⟨_,rfl⟩,q⟩
  | _=>cases e
end L2
namespace L2
open PySem PySem.Spec PyProof.Rows
theorem yA {p:Program} {lv:List (Str×PySem.W.WData)} {mg:Str->Option Value} {h:Heap} {n:Str} {i:Int} (x:PySem.W.XL p lv mg h) (hm:(n,PySem.W.WData.int i)∈lv):∃t,mg n=some (.int i t):=by
 obtain⟨v,a,b⟩:=x.2.val _ hm
 cases b
 exact⟨_,a⟩
end L2
namespace OP
open PySem PySem.W PySem.Calls PyProof.Rows
noncomputable def kR (tb:String->Option Builtin) (p:Program) (w:World) (n₀:Nat) (ann:Option Value):Nat->SharedT->Thread->Option SharedT
 | 0,_,_=>none
 | n+1,s,t=>match through t with
  | true=>some s
  | false=>match stepOk n₀ ann t with
   | false=>none
   | true=>match stepT (denote tb) p w s t with
    | some (s',t')=>kR tb p w n₀ ann n s' t'
    | none=>none
theorem oO {tb:String->Option Builtin} {p:Program} {w:World} {n₀:Nat} {ann:Option Value}:∀ {n:Nat} {s s':SharedT} {t:Thread},kR tb p w n₀ ann n s t=some s'->topRun tb p w n₀ ann n s.abs t=some s'.abs
 | 0,_,_,_,h=>by cases h
 | n+1,s,s',t,h=>by
  unfold kR at h
  unfold topRun
  cases he:through t with
  | true=>rw[he] at h;cases h;rfl
  | false =>
   rw[he] at h
   cases hk:stepOk n₀ ann t with
   | false=>rw[hk] at h;cases h
   | true =>
    rw[hk] at h
    cases hs:stepT (denote tb) p w s t with
    | none=>rw[hs] at h;cases h
    | some r=>obtain⟨s₂,t₂⟩:=r;rw[hs] at h;rw[stepT_spec hs];exact oO h
noncomputable def aGc (P:Params):BT :=
 .node (boot_o_0 P)
  (.node (boot_o_1 P) (.node (boot_o_3 P) (.node (boot_o_7 P) .nil .nil) .nil) (.node (boot_o_5 P) (.node (boot_o_9 P) .nil .nil) .nil))
  (.node (boot_o_2 P) (.node (boot_o_4 P) (.node (boot_o_8 P) .nil .nil) .nil) (.node (boot_o_6 P) (.node (boot_o_10 P) .nil .nil) .nil))
noncomputable def bootS (P:Params) (os:OsState):SharedT:=⟨aGc P,11,(boot_heap P).life,Array.mk [],boot_drawn,boot_toks,os⟩
theorem yS (P:Params) (os:OsState):(bootS P os).abs=⟨boot_heap P,Array.mk [],boot_drawn,boot_toks,os⟩:=rfl
noncomputable def annOf (P:Params):Option Value:=(boot_heap P).nsMap mainGlobals "__annotations__"
theorem yR (P:Params):((boot_heap P).isNs mainGlobals&&(Array.mk []:Array GenState).size==0)=true:=by kernel_rfl
noncomputable def goT {α:Type} (h₀:Heap) (ann:Option Value) (s₀:SharedT) (p q:Program) (loose:List Str) (Xt:Shared->Bool) (Yf:Shared->α) (M:Nat) (w:World) :=
 (kR treeTable p w 11 ann M s₀ (topStub p)).map fun s =>
  ((staticsOk (importedModules p.main.body) h₀ s.abs.heap&&namesBound p s.abs.heap&&gensDone s.abs&&laidKept h₀ s.abs.heap),
   openSeen q loose (importedModules p.main.body) Xt true s.abs,Yf s.abs)
theorem tL {p q:Program} {loose:List Str} {Xt:Shared->Bool} {α:Type} {Yf:Shared->α} {Ya:World->α} {N M:Nat}
  (e:opening p=plainProg p.main.scope.names) (hN:Nat.ble 600 N=true) (f:∀s,fenceModules? p s=some s)
  (run:∀(w:World) (os:OsState),goT (boot_heap w.params) (annOf w.params) (bootS w.params os) p q loose Xt Yf M w=some (true,openGood q loose,Ya w)) (le:Nat.ble M N=true):LeftO p q loose Xt Yf Ya N:=fun w=>by
 obtain⟨⟨h,gs,d,k,os⟩,e1,e2⟩:=Option.map_eq_some_iff.mp (boot_open e hN f w)
 obtain⟨rfl,rfl,rfl,rfl⟩:h=boot_heap w.params/\gs=Array.mk []/\d=boot_drawn/\k=boot_toks:=by simpa using e2
 obtain⟨s,hs,hl⟩:=Option.map_eq_some_iff.mp (run w os)
 have r:=topRun_mono (N-M) _ _ _ _ (oO hs)
 rw[show M+(N-M)=N by have:=Nat.le_of_ble_eq_true le;omega,yS] at r
 obtain⟨l1,l2,l3⟩:_/\_/\_:=by simpa only [Prod.mk.injEq] using hl
 have t:topFrom treeTable p w N ⟨boot_heap w.params,Array.mk [],boot_drawn,boot_toks,os⟩=some s.abs:=by
  unfold topFrom
  dsimp only
  rw[yR]
  dsimp only
  rw[show (boot_heap w.params).objs.size=11 from rfl]
  unfold annOf at r
  rw[r]
  show (match staticsOk (importedModules p.main.body) (boot_heap w.params) s.abs.heap&&namesBound p s.abs.heap&&gensDone s.abs&&laidKept (boot_heap w.params) s.abs.heap with | true=>_ | false=>_)=_
  rw[l1]
 unfold openEnds
 rw[e1]
 show (topFrom treeTable p w N _).map _=_
 rw[t]
 exact congrArg some (Prod.ext l2 l3)
end OP
set_option maxHeartbeats 0
lay_quick OP.goT
namespace OP
open PySem PySem.W PySem.Calls PyProof.Rows
noncomputable def qOf (n:Nat) (p:Program):Program:={ p with main:={ p.main with body:=[p.main.body.getD n (.Pass ⟨0,0,0,0⟩)] } }
theorem aCz {p p':Program} {n:Nat} {loose:List Str} {lv:List (Str×WData)} {R:WRecords} {α:Type} {Yf:Shared->α} {Ya:World->α} {N:Nat} (M:Nat) (hp:p=p')
  (e:opening p=plainProg p.main.scope.names) (hN:Nat.ble 600 N=true) (f:∀s,fenceModules? p s=some s) (le:Nat.ble M N=true)
  (run:∀(w:World) (os:OsState),PySem.W.Fast.tw9285885503168683399 (boot_heap w.params) (annOf w.params) (bootS w.params os) p' (qOf n p') loose (fun s=>xlAt (qOf n p') lv s&&recOk R s) Yf M w=some (true,openGood (qOf n p') loose,Ya w)) :
  LeftO p (qOf n p) loose (fun s=>xlAt (qOf n p) lv s&&recOk R s) Yf Ya N:=by
 subst hp
 refine tL e hN f (fun w os=>?_) le
 rw[PySem.W.Fast.te9285885503168683399]
 exact run w os
end OP
namespace OP
open PySem PySem.W PySem.Calls PyProof.Rows
theorem left_tw2 {p p':Program} {n:Nat} {loose:List Str} {lv:List (Str×WData)} {R:WRecords} {α:Type} {Yf:Shared->α} {Ya:World->α} {N:Nat} (row:String) (M:Nat) (hp:p=p')
  (e:opening p=plainProg p.main.scope.names) (hN:Nat.ble 600 N=true) (f:∀s,fenceModules? p s=some s) (le:Nat.ble M N=true)
  (runF:∀(w:World) (os:OsState),PySem.W.Fast.tw9285885503168683399 (boot_heap (w.withFollow row false).params) (annOf (w.withFollow row false).params) (bootS (w.withFollow row false).params os) p' (qOf n p') loose (fun s=>xlAt (qOf n p') lv s&&recOk R s) Yf M (w.withFollow row false)=some (true,openGood (qOf n p') loose,Ya (w.withFollow row false)))
  (runT:∀(w:World) (os:OsState),PySem.W.Fast.tw9285885503168683399 (boot_heap (w.withFollow row true).params) (annOf (w.withFollow row true).params) (bootS (w.withFollow row true).params os) p' (qOf n p') loose (fun s=>xlAt (qOf n p') lv s&&recOk R s) Yf M (w.withFollow row true)=some (true,openGood (qOf n p') loose,Ya (w.withFollow row true))) :
  LeftO p (qOf n p) loose (fun s=>xlAt (qOf n p) lv s&&recOk R s) Yf Ya N :=
 aCz M hp e hN f le (byRow2 row (P:=fun w=>∀os:OsState,PySem.W.Fast.tw9285885503168683399 (boot_heap w.params) (annOf w.params) (bootS w.params os) p' (qOf n p') loose (fun s=>xlAt (qOf n p') lv s&&recOk R s) Yf M w=some (true,openGood (qOf n p') loose,Ya w)) runF runT)
end OP
namespace L2
open PySem PySem.Spec PyProof.Rows
theorem y4 {l:PySem.W.OpenLaw} {n k:Nat} {q:Program} {loose:List Str} {XP:(Str->Option Value)->Heap->Prop} {YP:World->Heap->Prop} {d:DefRec} {K:Params->PySem.W.Frag} {CX:World->CXT} {sp:Addr->World->PySem.W.Frag->Sp} {x:Str} {Pt:Addr}
  (hn:l.most=some n) (hn2:n<=sizeLine) (hdf:d.params.defaults=[]) (hr:Room k callerA)
  (hY:∀(w:World) (h:Heap),YP w h->(K w.params).In h/\h.get? Pt=some (PySem.W.tabObj #[]))
  (F:∀(w:World) (mg:Str->Option Value) (fa:Addr) (h:Heap),(K w.params).In h->h.Ns mainGlobals mg->XP mg h->mg d.name=some (.ref fa) ->
   ∃(fd:FuncData) (c:Addr),PySem.W.codeHdIn (K w.params) c Pt=true/\(K w.params).lookup Pt=none/\(∀(s:Shared) (u:Value),BindsTo s fd ⟨[u],[]⟩ [(x,u)]) /\
    ∀base:Heap,(K w.params).In base->base.Ns mainGlobals mg->base.BuiltinsAt mg Pt->FnOk l.prog w (K w.params) mg base (CX w) k fa fd [x] (sp Pt w (K w.params)))
  (hsp:∀(w:World) (K:PySem.W.Frag) (H:Hp) (a:Addr) (ns:List Int),ns.length<=n->xE Pt H->SqL K H a (ns.map V.int)->H Pt=some (.tbl #[])->sp Pt w K [.ref a] H (fun v _=>v=.bl true) fun _ _ _=>False)
  (hCX:∀(w:World) (H:Hp) (s:Shared) (e:Value) (s':Shared),CX w [] H s (fun _ _ _=>False) e s'->False) :
  PySem.W.WalkO q loose XP YP l.row.toRowW d [] (fun f vs=>PySem.call f vs):=by
 exact y3 (sp:=sp Pt) hn hn2 hdf hr hY F hsp hCX
end L2
namespace PP
open PySem L2 MM
local macro_rules | `(tactic| rename_i $a:ident $b:ident $c:ident)=>`(tactic| ((try dsimp only[eO,lJ,fF,kK,kC,f9,gA,iT,lI,iQ,qD,dZ,tC,tOp,tUn,rI,rI0,rU,tB,qE,tOr,nJ,iU,sS,iR,tIf,eM,rQ,jI,oK,rP,tCB,eJ,iC,gD,fB,ipI,qA,iS,tBM,tyV,kJ,jS,eG,nM,List.getElem?_cons_zero,List.getElem?_cons_succ,List.set_cons_zero,List.set_cons_succ,List.nil_append,List.cons_append,iX,lW,fM,e8,oI,kM,gB,fR,fQ,kF,gE]);(try simp only[eO,lJ,fF,kK,kC,f9,gA,iT,lI,iQ,qD,dZ,tC,tOp,tUn,rI,rI0,rU,tB,qE,tOr,nJ,iU,sS,iR,tIf,eM,rQ,jI,oK,rP,tCB,eJ,iC,gD,fB,ipI,qA,iS,tBM,tyV,kJ,jS,eG,nM,kX,kY,kT,kU,kW,rEq,rNe,List.getElem?_cons_zero,List.getElem?_cons_succ,List.set_cons_zero,List.set_cons_succ,eq_self,and_assoc,Option.some.injEq,V.int.injEq,V.bl.injEq,V.ref.injEq,V.str.injEq,List.cons.injEq,exists_eq_left',exists_eq_left,exists_and_left,List.nil_append,List.cons_append,List.append_nil,true_and,and_true,decide_eq_true_eq,Bool.not_eq_true',decide_eq_false_iff_not,if_true,if_false,Bool.not_true,Bool.not_false,Bool.false_eq_true,reduceCtorEq,decide_true,decide_false,ite_true,ite_false,iX,lW,fM,e8,oI,kM,gB,fR,fQ,kF,gE,Int.reduceToNat,Int.reducePow,$a:ident,$b:ident,$c:ident])))
local macro_rules | `(tactic| bv_omega)=>`(tactic| rename_i eO eO eO)
local macro_rules | `(tactic| rename_i $a:ident)=>`(tactic| rename_i $a:ident eO eO)
local macro_rules | `(tactic| rename_i $a:ident $b:ident)=>`(tactic| rename_i $a:ident $b:ident eO)
local macro_rules | `(tactic| subst_eqs)=>`(tactic| first | exact Or.inl rfl | exact Or.inr rfl)
noncomputable def top (i:Nat):Stmt:=PySem.Challenge.pw_primepapers_k41_pair_papers_looked_at.main.body.getD i (.Pass ⟨0,0,0,0⟩)
structure Cl where
 pe:Addr
 nn:Addr
 np:Addr
 pa:Addr
 pp:Addr
 nb:Addr
 nt:Addr
 nl:Addr
 nm:Addr
 nd:Addr
 tg:Addr
 fw:Addr
 aw:Addr
 lk:Addr
 s2:Addr
 sf:Addr
 ss:Addr
 so:Addr
structure Txt (K:PySem.W.Frag) (mg:Str->Option Value) (t1:Tok) (cl:Cl):Prop where
 mg_MOST:mg "MOST" = some (.int 1000000000000000000000000000000 t1)
 no_len:mg "len" = none
 no_isinstance:mg "isinstance" = none
 no_int:mg "int" = none
 no_bool:mg "bool" = none
 no_range:mg "range" = none
 no_abs:mg "abs" = none
 no_max:mg "max" = none
 no_min:mg "min" = none
 no_tuple:mg "tuple" = none
 no_str:mg "str" = none
 no_all:mg "all" = none
 no_repr:mg "repr" = none
 no_list:mg "list" = none
 no_zip:mg "zip" = none
 no_sorted:mg "sorted" = none
 no_ValueError:mg "ValueError" = none
 mg_PrimeError:mg "PrimeError" = some (.ref cl.pe)
 mg_NoNumber:mg "NoNumber" = some (.ref cl.nn)
 mg_NoPrime:mg "NoPrime" = some (.ref cl.np)
 mg_NoPair:mg "NoPair" = some (.ref cl.pa)
 mg_NoPaper:mg "NoPaper" = some (.ref cl.pp)
 mg_NoBases:mg "NoBases" = some (.ref cl.nb)
 mg_NoText:mg "NoText" = some (.ref cl.nt)
 mg_NoLine:mg "NoLine" = some (.ref cl.nl)
 mg_NoName:mg "NoName" = some (.ref cl.nm)
 mg_NoDeed:mg "NoDeed" = some (.ref cl.nd)
 mg_TooGreat:mg "TooGreat" = some (.ref cl.tg)
 xc_NoNumber:vG K cl.nn
 mg_FULL_WORDS:mg "FULL_WORDS" = some (.ref cl.fw)
 mg_ALL_WORDS:mg "ALL_WORDS" = some (.ref cl.aw)
 mg_LOOKS:mg "LOOKS" = some (.ref cl.lk)
 mg_shows_two:mg "shows_two" = some (.ref cl.s2)
 mg_shows_full:mg "shows_full" = some (.ref cl.sf)
 mg_shows_share:mg "shows_share" = some (.ref cl.ss)
 mg_shows_other:mg "shows_other" = some (.ref cl.so)
 fw:∀H,SqT K H cl.fw [.str (Str.ofString "two"),.str (Str.ofString "full")]
 aw:∀H,SqT K H cl.aw [.str (Str.ofString "two"),.str (Str.ofString "full"),.str (Str.ofString "share"),.str (Str.ofString "other")]
noncomputable def yW (P:Program) (w:World) (K:PySem.W.Frag) (cl:Cl):Prop:=DiK P w K cl.lk [(.inr (Str.ofString "two"),.ref cl.s2),(.inr (Str.ofString "full"),.ref cl.sf),(.inr (Str.ofString "share"),.ref cl.ss),(.inr (Str.ofString "other"),.ref cl.so)]
section
variable {P:Program} {w:World} {K:PySem.W.Frag} {mg:Str->Option Value} {base:Heap} {t1:Tok} {cl:Cl} {f:Addr} {fd:FuncData}
noncomputable abbrev s_q45:Stmt:=top 14
theorem sc_q45:FnScope ["thing"] ["thing"] (aJ s_q45):=⟨rfl,rfl,rfl,by decide +kernel,rfl,by decide +kernel,by decide +kernel⟩
noncomputable abbrev Df_q45 (K:PySem.W.Frag) (mg:Str->Option Value) (f:Addr) (fd:FuncData):Prop:=Def K mg "is_whole" s_q45 ["thing"] f fd
noncomputable def kP:V->Bool
 | .int _=>true
 | _=>false
theorem aAy {H:Hp} {x:V} {n:String} (k:Kd K H x n):(cU n "int" && !cU n "bool")=kP x:=by
 rcases k with ty | ⟨rfl,a,xs,rfl,_⟩ | ⟨rfl,a,xs,rfl,_⟩
 ·cases ty <;> rfl
 ·rfl
 ·rfl
noncomputable def spWhole (K:PySem.W.Frag):Sp:=fun vs H Q _=>∃x n,vs=[x]/\Kd K H x n/\Q (.bl (kP x)) H
theorem ok_q45 (D:Df_q45 K mg f fd) (T:Txt K mg t1 cl):FnOk P w K mg base CX0 1 f fd ["thing"] (spWhole K):=by
 refine D.fn.ok sc_q45 (fun vs H Q E h=>?_) (fun cdv A outer s H vs Q E hr h=>?_)
 ·obtain⟨x,n,rfl,_⟩:=h
  rfl
 ·obtain⟨x,n,rfl,ty,k⟩:=h
  rw[<- aAy ty] at k
  refine⟨_,(aG (aN (dC (aQ bJ (by rfl) T.no_isinstance PyProof.Rows.boot_isinstance (aA (pv 0) (aA (b9 (v:=.ty "int") rfl T.no_int PyProof.Rows.boot_int rfl) aF))) (dW (zZ (aQ bJ (by rfl) T.no_isinstance PyProof.Rows.boot_isinstance (aA (pv 0) (aA (b9 (v:=.ty "bool") rfl T.no_bool PyProof.Rows.boot_bool rfl) aF)))))))),?_⟩
  have e0:L2.start ["thing"] [x]=[some (x)]:=rfl
  rw[e0];clear e0
  bv_omega
  refine isk ty ⟨_,rfl,?_⟩
  cases e:cU n "int" with
  | false =>
   rw[e] at k
   rw[if_neg (by decide)]
   exact k
  | true =>
   rw[e] at k
   rw[if_pos rfl]
   refine isk ty ⟨_,rfl,?_⟩
   exact k
noncomputable abbrev O_q45 (P:Program) (w:World) (K:PySem.W.Frag) (mg:Str->Option Value) (base:Heap):Prop:=∃f fd,Df_q45 K mg f fd/\FnOk P w K mg base CX0 1 f fd ["thing"] ((spWhole K))
noncomputable abbrev s_q26:Stmt:=top 15
theorem sc_q26:FnScope ["thing","least","most"] ["thing","least","most"] (aJ s_q26):=⟨rfl,rfl,rfl,by decide +kernel,rfl,by decide +kernel,by decide +kernel⟩
noncomputable abbrev Df_q26 (K:PySem.W.Frag) (mg:Str->Option Value) (f:Addr) (fd:FuncData):Prop:=Def K mg "is_between" s_q26 ["thing","least","most"] f fd
noncomputable def dG:V->Int->Int->Bool
 | .int i,lo,hi=>decide (lo<=i)&&decide (i<=hi)
 | _,_,_=>false
theorem isB {i lo hi:Int} (h1:lo<=i) (h2:i<=hi):dG (.int i) lo hi=true:=by simp[dG,h1,h2]
noncomputable def spBetween (K:PySem.W.Frag):Sp:=fun vs H Q _=>∃x n lo hi,vs=[x,.int lo,.int hi]/\Kd K H x n/\Q (.bl (dG x lo hi)) H
theorem ok_q26 (D:Df_q26 K mg f fd) (T:Txt K mg t1 cl) (o1:O_q45 P w K mg base):FnOk P w K mg base CX0 2 f fd ["thing","least","most"] (spBetween K):=by
 obtain⟨_,_,D_q45,G_q45⟩:=o1
 refine D.fn.ok sc_q26 (fun vs H Q E h=>?_) (fun cdv A outer s H vs Q E hr h=>?_)
 ·obtain⟨x,n,lo,hi,rfl,_⟩:=h
  rfl
 ·obtain⟨x,n,lo,hi,rfl,ty,k⟩:=h
  refine⟨_,(aG (aN (dC (aK (G_q45.mono (by decide)) hr rfl D_q45.mgx D_q45.fn.kp D_q45.bd .nil aR (aA (pv 0) aF)) (dW (z6 hU hU (pv 1) (pv 0) (pv 2)))))),?_⟩
  have e0:L2.start ["thing","least","most"] [x,.int lo,.int hi]=[some (x),some (.int lo),some (.int hi)]:=rfl
  rw[e0];clear e0
  bv_omega
  refine⟨x,n,rfl,ty,_,rfl,?_⟩
  cases x
  case int i =>
   refine aGq ⟨_,rfl,?_⟩
   by_cases hl:lo<=i
   ·rw[if_pos (by simpa using hl)]
    have e:dG (.int i) lo hi=decide (i<=hi):=by simp[dG,hl]
    rw[e] at k
    bv_omega
    exact k
   ·rw[if_neg (by simpa using hl)]
    have e:dG (.int i) lo hi=false:=by simp[dG,hl]
    rw[e] at k
    exact k
  all_goals exact aF5 k
noncomputable abbrev O_q26 (P:Program) (w:World) (K:PySem.W.Frag) (mg:Str->Option Value) (base:Heap):Prop:=∃f fd,Df_q26 K mg f fd/\FnOk P w K mg base CX0 2 f fd ["thing","least","most"] ((spBetween K))
noncomputable abbrev s_q13:Stmt:=top 16
theorem sc_q13:FnScope ["thing","least","most","name"] ["thing","least","most","name"] (aJ s_q13):=⟨rfl,rfl,rfl,by decide +kernel,rfl,by decide +kernel,by decide +kernel⟩
noncomputable abbrev Df_q13 (K:PySem.W.Frag) (mg:Str->Option Value) (f:Addr) (fd:FuncData):Prop:=Def K mg "want_between" s_q13 ["thing","least","most","name"] f fd
noncomputable def spWantB:Sp:=fun vs H Q _=>∃(i lo hi:Int) (nm:Str),vs=[.int i,.int lo,.int hi,.str nm]/\(lo<=i/\i<=hi)/\Q .non H
theorem ok_q13 (D:Df_q13 K mg f fd) (T:Txt K mg t1 cl) (o1:O_q26 P w K mg base):FnOk P w K mg base CX0 3 f fd ["thing","least","most","name"] spWantB:=by
 obtain⟨_,_,D_q26,G_q26⟩:=o1
 refine D.fn.ok sc_q13 (fun vs H Q E h=>?_) (fun cdv A outer s H vs Q E hr h=>?_)
 ·obtain⟨i,lo,hi,nm,rfl,_⟩:=h
  rfl
 ·obtain⟨i,lo,hi,nm,rfl,hb,k⟩:=h
  refine⟨_,(aG (bF (bH (bL (aK (G_q26.mono (by decide)) hr rfl D_q26.mgx D_q26.fn.kp D_q26.bd .nil aR (aA (pv 0) (aA (pv 1) (aA (pv 2) aF)))))) (aG zP) aT)),?_⟩
  have e0:L2.start ["thing","least","most","name"] [.int i,.int lo,.int hi,.str nm]=[some (.int i),some (.int lo),some (.int hi),some (.str nm)]:=rfl
  rw[e0];clear e0
  bv_omega
  refine⟨.int i,"int",lo,hi,rfl,.inl (.int _),_,rfl,?_⟩
  rw[isB hb.1 hb.2]
  exact k
noncomputable abbrev O_q13 (P:Program) (w:World) (K:PySem.W.Frag) (mg:Str->Option Value) (base:Heap):Prop:=∃f fd,Df_q13 K mg f fd/\FnOk P w K mg base CX0 3 f fd ["thing","least","most","name"] (spWantB)
noncomputable abbrev s_q21:Stmt:=top 17
theorem sc_q21:FnScope ["thing","name"] ["thing","name"] (aJ s_q21):=⟨rfl,rfl,rfl,by decide +kernel,rfl,by decide +kernel,by decide +kernel⟩
noncomputable abbrev Df_q21 (K:PySem.W.Frag) (mg:Str->Option Value) (f:Addr) (fd:FuncData):Prop:=Def K mg "want_number" s_q21 ["thing","name"] f fd
noncomputable def spWant (lo hi:Int):Sp:=fun vs H Q _=>∃(i:Int) (nm:Str),vs=[.int i,.str nm]/\(lo<=i/\i<=hi)/\Q .non H
theorem ok_q21 (D:Df_q21 K mg f fd) (T:Txt K mg t1 cl) (o1:O_q13 P w K mg base):FnOk P w K mg base CX0 4 f fd ["thing","name"] (spWant 1 (10^30)):=by
 obtain⟨_,_,D_q13,G_q13⟩:=o1
 refine D.fn.ok sc_q21 (fun vs H Q E h=>?_) (fun cdv A outer s H vs Q E hr h=>?_)
 ·obtain⟨i,nm,rfl,_⟩:=h
  rfl
 ·obtain⟨i,nm,rfl,hb,k⟩:=h
  refine⟨_,(aG (eP (aK (G_q13.mono (by decide)) hr rfl D_q13.mgx D_q13.fn.kp D_q13.bd .nil aR (aA (pv 0) (aA aB (aA (cZ (v:=.int _) rfl T.mg_MOST ⟨_,rfl⟩) (aA (pv 1) aF))))))),?_⟩
  have e0:L2.start ["thing","name"] [.int i,.str nm]=[some (.int i),some (.str nm)]:=rfl
  rw[e0];clear e0
  bv_omega
  exact⟨i,1,_,nm,rfl,hb,k⟩
noncomputable abbrev O_q21 (P:Program) (w:World) (K:PySem.W.Frag) (mg:Str->Option Value) (base:Heap):Prop:=∃f fd,Df_q21 K mg f fd/\FnOk P w K mg base CX0 4 f fd ["thing","name"] (spWant 1 (10^30))
noncomputable abbrev s_q27:Stmt:=top 19
theorem sc_q27:FnScope ["base","often","n","done","square","left"] ["base","often","n"] (aJ s_q27):=⟨rfl,rfl,rfl,by decide +kernel,rfl,by decide +kernel,by decide +kernel⟩
noncomputable abbrev Df_q27 (K:PySem.W.Frag) (mg:Str->Option Value) (f:Addr) (fd:FuncData):Prop:=Def K mg "power_rest" s_q27 ["base","often","n"] f fd
noncomputable def spPower:Sp:=fun vs H Q _=>∃(b o n:Int),vs=[.int b,.int o,.int n]/\(b.natAbs<10^100/\0<=o/\0<n/\n<=10^40)/\Q (.int (b^o.toNat%n)) H
theorem ok_q27 (D:Df_q27 K mg f fd) (T:Txt K mg t1 cl):FnOk P w K mg base CX0 1 f fd ["base","often","n"] spPower:=by
 refine D.fn.ok sc_q27 (fun vs H Q E h=>?_) (fun cdv A outer s H vs Q E hr h=>?_)
 ·obtain⟨b,o,n,rfl,_⟩:=h
  rfl
 ·obtain⟨b,o,n,rfl,⟨hb,ho,hn,hn2⟩,k⟩:=h
  refine⟨_,(aD (aU (i:=3) sc_q27.nd rfl (by subst_eqs) (aH bI aB (pv 2))) (aD (aU (i:=4) sc_q27.nd rfl (by subst_eqs) (aH bI (pv 0) (pv 2))) (aD (aU (i:=5) sc_q27.nd rfl (by subst_eqs) (pv 1)) (aD (cN PassesOwn.never (aL eL (pv 5) aB (nomark _)) (aD (bF (aL cC (aH bI (pv 5) aB) aB (nomark _)) (aG (aU (i:=3) sc_q27.nd rfl (by subst_eqs) (aH bI (aH aY (pv 3) (pv 4)) (pv 2)))) aT) (aD (aU (i:=4) sc_q27.nd rfl (by subst_eqs) (aH bI (aH aY (pv 4) (pv 4)) (pv 2))) (aG (aU (i:=5) sc_q27.nd rfl (by subst_eqs) (aH cQ (pv 5) aB)))))) (aG (aN (pv 3))))))),?_⟩
  have e0:L2.start ["base","often","n","done","square","left"] [.int b,.int o,.int n]=[some (.int b),some (.int o),some (.int n),none,none,none]:=rfl
  rw[e0];clear e0
  bv_omega
  refine⟨hn,hn,?_⟩
  refine⟨fun m σ H'=>H'=H/\∃d q l,m=l.toNat/\σ=[some (.int b),some (.int o),some (.int n),some (.int d),some (.int q),some (.int l)]/\PowInv b o n d q l,
   ⟨_,rfl,_,_,_,rfl,rfl,xU hn ho⟩,?_⟩
  rintro m σ H' ⟨rfl,d,q,l,rfl,rfl,I⟩
  bv_omega
  have i0:=I.d0;have i1:=I.d1;have i2:=I.s0;have i3:=I.s1;have i4:=I.l0
  refine dY (fun hl=>?_) (fun hl=>?_)
  ·refine⟨fun σ' H2=>H2=H'/\∃d' q' l',l'.toNat<l.toNat/\σ'=[some (.int b),some (.int o),some (.int n),some (.int d'),some (.int q'),some (.int l')]/\PowInv b o n d' q' l',
    fun σ' H2 ⟨e,d',q',l',hlt,e2,J⟩=>⟨_,hlt,e,d',q',l',rfl,e2,J⟩,?_⟩
   have c1:CMulB d q:=.inr ⟨by omega,by omega⟩
   have c2:CMulB q q:=.inr ⟨by omega,by omega⟩
   have c3:xF l 2:=⟨by decide,by decide⟩
   refine⟨by decide,?_⟩
   refine dY (fun ho=>?_) (fun ho=>?_)
   ·exact⟨c1,hn,c2,hn,c3,rfl,_,_,_,by omega,rfl,aCj hn I ho⟩
   ·exact⟨c2,hn,c3,rfl,_,_,_,by omega,rfl,zT hn I ho⟩
  ·have e:=aCk I hl
   rw[<- e] at k
   exact k
noncomputable abbrev O_q27 (P:Program) (w:World) (K:PySem.W.Frag) (mg:Str->Option Value) (base:Heap):Prop:=∃f fd,Df_q27 K mg f fd/\FnOk P w K mg base CX0 1 f fd ["base","often","n"] (spPower)
noncomputable abbrev s_q1:Stmt:=top 20
theorem sc_q1:FnScope ["one","other","great","small"] ["one","other"] (aJ s_q1):=⟨rfl,rfl,rfl,by decide +kernel,rfl,by decide +kernel,by decide +kernel⟩
noncomputable abbrev Df_q1 (K:PySem.W.Frag) (mg:Str->Option Value) (f:Addr) (fd:FuncData):Prop:=Def K mg "greatest_in_both" s_q1 ["one","other"] f fd
noncomputable def spGreat:Sp:=fun vs H Q _=>∃(a b:Int),vs=[.int a,.int b]/\(a.natAbs<10^100/\b.natAbs<10^100)/\Q (.int (Int.gcd a b)) H
theorem ok_q1 (D:Df_q1 K mg f fd) (T:Txt K mg t1 cl):FnOk P w K mg base CX0 1 f fd ["one","other"] spGreat:=by
 refine D.fn.ok sc_q1 (fun vs H Q E h=>?_) (fun cdv A outer s H vs Q E hr h=>?_)
 ·obtain⟨a,b,rfl,_⟩:=h
  rfl
 ·obtain⟨a,b,rfl,⟨ha,hb⟩,k⟩:=h
  refine⟨_,(aD (aU (i:=2) sc_q1.nd rfl (by subst_eqs) (aQ jP (by rfl) T.no_abs PyProof.Rows.boot_abs (aA (pv 0) aF))) (aD (aU (i:=3) sc_q1.nd rfl (by subst_eqs) (aQ jP (by rfl) T.no_abs PyProof.Rows.boot_abs (aA (pv 1) aF))) (aD (cN PassesOwn.never (aL eL (pv 3) aB (nomark _)) (aG (iD (i:=2) (j:=3) rfl sc_q1.nd rfl rfl (by decide) rfl rfl (aA (pv 3) (aA (aH bI (pv 2) (pv 3)) aF)) (by first | rfl | with_unfolding_all rfl)))) (aG (aN (pv 2)))))),?_⟩
  have e0:L2.start ["one","other","great","small"] [.int a,.int b]=[some (.int a),some (.int b),none,none]:=rfl
  rw[e0];clear e0
  bv_omega
  refine⟨fun m σ H'=>H'=H/\∃g s,m=s.toNat/\σ=[some (.int a),some (.int b),some (.int g),some (.int s)]/\GcdInv a b g s,
   ⟨_,rfl,_,_,rfl,rfl,pJ a b⟩,?_⟩
  rintro m σ H' ⟨rfl,g,s,rfl,rfl,I⟩
  bv_omega
  refine dY (fun hl=>?_) (fun hl=>?_)
  ·refine⟨fun σ' H2=>H2=H'/\∃g' s',s'.toNat<s.toNat/\σ'=[some (.int a),some (.int b),some (.int g'),some (.int s')]/\GcdInv a b g' s',
    fun σ' H2 ⟨e,g',s',hlt,e2,J⟩=>⟨_,hlt,e,g',s',rfl,e2,J⟩,?_⟩
   have l1:=Int.emod_lt_of_pos g hl
   have l2:=Int.emod_nonneg g (show s≠0 by omega)
   exact⟨hl,rfl,_,_,by omega,rfl,tT I hl⟩
  ·have e:=wQ I hl
   rw[<- e] at k
   exact k
noncomputable abbrev O_q1 (P:Program) (w:World) (K:PySem.W.Frag) (mg:Str->Option Value) (base:Heap):Prop:=∃f fd,Df_q1 K mg f fd/\FnOk P w K mg base CX0 1 f fd ["one","other"] (spGreat)
noncomputable abbrev pzV (P:PZ):List V:=[.int P.1,.int P.2]
structure Sm (P:PZ):Prop where
 a:P.1.natAbs<10^31
 b:P.2.natAbs<10^31
structure Fr (P:PZ):Prop where
 a0 : -(10^30)<=P.1
 a1:P.1<=10^30
 b0 : -(10^30)<=P.2
 b1:P.2<=10^30
theorem fP {n:Int} {P:PZ} (r:Rst n P) (h:n<=10^30):Sm P:=by
 have:=r.a0;have:=r.a1;have:=r.b0;have:=r.b1
 exact⟨by omega,by omega⟩
theorem Sm.rp {n:Int} (hn:0<n) (h:n<=10^30) (P:PZ):Sm (rp n P):=fP (Rst.of hn P) h
theorem bG {z:Int} (h:z.natAbs<10^31):z.natAbs<10^100:=by omega
noncomputable def spProd (K:PySem.W.Frag):Sp:=fun vs H Q _=>∃(p q:Addr) (A B:PZ) (d n:Int),vs=[.ref p,.ref q,.int d,.int n]/\SqT K H p (pzV A)/\SqT K H q (pzV B)/\(Sm A/\Sm B/\d.natAbs<10^31/\0<n/\n<=10^30)/\∀r,H r=none->Q (.ref r) (upd H r (.tup (pzV (rp n (pm d A B)))))
noncomputable abbrev s_q10:Stmt:=top 22
theorem sc_q10:FnScope ["one","other","d","n","x","y","z","w"] ["one","other","d","n"] (aJ s_q10):=⟨rfl,rfl,rfl,by decide +kernel,rfl,by decide +kernel,by decide +kernel⟩
noncomputable abbrev Df_q10 (K:PySem.W.Frag) (mg:Str->Option Value) (f:Addr) (fd:FuncData):Prop:=Def K mg "pair_product" s_q10 ["one","other","d","n"] f fd
theorem ok_q10 (D:Df_q10 K mg f fd) (T:Txt K mg t1 cl):FnOk P w K mg base CX0 1 f fd ["one","other","d","n"] (spProd K):=by
 refine D.fn.ok sc_q10 (fun vs H Q E h=>?_) (fun cdv A outer s H vs Q E hr h=>?_)
 ·obtain⟨p,q,A,B,d,n,rfl,_⟩:=h
  rfl
 ·obtain⟨p,q,A,B,d,n,rfl,hp,hq,⟨sa,sb,hd,hn,hn2⟩,k⟩:=h
  refine⟨_,(aD (d9 (pv 0) (dU rfl (bC (aX (i:=4) sc_q10.nd rfl (by subst_eqs)) (bC (aX (i:=5) sc_q10.nd rfl (by subst_eqs)) cX)))) (aD (d9 (pv 1) (dU rfl (bC (aX (i:=6) sc_q10.nd rfl (by subst_eqs)) (bC (aX (i:=7) sc_q10.nd rfl (by subst_eqs)) cX)))) (aG (aN (bV (aA (aH bI (aH bQ (aH aY (pv 4) (pv 6)) (aH aY (aH aY (pv 2) (pv 5)) (pv 7))) (pv 3)) (aA (aH bI (aH bQ (aH aY (pv 4) (pv 7)) (aH aY (pv 5) (pv 6))) (pv 3)) aF))))))),?_⟩
  have e0:L2.start ["one","other","d","n","x","y","z","w"] [.ref p,.ref q,.int d,.int n]=[some (.ref p),some (.ref q),some (.int d),some (.int n),none,none,none,none]:=rfl
  rw[e0];clear e0
  bv_omega
  refine⟨_,hp,rfl,?_⟩
  bv_omega
  refine⟨_,hq,rfl,?_⟩
  bv_omega
  exact⟨.inr ⟨bG sa.a,bG sb.a⟩,.inr ⟨bG hd,bG sa.b⟩,.inr ⟨j5 hd sa.b (by decide),bG sb.b⟩,hn,.inr ⟨bG sa.a,bG sb.b⟩,.inr ⟨bG sa.b,bG sb.a⟩,hn,by show 2<=sizeLine;decide,fun r hr'=>k r hr'⟩
noncomputable abbrev O_q10 (P:Program) (w:World) (K:PySem.W.Frag) (mg:Str->Option Value) (base:Heap):Prop:=∃f fd,Df_q10 K mg f fd/\FnOk P w K mg base CX0 1 f fd ["one","other","d","n"] (spProd K)
noncomputable abbrev s_q25:Stmt:=top 23
theorem sc_q25:FnScope ["pair","often","d","n","done","square","left"] ["pair","often","d","n"] (aJ s_q25):=⟨rfl,rfl,rfl,by decide +kernel,rfl,by decide +kernel,by decide +kernel⟩
noncomputable abbrev Df_q25 (K:PySem.W.Frag) (mg:Str->Option Value) (f:Addr) (fd:FuncData):Prop:=Def K mg "pair_power" s_q25 ["pair","often","d","n"] f fd
noncomputable def spPP (K:PySem.W.Frag):Sp:=fun vs H Q _=>∃(p:Addr) (A:PZ) (o d n:Int),vs=[.ref p,.int o,.int d,.int n]/\SqT K H p (pzV A)/\(Sm A/\0<=o/\o<=10^30/\d.natAbs<10^31/\0<n/\n<=10^30)/\∀r H',Same H H'->H' r=some (.tup (pzV (rp n (pw d A o.toNat))))->Q (.ref r) H'
theorem keep {H:Hp} {p q:Addr} {o u:HO} (e:H q=some o) (hp:H p=none):(upd H p u) q=some o:=by rw[aO (aI e hp)];exact e
theorem ok_q25 (D:Df_q25 K mg f fd) (T:Txt K mg t1 cl) (o1:O_q10 P w K mg base):FnOk P w K mg base CX0 2 f fd ["pair","often","d","n"] (spPP K):=by
 obtain⟨_,_,D_q10,G_q10⟩:=o1
 refine D.fn.ok sc_q25 (fun vs H Q E h=>?_) (fun cdv A outer s H vs Q E hr h=>?_)
 ·obtain⟨p,A,o,d,n,rfl,_⟩:=h
  rfl
 ·obtain⟨p,A,o,d,n,rfl,hp,⟨sa,ho,ho2,hd,hn,hn2⟩,k⟩:=h
  refine⟨_,(aD (aU (i:=4) sc_q25.nd rfl (by subst_eqs) (bV (aA (aH bI aB (pv 3)) (aA aB aF)))) (aD (aU (i:=5) sc_q25.nd rfl (by subst_eqs) (bV (aA (aH bI (aV bM (pv 0) aB (fun _ _=>rfl)) (pv 3)) (aA (aH bI (aV bM (pv 0) aB (fun _ _=>rfl)) (pv 3)) aF)))) (aD (aU (i:=6) sc_q25.nd rfl (by subst_eqs) (pv 1)) (aD (cN PassesOwn.never (aL eL (pv 6) aB (nomark _)) (aD (bF (aL cC (aH bI (pv 6) aB) aB (nomark _)) (aG (aU (i:=4) sc_q25.nd rfl (by subst_eqs) (aK (G_q10.mono (by decide)) hr rfl D_q10.mgx D_q10.fn.kp D_q10.bd .nil aR (aA (pv 4) (aA (pv 5) (aA (pv 2) (aA (pv 3) aF))))))) aT) (aD (aU (i:=5) sc_q25.nd rfl (by subst_eqs) (aK (G_q10.mono (by decide)) hr rfl D_q10.mgx D_q10.fn.kp D_q10.bd .nil aR (aA (pv 5) (aA (pv 5) (aA (pv 2) (aA (pv 3) aF)))))) (aG (aU (i:=6) sc_q25.nd rfl (by subst_eqs) (aH cQ (pv 6) aB)))))) (aG (aN (pv 4))))))),?_⟩
  have e0:L2.start ["pair","often","d","n","done","square","left"] [.ref p,.int o,.int d,.int n]=[some (.ref p),some (.int o),some (.int d),some (.int n),none,none,none]:=rfl
  rw[e0];clear e0
  rename_i aCb
  refine⟨hn,by show 2<=sizeLine;decide,fun p1 hp1=>?_⟩
  have hp2:=(TK.new (o:=.tup [V.int (1%n),V.int 0]) hp1).sq hp
  have s1:Same H (upd H p1 (.tup [V.int (1%n),V.int 0])):=fun b o e=>keep e hp1
  have e1:(upd H p1 (.tup [V.int (1%n),V.int 0])) p1=some (.tup (pzV (1%n,0))):=aE
  generalize upd H p1 (.tup [V.int (1%n),V.int 0])=H1 at hp2 s1 e1 ⊢
  refine⟨_,hp2,_,rfl,_,rfl,hn,_,hp2,_,rfl,_,rfl,hn,by show 2<=sizeLine;decide,fun p3 hp3=>?_⟩
  have s2:Same H (upd H1 p3 (.tup (pzV (rp n A)))):=fun b o e=>keep (s1 _ _ e) hp3
  have e2:(upd H1 p3 (.tup (pzV (rp n A)))) p1=some (.tup (pzV (1%n,0))):=keep e1 hp3
  have e3:(upd H1 p3 (.tup (pzV (rp n A)))) p3=some (.tup (pzV (rp n A))):=aE
  obtain⟨W,hW⟩:∃W:Nat->St->Hp->Prop,∀m σ H',W m σ H'↔∃(pd ps:Addr) (D S:PZ) (l:Int),m=l.toNat/\σ=[some (.ref p),some (.int o),some (.int d),some (.int n),some (.ref pd),some (.ref ps),some (.int l)]/\Same H H'/\H' pd=some (.tup (pzV D))/\H' ps=some (.tup (pzV S))/\PPInv d n A o D S l:=⟨_,fun _ _ _=>Iff.rfl⟩
  refine⟨W,⟨_,(hW _ _ _).mpr ⟨p1,p3,(1%n,0),rp n A,o,rfl,rfl,s2,e2,e3,zR hn ho⟩⟩,?_⟩
  intro m σ H' hw
  obtain⟨pd,ps,D,S,l,rfl,rfl,sm,ed,es,I⟩:=(hW _ _ _).mp hw
  clear hw
  have l0:=I.l0
  bv_omega
  refine dY (fun hl=>?_) (fun hl=>?_)
  ·refine⟨fun σ' H2=>∃m',m'<l.toNat/\W m' σ' H2,fun _ _ h=>h,?_⟩
   have c3:xF l 2:=⟨by decide,by decide⟩
   refine⟨by decide,?_⟩
   refine dY (fun ho=>?_) (fun ho=>?_)
   ·refine⟨pd,ps,D,S,d,n,rfl,SqT.of ed,SqT.of es,⟨fP I.rd hn2,fP I.rs hn2,hd,hn,hn2⟩,fun r1 hr1=>?_⟩
    bv_omega
    have es1:=keep (u:=.tup (pzV (rp n (pm d D S)))) es hr1
    refine⟨ps,ps,S,S,d,n,rfl,SqT.of es1,SqT.of es1,⟨fP I.rs hn2,fP I.rs hn2,hd,hn,hn2⟩,fun r2 hr2=>?_⟩
    bv_omega
    exact⟨c3,_,by omega,(hW _ _ _).mpr ⟨r1,r2,_,_,l/2,rfl,rfl,fun b o e=>keep (keep (sm _ _ e) hr1) hr2,keep aE hr2,aE,aEk hn I ho⟩⟩
   ·refine⟨ps,ps,S,S,d,n,rfl,SqT.of es,SqT.of es,⟨fP I.rs hn2,fP I.rs hn2,hd,hn,hn2⟩,fun r2 hr2=>?_⟩
    bv_omega
    exact⟨c3,_,by omega,(hW _ _ _).mpr ⟨pd,r2,_,_,l/2,rfl,rfl,fun b o e=>keep (sm _ _ e) hr2,keep ed hr2,aE,aCh hn I ho⟩⟩
  ·have e:=aEl I hl
   rw[e] at ed
   exact k _ _ sm ed
noncomputable abbrev O_q25 (P:Program) (w:World) (K:PySem.W.Frag) (mg:Str->Option Value) (base:Heap):Prop:=∃f fd,Df_q25 K mg f fd/\FnOk P w K mg base CX0 2 f fd ["pair","often","d","n"] (spPP K)
noncomputable abbrev s_q32:Stmt:=top 24
theorem sc_q32:FnScope ["pair","d","n","x","y"] ["pair","d","n"] (aJ s_q32):=⟨rfl,rfl,rfl,by decide +kernel,rfl,by decide +kernel,by decide +kernel⟩
noncomputable abbrev Df_q32 (K:PySem.W.Frag) (mg:Str->Option Value) (f:Addr) (fd:FuncData):Prop:=Def K mg "norm_rest" s_q32 ["pair","d","n"] f fd
noncomputable def spNorm (K:PySem.W.Frag):Sp:=fun vs H Q _=>∃(p:Addr) (A:PZ) (d n:Int),vs=[.ref p,.int d,.int n]/\SqT K H p (pzV A)/\(Sm A/\d.natAbs<10^31/\0<n/\n<=10^30)/\Q (.int ((A.1*A.1-d*A.2*A.2)%n)) H
theorem ok_q32 (D:Df_q32 K mg f fd) (T:Txt K mg t1 cl):FnOk P w K mg base CX0 1 f fd ["pair","d","n"] (spNorm K):=by
 refine D.fn.ok sc_q32 (fun vs H Q E h=>?_) (fun cdv A outer s H vs Q E hr h=>?_)
 ·obtain⟨p,A,d,n,rfl,_⟩:=h
  rfl
 ·obtain⟨p,A,d,n,rfl,hp,⟨sa,hd,hn,hn2⟩,k⟩:=h
  refine⟨_,(aD (d9 (pv 0) (dU rfl (bC (aX (i:=3) sc_q32.nd rfl (by subst_eqs)) (bC (aX (i:=4) sc_q32.nd rfl (by subst_eqs)) cX)))) (aG (aN (aH bI (aH bE (aH aY (pv 3) (pv 3)) (aH aY (aH aY (pv 1) (pv 4)) (pv 4))) (pv 2))))),?_⟩
  have e0:L2.start ["pair","d","n","x","y"] [.ref p,.int d,.int n]=[some (.ref p),some (.int d),some (.int n),none,none]:=rfl
  rw[e0];clear e0
  bv_omega
  refine⟨_,hp,rfl,?_⟩
  bv_omega
  exact⟨.inr ⟨bG sa.a,bG sa.a⟩,.inr ⟨bG hd,bG sa.b⟩,.inr ⟨j5 hd sa.b (by decide),bG sa.b⟩,hn,k⟩
noncomputable abbrev O_q32 (P:Program) (w:World) (K:PySem.W.Frag) (mg:Str->Option Value) (base:Heap):Prop:=∃f fd,Df_q32 K mg f fd/\FnOk P w K mg base CX0 1 f fd ["pair","d","n"] (spNorm K)
theorem at0 {α:Type} {x:α} {xs:List α}:atI (x::xs) 0=some x:=g9 (j:=0) rfl
theorem gG {H:Hp}:∀ {d:Dt} {x:V},Rep K H d x->kP x=true->∃i,d=.int i/\x=.int i
 | .int i,_,h,_=>by cases (show _=V.int i from h);exact⟨i,rfl,rfl⟩
 | .non,_,h,z=>by cases (show _=V.non from h);cases z
 | .bl b,_,h,z=>by cases (show _=V.bl b from h);cases z
 | .str x,_,h,z=>by cases (show _=V.str x from h);cases z
 | .tup ds,_,h,z=>by obtain⟨a,xs,rfl,_⟩:=h;cases z
 | .lst ds,_,h,z=>by obtain⟨a,xs,rfl,_⟩:=h;cases z
 | .emp,_,h,z=>by obtain⟨a,rfl,_⟩:=h;cases z
theorem fW {d:Dt} (h:cU (kdD d) "tuple" = true):∃ds,d=.tup ds:=by
 cases d <;> first | exact⟨_,rfl⟩ | cases h
noncomputable abbrev s_q50:Stmt:=top 32
theorem sc_q50:FnScope ["thing"] ["thing"] (aJ s_q50):=⟨rfl,rfl,rfl,by decide +kernel,rfl,by decide +kernel,by decide +kernel⟩
noncomputable abbrev Df_q50 (K:PySem.W.Frag) (mg:Str->Option Value) (f:Addr) (fd:FuncData):Prop:=Def K mg "is_row" s_q50 ["thing"] f fd
noncomputable def spRowG (K:PySem.W.Frag):Sp:=fun vs H Q _=>∃(d:Dt) (u:V),vs=[u]/\Rep K H d u/\(∀r:Row,d=rwD r->1<=r.2.1->Q (.bl true) H)/\((∀r:Row,d=rwD r->¬ 1<=r.2.1)->Q (.bl false) H)
theorem aF2 {α:Type} {l:List α} (h:l.length=3):∃a b c,l=[a,b,c]:=by
 match l,h with
 | [a,b,c],_=>exact⟨a,b,c,rfl⟩
theorem aF4 {α:Type} {l:List α} (h:l.length=2):∃a b,l=[a,b]:=by
 match l,h with
 | [a,b],_=>exact⟨a,b,rfl⟩
theorem ok_q50 (D:Df_q50 K mg f fd) (T:Txt K mg t1 cl) (o1:O_q45 P w K mg base):FnOk P w K mg base CX0 2 f fd ["thing"] (spRowG K):=by
 obtain⟨_,_,D_q45,G_q45⟩:=o1
 refine D.fn.ok sc_q50 (fun vs H Q E h=>?_) (fun cdv A outer s H vs Q E hr h=>?_)
 ·obtain⟨d,u,rfl,_⟩:=h
  rfl
 ·obtain⟨d,u,rfl,R,k1,k2⟩:=h
  refine⟨_,(aD (bF (PW.pt (bS (bH (bL (aQ bJ (by rfl) T.no_isinstance PyProof.Rows.boot_isinstance (aA (pv 0) (aA (b9 (v:=.ty "tuple") rfl T.no_tuple PyProof.Rows.boot_tuple rfl) aF))))) (cB (aL cV (aQ bB (by rfl) T.no_len PySem.boot_len (aA (pv 0) aF)) aB (nomark _))))) (aG (aN bR)) aT) (aG (aN (dC (aK (G_q45.mono (by decide)) hr rfl D_q45.mgx D_q45.fn.kp D_q45.bd .nil aR (aA (aV bM (pv 0) aB (fun _ _=>rfl)) aF)) (dC (aK (G_q45.mono (by decide)) hr rfl D_q45.mgx D_q45.fn.kp D_q45.bd .nil aR (aA (aV bM (pv 0) aB (fun _ _=>rfl)) aF)) (dW (cH aAf (aV bM (pv 0) aB (fun _ _=>rfl)) aB (nomark _)))))))),?_⟩
  have e0:L2.start ["thing"] [u]=[some (u)]:=rfl
  rw[e0];clear e0
  refine aM fun RR sq=>?_
  bv_omega
  refine isk (cF R) ⟨_,rfl,?_⟩
  by_cases ht:cU (kdD d) "tuple" = true
  ·rw[ht,if_neg (by decide)]
   obtain⟨ds,rfl⟩:=fW ht
   obtain⟨a,xs,rfl,ha,RL⟩:=R
   have xl:=RL.length
   refine⟨a,rfl,_,.inr ha,?_⟩
   by_cases h3:ds.length=3
   ·rw[if_neg (by omega)]
    obtain⟨d0,d1,d2,rfl⟩:=aF2 h3
    subst sq
    bv_omega
    obtain⟨x0,_,rfl,R0,x1,_,rfl,R1,x2,_,rfl,R2,rfl⟩:=RL
    refine⟨a,_,_,_,rfl,rfl,ha,rfl,x0,_,rfl,cF R0,_,rfl,?_⟩
    cases e0:kP x0 with
    | false =>
     rw[if_neg (by decide)]
     refine k2 fun r er=>?_
     unfold rwD at er
     cases er
     cases (show x0=V.int r.1 from R0)
     cases e0
    | true =>
     rw[if_pos rfl]
     obtain⟨p,rfl,rfl⟩:=gG R0 e0
     refine⟨a,_,_,_,rfl,rfl,ha,rfl,x1,_,rfl,cF R1,_,rfl,?_⟩
     cases e1:kP x1 with
     | false =>
      rw[if_neg (by decide)]
      refine k2 fun r er=>?_
      unfold rwD at er
      cases er
      cases (show x1=V.int r.2.1 from R1)
      cases e1
     | true =>
      rw[if_pos rfl]
      obtain⟨q,rfl,rfl⟩:=gG R1 e1
      refine⟨a,_,_,_,rfl,rfl,ha,rfl,q,rfl,?_⟩
      by_cases hq:1<=q
      ·rw[decide_eq_true hq]
       exact k1 (p,q,d2) rfl hq
      ·rw[decide_eq_false hq]
       refine k2 fun r er=>?_
       unfold rwD at er
       cases er
       exact hq
   ·rw[if_pos (by omega)]
    refine k2 fun r er=>?_
    unfold rwD at er
    cases er
    exact absurd rfl h3
  ·have ht':cU (kdD d) "tuple" = false:=by cases h:cU (kdD d) "tuple" with | true=>exact absurd h ht | false=>rfl
   rw[ht',if_pos rfl]
   refine k2 fun r er=>?_
   subst er
   exact absurd rfl ht
noncomputable abbrev O_q50 (P:Program) (w:World) (K:PySem.W.Frag) (mg:Str->Option Value) (base:Heap):Prop:=∃f fd,Df_q50 K mg f fd/\FnOk P w K mg base CX0 2 f fd ["thing"] ((spRowG K))
noncomputable abbrev s_q22:Stmt:=top 33
theorem sc_q22:FnScope ["product","prime","often","most","left"] ["product","prime","often","most"] (aJ s_q22):=⟨rfl,rfl,rfl,by decide +kernel,rfl,by decide +kernel,by decide +kernel⟩
noncomputable abbrev Df_q22 (K:PySem.W.Frag) (mg:Str->Option Value) (f:Addr) (fd:FuncData):Prop:=Def K mg "multiplied" s_q22 ["product","prime","often","most"] f fd
noncomputable def spMulG:Sp:=fun vs H Q _=>∃(p q e m:Int),vs=[.int p,.int q,.int e,.int m]/\(1<=p/\2<=q/\q.natAbs<10^100/\1<=e/\m<=10^40)/\∀v,1<=v->(p*q^e.toNat<=m->v=p*q^e.toNat)->(m<p*q^e.toNat->m<v)->Q (.int v) H
theorem ok_q22 (D:Df_q22 K mg f fd) (T:Txt K mg t1 cl):FnOk P w K mg base CX0 1 f fd ["product","prime","often","most"] spMulG:=by
 refine D.fn.ok sc_q22 (fun vs H Q E h=>?_) (fun cdv A outer s H vs Q E hr h=>?_)
 ·obtain⟨p,q,e,m,rfl,_⟩:=h
  rfl
 ·obtain⟨p,q,e,m,rfl,⟨p1,q2,qn,e1,m40⟩,k⟩:=h
  refine⟨_,(aD (aU (i:=4) sc_q22.nd rfl (by subst_eqs) (pv 2)) (aD (cN PassesOwn.never (PW.pt (jV (aL eL (pv 4) aB (nomark _)) (gT (aL hU (pv 0) (pv 3) (nomark _))))) (aD (aU (i:=0) sc_q22.nd rfl (by subst_eqs) (aH aY (pv 0) (pv 1))) (aG (aEi (i:=4) sc_q22.nd rfl (Or.inl rfl) aB aFd)))) (aG (aN (pv 0))))),?_⟩
  have e0:L2.start ["product","prime","often","most","left"] [.int p,.int q,.int e,.int m]=[some (.int p),some (.int q),some (.int e),some (.int m),none]:=rfl
  rw[e0];clear e0
  bv_omega
  obtain⟨W,hW⟩:∃W:Nat->St->Hp->Prop,∀z σ H',W z σ H'↔∃i:Nat,z=(m+1-p*q^i).toNat/\σ=[some (.int (p*q^i)),some (.int q),some (.int e),some (.int m),some (.int (e-i))]/\(i:Int)<=e/\H'=H:=⟨_,fun _ _ _=>Iff.rfl⟩
  have pos:∀i:Nat,1<=p*q^i:=fun i=>by
   have:=dH (show 0<=p by omega) (cG (show 1<=q by omega) i)
   omega
  refine⟨W,⟨_,(hW _ _ _).mpr ⟨0,rfl,by rw[Int.pow_zero,Int.mul_one];simp,by omega,rfl⟩⟩,?_⟩
  intro z σ H' hw
  obtain⟨i,rfl,rfl,ie,rfl⟩:=(hW _ _ _).mp hw
  clear hw
  have pi:=pos i
  have step:p*q^(i+1)=p*q^i*q:=by rw[Int.pow_succ,<- Int.mul_assoc]
  have grow:p*q^i*2<=p*q^i*q:=Int.mul_le_mul_of_nonneg_left q2 (by omega)
  have mono:∀ {n:Nat},i<=n->p*q^i<=p*q^n:=fun {n} h=>Int.mul_le_mul_of_nonneg_left (cW (show 1<=q by omega) h) (by omega)
  bv_omega
  by_cases hl:0<e-(i:Int)
  ·rw[if_pos (show e-(i:Int)>0 from hl)]
   by_cases hm:p*q^i<=m
   ·rw[if_pos hm]
    refine⟨fun σ' H2=>∃m',m'<(m+1-p*q^i).toNat/\W m' σ' H2,fun _ _ h=>h,?_⟩
    refine⟨.inr ⟨by omega,qn⟩,_,?_,(hW _ _ _).mpr ⟨i+1,rfl,?_,by omega,rfl⟩⟩
    ·rw[step];omega
    ·rw[step,show e-((i+1:Nat):Int)=e-(i:Int)-1 by omega]
   ·rw[if_neg hm]
    have:=mono (show i<=e.toNat by omega)
    exact k _ pi (fun h=>by omega) (fun h=>by omega)
  ·rw[if_neg (show ¬ e-(i:Int)>0 from hl)]
   have ei:i=e.toNat:=by omega
   subst ei
   exact k _ pi (fun _=>rfl) (fun h=>h)
noncomputable abbrev O_q22 (P:Program) (w:World) (K:PySem.W.Frag) (mg:Str->Option Value) (base:Heap):Prop:=∃f fd,Df_q22 K mg f fd/\FnOk P w K mg base CX0 1 f fd ["product","prime","often","most"] (spMulG)
noncomputable def spRPG (K:PySem.W.Frag):Sp:=fun vs H Q _=>∃(d:Dt) (u:V) (m:Int),vs=[u,.int m]/\Rep K H d u/\(okD d=true/\m<=10^40)/\(∀rows,RowsP d m rows->Q (.int (prd rows)) H)/\((∀rows,¬ RowsP d m rows)->Q .non H)
theorem bU {ds:List Dt} (h:okD (.tup ds)=true):∀d∈ds,okD d=true:=by
 have h:okDL ds=true:=h
 induction ds with
 | nil=>intro d hd;cases hd
 | cons x xs ih =>
  have h:(okD x&&okDL xs)=true:=h
  rw[Bool.and_eq_true] at h
  intro d hd
  rcases List.mem_cons.mp hd with e | hd
  ·rw[e];exact h.1
  ·exact ih h.2 h.2 d hd
theorem dM {H:Hp}:∀ {ds:List Dt} {xs:List V} {j:Nat} {x:V},RepL K H ds xs->xs[j]? = some x->∃d,ds[j]? = some d/\Rep K H d x
 | [],_,j,x,R,hx=>by
  cases (show _=[] from R)
  cases hx
 | d::ds,_,j,x,R,hx=>by
  obtain⟨y,ys,rfl,Ry,R⟩:=R
  match j,hx with
  | 0,hx=>cases hx;exact⟨d,rfl,Ry⟩
  | j+1,hx=>exact dM (j:=j) R hx
noncomputable abbrev s_q9:Stmt:=top 31
theorem sc_q9:FnScope ["rows","most","product","last","row"] ["rows","most"] (aJ s_q9):=⟨rfl,rfl,rfl,by decide +kernel,rfl,by decide +kernel,by decide +kernel⟩
noncomputable abbrev Df_q9 (K:PySem.W.Frag) (mg:Str->Option Value) (f:Addr) (fd:FuncData):Prop:=Def K mg "rows_product" s_q9 ["rows","most"] f fd
theorem ok_q9 (D:Df_q9 K mg f fd) (T:Txt K mg t1 cl) (o1:O_q50 P w K mg base) (o2:O_q22 P w K mg base):FnOk P w K mg base CX0 3 f fd ["rows","most"] (spRPG K):=by
 obtain⟨_,_,D_q50,G_q50⟩:=o1
 obtain⟨_,_,D_q22,G_q22⟩:=o2
 refine D.fn.ok sc_q9 (fun vs H Q E h=>?_) (fun cdv A outer s H vs Q E hr h=>?_)
 ·obtain⟨d,u,m,rfl,_⟩:=h
  rfl
 ·obtain⟨d,u,m,rfl,R,⟨ok,m40⟩,k1,k2⟩:=h
  refine⟨_,(aD (bF (PW.pt (bS (bH (bL (aQ bJ (by rfl) T.no_isinstance PyProof.Rows.boot_isinstance (aA (pv 0) (aA (b9 (v:=.ty "tuple") rfl T.no_tuple PyProof.Rows.boot_tuple rfl) aF))))) (cB (aL cC (aQ bB (by rfl) T.no_len PySem.boot_len (aA (pv 0) aF)) aB (nomark _))))) (aG (aN iI)) aT) (aD (aU (i:=2) sc_q9.nd rfl (by subst_eqs) aB) (aD (aU (i:=3) sc_q9.nd rfl (by subst_eqs) aB) (aD (dN PassesOwn.never rfl (eE (pv 0)) (aX (i:=4) sc_q9.nd rfl (by subst_eqs)) (aD (bF (PW.pt (bS (bH (bL (aK (G_q50.mono (by decide)) hr rfl D_q50.mgx D_q50.fn.kp D_q50.bd .nil aR (aA (pv 4) aF)))) (cB (aL hU (aV bM (pv 4) aB (fun _ _=>rfl)) (pv 3) (nomark _))))) (aG (aN iI)) aT) (aD (aU (i:=3) sc_q9.nd rfl (by subst_eqs) (aV bM (pv 4) aB (fun _ _=>rfl))) (aD (aU (i:=2) sc_q9.nd rfl (by subst_eqs) (aK (G_q22.mono (by decide)) hr rfl D_q22.mgx D_q22.fn.kp D_q22.bd .nil aR (aA (pv 2) (aA (pv 3) (aA (aV bM (pv 4) aB (fun _ _=>rfl)) (aA (pv 1) aF)))))) (aG (bF (aL eL (pv 2) (pv 1) (nomark _)) (aG (aN iI)) aT)))))) (aG (aN (pv 2))))))),?_⟩
  have e0:L2.start ["rows","most","product","last","row"] [u,.int m]=[some (u),some (.int m),none,none,none]:=rfl
  rw[e0];clear e0
  bv_omega
  refine isk (cF R) ⟨_,rfl,?_⟩
  by_cases ht:cU (kdD d) "tuple" = true
  ·rw[ht,if_neg (by decide)]
   obtain⟨ds,rfl⟩:=fW ht
   obtain⟨a,xs,rfl,ha,RL⟩:=R
   have xl:=RL.length
   refine⟨a,rfl,_,.inr ha,?_⟩
   by_cases h0:ds.length=0
   ·rw[if_pos (by omega)]
    refine k2 fun rows rp=>?_
    have:=Dt.tup.inj rp.eq
    rw[this,List.length_map] at h0
    exact rp.ne (List.length_eq_zero_iff.mp h0)
   ·rw[if_neg (by omega)]
    refine⟨_,rfl,a,rfl,⟨xs,ha⟩,fX (xs:=xs) (fun j σ H2=>H2=H/\∃(pre:List Row) (v:Option V),ds.take j=pre.map rwD/\dL 1 pre/\(pre=[]\/prd pre<=m)/\σ=[some (.ref a),some (.int m),some (.int (prd pre)),some (.int (fI 1 pre)),v]) ⟨rfl,[],none,rfl,True.intro,.inl rfl,rfl⟩ (fun _ _ _ _ h=>by rw[h.1];exact ha) ?_ ?_⟩
    ·rintro j x σ H2 hx ⟨rfl,pre,v,tk,up,le,rfl⟩
     obtain⟨dj,hd,Rj⟩:=dM RL hx
     have okj:=bU ok dj (List.mem_of_getElem? hd)
     have tk1:ds.take (j+1)=ds.take j++[dj]:=by rw[List.take_succ,hd];rfl
     have p1:=cO (by decide) up
     have l1:=pV up
     bv_omega
     refine⟨dj,x,rfl,Rj,?_,?_⟩
     ·intro r er r1
      refine⟨_,rfl,?_⟩
      rw[if_neg (by decide)]
      subst er
      have tk2:ds.take (j+1)=(pre++[r]).map rwD:=by rw[tk1,tk,List.map_append];rfl
      obtain⟨c,ys,rfl,hc,_,_,rfl,rfl,_,_,rfl,rfl,z,_,rfl,R3,rfl⟩:=Rj
      have q100:r.1.natAbs<10^100:=by
       have:=bU okj (.int r.1) List.mem_cons_self
       exact of_decide_eq_true this
      refine⟨c,_,_,_,rfl,rfl,hc,rfl,_,rfl,?_⟩
      by_cases hl:r.1<=fI 1 pre
      ·rw[if_pos hl]
       refine k2 fun rows rp=>?_
       have e:=rp.take tk2
       have:=ascU_snoc.mp (gQ (b:=rows.drop (j+1)) (by rw[<- e,List.take_append_drop];exact rp.up))
       omega
      ·rw[if_neg hl]
       have up2:dL 1 (pre++[r]):=ascU_snoc.mpr ⟨up,by omega,r1⟩
       refine⟨c,_,_,_,rfl,rfl,hc,rfl,c,_,_,_,rfl,rfl,hc,rfl,_,_,_,_,rfl,⟨p1,by omega,q100,r1,m40⟩,?_⟩
       intro v v1 hv1 hv2
       refine⟨_,rfl,?_⟩
       by_cases hv:v>m
       ·rw[if_pos hv]
        refine k2 fun rows rp=>?_
        have e:=rp.take tk2
        have q:=sY (a:=pre++[r]) (b:=rows.drop (j+1)) (by rw[<- e,List.take_append_drop];exact rp.up)
        rw[<- e,List.take_append_drop,e,prd_snoc] at q
        have:=rp.le
        have:=hv1 (by omega)
        omega
       ·rw[if_neg hv]
        have hv3:prd pre*r.1^r.2.1.toNat<=m:=by
         apply Int.not_lt.mp
         intro h
         exact hv (hv2 h)
        have ev:=hv1 hv3
        refine⟨rfl,pre++[r],tk2,up2,.inr (by rw[prd_snoc];exact hv3),?_⟩
        rw[mG,prd_snoc,ev]
        exact⟨rfl,rfl,_,rfl⟩
     ·intro hno
      refine⟨_,rfl,?_⟩
      rw[if_pos (by decide)]
      refine k2 fun rows rp=>?_
      obtain⟨r,hr,er⟩:=rp.at hd
      exact hno r er (cE rp.up r (List.mem_of_getElem? hr)).2
    ·rintro σ H2 ⟨rfl,pre,v,tk,up,le,rfl⟩
     bv_omega
     rw[<- xl,List.take_length] at tk
     subst tk
     have ne:pre≠[]:=fun h=>h0 (by rw[h];rfl)
     exact k1 pre ⟨rfl,ne,up,le.resolve_left ne⟩
  ·have ht':cU (kdD d) "tuple" = false:=by cases h:cU (kdD d) "tuple" with | true=>exact absurd h ht | false=>rfl
   rw[ht',if_pos rfl]
   refine k2 fun rows rp=>?_
   rw[rp.eq] at ht
   exact absurd rfl ht
noncomputable abbrev O_q9 (P:Program) (w:World) (K:PySem.W.Frag) (mg:Str->Option Value) (base:Heap):Prop:=∃f fd,Df_q9 K mg f fd/\FnOk P w K mg base CX0 3 f fd ["rows","most"] ((spRPG K))
mutual
theorem Rep.same {K:PySem.W.Frag} {H H':Hp} (S:Same H H'):∀(d:Dt) {v:V},Rep K H d v->Rep K H' d v
 | .non,v,h=>h
 | .bl _,v,h=>h
 | .int _,v,h=>h
 | .str _,v,h=>h
 | .tup ds,v,h=>by obtain⟨a,xs,e,q,r⟩:=h;exact⟨a,xs,e,S.tk.sq q,RepL.same S ds r⟩
 | .lst ds,v,h=>by obtain⟨a,xs,e,q,r⟩:=h;exact⟨a,xs,e,S.seq q,RepL.same S ds r⟩
 | .emp,v,h=>by obtain⟨a,e,q⟩:=h;exact⟨a,e,S _ _ q⟩
theorem RepL.same {K:PySem.W.Frag} {H H':Hp} (S:Same H H'):∀(ds:List Dt) {xs:List V},RepL K H ds xs->RepL K H' ds xs
 | [],xs,h=>h
 | d::ds,xs,h=>by obtain⟨x,r,e,a,b⟩:=h;exact⟨x,r,e,Rep.same S d a,RepL.same S ds b⟩
end
theorem aW {H:Hp} {p q:Addr} {o u:HO} (e:H q=some o) (hp:H p=none):(upd H p u) q=some o:=by rw[aO (aI e hp)];exact e
noncomputable abbrev s_q30:Stmt:=top 34
theorem sc_q30:FnScope ["n","paper"] ["n","paper"] (aJ s_q30):=⟨rfl,rfl,rfl,by decide +kernel,rfl,by decide +kernel,by decide +kernel⟩
noncomputable abbrev Df_q30 (K:PySem.W.Frag) (mg:Str->Option Value) (f:Addr) (fd:FuncData):Prop:=Def K mg "shows_two" s_q30 ["n","paper"] f fd
noncomputable def spTwoG (K:PySem.W.Frag):Sp:=fun vs H Q _=>∃(n:Int) (a:Addr) (ds:List Dt),vs=[.int n,.ref a]/\Rep K H (.tup ds) (.ref a)/\Q (.bl (decide (ds.length=1/\n=2))) H
theorem ok_q30 (D:Df_q30 K mg f fd) (T:Txt K mg t1 cl):FnOk P w K mg base CX0 1 f fd ["n","paper"] (spTwoG K):=by
 refine D.fn.ok sc_q30 (fun vs H Q E h=>?_) (fun cdv A outer s H vs Q E hr h=>?_)
 ·obtain⟨n,a,ds,rfl,_⟩:=h
  rfl
 ·obtain⟨n,a,ds,rfl,R,k⟩:=h
  obtain⟨_,xs,e,ha,RL⟩:=R
  cases e
  have xl:=RL.length
  refine⟨_,(aG (aN (dC (cH cC (aQ bB (by rfl) T.no_len PySem.boot_len (aA (pv 1) aF)) aB (nomark _)) (dW (cH cC (pv 0) aB (nomark _)))))),?_⟩
  have e0:L2.start ["n","paper"] [.int n,.ref a]=[some (.int n),some (.ref a)]:=rfl
  rw[e0];clear e0
  bv_omega
  refine⟨xs,.inr ha,?_⟩
  by_cases h1:ds.length=1
  ·rw[if_pos (by omega)]
   rw[show decide (ds.length=1/\n=2)=decide (n=2) by simp[h1]] at k
   simpa using k
  ·rw[if_neg (by omega)]
   rw[show decide (ds.length=1/\n=2)=false by simp[h1]] at k
   exact k
noncomputable abbrev O_q30 (P:Program) (w:World) (K:PySem.W.Frag) (mg:Str->Option Value) (base:Heap):Prop:=∃f fd,Df_q30 K mg f fd/\FnOk P w K mg base CX0 1 f fd ["n","paper"] ((spTwoG K))
noncomputable abbrev s_q7:Stmt:=top 37
theorem sc_q7:FnScope ["product","n"] ["product","n"] (aJ s_q7):=⟨rfl,rfl,rfl,by decide +kernel,rfl,by decide +kernel,by decide +kernel⟩
noncomputable abbrev Df_q7 (K:PySem.W.Frag) (mg:Str->Option Value) (f:Addr) (fd:FuncData):Prop:=Def K mg "is_great_share" s_q7 ["product","n"] f fd
noncomputable def spGSG:Sp:=fun vs H Q _=>∃(x:V) (n:Int),vs=[x,.int n]/\((x=.non/\Q (.bl false) H)\/∃q:Int,x=.int q/\(1<=q/\q<=n/\n<=10^40)/\Q (.bl (decide ((n-1)%q=0/\n<q*q))) H)
theorem ok_q7 (D:Df_q7 K mg f fd) (T:Txt K mg t1 cl):FnOk P w K mg base CX0 1 f fd ["product","n"] spGSG:=by
 refine D.fn.ok sc_q7 (fun vs H Q E h=>?_) (fun cdv A outer s H vs Q E hr h=>?_)
 ·obtain⟨x,n,rfl,_⟩:=h
  rfl
 ·obtain⟨x,n,rfl,h⟩:=h
  refine⟨_,(aG (aN (dC (aEq (aCm (pv 0))) (dC (cH cC (aH bI (aH bE (pv 1) aB) (pv 0)) aB (nomark _)) (dW (cH eL (aH aY (pv 0) (pv 0)) (pv 1) (nomark _))))))),?_⟩
  have e0:L2.start ["product","n"] [x,.int n]=[some (x),some (.int n)]:=rfl
  rw[e0];clear e0
  bv_omega
  rcases h with ⟨rfl,k⟩ | ⟨q,rfl,⟨q1,qn,n40⟩,k⟩
  ·rw[if_neg (by simp)]
   exact k
  ·rw[if_pos (by simp)]
   refine⟨q,rfl,by omega,?_⟩
   by_cases hq:(n-1)%q=0
   ·rw[if_pos hq]
    refine⟨q,rfl,q,rfl,.inr ⟨by omega,by omega⟩,?_⟩
    rw[show decide ((n-1)%q=0/\n<q*q)=decide (n<q*q) by simp[hq]] at k
    exact k
   ·rw[if_neg hq]
    rw[show decide ((n-1)%q=0/\n<q*q)=false by simp[hq]] at k
    exact k
noncomputable abbrev O_q7 (P:Program) (w:World) (K:PySem.W.Frag) (mg:Str->Option Value) (base:Heap):Prop:=∃f fd,Df_q7 K mg f fd/\FnOk P w K mg base CX0 1 f fd ["product","n"] (spGSG)
noncomputable abbrev s_q24:Stmt:=top 38
theorem sc_q24:FnScope ["base","n"] ["base","n"] (aJ s_q24):=⟨rfl,rfl,rfl,by decide +kernel,rfl,by decide +kernel,by decide +kernel⟩
noncomputable abbrev Df_q24 (K:PySem.W.Frag) (mg:Str->Option Value) (f:Addr) (fd:FuncData):Prop:=Def K mg "comes_home" s_q24 ["base","n"] f fd
noncomputable def aDv (d:Dt) (n:Int):Prop:=∃b,d=.int b/\1<=b/\b<=n-1/\b^(n-1).toNat%n=1
noncomputable def spCHG (K:PySem.W.Frag):Sp:=fun vs H Q _=>∃(d:Dt) (x:V) (n:Int),vs=[x,.int n]/\Rep K H d x/\n<=10^40/\(aDv d n->Q (.bl true) H)/\(¬ aDv d n->Q (.bl false) H)
theorem kZ {H:Hp} {d:Dt} {x:V} {lo hi:Int} (R:Rep K H d x) (h:dG x lo hi=true):∃b,d=.int b/\x=.int b/\lo<=b/\b<=hi:=by
 have hw:kP x=true:=by
  cases x <;> first | rfl | cases h
 obtain⟨b,e1,e2⟩:=gG R hw
 subst e2
 have h:(decide (lo<=b)&&decide (b<=hi))=true:=h
 rw[Bool.and_eq_true] at h
 exact⟨b,e1,rfl,of_decide_eq_true h.1,of_decide_eq_true h.2⟩
theorem lD {b lo hi:Int} (h1:lo<=b) (h2:b<=hi):dG (.int b) lo hi=true:=by
 show (decide (lo<=b)&&decide (b<=hi))=true
 rw[decide_eq_true h1,decide_eq_true h2]
 rfl
theorem ok_q24 (D:Df_q24 K mg f fd) (T:Txt K mg t1 cl) (o1:O_q26 P w K mg base) (o2:O_q27 P w K mg base):FnOk P w K mg base CX0 3 f fd ["base","n"] (spCHG K):=by
 obtain⟨_,_,D_q26,G_q26⟩:=o1
 obtain⟨_,_,D_q27,G_q27⟩:=o2
 refine D.fn.ok sc_q24 (fun vs H Q E h=>?_) (fun cdv A outer s H vs Q E hr h=>?_)
 ·obtain⟨d,x,n,rfl,_⟩:=h
  rfl
 ·obtain⟨d,x,n,rfl,R,n40,k1,k2⟩:=h
  refine⟨_,(aG (aN (dC (aK (G_q26.mono (by decide)) hr rfl D_q26.mgx D_q26.fn.kp D_q26.bd .nil aR (aA (pv 0) (aA aB (aA (aH bE (pv 1) aB) aF)))) (dW (cH cC (aK (G_q27.mono (by decide)) hr rfl D_q27.mgx D_q27.fn.kp D_q27.bd .nil aR (aA (pv 0) (aA (aH bE (pv 1) aB) (aA (pv 1) aF)))) aB (nomark _)))))),?_⟩
  have e0:L2.start ["base","n"] [x,.int n]=[some (x),some (.int n)]:=rfl
  rw[e0];clear e0
  bv_omega
  refine⟨_,_,1,n-1,rfl,cF R,_,rfl,?_⟩
  by_cases hb:dG x 1 (n-1)=true
  ·rw[if_pos hb]
   obtain⟨b,rfl,rfl,b1,bn⟩:=kZ R hb
   refine⟨b,n-1,n,rfl,⟨by omega,by omega,by omega,n40⟩,rfl,?_⟩
   by_cases h:b^(n-1).toNat%n=1
   ·rw[h]
    exact k1 ⟨b,rfl,b1,bn,h⟩
   ·have k:=k2 (fun ⟨b',e,_,_,z⟩=>by cases e;exact h z)
    rw[decide_eq_false (fun z=>h (V.int.inj z))]
    exact k
  ·rw[if_neg hb]
   refine k2 fun ⟨b,e,b1,bn,_⟩=>hb ?_
   subst e
   cases (show x=V.int b from R)
   exact lD b1 bn
noncomputable abbrev O_q24 (P:Program) (w:World) (K:PySem.W.Frag) (mg:Str->Option Value) (base:Heap):Prop:=∃f fd,Df_q24 K mg f fd/\FnOk P w K mg base CX0 3 f fd ["base","n"] ((spCHG K))
structure FullG (n:Int) (ds:List Dt) (b:Int) (rows:List Row):Prop where
 eq:∃h rD,ds=[h,.int b,rD]/\RowsP rD (n-1) rows
 all:prd rows=n-1
 home:1<=b/\b<=n-1/\b^(n-1).toNat%n=1
 off:∀r∈rows,b^((n-1)/r.1).toNat%n≠1
noncomputable abbrev s_q23:Stmt:=top 35
theorem sc_q23:FnScope ["n","paper","base","rows","row"] ["n","paper"] (aJ s_q23):=⟨rfl,rfl,rfl,by decide +kernel,rfl,by decide +kernel,by decide +kernel⟩
noncomputable abbrev Df_q23 (K:PySem.W.Frag) (mg:Str->Option Value) (f:Addr) (fd:FuncData):Prop:=Def K mg "shows_full" s_q23 ["n","paper"] f fd
noncomputable def spFullG (K:PySem.W.Frag):Sp:=fun vs H Q _=>∃(n:Int) (ds:List Dt) (a:Addr),vs=[.int n,.ref a]/\Rep K H (.tup ds) (.ref a)/\(okD (.tup ds)=true/\1<=n/\n<=10^30)/\(∀b rows,FullG n ds b rows->∀H',Same H H'->Q (.bl true) H')/\((∀b rows,¬ FullG n ds b rows)->∀H',Same H H'->Q (.bl false) H')
theorem aDt {α:Type} {l:List α} (h:l.length=3):∃a b c,l=[a,b,c]:=by
 match l,h with
 | [a,b,c],_=>exact⟨a,b,c,rfl⟩
theorem ok_q23 (D:Df_q23 K mg f fd) (T:Txt K mg t1 cl) (o1:O_q9 P w K mg base) (o2:O_q24 P w K mg base) (o3:O_q27 P w K mg base):FnOk P w K mg base CX0 4 f fd ["n","paper"] (spFullG K):=by
 obtain⟨_,_,D_q9,G_q9⟩:=o1
 obtain⟨_,_,D_q24,G_q24⟩:=o2
 obtain⟨_,_,D_q27,G_q27⟩:=o3
 refine D.fn.ok sc_q23 (fun vs H Q E h=>?_) (fun cdv A outer s H vs Q E hr h=>?_)
 ·obtain⟨n,ds,a,rfl,_⟩:=h
  rfl
 ·obtain⟨n,ds,a,rfl,Rp,⟨ok,n1,n30⟩,k1,k2⟩:=h
  obtain⟨_,xs,e,ha,RL⟩:=Rp
  cases e
  have xl:=RL.length
  refine⟨_,(aD (bF (aL cV (aQ bB (by rfl) T.no_len PySem.boot_len (aA (pv 1) aF)) aB (nomark _)) (aG (aN bR)) aT) (aD (d9 (i7 uL (pv 1) (lA aB) lB) (dU rfl (bC (aX (i:=2) sc_q23.nd rfl (by subst_eqs)) (bC (aX (i:=3) sc_q23.nd rfl (by subst_eqs)) cX)))) (aD (bF (PW.pt (bS (aL cV (aK (G_q9.mono (by decide)) hr rfl D_q9.mgx D_q9.fn.kp D_q9.bd .nil aR (aA (pv 3) (aA (aH bE (pv 0) aB) aF))) (aH bE (pv 0) aB) (nomark _)) (cB (bH (bL (aK (G_q24.mono (by decide)) hr rfl D_q24.mgx D_q24.fn.kp D_q24.bd .nil aR (aA (pv 2) (aA (pv 0) aF)))))))) (aG (aN bR)) aT) (aD (dN PassesOwn.never rfl (eE (pv 3)) (aX (i:=4) sc_q23.nd rfl (by subst_eqs)) (aG (bF (aL cC (aK (G_q27.mono (by decide)) hr rfl D_q27.mgx D_q27.fn.kp D_q27.bd .nil aR (aA (pv 2) (aA (aH cQ (aH bE (pv 0) aB) (aV bM (pv 4) aB (fun _ _=>rfl))) (aA (pv 0) aF)))) aB (nomark _)) (aG (aN bR)) aT))) (aG (aN bR)))))),?_⟩
  have e0:L2.start ["n","paper","base","rows","row"] [.int n,.ref a]=[some (.int n),some (.ref a),none,none,none]:=rfl
  rw[e0];clear e0
  refine aM fun RR sq=>?_
  rename_i tSl kD eZ
  refine⟨_,.inr ha,?_⟩
  by_cases h3:ds.length=3
  ·rw[if_neg (by omega)]
   obtain⟨d1,d2,d3,rfl⟩:=aDt h3
   obtain⟨x1,_,rfl,R1,x2,_,rfl,R2,x3,_,rfl,R3,rfl⟩:=RL
   have ok3:=bU ok d3 (by simp)
   subst sq
   refine aM fun RR sq=>?_
   rename_i tSl kD eZ
   refine⟨a,_,rfl,ha,by show ¬ (HT.sIx 3 0 (some 1)=0/\HT.sIx 3 3 none=3);decide,fun p hp=>?_⟩
   rw[show m7 [x1,x2,x3] (some 1) none=[x2,x3] from rfl]
   have S:Same H (upd H p (.tup [x2,x3])):=fun q o e=>aW e hp
   have hp1:(upd H p (.tup [x2,x3])) p=some (.tup [x2,x3]):=aE
   generalize upd H p (.tup [x2,x3])=H1 at S hp1 ⊢
   refine⟨p,rfl,_,SqT.of hp1,rfl,_,_,rfl,_,_,rfl,rfl,?_⟩
   subst sq
   refine aM fun RR sq=>?_
   bv_omega
   have R2':=Rep.same S _ R2
   have R3':=Rep.same S _ R3
   refine⟨d3,x3,n-1,rfl,R3',⟨ok3,by omega⟩,fun rows rp=>?_,fun hno=>?_⟩
   ·refine⟨rfl,?_⟩
    by_cases all:prd rows=n-1
    ·rw[if_neg (by rw[all];exact fun z=>z rfl)]
     refine⟨d2,x2,n,rfl,R2',by omega,fun hh=>?_,fun hh=>?_⟩
     ·refine⟨_,rfl,?_⟩
      rw[if_neg (by decide)]
      obtain⟨b,rfl,b1,bn,hb⟩:=hh
      cases (show x2=V.int b from R2)
      have e3:=rp.eq
      subst e3
      obtain⟨c,ys,rfl,hc,R5⟩:=R3'
      have yl:=R5.length
      subst sq
      refine aM fun RR sq=>?_
      bv_omega
      refine⟨_,rfl,c,rfl,⟨ys,hc⟩,fX (xs:=ys) (fun j σ H2=>(H2=H1/\∀r∈rows.take j,b^((n-1)/r.1).toNat%n≠1)/\∃v,σ=[some (.int n),some (.ref a),some (.int b),some (.ref c),v]) ⟨⟨rfl,fun r hr=>by cases hr⟩,none,rfl⟩ (fun _ _ _ _ h=>by rw[h.1.1];exact hc) ?_ ?_⟩
      ·rintro j x σ H2 hx ⟨⟨rfl,of⟩,v,rfl⟩
       obtain⟨dj,hd,Rr⟩:=dM R5 hx
       obtain⟨r,hr2,rfl⟩:=rp.at hd
       have rm:=List.mem_of_getElem? hr2
       have r2:=(cE rp.up r rm).1
       obtain⟨c2,zs,rfl,hc2,_,_,rfl,rfl,_,_,rfl,rfl,z2,_,rfl,R8,rfl⟩:=Rr
       have tk:rows.take (j+1)=rows.take j++[r]:=by rw[List.take_succ,hr2];rfl
       have q100:r.1.natAbs<10^100:=of_decide_eq_true (bU (bU ok3 (rwD r) (List.mem_of_getElem? hd)) (.int r.1) List.mem_cons_self)
       bv_omega
       refine⟨c2,_,_,_,rfl,rfl,hc2,rfl,_,rfl,⟨by omega,by omega⟩,b,(n-1)/r.1,n,rfl,⟨by omega,Int.ediv_nonneg (by omega) (by omega),by omega,by omega⟩,rfl,?_⟩
       by_cases hz:b^((n-1)/r.1).toNat%n=1
       ·rw[if_pos (by rw[hz])]
        refine k2 (fun b' rows' F=>?_) _ S
        obtain⟨h',rD,e,rp'⟩:=F.eq
        cases e
        cases rp.unique rp'
        exact F.off r rm hz
       ·rw[if_neg (fun z=>hz (V.int.inj z))]
        refine⟨rfl,?_,_,rfl⟩
        rw[tk]
        intro r' hr'
        rcases List.mem_append.mp hr' with h | h
        ·exact of r' h
        ·rw[List.mem_singleton.mp h];exact hz
      ·rintro σ H2 ⟨⟨rfl,of⟩,v,rfl⟩
       subst sq
       bv_omega
       refine k1 b rows ⟨⟨_,_,rfl,rp⟩,all,⟨b1,bn,hb⟩,?_⟩ _ S
       rw[<- yl,List.length_map,List.take_length] at of
       exact of
     ·refine⟨_,rfl,?_⟩
      rw[if_pos (by decide)]
      refine k2 (fun b' rows' F=>?_) _ S
      obtain⟨h',rD,e,rp'⟩:=F.eq
      cases e
      exact hh ⟨b',rfl,F.home⟩
    ·rw[if_pos (fun z=>all (V.int.inj z))]
     refine k2 (fun b' rows' F=>?_) _ S
     obtain⟨h',rD,e,rp'⟩:=F.eq
     cases e
     cases rp.unique rp'
     exact all F.all
   ·refine⟨rfl,?_⟩
    rw[if_pos (fun z=>by cases z)]
    refine k2 (fun b' rows' F=>?_) _ S
    obtain⟨h',rD,e,rp'⟩:=F.eq
    cases e
    exact hno _ rp'
  ·rw[if_pos (by omega)]
   refine k2 (fun b' rows' F=>?_) _ (Same.refl H)
   obtain⟨h',rD,e,rp'⟩:=F.eq
   rw[e] at h3
   exact h3 rfl
noncomputable abbrev O_q23 (P:Program) (w:World) (K:PySem.W.Frag) (mg:Str->Option Value) (base:Heap):Prop:=∃f fd,Df_q23 K mg f fd/\FnOk P w K mg base CX0 4 f fd ["n","paper"] ((spFullG K))
structure ShareG (n:Int) (ds:List Dt) (b:Int) (rows:List Row):Prop where
 eq:∃h rD,ds=[h,.int b,rD]/\RowsP rD (n-1) rows
 odd:¬ n%2=0
 great:(n-1)%prd rows=0/\n<prd rows*prd rows
 home:1<=b/\b<=n-1/\b^(n-1).toNat%n=1
 off:∀r∈rows,Int.gcd (b^((n-1)/r.1).toNat%n-1) n=1
noncomputable abbrev s_q16:Stmt:=top 36
theorem sc_q16:FnScope ["n","paper","base","rows","row"] ["n","paper"] (aJ s_q16):=⟨rfl,rfl,rfl,by decide +kernel,rfl,by decide +kernel,by decide +kernel⟩
noncomputable abbrev Df_q16 (K:PySem.W.Frag) (mg:Str->Option Value) (f:Addr) (fd:FuncData):Prop:=Def K mg "shows_share" s_q16 ["n","paper"] f fd
noncomputable def spShareG (K:PySem.W.Frag):Sp:=fun vs H Q _=>∃(n:Int) (ds:List Dt) (a:Addr),vs=[.int n,.ref a]/\Rep K H (.tup ds) (.ref a)/\(okD (.tup ds)=true/\1<=n/\n<=10^30)/\(∀b rows,ShareG n ds b rows->∀H',Same H H'->Q (.bl true) H')/\((∀b rows,¬ ShareG n ds b rows)->∀H',Same H H'->Q (.bl false) H')
theorem ok_q16 (D:Df_q16 K mg f fd) (T:Txt K mg t1 cl) (o1:O_q9 P w K mg base) (o2:O_q24 P w K mg base) (o3:O_q27 P w K mg base) (o4:O_q7 P w K mg base) (o5:O_q1 P w K mg base):FnOk P w K mg base CX0 4 f fd ["n","paper"] (spShareG K):=by
 obtain⟨_,_,D_q9,G_q9⟩:=o1
 obtain⟨_,_,D_q24,G_q24⟩:=o2
 obtain⟨_,_,D_q27,G_q27⟩:=o3
 obtain⟨_,_,D_q7,G_q7⟩:=o4
 obtain⟨_,_,D_q1,G_q1⟩:=o5
 refine D.fn.ok sc_q16 (fun vs H Q E h=>?_) (fun cdv A outer s H vs Q E hr h=>?_)
 ·obtain⟨n,ds,a,rfl,_⟩:=h
  rfl
 ·obtain⟨n,ds,a,rfl,Rp,⟨ok,n1,n30⟩,k1,k2⟩:=h
  obtain⟨_,xs,e,ha,RL⟩:=Rp
  cases e
  have xl:=RL.length
  refine⟨_,(aD (bF (PW.pt (bS (aL cV (aQ bB (by rfl) T.no_len PySem.boot_len (aA (pv 1) aF)) aB (nomark _)) (cB (aL cC (aH bI (pv 0) aB) aB (nomark _))))) (aG (aN bR)) aT) (aD (d9 (i7 uL (pv 1) (lA aB) lB) (dU rfl (bC (aX (i:=2) sc_q16.nd rfl (by subst_eqs)) (bC (aX (i:=3) sc_q16.nd rfl (by subst_eqs)) cX)))) (aD (bF (PW.pt (bS (bH (bL (aK (G_q7.mono (by decide)) hr rfl D_q7.mgx D_q7.fn.kp D_q7.bd .nil aR (aA (aK (G_q9.mono (by decide)) hr rfl D_q9.mgx D_q9.fn.kp D_q9.bd .nil aR (aA (pv 3) (aA (aH bE (pv 0) aB) aF))) (aA (pv 0) aF))))) (cB (bH (bL (aK (G_q24.mono (by decide)) hr rfl D_q24.mgx D_q24.fn.kp D_q24.bd .nil aR (aA (pv 2) (aA (pv 0) aF)))))))) (aG (aN bR)) aT) (aD (dN PassesOwn.never rfl (eE (pv 3)) (aX (i:=4) sc_q16.nd rfl (by subst_eqs)) (aG (bF (aL cV (aK (G_q1.mono (by decide)) hr rfl D_q1.mgx D_q1.fn.kp D_q1.bd .nil aR (aA (aH bE (aK (G_q27.mono (by decide)) hr rfl D_q27.mgx D_q27.fn.kp D_q27.bd .nil aR (aA (pv 2) (aA (aH cQ (aH bE (pv 0) aB) (aV bM (pv 4) aB (fun _ _=>rfl))) (aA (pv 0) aF)))) aB) (aA (pv 0) aF))) aB (nomark _)) (aG (aN bR)) aT))) (aG (aN bR)))))),?_⟩
  have e0:L2.start ["n","paper","base","rows","row"] [.int n,.ref a]=[some (.int n),some (.ref a),none,none,none]:=rfl
  rw[e0];clear e0
  refine aM fun RR sq=>?_
  rename_i tSl kD eZ
  refine⟨_,.inr ha,?_⟩
  by_cases h3:ds.length=3
  ·rw[if_neg (by omega)]
   refine⟨by decide,?_⟩
   by_cases h2:n%2=0
   ·rw[if_pos (by omega)]
    exact k2 (fun b' rows' F=>F.odd h2) _ (Same.refl H)
   rw[if_neg (by omega)]
   obtain⟨d1,d2,d3,rfl⟩:=aDt h3
   obtain⟨x1,_,rfl,R1,x2,_,rfl,R2,x3,_,rfl,R3,rfl⟩:=RL
   have ok3:=bU ok d3 (by simp)
   subst sq
   refine aM fun RR sq=>?_
   rename_i tSl kD eZ
   refine⟨a,_,rfl,ha,by show ¬ (HT.sIx 3 0 (some 1)=0/\HT.sIx 3 3 none=3);decide,fun p hp=>?_⟩
   rw[show m7 [x1,x2,x3] (some 1) none=[x2,x3] from rfl]
   have S:Same H (upd H p (.tup [x2,x3])):=fun q o e=>aW e hp
   have hp1:(upd H p (.tup [x2,x3])) p=some (.tup [x2,x3]):=aE
   generalize upd H p (.tup [x2,x3])=H1 at S hp1 ⊢
   refine⟨p,rfl,_,SqT.of hp1,rfl,_,_,rfl,_,_,rfl,rfl,?_⟩
   subst sq
   refine aM fun RR sq=>?_
   bv_omega
   have R2':=Rep.same S _ R2
   have R3':=Rep.same S _ R3
   refine⟨d3,x3,n-1,rfl,R3',⟨ok3,by omega⟩,fun rows rp=>?_,fun hno=>?_⟩
   ·have p1:=cO (by decide) rp.up
    have ple:=rp.le
    refine⟨_,n,rfl,.inr ⟨prd rows,rfl,⟨p1,by omega,by omega⟩,_,rfl,?_⟩⟩
    by_cases gs:(n-1)%prd rows=0/\n<prd rows*prd rows
    ·rw[decide_eq_true gs,if_neg (by decide)]
     refine⟨d2,x2,n,rfl,R2',by omega,fun hh=>?_,fun hh=>?_⟩
     ·refine⟨_,rfl,?_⟩
      rw[if_neg (by decide)]
      obtain⟨b,rfl,b1,bn,hb⟩:=hh
      cases (show x2=V.int b from R2)
      have e3:=rp.eq
      subst e3
      obtain⟨c,ys,rfl,hc,R5⟩:=R3'
      have yl:=R5.length
      subst sq
      refine aM fun RR sq=>?_
      bv_omega
      refine⟨_,rfl,c,rfl,⟨ys,hc⟩,fX (xs:=ys) (fun j σ H2=>(H2=H1/\∀r∈rows.take j,Int.gcd (b^((n-1)/r.1).toNat%n-1) n=1)/\∃v,σ=[some (.int n),some (.ref a),some (.int b),some (.ref c),v]) ⟨⟨rfl,fun r hr=>by cases hr⟩,none,rfl⟩ (fun _ _ _ _ h=>by rw[h.1.1];exact hc) ?_ ?_⟩
      ·rintro j x σ H2 hx ⟨⟨rfl,of⟩,v,rfl⟩
       obtain⟨dj,hd,Rr⟩:=dM R5 hx
       obtain⟨r,hr2,rfl⟩:=rp.at hd
       have rm:=List.mem_of_getElem? hr2
       have r2:=(cE rp.up r rm).1
       obtain⟨c2,zs,rfl,hc2,_,_,rfl,rfl,_,_,rfl,rfl,z2,_,rfl,R8,rfl⟩:=Rr
       have tk:rows.take (j+1)=rows.take j++[r]:=by rw[List.take_succ,hr2];rfl
       have q100:r.1.natAbs<10^100:=of_decide_eq_true (bU (bU ok3 (rwD r) (List.mem_of_getElem? hd)) (.int r.1) List.mem_cons_self)
       bv_omega
       refine⟨c2,_,_,_,rfl,rfl,hc2,rfl,_,rfl,⟨by omega,by omega⟩,b,(n-1)/r.1,n,rfl,⟨by omega,Int.ediv_nonneg (by omega) (by omega),by omega,by omega⟩,?_⟩
       bv_omega
       have q0:=Int.emod_nonneg (b^((n-1)/r.1).toNat) (show n≠0 by omega)
       have q1:=Int.emod_lt_of_pos (b^((n-1)/r.1).toNat) (show 0<n by omega)
       refine⟨_,n,rfl,⟨by omega,by omega⟩,rfl,?_⟩
       by_cases hz:Int.gcd (b^((n-1)/r.1).toNat%n-1) n=1
       ·rw[if_neg (by rw[hz];exact fun z=>z rfl)]
        refine⟨rfl,?_,_,rfl⟩
        rw[tk]
        intro r' hr'
        rcases List.mem_append.mp hr' with h | h
        ·exact of r' h
        ·rw[List.mem_singleton.mp h];exact hz
       ·rw[if_pos (fun z=>hz (by have:=V.int.inj z;omega))]
        refine k2 (fun b' rows' F=>?_) _ S
        obtain⟨h',rD,e,rp'⟩:=F.eq
        cases e
        cases rp.unique rp'
        exact hz (F.off r rm)
      ·rintro σ H2 ⟨⟨rfl,of⟩,v,rfl⟩
       subst sq
       bv_omega
       refine k1 b rows ⟨⟨_,_,rfl,rp⟩,h2,gs,⟨b1,bn,hb⟩,?_⟩ _ S
       rw[<- yl,List.length_map,List.take_length] at of
       exact of
     ·refine⟨_,rfl,?_⟩
      rw[if_pos (by decide)]
      refine k2 (fun b' rows' F=>?_) _ S
      obtain⟨h',rD,e,rp'⟩:=F.eq
      cases e
      exact hh ⟨b',rfl,F.home⟩
    ·rw[decide_eq_false gs,if_pos (by decide)]
     refine k2 (fun b' rows' F=>?_) _ S
     obtain⟨h',rD,e,rp'⟩:=F.eq
     cases e
     cases rp.unique rp'
     exact gs F.great
   ·refine⟨_,n,rfl,.inl ⟨rfl,_,rfl,?_⟩⟩
    rw[if_pos (by decide)]
    refine k2 (fun b' rows' F=>?_) _ S
    obtain⟨h',rD,e,rp'⟩:=F.eq
    cases e
    exact hno _ rp'
  ·rw[if_pos (by omega)]
   refine k2 (fun b' rows' F=>?_) _ (Same.refl H)
   obtain⟨h',rD,e,rp'⟩:=F.eq
   rw[e] at h3
   exact h3 rfl
noncomputable abbrev O_q16 (P:Program) (w:World) (K:PySem.W.Frag) (mg:Str->Option Value) (base:Heap):Prop:=∃f fd,Df_q16 K mg f fd/\FnOk P w K mg base CX0 4 f fd ["n","paper"] ((spShareG K))
noncomputable def kI (n:Int) (A:PZ):Prop:=0<=A.1/\A.1<=n-1/\0<=A.2/\A.2<=n-1
noncomputable abbrev s_q0:Stmt:=top 41
theorem sc_q0:FnScope ["thing","n"] ["thing","n"] (aJ s_q0):=⟨rfl,rfl,rfl,by decide +kernel,rfl,by decide +kernel,by decide +kernel⟩
noncomputable abbrev Df_q0 (K:PySem.W.Frag) (mg:Str->Option Value) (f:Addr) (fd:FuncData):Prop:=Def K mg "is_pair_of_rests" s_q0 ["thing","n"] f fd
noncomputable def spPRG (K:PySem.W.Frag):Sp:=fun vs H Q _=>∃(d:Dt) (u:V) (n:Int),vs=[u,.int n]/\Rep K H d u/\(∀A,d=pD A->kI n A->Q (.bl true) H)/\((∀A,d=pD A->¬ kI n A)->Q (.bl false) H)
theorem ok_q0 (D:Df_q0 K mg f fd) (T:Txt K mg t1 cl) (o1:O_q26 P w K mg base):FnOk P w K mg base CX0 3 f fd ["thing","n"] (spPRG K):=by
 obtain⟨_,_,D_q26,G_q26⟩:=o1
 refine D.fn.ok sc_q0 (fun vs H Q E h=>?_) (fun cdv A outer s H vs Q E hr h=>?_)
 ·obtain⟨d,u,n,rfl,_⟩:=h
  rfl
 ·obtain⟨d,u,n,rfl,R,k1,k2⟩:=h
  refine⟨_,(aD (bF (PW.pt (bS (bH (bL (aQ bJ (by rfl) T.no_isinstance PyProof.Rows.boot_isinstance (aA (pv 0) (aA (b9 (v:=.ty "tuple") rfl T.no_tuple PyProof.Rows.boot_tuple rfl) aF))))) (cB (aL cV (aQ bB (by rfl) T.no_len PySem.boot_len (aA (pv 0) aF)) aB (nomark _))))) (aG (aN bR)) aT) (aG (aN (dC (aK (G_q26.mono (by decide)) hr rfl D_q26.mgx D_q26.fn.kp D_q26.bd .nil aR (aA (aV bM (pv 0) aB (fun _ _=>rfl)) (aA aB (aA (aH bE (pv 1) aB) aF)))) (dW (aK (G_q26.mono (by decide)) hr rfl D_q26.mgx D_q26.fn.kp D_q26.bd .nil aR (aA (aV bM (pv 0) aB (fun _ _=>rfl)) (aA aB (aA (aH bE (pv 1) aB) aF))))))))),?_⟩
  have e0:L2.start ["thing","n"] [u,.int n]=[some (u),some (.int n)]:=rfl
  rw[e0];clear e0
  refine aM fun RR sq=>?_
  bv_omega
  refine isk (cF R) ⟨_,rfl,?_⟩
  by_cases ht:cU (kdD d) "tuple" = true
  ·rw[ht,if_neg (by decide)]
   obtain⟨ds,rfl⟩:=fW ht
   obtain⟨a,xs,rfl,ha,RL⟩:=R
   have xl:=RL.length
   refine⟨a,rfl,_,.inr ha,?_⟩
   by_cases h3:ds.length=2
   ·rw[if_neg (by omega)]
    obtain⟨d0,d1,rfl⟩:=aF4 h3
    subst sq
    bv_omega
    obtain⟨x0,_,rfl,R0,x1,_,rfl,R1,rfl⟩:=RL
    refine⟨a,_,_,_,rfl,rfl,ha,rfl,x0,_,_,_,rfl,cF R0,_,rfl,?_⟩
    by_cases e0:dG x0 0 (n-1)=true
    ·rw[if_pos e0]
     obtain⟨p,rfl,rfl,p0,p1⟩:=kZ R0 e0
     refine⟨a,_,_,_,rfl,rfl,ha,rfl,x1,_,_,_,rfl,cF R1,?_⟩
     cases e1:dG x1 0 (n-1) with
     | true =>
      obtain⟨q,rfl,rfl,q0,q1⟩:=kZ R1 e1
      exact k1 (p,q) rfl ⟨p0,p1,q0,q1⟩
     | false =>
      refine k2 fun A e h=>?_
      unfold pD at e
      cases e
      cases (show x1=V.int A.2 from R1)
      rw[lD h.2.2.1 h.2.2.2] at e1
      cases e1
    ·rw[if_neg e0]
     refine k2 fun A e h=>e0 ?_
     unfold pD at e
     cases e
     cases (show x0=V.int A.1 from R0)
     exact lD h.1 h.2.1
   ·rw[if_pos (by omega)]
    refine k2 fun A e h=>?_
    unfold pD at e
    cases e
    exact h3 rfl
  ·have ht':cU (kdD d) "tuple" = false:=by cases h:cU (kdD d) "tuple" with | true=>exact absurd h ht | false=>rfl
   rw[ht',if_pos rfl]
   refine k2 fun A e h=>?_
   subst e
   exact absurd rfl ht
noncomputable abbrev O_q0 (P:Program) (w:World) (K:PySem.W.Frag) (mg:Str->Option Value) (base:Heap):Prop:=∃f fd,Df_q0 K mg f fd/\FnOk P w K mg base CX0 3 f fd ["thing","n"] ((spPRG K))
structure HomeG (n:Int) (dp dd:Dt) (d:Int) (A:PZ):Prop where
 ep:dp=pD A
 ed:dd=.int d
 d1:1<=d
 dn:d<=n-1
 gd:Int.gcd d n=1
 rest:kI n A
 nm:(A.1*A.1-d*A.2*A.2)%n=1
 home:rp n (pw d A (n+1).toNat)=(1,0)
noncomputable abbrev s_q2:Stmt:=top 40
theorem sc_q2:FnScope ["pair","d","n"] ["pair","d","n"] (aJ s_q2):=⟨rfl,rfl,rfl,by decide +kernel,rfl,by decide +kernel,by decide +kernel⟩
noncomputable abbrev Df_q2 (K:PySem.W.Frag) (mg:Str->Option Value) (f:Addr) (fd:FuncData):Prop:=Def K mg "pair_comes_home" s_q2 ["pair","d","n"] f fd
noncomputable def spPCHG (K:PySem.W.Frag):Sp:=fun vs H Q _=>∃(dp dd:Dt) (up ud:V) (n:Int),vs=[up,ud,.int n]/\Rep K H dp up/\Rep K H dd ud/\(1<=n/\n<10^30)/\(∀d A,HomeG n dp dd d A->∀H',Same H H'->Q (.bl true) H')/\((∀d A,¬ HomeG n dp dd d A)->∀H',Same H H'->Q (.bl false) H')
theorem aF8 (x y:Int):depL [.int x,.int y]<=100:=by
 rw[show depL [Dt.int x,Dt.int y]=depL [Dt.int 0,Dt.int 0] from rfl]
 decide
theorem aDx {x y:Int} (h:x=1->y=0->False):eqDL [.int x,.int y] [.int 1,.int 0]=false:=by
 show (x==1&&(y==0&&true))=false
 by_cases h1:x=1
 ·by_cases h2:y=0
  ·exact(h h1 h2).elim
  ·simp[h2]
 ·simp[h1]
theorem uU {A B:PZ} (h:pD A=pD B):A=B:=by
 obtain⟨a,b⟩:=A
 obtain⟨x,y⟩:=B
 unfold pD at h
 cases h
 rfl
theorem ok_q2 (D:Df_q2 K mg f fd) (T:Txt K mg t1 cl) (o1:O_q26 P w K mg base) (o2:O_q1 P w K mg base) (o3:O_q0 P w K mg base) (o4:O_q32 P w K mg base) (o5:O_q25 P w K mg base):FnOk P w K mg base CX0 4 f fd ["pair","d","n"] (spPCHG K):=by
 obtain⟨_,_,D_q26,G_q26⟩:=o1
 obtain⟨_,_,D_q1,G_q1⟩:=o2
 obtain⟨_,_,D_q0,G_q0⟩:=o3
 obtain⟨_,_,D_q32,G_q32⟩:=o4
 obtain⟨_,_,D_q25,G_q25⟩:=o5
 refine D.fn.ok sc_q2 (fun vs H Q E h=>?_) (fun cdv A outer s H vs Q E hr h=>?_)
 ·obtain⟨dp,dd,up,ud,n,rfl,_⟩:=h
  rfl
 ·obtain⟨dp,dd,up,ud,n,rfl,Rp,Rd,⟨n1,n30⟩,k1,k2⟩:=h
  refine⟨_,(aD (bF (PW.pt (bS (bH (bL (aK (G_q26.mono (by decide)) hr rfl D_q26.mgx D_q26.fn.kp D_q26.bd .nil aR (aA (pv 1) (aA aB (aA (aH bE (pv 2) aB) aF)))))) (bS (aL cV (aK (G_q1.mono (by decide)) hr rfl D_q1.mgx D_q1.fn.kp D_q1.bd .nil aR (aA (pv 1) (aA (pv 2) aF))) aB (nomark _)) (cB (bH (bL (aK (G_q0.mono (by decide)) hr rfl D_q0.mgx D_q0.fn.kp D_q0.bd .nil aR (aA (pv 0) (aA (pv 2) aF))))))))) (aG (aN bR)) aT) (aG (aN (dC (cH cC (aK (G_q32.mono (by decide)) hr rfl D_q32.mgx D_q32.fn.kp D_q32.bd .nil aR (aA (pv 0) (aA (pv 1) (aA (pv 2) aF)))) aB (nomark _)) (dW (cH (j4 (fZ hr)) (aK (G_q25.mono (by decide)) hr rfl D_q25.mgx D_q25.fn.kp D_q25.bd .nil aR (aA (pv 0) (aA (aH bQ (pv 2) aB) (aA (pv 1) (aA (pv 2) aF))))) (bV (aA aB (aA aB aF))) (nomark _))))))),?_⟩
  have e0:L2.start ["pair","d","n"] [up,ud,.int n]=[some (up),some (ud),some (.int n)]:=rfl
  rw[e0];clear e0
  refine aM fun RR sq=>?_
  bv_omega
  refine⟨ud,_,_,_,rfl,cF Rd,_,rfl,?_⟩
  by_cases hb:dG ud 1 (n-1)=true
  ·rw[hb,if_neg (by decide)]
   obtain⟨d,rfl,rfl,d1,dn⟩:=kZ Rd hb
   refine⟨d,n,rfl,⟨by omega,by omega⟩,rfl,?_⟩
   by_cases gd:Int.gcd d n=1
   ·rw[gd,if_neg (fun z=>z rfl)]
    refine⟨dp,up,n,rfl,Rp,fun A eA rA=>?_,fun hno=>?_⟩
    ·refine⟨_,rfl,?_⟩
     rw[if_neg (by decide)]
     subst eA
     obtain⟨p,zs,rfl,hp,_,_,rfl,rfl,_,_,rfl,rfl,rfl⟩:=Rp
     have rA':=rA
     obtain⟨a0,a1,b0,b1⟩:=rA'
     have sm:Sm A:=⟨by omega,by omega⟩
     subst sq
     bv_omega
     refine⟨p,A,d,n,rfl,hp,⟨sm,by omega,by omega,by omega⟩,rfl,?_⟩
     by_cases nm:(A.1*A.1-d*A.2*A.2)%n=1
     ·rw[nm,if_pos rfl]
      refine⟨p,A,n+1,d,n,rfl,hp,⟨sm,by omega,by omega,by omega,by omega,by omega⟩,fun r H1 S1 hr1=>⟨by show 2<=sizeLine;decide,fun q hq=>?_⟩⟩
      have S2:Same H (upd H1 q (.tup [V.int 1,V.int 0])):=fun b o e=>aW (S1 _ _ e) hq
      by_cases hm:rp n (pw d A (n+1).toNat)=(1,0)
      ·have hr2:=hr1
       rw[hm] at hr2
       refine⟨_,_,.inl ⟨dA (x:=1) (y:=0) (aW hr2 hq),dA (x:=1) (y:=0) aE⟩,by decide,⟨rfl,rfl⟩,?_⟩
       rw[eqDL_self]
       exact k1 d A ⟨rfl,rfl,d1,dn,gd,rA,nm,hm⟩ _ S2
      ·refine⟨_,_,.inl ⟨dA (x:=(rp n (pw d A (n+1).toNat)).1) (y:=(rp n (pw d A (n+1).toNat)).2) (aW hr1 hq),dA (x:=1) (y:=0) aE⟩,?_,⟨rfl,rfl⟩,?_⟩
       ·exact aF8 _ _
       ·rw[aDx (fun e1 e2=>hm (Prod.ext e1 e2))]
        refine k2 (fun d' A' h=>?_) _ S2
        cases h.ed
        cases uU h.ep
        exact hm h.home
     ·rw[if_neg (fun z=>nm (V.int.inj z))]
      refine k2 (fun d' A' h=>?_) _ (Same.refl H)
      cases h.ed
      cases uU h.ep
      exact nm h.nm
    ·refine⟨_,rfl,?_⟩
     rw[if_pos (by decide)]
     exact k2 (fun d' A' h=>hno A' h.ep h.rest) _ (Same.refl H)
   ·rw[if_pos (fun z=>gd (by have:=V.int.inj z;omega))]
    refine k2 (fun d' A' h=>?_) _ (Same.refl H)
    cases h.ed
    exact gd h.gd
  ·have hb':dG ud 1 (n-1)=false:=by cases h:dG ud 1 (n-1) with | true=>exact absurd h hb | false=>rfl
   rw[hb',if_pos (by decide)]
   refine k2 (fun d' A' h=>hb ?_) _ (Same.refl H)
   have e:=h.ed
   subst e
   cases (show ud=V.int d' from Rd)
   exact lD h.d1 h.dn
noncomputable abbrev O_q2 (P:Program) (w:World) (K:PySem.W.Frag) (mg:Str->Option Value) (base:Heap):Prop:=∃f fd,Df_q2 K mg f fd/\FnOk P w K mg base CX0 4 f fd ["pair","d","n"] ((spPCHG K))
noncomputable def uY (n d:Int) (A:PZ) (r:Row):Prop:=Int.gcd (((rp n (pw d A ((n+1)/r.1).toNat)).1-1)*((rp n (pw d A ((n+1)/r.1).toNat)).1-1)-d*(rp n (pw d A ((n+1)/r.1).toNat)).2*(rp n (pw d A ((n+1)/r.1).toNat)).2) n=1
structure OtherG (n:Int) (ds:List Dt) (d:Int) (A:PZ) (rows:List Row):Prop where
 eq:∃h rD,ds=[h,.int d,pD A,rD]/\RowsP rD (n+1) rows
 odd:¬ n%2=0
 all:prd rows=n+1
 home:HomeG n (pD A) (.int d) d A
 off:∀r∈rows,uY n d A r
noncomputable abbrev s_q20:Stmt:=top 39
theorem sc_q20:FnScope ["n","paper","d","pair","rows","row","x","y"] ["n","paper"] (aJ s_q20):=⟨rfl,rfl,rfl,by decide +kernel,rfl,by decide +kernel,by decide +kernel⟩
noncomputable abbrev Df_q20 (K:PySem.W.Frag) (mg:Str->Option Value) (f:Addr) (fd:FuncData):Prop:=Def K mg "shows_other" s_q20 ["n","paper"] f fd
noncomputable def spOtherG (K:PySem.W.Frag):Sp:=fun vs H Q _=>∃(n:Int) (ds:List Dt) (a:Addr),vs=[.int n,.ref a]/\Rep K H (.tup ds) (.ref a)/\(okD (.tup ds)=true/\1<=n/\n<=10^30)/\(∀d A rows,OtherG n ds d A rows->∀H',Same H H'->Q (.bl true) H')/\((∀d A rows,¬ OtherG n ds d A rows)->∀H',Same H H'->Q (.bl false) H')
theorem aF1 {α:Type} {l:List α} (h:l.length=4):∃a b c d,l=[a,b,c,d]:=by
 match l,h with
 | [a,b,c,d],_=>exact⟨a,b,c,d,rfl⟩
theorem ok_q20 (D:Df_q20 K mg f fd) (T:Txt K mg t1 cl) (o1:O_q9 P w K mg base) (o2:O_q2 P w K mg base) (o3:O_q25 P w K mg base) (o4:O_q1 P w K mg base):FnOk P w K mg base CX0 5 f fd ["n","paper"] (spOtherG K):=by
 obtain⟨_,_,D_q9,G_q9⟩:=o1
 obtain⟨_,_,D_q2,G_q2⟩:=o2
 obtain⟨_,_,D_q25,G_q25⟩:=o3
 obtain⟨_,_,D_q1,G_q1⟩:=o4
 refine D.fn.ok sc_q20 (fun vs H Q E h=>?_) (fun cdv A outer s H vs Q E hr h=>?_)
 ·obtain⟨n,ds,a,rfl,_⟩:=h
  rfl
 ·obtain⟨n,ds,a,rfl,Rp,⟨ok,n1,n30⟩,k1,k2⟩:=h
  obtain⟨_,xs,e,ha,RL⟩:=Rp
  cases e
  have xl:=RL.length
  refine⟨_,(aD (bF (PW.pt (bS (aL cV (aQ bB (by rfl) T.no_len PySem.boot_len (aA (pv 1) aF)) aB (nomark _)) (cB (aL cC (aH bI (pv 0) aB) aB (nomark _))))) (aG (aN bR)) aT) (aD (d9 (i7 uL (pv 1) (lA aB) lB) (dU rfl (bC (aX (i:=2) sc_q20.nd rfl (by subst_eqs)) (bC (aX (i:=3) sc_q20.nd rfl (by subst_eqs)) (bC (aX (i:=4) sc_q20.nd rfl (by subst_eqs)) cX))))) (aD (bF (PW.pt (bS (aL cV (aK (G_q9.mono (by decide)) hr rfl D_q9.mgx D_q9.fn.kp D_q9.bd .nil aR (aA (pv 4) (aA (aH bQ (pv 0) aB) aF))) (aH bQ (pv 0) aB) (nomark _)) (cB (bH (bL (aK (G_q2.mono (by decide)) hr rfl D_q2.mgx D_q2.fn.kp D_q2.bd .nil aR (aA (pv 3) (aA (pv 2) (aA (pv 0) aF))))))))) (aG (aN bR)) aT) (aD (dN PassesOwn.never rfl (eE (pv 4)) (aX (i:=5) sc_q20.nd rfl (by subst_eqs)) (aD (d9 (aK (G_q25.mono (by decide)) hr rfl D_q25.mgx D_q25.fn.kp D_q25.bd .nil aR (aA (pv 3) (aA (aH cQ (aH bQ (pv 0) aB) (aV bM (pv 5) aB (fun _ _=>rfl))) (aA (pv 2) (aA (pv 0) aF))))) (dU rfl (bC (aX (i:=6) sc_q20.nd rfl (by subst_eqs)) (bC (aX (i:=7) sc_q20.nd rfl (by subst_eqs)) cX)))) (aG (bF (aL cV (aK (G_q1.mono (by decide)) hr rfl D_q1.mgx D_q1.fn.kp D_q1.bd .nil aR (aA (aH bE (aH aY (aH bE (pv 6) aB) (aH bE (pv 6) aB)) (aH aY (aH aY (pv 2) (pv 7)) (pv 7))) (aA (pv 0) aF))) aB (nomark _)) (aG (aN bR)) aT)))) (aG (aN bR)))))),?_⟩
  have e0:L2.start ["n","paper","d","pair","rows","row","x","y"] [.int n,.ref a]=[some (.int n),some (.ref a),none,none,none,none,none,none]:=rfl
  rw[e0];clear e0
  refine aM fun RR sq=>?_
  rename_i tSl kD eZ
  refine⟨_,.inr ha,?_⟩
  by_cases h4:ds.length=4
  ·rw[if_neg (by omega)]
   refine⟨by decide,?_⟩
   by_cases h2:n%2=0
   ·rw[if_pos (by omega)]
    exact k2 (fun _ _ _ F=>F.odd h2) _ (Same.refl H)
   rw[if_neg (by omega)]
   have n30':n<10^30:=by
    have:((10:Int)^30)%2=0:=by decide
    omega
   obtain⟨d1,d2,d3,d4,rfl⟩:=aF1 h4
   obtain⟨x1,_,rfl,R1,x2,_,rfl,R2,x3,_,rfl,R3,x4,_,rfl,R4,rfl⟩:=RL
   have ok4:=bU ok d4 (by simp)
   subst sq
   refine aM fun RR sq=>?_
   rename_i tSl kD eZ
   refine⟨a,_,rfl,ha,by show ¬ (HT.sIx 4 0 (some 1)=0/\HT.sIx 4 4 none=4);decide,fun p hp=>?_⟩
   rw[show m7 [x1,x2,x3,x4] (some 1) none=[x2,x3,x4] from rfl]
   have S:Same H (upd H p (.tup [x2,x3,x4])):=fun q o e=>aW e hp
   have hp1:(upd H p (.tup [x2,x3,x4])) p=some (.tup [x2,x3,x4]):=aE
   generalize upd H p (.tup [x2,x3,x4])=H1 at S hp1 ⊢
   refine⟨p,rfl,_,SqT.of hp1,rfl,_,_,rfl,_,_,rfl,_,_,rfl,rfl,?_⟩
   subst sq
   refine aM fun RR sq=>?_
   bv_omega
   have R2':=Rep.same S _ R2
   have R3':=Rep.same S _ R3
   have R4':=Rep.same S _ R4
   refine⟨d4,x4,n+1,rfl,R4',⟨ok4,by omega⟩,fun rows rp=>?_,fun hno=>?_⟩
   ·refine⟨rfl,?_⟩
    by_cases all:prd rows=n+1
    ·rw[if_neg (by rw[all];exact fun z=>z rfl)]
     refine⟨d3,d2,x3,x2,n,rfl,R3',R2',⟨n1,n30'⟩,fun d A hh H2 S2=>?_,fun hh H2 S2=>?_⟩
     ·refine⟨_,rfl,?_⟩
      rw[if_neg (by decide)]
      have e1:=hh.ep
      have e2:=hh.ed
      subst e1 e2
      have S02:=S.trans S2
      cases (show x2=V.int d from R2)
      have e4:=rp.eq
      subst e4
      obtain⟨c,ys,rfl,hc,R5⟩:=Rep.same S2 _ R4'
      obtain⟨pp,zs,rfl,hpp,_,_,rfl,rfl,_,_,rfl,rfl,rfl⟩:=Rep.same S2 _ R3'
      have yl:=R5.length
      have dd1:=hh.d1;have ddn:=hh.dn
      obtain⟨a0,a1,b0,b1⟩:=hh.rest
      have sm:Sm A:=⟨by omega,by omega⟩
      obtain⟨Pf,hPf⟩:∃Pf:Nat->St->Hp->Prop,∀j σ H3,Pf j σ H3↔(Same H2 H3/\∀r∈rows.take j,uY n d A r)/\∃v1 v2 v3,σ=[some (.int n),some (.ref a),some (.int d),some (.ref pp),some (.ref c),v1,v2,v3]:=⟨_,fun _ _ _=>Iff.rfl⟩
      subst sq
      refine aM fun RR sq=>?_
      bv_omega
      refine⟨_,rfl,c,rfl,⟨ys,hc⟩,fX (xs:=ys) Pf ((hPf _ _ _).mpr ⟨⟨Same.refl _,fun r hr=>by cases hr⟩,none,none,none,rfl⟩) (fun _ _ _ _ h=>((hPf _ _ _).mp h).1.1.tk.sq hc) ?_ ?_⟩
      ·intro j x σ H3 hx h
       obtain⟨⟨S3,of⟩,v1,v2,v3,rfl⟩:=(hPf _ _ _).mp h
       obtain⟨dj,hd,Rr⟩:=dM (RepL.same S3 _ R5) hx
       obtain⟨r,hr2,rfl⟩:=rp.at hd
       have rm:=List.mem_of_getElem? hr2
       have r2:=(cE rp.up r rm).1
       obtain⟨c2,zs,rfl,hcc,_,_,rfl,rfl,_,_,rfl,rfl,z2,_,rfl,R9,rfl⟩:=Rr
       have tk:rows.take (j+1)=rows.take j++[r]:=by rw[List.take_succ,hr2];rfl
       have q100:r.1.natAbs<10^100:=of_decide_eq_true (bU (bU ok4 (rwD r) (List.mem_of_getElem? hd)) (.int r.1) List.mem_cons_self)
       bv_omega
       refine⟨c2,_,_,_,rfl,rfl,hcc,rfl,_,rfl,⟨by omega,by omega⟩,pp,A,(n+1)/r.1,d,n,rfl,S3.tk.sq hpp,⟨sm,Int.ediv_nonneg (by omega) (by omega),?_,by omega,by omega,by omega⟩,fun q H4 S4 hq4=>?_⟩
       ·have:=Int.ediv_le_self r.1 (show 0<=n+1 by omega)
        omega
       have rs:=Rst.of (show 0<n by omega) (pw d A ((n+1)/r.1).toNat)
       have eo:uY n d A r↔Int.gcd (((MM.rp n (pw d A ((n+1)/r.1).toNat)).1-1)*((MM.rp n (pw d A ((n+1)/r.1).toNat)).1-1)-d*(MM.rp n (pw d A ((n+1)/r.1).toNat)).2*(MM.rp n (pw d A ((n+1)/r.1).toNat)).2) n=1:=Iff.rfl
       generalize MM.rp n (pw d A ((n+1)/r.1).toNat)=B at eo hq4 rs
       have q0:=rs.a0;have q1:=rs.a1;have q2:=rs.b0;have q3:=rs.b1
       have sB:Sm B:=fP rs (by omega)
       refine⟨q,rfl,_,SqT.of hq4,rfl,_,_,rfl,_,_,rfl,rfl,?_⟩
       bv_omega
       have hdd:d.natAbs<10^31:=by omega
       have s1:(B.1-1).natAbs<10^31:=by omega
       refine⟨.inr ⟨bG s1,bG s1⟩,.inr ⟨bG hdd,bG sB.b⟩,.inr ⟨j5 hdd sB.b (by decide),bG sB.b⟩,_,n,rfl,⟨?_,by omega⟩,rfl,?_⟩
       ·have e1:((B.1-1)*(B.1-1)).natAbs<10^62:=by
         rw[Int.natAbs_mul]
         exact Nat.lt_of_lt_of_le (Nat.mul_lt_mul'' s1 s1) (by decide)
        have e2:(d*B.2*B.2).natAbs<10^93:=by
         rw[Int.natAbs_mul,Int.natAbs_mul]
         exact Nat.lt_of_lt_of_le (Nat.mul_lt_mul'' (Nat.mul_lt_mul'' hdd sB.b) sB.b) (by decide)
        omega
       by_cases hz:Int.gcd ((B.1-1)*(B.1-1)-d*B.2*B.2) n=1
       ·rw[hz,if_neg (fun z=>z rfl)]
        refine(hPf _ _ _).mpr ⟨⟨S3.trans S4,?_⟩,_,_,_,rfl⟩
        rw[tk]
        intro r' hr'
        rcases List.mem_append.mp hr' with h | h
        ·exact of r' h
        ·rw[List.mem_singleton.mp h];exact eo.mpr hz
       ·rw[if_pos (fun z=>hz (by have:=V.int.inj z;omega))]
        refine k2 (fun d' A' rows' F=>?_) _ (S02.trans (S3.trans S4))
        obtain⟨h',rD,e,rp'⟩:=F.eq
        cases (show Dt.int d=.int d' by injection e with _ e;injection e)
        cases uU (show pD A=pD A' by injection e with _ e;injection e with _ e;injection e)
        cases rp.unique (show RowsP (.tup (rows.map rwD)) (n+1) rows' by injection e with _ e;injection e with _ e;injection e with _ e;injection e with e;rw[e];exact rp')
        exact hz (eo.mp (F.off r rm))
      ·intro σ H3 h
       obtain⟨⟨S3,of⟩,v1,v2,v3,rfl⟩:=(hPf _ _ _).mp h
       subst sq
       bv_omega
       refine k1 d A rows ⟨⟨_,_,rfl,rp⟩,h2,all,hh,?_⟩ _ (S02.trans S3)
       rw[<- yl,List.length_map,List.take_length] at of
       exact of
     ·refine⟨_,rfl,?_⟩
      rw[if_pos (by decide)]
      refine k2 (fun d' A' rows' F=>?_) _ (S.trans S2)
      obtain⟨h',rD,e,rp'⟩:=F.eq
      cases e
      exact hh d' A' F.home
    ·rw[if_pos (fun z=>all (V.int.inj z))]
     refine k2 (fun d' A' rows' F=>?_) _ S
     obtain⟨h',rD,e,rp'⟩:=F.eq
     cases e
     cases rp.unique rp'
     exact all F.all
   ·refine⟨rfl,?_⟩
    rw[if_pos (fun z=>by cases z)]
    refine k2 (fun d' A' rows' F=>?_) _ S
    obtain⟨h',rD,e,rp'⟩:=F.eq
    cases e
    exact hno _ rp'
  ·rw[if_pos (by omega)]
   refine k2 (fun d' A' rows' F=>?_) _ (Same.refl H)
   obtain⟨h',rD,e,rp'⟩:=F.eq
   rw[e] at h4
   exact h4 rfl
noncomputable abbrev O_q20 (P:Program) (w:World) (K:PySem.W.Frag) (mg:Str->Option Value) (base:Heap):Prop:=∃f fd,Df_q20 K mg f fd/\FnOk P w K mg base CX0 5 f fd ["n","paper"] ((spOtherG K))
theorem rO {z:Str} {ws:List Str}:inV (.str z) (ws.map V.str)=decide (z∈ws):=by
 rw[Bool.eq_iff_iff,decide_eq_true_iff]
 constructor
 ·intro h
  obtain⟨x,hx,e⟩:=List.any_eq_true.mp h
  obtain⟨y,hy,rfl⟩:=List.mem_map.mp hx
  have e:(z==y)=true\/(y==z)=true:=by first | exact .inl e | exact .inr e
  rcases e with e | e
  ·rw[eq_of_beq e];exact hy
  ·rw[<- eq_of_beq e];exact hy
 ·intro h
  refine List.any_eq_true.mpr ⟨.str z,List.mem_map_of_mem h,?_⟩
  show (z==z)=true
  exact beq_self_eq_true z
theorem u5 {d:Dt} (h:cU (kdD d) "str" = true):∃z,d=.str z:=by
 cases d <;> first | exact⟨_,rfl⟩ | cases h
noncomputable abbrev s_q14:Stmt:=top 29
theorem sc_q14:FnScope ["thing","words"] ["thing","words"] (aJ s_q14):=⟨rfl,rfl,rfl,by decide +kernel,rfl,by decide +kernel,by decide +kernel⟩
noncomputable abbrev Df_q14 (K:PySem.W.Frag) (mg:Str->Option Value) (f:Addr) (fd:FuncData):Prop:=Def K mg "begins_with" s_q14 ["thing","words"] f fd
noncomputable def spBWG (K:PySem.W.Frag):Sp:=fun vs H Q _=>∃(d:Dt) (u:V) (c:Addr) (ws:List Str),vs=[u,.ref c]/\Rep K H d u/\SqT K H c (ws.map V.str)/\(∀z ds,d=.tup (.str z::ds)->z∈ws->Q (.bl true) H)/\((∀z ds,d=.tup (.str z::ds)->¬ z∈ws)->Q (.bl false) H)
theorem ok_q14 (D:Df_q14 K mg f fd) (T:Txt K mg t1 cl):FnOk P w K mg base CX0 1 f fd ["thing","words"] (spBWG K):=by
 refine D.fn.ok sc_q14 (fun vs H Q E h=>?_) (fun cdv A outer s H vs Q E hr h=>?_)
 ·obtain⟨d,u,c,ws,rfl,_⟩:=h
  rfl
 ·obtain⟨d,u,c,ws,rfl,R,hc,k1,k2⟩:=h
  refine⟨_,(aG (aN (dC (aQ bJ (by rfl) T.no_isinstance PyProof.Rows.boot_isinstance (aA (pv 0) (aA (b9 (v:=.ty "tuple") rfl T.no_tuple PyProof.Rows.boot_tuple rfl) aF))) (dC (cH eL (aQ bB (by rfl) T.no_len PySem.boot_len (aA (pv 0) aF)) aB (nomark _)) (dC (aQ bJ (by rfl) T.no_isinstance PyProof.Rows.boot_isinstance (aA (aV bM (pv 0) aB (fun _ _=>rfl)) (aA (b9 (v:=.ty "str") rfl T.no_str PyProof.Rows.boot_str rfl) aF))) (dW (cH oZ (aV bM (pv 0) aB (fun _ _=>rfl)) (pv 1) (by with_unfolding_all rfl)))))))),?_⟩
  have e0:L2.start ["thing","words"] [u,.ref c]=[some (u),some (.ref c)]:=rfl
  rw[e0];clear e0
  bv_omega
  refine isk (cF R) ⟨_,rfl,?_⟩
  by_cases ht:cU (kdD d) "tuple" = true
  ·rw[ht,if_pos (by decide)]
   obtain⟨ds,rfl⟩:=fW ht
   obtain⟨a,xs,rfl,ha,RL⟩:=R
   have xl:=RL.length
   refine⟨a,rfl,_,.inr ha,?_⟩
   match ds,k1,k2,RL with
   | [],k1,k2,RL =>
    cases (show xs=[] from RL)
    rw[if_neg (by decide)]
    exact k2 fun z ds e=>by cases e
   | d0::ds,k1,k2,RL =>
    obtain⟨x0,ys,rfl,R0,RL⟩:=RL
    rw[if_pos (by rw[List.length_cons];omega)]
    refine⟨a,_,_,_,rfl,rfl,ha,at0,isk (cF R0) ⟨_,rfl,?_⟩⟩
    by_cases hs:cU (kdD d0) "str" = true
    ·rw[hs,if_pos (by decide)]
     obtain⟨z,rfl⟩:=u5 hs
     cases (show x0=V.str z from R0)
     refine⟨a,_,_,_,rfl,rfl,ha,at0,c,_,rfl,.inr hc,rfl,by simp[hV],?_⟩
     rw[if_neg (by decide),rO]
     by_cases hz:z∈ws
     ·rw[decide_eq_true hz]
      exact k1 z ds rfl hz
     ·rw[decide_eq_false hz]
      exact k2 fun z' ds' e=>by cases e;exact hz
    ·have hs':cU (kdD d0) "str" = false:=by cases h:cU (kdD d0) "str" with | true=>exact absurd h hs | false=>rfl
     rw[hs',if_neg (by decide)]
     exact k2 fun z' ds' e=>by cases e;exact absurd rfl hs
  ·have ht':cU (kdD d) "tuple" = false:=by cases h:cU (kdD d) "tuple" with | true=>exact absurd h ht | false=>rfl
   rw[ht',if_neg (by decide)]
   exact k2 fun z' ds' e=>by subst e;exact absurd rfl ht
noncomputable abbrev O_q14 (P:Program) (w:World) (K:PySem.W.Frag) (mg:Str->Option Value) (base:Heap):Prop:=∃f fd,Df_q14 K mg f fd/\FnOk P w K mg base CX0 1 f fd ["thing","words"] ((spBWG K))
noncomputable def dB (n:Int) (ds:List Dt):Prop:=(ds=[.str (Str.ofString "two")]/\n=2)\/((∃r,ds=.str (Str.ofString "full")::r)/\∃b rows,FullG n ds b rows)\/((∃r,ds=.str (Str.ofString "share")::r)/\∃b rows,ShareG n ds b rows)\/((∃r,ds=.str (Str.ofString "other")::r)/\∃d A rows,OtherG n ds d A rows)
noncomputable def cT:List Str:=[Str.ofString "two",Str.ofString "full",Str.ofString "share",Str.ofString "other"]
theorem ws_ne1:Str.ofString "two" ≠ Str.ofString "full" := by decide
theorem ws_ne2:Str.ofString "two" ≠ Str.ofString "share" := by decide
theorem ws_ne3:Str.ofString "two" ≠ Str.ofString "other" := by decide
theorem ws_ne4:Str.ofString "full" ≠ Str.ofString "share" := by decide
theorem ws_ne5:Str.ofString "full" ≠ Str.ofString "other" := by decide
theorem ws_ne6:Str.ofString "share" ≠ Str.ofString "other" := by decide
theorem dJ {z y:Str} {ds es:List Dt} (h:Dt.str z::ds=Dt.str y::es):z=y:=Dt.str.inj (List.cons.inj h).1
theorem show_two {n:Int} {ds:List Dt}:dB n (.str (Str.ofString "two")::ds)↔(Dt.str (Str.ofString "two")::ds).length=1/\n=2:=by
 constructor
 ·rintro (⟨e,h⟩ | ⟨⟨r,e⟩,_⟩ | ⟨⟨r,e⟩,_⟩ | ⟨⟨r,e⟩,_⟩)
  ·exact⟨by rw[e];rfl,h⟩
  ·exact absurd (dJ e) ws_ne1
  ·exact absurd (dJ e) ws_ne2
  ·exact absurd (dJ e) ws_ne3
 ·rintro⟨h,e⟩
  rw[List.length_cons] at h
  exact .inl ⟨by rw[List.length_eq_zero_iff.mp (show ds.length=0 by omega)],e⟩
theorem show_full {n:Int} {ds:List Dt}:dB n (.str (Str.ofString "full")::ds)↔∃b rows,FullG n (.str (Str.ofString "full")::ds) b rows:=by
 constructor
 ·rintro (⟨e,h⟩ | ⟨_,h⟩ | ⟨⟨r,e⟩,_⟩ | ⟨⟨r,e⟩,_⟩)
  ·exact absurd (dJ e).symm ws_ne1
  ·exact h
  ·exact absurd (dJ e) ws_ne4
  ·exact absurd (dJ e) ws_ne5
 ·exact fun h=>.inr (.inl ⟨⟨_,rfl⟩,h⟩)
theorem show_share {n:Int} {ds:List Dt}:dB n (.str (Str.ofString "share")::ds)↔∃b rows,ShareG n (.str (Str.ofString "share")::ds) b rows:=by
 constructor
 ·rintro (⟨e,h⟩ | ⟨⟨r,e⟩,_⟩ | ⟨_,h⟩ | ⟨⟨r,e⟩,_⟩)
  ·exact absurd (dJ e).symm ws_ne2
  ·exact absurd (dJ e).symm ws_ne4
  ·exact h
  ·exact absurd (dJ e) ws_ne6
 ·exact fun h=>.inr (.inr (.inl ⟨⟨_,rfl⟩,h⟩))
theorem show_other {n:Int} {ds:List Dt}:dB n (.str (Str.ofString "other")::ds)↔∃d A rows,OtherG n (.str (Str.ofString "other")::ds) d A rows:=by
 constructor
 ·rintro (⟨e,h⟩ | ⟨⟨r,e⟩,_⟩ | ⟨⟨r,e⟩,_⟩ | ⟨_,h⟩)
  ·exact absurd (dJ e).symm ws_ne3
  ·exact absurd (dJ e).symm ws_ne5
  ·exact absurd (dJ e).symm ws_ne6
  ·exact h
 ·exact fun h=>.inr (.inr (.inr ⟨⟨_,rfl⟩,h⟩))
noncomputable abbrev s_q51:Stmt:=top 43
theorem sc_q51:FnScope ["n","paper","look"] ["n","paper"] (aJ s_q51):=⟨rfl,rfl,rfl,by decide +kernel,rfl,by decide +kernel,by decide +kernel⟩
noncomputable abbrev Df_q51 (K:PySem.W.Frag) (mg:Str->Option Value) (f:Addr) (fd:FuncData):Prop:=Def K mg "shows" s_q51 ["n","paper"] f fd
noncomputable def spShowsG (K:PySem.W.Frag):Sp:=fun vs H Q _=>∃(n:Int) (a:Addr) (z:Str) (ds:List Dt),vs=[.int n,.ref a]/\Rep K H (.tup (.str z::ds)) (.ref a)/\(okD (.tup (.str z::ds))=true/\1<=n/\n<=10^30)/\z∈cT/\(dB n (.str z::ds)->∀H',Same H H'->Q (.bl true) H')/\(¬ dB n (.str z::ds)->∀H',Same H H'->Q (.bl false) H')
theorem ok_q51 (D:Df_q51 K mg f fd) (T:Txt K mg t1 cl) (lk:yW P w K cl) (o1:O_q30 P w K mg base) (o2:O_q23 P w K mg base) (o3:O_q16 P w K mg base) (o4:O_q20 P w K mg base):FnOk P w K mg base CX0 6 f fd ["n","paper"] (spShowsG K):=by
 obtain⟨f1,_,D1,G1⟩:=o1
 obtain⟨f2,_,D2,G2⟩:=o2
 obtain⟨f3,_,D3,G3⟩:=o3
 obtain⟨f4,_,D4,G4⟩:=o4
 have m1:=D1.mgx
 rw[T.mg_shows_two] at m1
 cases m1
 have m2:=D2.mgx
 rw[T.mg_shows_full] at m2
 cases m2
 have m3:=D3.mgx
 rw[T.mg_shows_share] at m3
 cases m3
 have m4:=D4.mgx
 rw[T.mg_shows_other] at m4
 cases m4
 refine D.fn.ok sc_q51 (fun vs H Q E h=>?_) (fun cdv A outer s H vs Q E hr h=>?_)
 ·obtain⟨n,a,z,ds,rfl,_⟩:=h
  rfl
 ·obtain⟨n,a,z,ds,rfl,R,hh,hz,k1,k2⟩:=h
  refine⟨_,(aD (aU (i:=2) sc_q51.nd rfl (by subst_eqs) (aV (show IxR _ (aFu P w K) from aAz) (cZ (v:=.ref _) rfl T.mg_LOOKS rfl) (aV bM (pv 1) aB (fun _ _=>rfl)) (fun _ _=>rfl))) (aG (aN (z8 (k:=5) (i:=2) aR rfl (Or.inl rfl) hr (aA (pv 0) (aA (pv 1) aF)))))),?_⟩
  have e0:L2.start ["n","paper","look"] [.int n,.ref a]=[some (.int n),some (.ref a),none]:=rfl
  rw[e0];clear e0
  bv_omega
  have R':=R
  obtain⟨_,xs,e,ha,x1,ys,rfl,e1,RL⟩:=R'
  cases e
  cases e1
  have hz:z=Str.ofString "two" \/ z=Str.ofString "full" \/ z=Str.ofString "share" \/ z=Str.ofString "other" := by simpa [cT] using hz
  rcases hz with rfl | rfl | rfl | rfl
  ·refine⟨a,_,_,_,rfl,rfl,ha,at0,cl.lk,.inr _,_,_,rfl,rfl,lk,rfl,?_⟩
   refine⟨cl.s2,_,_,_,rfl,D1.fn.kp,G1.mono (by decide),D1.bd,?_⟩
   refine⟨_,rfl,_,rfl,n,a,_,rfl,R,?_⟩
   by_cases h:(Dt.str (Str.ofString "two")::ds).length=1/\n=2
   ·rw[decide_eq_true h]
    exact k1 (show_two.mpr h) _ (Same.refl H)
   ·rw[decide_eq_false h]
    exact k2 (fun s=>h (show_two.mp s)) _ (Same.refl H)
  ·refine⟨a,_,_,_,rfl,rfl,ha,at0,cl.lk,.inr _,_,_,rfl,rfl,lk,rfl,?_⟩
   refine⟨cl.sf,_,_,_,rfl,D2.fn.kp,G2.mono (by decide),D2.bd,?_⟩
   exact⟨_,rfl,_,rfl,n,_,a,rfl,R,hh,fun b rows F=>k1 (show_full.mpr ⟨b,rows,F⟩),fun no=>k2 fun s=>by obtain⟨b,rows,F⟩:=show_full.mp s;exact no b rows F⟩
  ·refine⟨a,_,_,_,rfl,rfl,ha,at0,cl.lk,.inr _,_,_,rfl,rfl,lk,rfl,?_⟩
   refine⟨cl.ss,_,_,_,rfl,D3.fn.kp,G3.mono (by decide),D3.bd,?_⟩
   exact⟨_,rfl,_,rfl,n,_,a,rfl,R,hh,fun b rows F=>k1 (show_share.mpr ⟨b,rows,F⟩),fun no=>k2 fun s=>by obtain⟨b,rows,F⟩:=show_share.mp s;exact no b rows F⟩
  ·refine⟨a,_,_,_,rfl,rfl,ha,at0,cl.lk,.inr _,_,_,rfl,rfl,lk,rfl,?_⟩
   refine⟨cl.so,_,_,_,rfl,D4.fn.kp,G4.mono (by decide),D4.bd,?_⟩
   exact⟨_,rfl,_,rfl,n,_,a,rfl,R,hh,fun d A rows F=>k1 (show_other.mpr ⟨d,A,rows,F⟩),fun no=>k2 fun s=>by obtain⟨d,A,rows,F⟩:=show_other.mp s;exact no d A rows F⟩
noncomputable abbrev O_q51 (P:Program) (w:World) (K:PySem.W.Frag) (mg:Str->Option Value) (base:Heap):Prop:=∃f fd,Df_q51 K mg f fd/\FnOk P w K mg base CX0 6 f fd ["n","paper"] ((spShowsG K))
noncomputable def c9 (z:Str):List Str:=if z=Str.ofString "full" then [Str.ofString "two",Str.ofString "full"] else cT
theorem xH {z:Str}:∀y∈c9 z,y∈cT:=by
 intro y hy
 unfold c9 at hy
 by_cases h:z=Str.ofString "full"
 ·rw[if_pos h] at hy
  simp only[List.mem_cons,List.not_mem_nil,or_false] at hy
  rcases hy with rfl | rfl <;> simp[cT]
 ·rw[if_neg h] at hy
  exact hy
noncomputable def RowsIn (z:Str) (ds:List Dt) (rows:List Row):Prop:=(z=Str.ofString "two" /\ rows=[])\/(z≠Str.ofString "two" /\ ∃pre,ds=pre++[.tup (rows.map rwD)])
theorem RowsIn.unique {z:Str} {ds:List Dt} {a b:List Row} (h:RowsIn z ds a) (g:RowsIn z ds b):a=b:=by
 rcases h with ⟨e,rfl⟩ | ⟨ne,pre,e⟩
 ·rcases g with ⟨_,rfl⟩ | ⟨ne,_⟩
  ·rfl
  ·exact absurd e ne
 ·rcases g with ⟨e,rfl⟩ | ⟨_,pre',e'⟩
  ·exact absurd e ne
  ·have:=e.symm.trans e'
   have:=(List.append_inj' this rfl).2
   exact cI (Dt.tup.inj (List.cons.inj this).1)
inductive PapG:List Str->Int->Dt->Prop
 | mk {ws:List Str} {n:Int} {z:Str} {ds:List Dt} {rows:List Row}:z∈ws->dB n (.str z::ds)->RowsIn z ds rows->(∀r∈rows,PapG (c9 z) r.1 r.2.2)->PapG ws n (.tup (.str z::ds))
theorem PapG.inv {ws:List Str} {n:Int} {d:Dt} (h:PapG ws n d):∃z ds rows,d=.tup (.str z::ds)/\z∈ws/\dB n (.str z::ds)/\RowsIn z ds rows/\∀r∈rows,PapG (c9 z) r.1 r.2.2:=by
 cases h with
 | mk h1 h2 h3 h4=>exact⟨_,_,_,rfl,h1,h2,h3,h4⟩
theorem l6:∀ {rs:List Row} {l:Int},0<=l->dL l rs->∀r∈rs,r.1<=prd rs
 | [],_,_,_,r,h=>by cases h
 | a::as,l,h0,h,r,hr=>by
  have a0:1<=a.1:=by have:=h.1;omega
  have pa:=cO (show 0<=a.1 by omega) h.2.2
  have pw1:a.1^1<=a.1^a.2.1.toNat:=cW a0 (by have:=h.2.1;omega)
  rw[Int.pow_one] at pw1
  show r.1<=a.1^a.2.1.toNat*prd as
  rcases List.mem_cons.mp hr with e | hr
  ·rw[e]
   have:=dH (show 0<=a.1^a.2.1.toNat by omega) pa
   omega
  ·have q:=l6 (show 0<=a.1 by omega) h.2.2 r hr
   have:=dH (show 0<=prd as by omega) (show 1<=a.1^a.2.1.toNat by omega)
   rw[Int.mul_comm] at this
   omega
theorem qJ {rD:Dt} {m:Int} {rows:List Row} (h:RowsP rD m rows) (hm:m<=10^30):∀r∈rows,1<=r.1/\r.1<=10^30:=by
 intro r hr
 have:=(cE h.up r hr).1
 have:=l6 (by decide) h.up r hr
 have:=h.le
 omega
theorem xO {n:Int} {z:Str} {ds:List Dt} (h:dB n (.str z::ds)) (n30:n<=10^30):∃rows,RowsIn z ds rows/\∀r∈rows,1<=r.1/\r.1<=10^30:=by
 rcases h with ⟨e,h⟩ | ⟨⟨r,e⟩,b,rows,F⟩ | ⟨⟨r,e⟩,b,rows,F⟩ | ⟨⟨r,e⟩,d,A,rows,F⟩
 ·exact⟨[],.inl ⟨dJ e,rfl⟩,fun r hr=>by cases hr⟩
 ·obtain⟨hh,rD,e2,rp⟩:=F.eq
  refine⟨rows,.inr ⟨by rw[dJ e];exact ws_ne1.symm,[.int b],?_⟩,qJ rp (by omega)⟩
  rw[(List.cons.inj e2).2,rp.eq]
  rfl
 ·obtain⟨hh,rD,e2,rp⟩:=F.eq
  refine⟨rows,.inr ⟨by rw[dJ e];exact ws_ne2.symm,[.int b],?_⟩,qJ rp (by omega)⟩
  rw[(List.cons.inj e2).2,rp.eq]
  rfl
 ·obtain⟨hh,rD,e2,rp⟩:=F.eq
  have od:=F.odd
  have:((10:Int)^30)%2=0:=by decide
  refine⟨rows,.inr ⟨by rw[dJ e];exact ws_ne3.symm,[.int d,pD A],?_⟩,qJ rp (by omega)⟩
  rw[(List.cons.inj e2).2,rp.eq]
  rfl
theorem oV {H:Hp} {d:Dt}:∀ {ds:List Dt} {xs:List V},RepL K H (ds++[d]) xs->∃ys y,xs=ys++[y]/\RepL K H ds ys/\Rep K H d y
 | [],_,h=>by
  obtain⟨x,r,rfl,h1,h2⟩:=h
  cases (show r=[] from h2)
  exact⟨[],x,rfl,rfl,h1⟩
 | a::as,_,h=>by
  obtain⟨x,r,rfl,h1,h2⟩:=h
  obtain⟨ys,y,rfl,q1,q2⟩:=oV h2
  exact⟨x::ys,y,rfl,⟨x,ys,rfl,h1,q1⟩,q2⟩
noncomputable abbrev s_q49:Stmt:=top 30
theorem sc_q49:FnScope ["paper"] ["paper"] (aJ s_q49):=⟨rfl,rfl,rfl,by decide +kernel,rfl,by decide +kernel,by decide +kernel⟩
noncomputable abbrev Df_q49 (K:PySem.W.Frag) (mg:Str->Option Value) (f:Addr) (fd:FuncData):Prop:=Def K mg "rows_of" s_q49 ["paper"] f fd
noncomputable def spRowsOf (K:PySem.W.Frag):Sp:=fun vs H Q _=>∃(a:Addr) (z:Str) (xs:List V),vs=[.ref a]/\SqT K H a (.str z::xs)/\(z=Str.ofString "two" -> ∀r H',Same H H'->SqT K H' r []->Q (.ref r) H')/\(z≠Str.ofString "two" -> ∃pre v,xs=pre++[v]/\Q v H)
theorem ok_q49 (D:Df_q49 K mg f fd) (T:Txt K mg t1 cl):FnOk P w K mg base CX0 1 f fd ["paper"] (spRowsOf K):=by
 refine D.fn.ok sc_q49 (fun vs H Q E h=>?_) (fun cdv A outer s H vs Q E hr h=>?_)
 ·obtain⟨a,z,xs,rfl,_⟩:=h
  rfl
 ·obtain⟨a,z,xs,rfl,ha,k1,k2⟩:=h
  refine⟨_,(aG (aN (eU (aL cC (aV bM (pv 0) aB (fun _ _=>rfl)) bD (nomark _)) (bV aF) (aV bM (pv 0) (zY uF aB) (fun _ _=>rfl))))),?_⟩
  have e0:L2.start ["paper"] [.ref a]=[some (.ref a)]:=rfl
  rw[e0];clear e0
  bv_omega
  refine⟨a,_,_,_,rfl,rfl,ha,at0,rfl,?_⟩
  by_cases e:z=Str.ofString "two"
  ·rw[if_pos (by rw[e])]
   exact⟨by show 0<=sizeLine;decide,fun p hp=>k1 e p _ (fun q o h=>aW h hp) (SqT.of aE)⟩
  ·rw[if_neg (fun h=>e (V.str.inj h))]
   obtain⟨pre,v,rfl,q⟩:=k2 e
   exact⟨a,_,_,_,rfl,rfl,ha,t9 (V.str z::pre) v,q⟩
noncomputable abbrev O_q49 (P:Program) (w:World) (K:PySem.W.Frag) (mg:Str->Option Value) (base:Heap):Prop:=∃f fd,Df_q49 K mg f fd/\FnOk P w K mg base CX0 1 f fd ["paper"] ((spRowsOf K))
theorem aCa {H0 H:Hp} {a:Addr} {z:Str} {xs:List V} {ds:List Dt} {rows:List Row} {Q:VK} {E:XK} (S:Same H0 H) (sq:SqT K H0 a (.str z::xs)) (RL:RepL K H0 ds xs) (ri:RowsIn z ds rows)
  (h:∀t tys H',Same H H'->SqT K H' t tys->RepL K H0 (rows.map rwD) tys->Q (.ref t) H'):spRowsOf K [.ref a] H Q E:=by
 refine⟨a,z,xs,rfl,S.tk.sq sq,fun e r H' S' hr=>?_,fun e=>?_⟩
 ·rcases ri with ⟨_,rfl⟩ | ⟨ne,_⟩
  ·exact h r [] H' S' hr rfl
  ·exact absurd e ne
 ·rcases ri with ⟨e',_⟩ | ⟨_,pre,rfl⟩
  ·exact absurd e' e
  ·obtain⟨ys,y,rfl,_,Ry⟩:=oV RL
   obtain⟨t,tys,rfl,ht,Rt⟩:=Ry
   exact⟨ys,_,rfl,h t tys H (Same.refl H) (S.tk.sq ht) Rt⟩
structure EntG where
 n:Int
 d:Dt
 ws:List Str
noncomputable def yO (z:Str) (r:Row):EntG:=⟨r.1,r.2.2,c9 z⟩
noncomputable def EntOk (K:PySem.W.Frag) (H0 H:Hp) (e:EntG) (v:V):Prop:=∃(p c:Addr) (u:V),v=.ref p/\SqT K H p [.int e.n,u,.ref c]/\Rep K H0 e.d u/\(okD e.d=true/\1<=e.n/\e.n<=10^30/\∀z∈e.ws,z∈cT)/\SqT K H0 c (e.ws.map V.str)
theorem EntOk.mono {H0 H H':Hp} (t:TK H H') {e:EntG} {v:V} (h:EntOk K H0 H e v):EntOk K H0 H' e v:=by
 obtain⟨p,c,u,rfl,hp,R,hh,hc⟩:=h
 exact⟨p,c,u,rfl,t.sq hp,R,hh,hc⟩
noncomputable def Ents (K:PySem.W.Frag) (H0 H:Hp):List EntG->List V->Prop
 | [],xs=>xs=[]
 | e::es,xs=>∃x r,xs=x::r/\EntOk K H0 H e x/\Ents K H0 H es r
theorem Ents.mono {H0 H H':Hp} (t:TK H H'):∀ {es:List EntG} {xs:List V},Ents K H0 H es xs->Ents K H0 H' es xs
 | [],_,h=>h
 | e::es,_,h=>by
  obtain⟨x,r,rfl,h1,h2⟩:=h
  exact⟨x,r,rfl,h1.mono t,h2.mono t⟩
theorem Ents.length {H0 H:Hp}:∀ {es:List EntG} {xs:List V},Ents K H0 H es xs->es.length=xs.length
 | [],_,h=>by cases (show _=[] from h);rfl
 | e::es,_,h=>by
  obtain⟨x,r,rfl,h1,h2⟩:=h
  show es.length+1=r.length+1
  rw[h2.length]
theorem Ents.app {H0 H:Hp}:∀ {es fs:List EntG} {xs ys:List V},Ents K H0 H es xs->Ents K H0 H fs ys->Ents K H0 H (es++fs) (xs++ys)
 | [],_,_,_,h,g=>by cases (show _=[] from h);exact g
 | e::es,_,_,_,h,g=>by
  obtain⟨x,r,rfl,h1,h2⟩:=h
  exact⟨x,_,rfl,h1,h2.app g⟩
theorem Ents.last {H0 H:Hp}:∀ {es:List EntG} {ys:List V} {y:V},Ents K H0 H es (ys++[y])->∃fs e,es=fs++[e]/\Ents K H0 H fs ys/\EntOk K H0 H e y
 | [],ys,y,h=>by simp[Ents] at h
 | e::es,[],y,h=>by
  obtain⟨x,r,hx,h1,h2⟩:=h
  cases hx
  cases es with
  | nil=>exact⟨[],e,rfl,rfl,h1⟩
  | cons a as=>obtain⟨_,_,z,_⟩:=h2;cases z
 | e::es,z::zs,y,h=>by
  obtain⟨x,r,hx,h1,h2⟩:=h
  cases hx
  obtain⟨fs,g,rfl,q1,q2⟩:=Ents.last h2
  exact⟨e::fs,g,rfl,⟨_,_,rfl,h1,q1⟩,q2⟩
noncomputable def cnE:List EntG->Nat
 | []=>0
 | e::es=>1+cnD e.d+cnE es
theorem g7:∀es fs:List EntG,cnE (es++fs)=cnE es+cnE fs
 | [],fs=>by simp[cnE]
 | e::es,fs=>by
  show 1+cnD e.d+cnE (es++fs)=1+cnD e.d+cnE es+cnE fs
  rw[g7 es fs];omega
theorem m8 {z:Str}:∀rows:List Row,cnE (rows.map (yO z))=cnR rows
 | []=>rfl
 | r::rs=>by
  have:=m8 (z:=z) rs
  show 1+cnD r.2.2+cnE (rs.map (yO z))=1+cnD r.2.2+cnR rs
  omega
theorem wI:∀es:List EntG,es.length<=cnE es
 | []=>Nat.le_refl _
 | e::es=>by
  have:=wI es
  show es.length+1<=1+cnD e.d+cnE es
  omega
theorem t5:∀(rows:List Row) (i:Nat),cnR (rows.take i)<=cnR rows
 | [],i=>by simp[cnR]
 | r::rs,0=>by simp[cnR]
 | r::rs,i+1=>by
  have:=t5 rs i
  show 1+cnD r.2.2+cnR (rs.take i)<=1+cnD r.2.2+cnR rs
  omega
theorem wZ:∀ds es:List Dt,cnL (ds++es)=cnL ds+cnL es
 | [],es=>by simp[cnL]
 | d::ds,es=>by
  show cnD d+cnL (ds++es)=cnD d+cnL ds+cnL es
  rw[wZ ds es];omega
theorem aF9 {z:Str} {ds:List Dt} {rows:List Row} (h:RowsIn z ds rows):cnR rows<=cnD (.tup (.str z::ds)):=by
 show cnR rows<=1+(0+cnL ds)
 rcases h with ⟨_,rfl⟩ | ⟨_,pre,rfl⟩
 ·exact Nat.zero_le _
 ·rw[wZ]
  show cnR rows<=1+(0+(cnL pre+((1+cnL (rows.map rwD))+0)))
  rw[jL]
  omega
theorem ok_in {z:Str} {ds:List Dt} {rows:List Row} (h:RowsIn z ds rows) (ok:okD (.tup (.str z::ds))=true):∀r∈rows,okD r.2.2=true:=by
 intro r hr
 rcases h with ⟨_,rfl⟩ | ⟨_,pre,rfl⟩
 ·cases hr
 ·have h1:=bU ok (.tup (rows.map rwD)) (by simp)
  have h2:=bU h1 (rwD r) (List.mem_map_of_mem hr)
  exact bU h2 r.2.2 (by simp)
noncomputable def aBz (K:PySem.W.Frag) (cl:Cl):TE:=fun σ H Q=>∃a z xs,σ[5]? = some (some (.ref a))/\SqT K H a (.str z::xs)/\∀c,(∀H,SqT K H c ((c9 z).map V.str))->Q (.ref c) H
theorem aFm {z:Str} (h:z=Str.ofString "full"):c9 z=[Str.ofString "two",Str.ofString "full"]:=if_pos h
theorem aFn {z:Str} (h:¬ z=Str.ofString "full"):c9 z=cT:=if_neg h
theorem aA7 {K:PySem.W.Frag} {sp:Sp} {E:XK} {i:Nat} {v:V} {g:TG} {tb:TS} {D:Ends} {σ:St} {H:Hp} (e:σ[i]? = some (some v))
  (h:sp [v] H (fun x H1=>∃a,x=.ref a/\(∃xs,SqT K H1 a xs)/\kL (fun _ H R=>R (Itt K a) H) g tb D σ H1) E):kL (aFe K (gD sp [] E (eJ (dZ i) iC))) g tb D σ H:=⟨v,e,h⟩
noncomputable def aBq (es:List EntG):Prop:=∀e∈es,PapG e.ws e.n e.d
theorem allP_snoc {fs:List EntG} {g:EntG}:aBq (fs++[g])↔aBq fs/\PapG g.ws g.n g.d:=by
 constructor
 ·exact fun h=>⟨fun e he=>h e (List.mem_append_left _ he),h g (by simp)⟩
 ·rintro⟨h1,h2⟩ e he
  rcases List.mem_append.mp he with he | he
  ·exact h1 e he
  ·rw[List.mem_singleton.mp he];exact h2
theorem yV {fs:List EntG} {z:Str} {rows:List Row}:aBq (fs++rows.map (yO z))↔aBq fs/\∀r∈rows,PapG (c9 z) r.1 r.2.2:=by
 constructor
 ·exact fun h=>⟨fun e he=>h e (List.mem_append_left _ he),fun r hr=>h (yO z r) (List.mem_append_right _ (List.mem_map_of_mem hr))⟩
 ·rintro⟨h1,h2⟩ e he
  rcases List.mem_append.mp he with he | he
  ·exact h1 e he
  ·obtain⟨r,hr,rfl⟩:=List.mem_map.mp he
   exact h2 r hr
theorem aAa {ws:List Str} {n:Int} {z:Str} {ds:List Dt} {rows:List Row} (hz:z∈ws) (sh:dB n (.str z::ds)) (ri:RowsIn z ds rows):PapG ws n (.tup (.str z::ds))↔∀r∈rows,PapG (c9 z) r.1 r.2.2:=by
 constructor
 ·intro h
  obtain⟨z',ds',rows',e,_,_,ri',h⟩:=h.inv
  cases e
  rw[ri.unique ri']
  exact h
 ·exact fun h=>.mk hz sh ri h
noncomputable abbrev s_q8:Stmt:=top 28
theorem sc_q8:FnScope ["n","thing","words","left","number","paper","wanted","within","row"] ["n","thing","words"] (aJ s_q8):=⟨rfl,rfl,rfl,by decide +kernel,rfl,by decide +kernel,by decide +kernel⟩
noncomputable abbrev Df_q8 (K:PySem.W.Frag) (mg:Str->Option Value) (f:Addr) (fd:FuncData):Prop:=Def K mg "is_paper_with" s_q8 ["n","thing","words"] f fd
noncomputable def spIPWG (K:PySem.W.Frag):Sp:=fun vs H Q _=>∃(e:EntG) (u:V) (c:Addr),vs=[.int e.n,u,.ref c]/\(Rep K H e.d u/\(okD e.d=true/\1<=e.n/\e.n<=10^30/\∀z∈e.ws,z∈cT)/\SqT K H c (e.ws.map V.str)/\cnD e.d<=20000)/\(PapG e.ws e.n e.d->∀H',Same H H'->Q (.bl true) H')/\(¬ PapG e.ws e.n e.d->∀H',Same H H'->Q (.bl false) H')
theorem uI {c:TT} {b:TS} {D:Ends} {σ:St} {H:Hp} (h:∀B:TS,B=b->pZ c B D σ H):pZ c b D σ H:=h b rfl
theorem ok_q8 (D:Df_q8 K mg f fd) (T:Txt K mg t1 cl) (o1:O_q14 P w K mg base) (o2:O_q51 P w K mg base) (o3:O_q49 P w K mg base):FnOk P w K mg base CX0 7 f fd ["n","thing","words"] (spIPWG K):=by
 obtain⟨_,_,D_q14,G_q14⟩:=o1
 obtain⟨_,_,D_q51,G_q51⟩:=o2
 obtain⟨_,_,D_q49,G_q49⟩:=o3
 refine D.fn.ok sc_q8 (fun vs H Q E h=>?_) (fun cdv A outer s H vs Q E hr h=>?_)
 ·obtain⟨e,u,c,rfl,_⟩:=h
  rfl
 ·obtain⟨e,u,c,rfl,⟨R,eo,hc,cb⟩,k1,k2⟩:=h
  refine⟨_,(aD (aU (i:=3) sc_q8.nd rfl (by subst_eqs) (cY (aA (bV (aA (pv 0) (aA (pv 1) (aA (pv 2) aF)))) aF))) (aD (cN PassesOwn.never (aL eL (aQ bB (by rfl) T.no_len PySem.boot_len (aA (pv 3) aF)) aB (nomark _)) (aD (d9 (aEr PySem.F.plainAttrs_list PySem.F.slot_list_pop PySem.F.type_list_pop aE2 (pv 3)) (dU rfl (bC (aX (i:=4) sc_q8.nd rfl (by subst_eqs)) (bC (aX (i:=5) sc_q8.nd rfl (by subst_eqs)) (bC (aX (i:=6) sc_q8.nd rfl (by subst_eqs)) cX))))) (aD (bF (PW.pt (bS (bH (bL (aK (G_q14.mono (by decide)) hr rfl D_q14.mgx D_q14.fn.kp D_q14.bd .nil aR (aA (pv 5) (aA (pv 6) aF))))) (cB (bH (bL (aK (G_q51.mono (by decide)) hr rfl D_q51.mgx D_q51.fn.kp D_q51.bd .nil aR (aA (pv 4) (aA (pv 5) aF)))))))) (aG (aN bR)) aT) (aD (aU (i:=7) sc_q8.nd rfl (by subst_eqs) (z4 (t':=(aBz K cl)) (eU (aL cC (aV bM (pv 5) aB (fun _ _=>rfl)) bD (nomark _)) (cZ (v:=.ref _) rfl T.mg_FULL_WORDS rfl) (cZ (v:=.ref _) rfl T.mg_ALL_WORDS rfl)) (by rintro σ H Q ⟨a,z,xs,e,ha,q⟩;refine⟨_,e,a,_,_,_,rfl,rfl,ha,at0,rfl,_,rfl,?_⟩;exact dite (z=Str.ofString "full") (fun ez=>by rw[decide_eq_true (by rw[ez])];exact q _ (by rw[aFm ez];exact T.fw)) (fun ez=>by rw[decide_eq_false (fun h=>ez (V.str.inj h))];exact q _ (by rw[aFn ez];exact T.aw))))) (aG (dN PassesOwn.never rfl (eE (aK (G_q49.mono (by decide)) hr rfl D_q49.mgx D_q49.fn.kp D_q49.bd .nil aR (aA (pv 5) aF))) (aX (i:=8) sc_q8.nd rfl (by subst_eqs)) (aG (eP (l9 PySem.F.plainAttrs_list PySem.F.slot_list_append PySem.F.type_list_append eR (pv 3) (aA (bV (aA (aV bM (pv 8) aB (fun _ _=>rfl)) (aA (aV bM (pv 8) aB (fun _ _=>rfl)) (aA (pv 7) aF)))) aF)))))))))) (aG (aN bR)))),?_⟩
  have e0:L2.start ["n","thing","words","left","number","paper","wanted","within","row"] [.int e.n,u,.ref c]=[some (.int e.n),some (u),some (.ref c),none,none,none,none,none,none]:=rfl
  rw[e0];clear e0
  refine aM fun R1 sq1=>?_
  bv_omega
  refine⟨by show 3<=sizeLine;decide,fun p hp=>⟨by show 1<=sizeLine;decide,fun L hL=>?_⟩⟩
  have S0:Same H (upd (upd H p (HO.tup [V.int e.n,u,V.ref c])) L (HO.lst [V.ref p])):=fun q o h=>aW (aW h hp) hL
  have hp1:(upd (upd H p (HO.tup [V.int e.n,u,V.ref c])) L (HO.lst [V.ref p])) p=some (HO.tup [V.int e.n,u,V.ref c]):=aW aE hL
  have hL1:(upd (upd H p (HO.tup [V.int e.n,u,V.ref c])) L (HO.lst [V.ref p])) L=some (HO.lst [V.ref p]):=aE
  have HL:H L=none:=by
   cases h:H L with
   | none=>rfl
   | some o=>rw[aW h hp] at hL;cases hL
  generalize upd (upd H p (HO.tup [V.int e.n,u,V.ref c])) L (HO.lst [V.ref p])=H1 at S0 hp1 hL1 ⊢
  subst sq1
  refine aM fun R1 sq1=>?_
  dsimp only[eO]
  refine uI fun B hB=>?_
  obtain⟨W,hW⟩:∃W:Nat->St->Hp->Prop,∀m σ H',W m σ H'↔∃es xs v4 v5 v6 v7 v8,m=cnE es/\σ=[some (.int e.n),some u,some (.ref c),some (.ref L),v4,v5,v6,v7,v8]/\Same H H'/\H' L=some (.lst xs)/\Ents K H H' es xs/\cnE es<=20001/\(aBq es↔PapG e.ws e.n e.d):=⟨_,fun _ _ _=>Iff.rfl⟩
  refine⟨W,⟨_,(hW _ _ _).mpr ⟨[e],_,_,_,_,_,_,rfl,rfl,S0,hL1,⟨_,_,rfl,⟨p,c,u,rfl,SqT.of hp1,R,eo,hc⟩,rfl⟩,?_,?_⟩⟩,?_⟩
  ·show 1+cnD e.d+0<=20001
   omega
  ·exact⟨fun h=>h e (by simp),fun h e' he=>by rw[List.mem_singleton.mp he];exact h⟩
  intro m σ H2 hw
  obtain⟨es,xs,v4,v5,v6,v7,v8,rfl,rfl,S,hL2,E,e5,ap⟩:=(hW _ _ _).mp hw
  clear hw
  bv_omega
  refine⟨_,.inl (SqL.of hL2),?_⟩
  by_cases hl:xs.length=0
  case pos =>
   rw[if_neg (by omega)]
   have hx:=List.length_eq_zero_iff.mp hl
   subst hx
   have el:=E.length
   have he:es=[]:=List.length_eq_zero_iff.mp el
   subst he
   subst sq1
   bv_omega
   exact k1 (ap.mp fun e he=>by cases he) _ S
  case neg =>
   rw[if_pos (by omega)]
   have hne:xs≠[]:=fun z=>hl (by rw[z];rfl)
   obtain⟨ys,y,rfl⟩:∃ys y,xs=ys++[y]:=⟨xs.dropLast,xs.getLast hne,(List.dropLast_concat_getLast hne).symm⟩
   obtain⟨fs,g,rfl,E1,g1⟩:=E.last
   obtain⟨pe,ce,ue,rfl,hpe,Re,go,hce⟩:=g1
   rw[g7] at e5
   have e5':cnE fs+(1+cnD g.d+0)<=20001:=e5
   refine⟨fun σ' H'=>∃m',m'<cnE (fs++[g])/\W m' σ' H',fun _ _ h=>h,?_⟩
   rw[g7,hB]
   refine aM fun R2 sq2=>?_
   rename_i aFr aFt
   refine⟨.inl ⟨_,SqL.of hL2⟩,_,hL2,.ref pe,by simp,?_⟩
   rw[List.dropLast_concat]
   have tk3:TK H2 (upd H2 L (.lst ys)):=TK.lst hL2
   have S3:Same H (upd H2 L (.lst ys)):=fun b o h=>by rw[aO (aI h HL)];exact S _ _ h
   have hL3:(upd H2 L (.lst ys)) L=some (.lst ys):=aE
   have E3:=E1.mono tk3
   have hpe3:=tk3.sq hpe
   generalize upd H2 L (.lst ys)=H3 at tk3 S3 hL3 E3 hpe3 ⊢
   refine⟨pe,rfl,_,hpe3,rfl,_,_,rfl,_,_,rfl,_,_,rfl,rfl,?_⟩
   subst sq2
   refine aM fun R2 sq2=>?_
   bv_omega
   have bad:¬ PapG g.ws g.n g.d->¬ PapG e.ws e.n e.d:=fun h q=>h (allP_snoc.mp (ap.mpr q)).2
   refine⟨g.d,ue,ce,g.ws,rfl,Rep.same S3 _ Re,S3.tk.sq hce,fun z ds ed hz=>⟨_,rfl,?_⟩,fun no=>⟨_,rfl,?_⟩⟩
   case' refine_2 =>
    rw[if_pos rfl]
    refine k2 (bad fun h=>?_) _ S3
    obtain⟨z,ds,rows,e1,hz,_⟩:=h.inv
    exact no z ds e1 hz
   rw[if_neg (by decide)]
   obtain⟨gn,gd,gw⟩:=g
   have ed:gd=.tup (.str z::ds):=ed
   subst ed
   have Re':=Re
   obtain⟨a,zs,rfl,ha,x1,zs,rfl,e1,RL⟩:=Re'
   cases (show x1=V.str z from e1)
   refine⟨gn,a,z,ds,rfl,Rep.same S3 _ Re,⟨go.1,go.2.1,go.2.2.1⟩,go.2.2.2 z hz,fun sh H4 S4=>⟨_,rfl,?_⟩,fun no H4 S4=>⟨_,rfl,?_⟩⟩
   case' refine_2 =>
    rw[if_pos rfl]
    refine k2 (bad fun h=>?_) _ (S3.trans S4)
    obtain⟨z',ds',rows,e1,_,sh,_⟩:=h.inv
    cases e1
    exact no sh
   rw[if_neg (by decide)]
   have E4:=E3.mono S4.tk
   have hL4:=S4 _ _ hL3
   have S04:=S3.trans S4
   subst sq2
   refine aM fun R2 sq2=>?_
   bv_omega
   refine⟨a,z,zs,rfl,S04.tk.sq ha,fun cw hcw=>?_⟩
   obtain⟨rows,ri,rle⟩:=xO sh go.2.2.1
   have okr:=ok_in ri go.1
   have cR:=aF9 ri
   clear E3 hL3 S3 tk3 hpe3 S4
   subst sq2
   try bv_omega
   refine aA7 (K:=K) (v:=.ref a) rfl ?_
   refine aCa S04 ha RL ri fun t tys H5 S5 ht R5=>?_
   refine⟨t,rfl,⟨_,ht⟩,?_⟩
   have E5:=E4.mono S5.tk
   have hL5:=S5 _ _ hL4
   have S05:=S04.trans S5
   have elen:tys.length=rows.length:=by rw[<- R5.length,List.length_map]
   obtain⟨Pv,hPv⟩:∃Pv:Nat->St->Hp->Prop,∀i σ H',Pv i σ H'↔∃xs v8,σ=[some (.int e.n),some u,some (.ref c),some (.ref L),some (.int gn),some (.ref a),some (.ref ce),some (.ref cw),v8]/\Same H H'/\TK H5 H'/\H' L=some (.lst xs)/\Ents K H H' (fs++(rows.take i).map (yO z)) xs:=⟨_,fun _ _ _=>Iff.rfl⟩
   refine fX (xs:=tys) Pv ((hPv _ _ _).mpr ⟨_,_,rfl,S05,TK.refl _,hL5,by simpa using E5⟩) (fun i σ H' _ h=>?_) ?_ ?_
   ·obtain⟨_,_,_,_,t6,_⟩:=(hPv _ _ _).mp h
    exact t6.sq ht
   ·intro i x σ H' hx h
    obtain⟨xs,v8,rfl,S6,t6,hL6,E6⟩:=(hPv _ _ _).mp h
    obtain⟨dj,hd,Rr⟩:=dM R5 hx
    obtain⟨r,hr,rfl⟩:∃r,rows[i]? = some r/\dj=rwD r:=by
     rw[List.getElem?_map] at hd
     cases q:rows[i]? with
     | none=>rw[q] at hd;cases hd
     | some r=>rw[q] at hd;cases hd;exact⟨r,rfl,rfl⟩
    bv_omega
    obtain⟨c2,zs2,rfl,hc2,_,_,rfl,rfl,_,_,rfl,rfl,v3,_,rfl,R8,rfl⟩:=Rr
    have hm:=List.mem_of_getElem? hr
    have hc2':=S6.tk.sq hc2
    have lt:xs.length<=20001:=by
     have a0:=E6.length
     have a1:=wI (fs++(rows.take i).map (yO z))
     rw[g7,m8] at a1
     have a3:=t5 rows i
     have e5'':cnE fs+(1+cnD (Dt.tup (.str z::ds))+0)<=20001:=e5'
     omega
    refine⟨.inl ⟨_,SqL.of hL6⟩,c2,_,_,_,rfl,rfl,hc2',rfl,c2,_,_,_,rfl,rfl,hc2',rfl,by show 3<=sizeLine;decide,fun p hp=>⟨xs,aW hL6 hp,by rw[sizeLine_eq];omega,?_⟩⟩
    have nLp:L≠p:=aI hL6 hp
    have t7:TK H' (upd (upd H' p (.tup [.int r.1,v3,.ref cw])) L (.lst (xs++[.ref p]))):=(TK.new hp).trans (TK.lst (aW hL6 hp))
    refine(hPv _ _ _).mpr ⟨_,_,rfl,fun b o e=>?_,t6.trans t7,aE,?_⟩
    ·rw[aO (aI e HL)]
     exact aW (S6 _ _ e) hp
    ·rw[List.take_succ,hr,List.map_append,<- List.append_assoc]
     have rr:=rle r hm
     refine(E6.mono t7).app ⟨_,[],rfl,⟨p,cw,v3,rfl,SqT.of (by rw[aO nLp.symm,aE];rfl),R8,⟨okr r hm,rr.1,rr.2,xH⟩,hcw _⟩,rfl⟩
   ·intro σ H' h
    obtain⟨xs,v8,rfl,S6,t6,hL6,E6⟩:=(hPv _ _ _).mp h
    rw[elen,List.take_length] at E6
    have c1:=m8 (z:=z) rows
    have e5'':cnE fs+(1+cnD (Dt.tup (.str z::ds))+0)<=20001:=e5'
    refine⟨_,?_,(hW _ _ _).mpr ⟨_,xs,_,_,_,_,_,rfl,rfl,S6,hL6,E6,?_,?_⟩⟩
    ·rw[g7]
     show cnE fs+_<cnE fs+(1+cnD (Dt.tup (.str z::ds))+0)
     omega
    ·rw[g7]
     omega
    ·rw[<- ap,yV,allP_snoc]
     exact and_congr Iff.rfl (aAa hz sh ri).symm
noncomputable abbrev O_q8 (P:Program) (w:World) (K:PySem.W.Frag) (mg:Str->Option Value) (base:Heap):Prop:=∃f fd,Df_q8 K mg f fd/\FnOk P w K mg base CX0 7 f fd ["n","thing","words"] ((spIPWG K))
noncomputable def StAt (H:Hp) (a:Addr):Prop:=∃x y,H a=some (.lst [.int x,.int y])/\0<=y/\y<2^32
noncomputable def But (a:Addr) (H H':Hp):Prop:=∀b o,b≠a->H b=some o->H' b=some o
structure Step (a:Addr) (H H':Hp):Prop where
 st:StAt H' a
 but:But a H H'
theorem Step.trans {a:Addr} {H H1 H2:Hp} (x:Step a H H1) (y:Step a H1 H2):Step a H H2:=⟨y.st,fun b o hb e=>y.but b o hb (x.but b o hb e)⟩
theorem StAt.upd {H:Hp} {a p:Addr} {o:HO} (h:StAt H a) (hp:H p=none):StAt (upd H p o) a:=by
 obtain⟨x,y,e,r⟩:=h
 exact⟨x,y,by rw[aO (aI e hp)];exact e,r⟩
theorem Step.new {a p:Addr} {H H1:Hp} {o:HO} (x:Step a H H1) (hp:H1 p=none):Step a H (upd H1 p o) :=
 ⟨x.st.upd hp,fun b u hb e=>by rw[aO (aI (x.but b u hb e) hp)];exact x.but b u hb e⟩
theorem Step.refl {a:Addr} {H:Hp} (h:StAt H a):Step a H H:=⟨h,fun _ _ _ e=>e⟩
theorem iL (a:Int) {m:Int} (h0:0<m) (h1:m<10^99):(a%m).natAbs<10^100:=by
 have:=Int.emod_nonneg a (show m≠0 by omega)
 have:=Int.emod_lt_of_pos a h0
 omega
theorem v0:∀l:List (Int×Int),noEL (l.map pD)=true
 | []=>rfl
 | q::l=>by show (true&&noEL (l.map pD))=true;rw[v0 l];rfl
noncomputable abbrev s_q18:Stmt:=top 47
theorem sc_q18:FnScope ["_law_script","_law_k"] ["_law_script","_law_k"] (aJ s_q18):=⟨rfl,rfl,rfl,by decide +kernel,rfl,by decide +kernel,by decide +kernel⟩
noncomputable abbrev Df_q18 (K:PySem.W.Frag) (mg:Str->Option Value) (f:Addr) (fd:FuncData):Prop:=Def K mg "_law_cell_at" s_q18 ["_law_script","_law_k"] f fd
noncomputable def spCell (K:PySem.W.Frag):Sp:=fun vs H Q _=>∃(a:Addr) (ns:List Int) (k:Int),vs=[.ref a,.int k]/\SqL K H a (ns.map V.int)/\ns.length<=63/\0<=k/\∀v,Q (.int v) H
theorem ok_q18 (D:Df_q18 K mg f fd) (T:Txt K mg t1 cl):FnOk P w K mg base CX0 1 f fd ["_law_script","_law_k"] (spCell K):=by
 refine D.fn.ok sc_q18 (fun vs H Q E h=>?_) (fun cdv A outer s H vs Q E hr h=>?_)
 ·obtain⟨a,ns,k,rfl,_⟩:=h
  rfl
 ·obtain⟨a,ns,k,rfl,hS,hl,h0,q⟩:=h
  refine⟨_,(aD (bF (aL gK (pv 1) (aQ bB (by rfl) T.no_len PySem.boot_len (aA (pv 0) aF)) (nomark _)) (aG (aN (aV dD (pv 0) (pv 1) (fun _ _=>rfl)))) aT) (aG (aN aB))),?_⟩
  have e0:L2.start ["_law_script","_law_k"] [.ref a,.int k]=[some (.ref a),some (.int k)]:=rfl
  rw[e0];clear e0
  bv_omega
  refine⟨_,.inl hS,?_⟩
  rw[List.length_map]
  refine dY (fun hk=>?_) (fun _=>q 0)
  obtain⟨j,rfl⟩:=Int.eq_ofNat_of_zero_le h0
  have hj:j<ns.length:=by omega
  refine⟨_,hS,.int (ns[j]),g9 ?_,q _⟩
  rw[List.getElem?_map,List.getElem?_eq_getElem hj]
  rfl
noncomputable abbrev O_q18 (P:Program) (w:World) (K:PySem.W.Frag) (mg:Str->Option Value) (base:Heap):Prop:=∃f fd,Df_q18 K mg f fd/\FnOk P w K mg base CX0 1 f fd ["_law_script","_law_k"] (spCell K)
noncomputable abbrev s_q37:Stmt:=top 48
theorem sc_q37:FnScope ["_law_script","_law_k","_law_cell"] ["_law_script","_law_k"] (aJ s_q37):=⟨rfl,rfl,rfl,by decide +kernel,rfl,by decide +kernel,by decide +kernel⟩
noncomputable abbrev Df_q37 (K:PySem.W.Frag) (mg:Str->Option Value) (f:Addr) (fd:FuncData):Prop:=Def K mg "_law_state" s_q37 ["_law_script","_law_k"] f fd
noncomputable def spState (K:PySem.W.Frag):Sp:=fun vs H Q _=>∃(a:Addr) (ns:List Int) (k:Int),vs=[.ref a,.int k]/\SqL K H a (ns.map V.int)/\ns.length<=63/\0<=k/\∀p x y,0<=y->y<2^32->H p=none->Q (.ref p) (upd H p (.lst [.int x,.int y]))
theorem ok_q37 (D:Df_q37 K mg f fd) (T:Txt K mg t1 cl) (o1:O_q18 P w K mg base):FnOk P w K mg base CX0 2 f fd ["_law_script","_law_k"] (spState K):=by
 obtain⟨_,_,D_q18,G_q18⟩:=o1
 refine D.fn.ok sc_q37 (fun vs H Q E h=>?_) (fun cdv A outer s H vs Q E hr h=>?_)
 ·obtain⟨a,ns,k,rfl,_⟩:=h
  rfl
 ·obtain⟨a,ns,k,rfl,hS,hl,h0,q⟩:=h
  refine⟨_,(aD (aU (i:=2) sc_q37.nd rfl (by subst_eqs) (aK (G_q18.mono (by decide)) hr rfl D_q18.mgx D_q18.fn.kp D_q18.bd .nil aR (aA (pv 0) (aA (pv 1) aF)))) (aD (bF (aL aAf (pv 2) (aH jZ aB aB) (nomark _)) (aG (aN (cY (aA (aH bE (pv 2) (aH jZ aB aB)) (aA (aH bQ (aH bI (pv 2) aB) aB) aF))))) aT) (aG (aN (cY (aA aB (aA (aH bQ (aH bI (pv 2) aB) aB) aF))))))),?_⟩
  have e0:L2.start ["_law_script","_law_k","_law_cell"] [.ref a,.int k]=[some (.ref a),some (.int k),none]:=rfl
  rw[e0];clear e0
  bv_omega
  refine⟨a,ns,k,rfl,hS,hl,h0,fun v=>⟨⟨by decide,by decide,by decide⟩,?_⟩⟩
  bv_omega
  refine dY (fun hk=>?_) (fun _=>?_)
  ·refine⟨⟨by decide,by decide,by decide⟩,by decide,by show 2<=sizeLine;decide,fun p hp=>q p _ _ ?_ ?_ hp⟩ <;> omega
  ·refine⟨by decide,by show 2<=sizeLine;decide,fun p hp=>q p _ _ ?_ ?_ hp⟩ <;> omega
noncomputable abbrev O_q37 (P:Program) (w:World) (K:PySem.W.Frag) (mg:Str->Option Value) (base:Heap):Prop:=∃f fd,Df_q37 K mg f fd/\FnOk P w K mg base CX0 2 f fd ["_law_script","_law_k"] (spState K)
noncomputable abbrev s_q41:Stmt:=top 49
theorem sc_q41:FnScope ["_law_state_here","_law_many","_law_found","_law_stirred"] ["_law_state_here","_law_many"] (aJ s_q41):=⟨rfl,rfl,rfl,by decide +kernel,rfl,by decide +kernel,by decide +kernel⟩
noncomputable abbrev Df_q41 (K:PySem.W.Frag) (mg:Str->Option Value) (f:Addr) (fd:FuncData):Prop:=Def K mg "_law_take" s_q41 ["_law_state_here","_law_many"] f fd
noncomputable def spTake:Sp:=fun vs H Q _=>∃(a:Addr) (m:Int),vs=[.ref a,.int m]/\(0<m/\m<10^90)/\StAt H a/\∀r H',0<=r->r<m->Step a H H'->Q (.int r) H'
theorem ok_q41 (D:Df_q41 K mg f fd) (T:Txt K mg t1 cl):FnOk P w K mg base CX0 1 f fd ["_law_state_here","_law_many"] spTake:=by
 refine D.fn.ok sc_q41 (fun vs H Q E h=>?_) (fun cdv A outer s H vs Q E hr h=>?_)
 ·obtain⟨a,m,rfl,_⟩:=h
  rfl
 ·obtain⟨a,m,rfl,⟨m0,m1⟩,⟨x,y,hH,y0,y1⟩,q⟩:=h
  refine⟨_,(aD (bF (aL eL (aV dD (pv 0) aB (fun _ _=>rfl)) aB (nomark _)) (aD (aU (i:=2) sc_q41.nd rfl (by subst_eqs) (aH bI (aV dD (pv 0) aB (fun _ _=>rfl)) (pv 1))) (aD (d9 (aH cQ (aV dD (pv 0) aB (fun _ _=>rfl)) (pv 1)) (zX (pv 0) aB sT)) (aG (aN (pv 2))))) aT) (aD (d9 (aH bI (aH bQ (aH aY (aV dD (pv 0) aB (fun _ _=>rfl)) aB) aB) aB) (zX (pv 0) aB sT)) (aD (aU (i:=3) sc_q41.nd rfl (by subst_eqs) (aH bI (aH bQ (aH bQ (aH aY (aV dD (pv 0) aB (fun _ _=>rfl)) (aV dD (pv 0) aB (fun _ _=>rfl))) (aH aY aB (aV dD (pv 0) aB (fun _ _=>rfl)))) aB) aB)) (aD (aU (i:=3) sc_q41.nd rfl (by subst_eqs) (aH bI (aH bQ (aH aY (pv 3) (pv 3)) (aH aY aB (pv 3))) aB)) (aG (aN (aH bI (aH cQ (pv 3) aB) (pv 1)))))))),?_⟩
  have e0:L2.start ["_law_state_here","_law_many","_law_found","_law_stirred"] [.ref a,.int m]=[some (.ref a),some (.int m),none,none]:=rfl
  rw[e0];clear e0
  bv_omega
  refine⟨_,SqL.of hH,_,rfl,_,rfl,?_⟩
  refine dY (fun hx=>?_) (fun hx=>?_)
  ·refine⟨_,SqL.of hH,_,rfl,_,rfl,m0,_,SqL.of hH,_,rfl,_,rfl,⟨m0,by omega⟩,_,hH,_,rfl,q _ _ (Int.emod_nonneg _ (by omega)) (Int.emod_lt_of_pos _ m0) ⟨⟨_,_,aE,y0,y1⟩,fun b o hb e=>by rw[aO hb];exact e⟩⟩
  ·have e1:0<=(y*48271+29)%2147483647:=Int.emod_nonneg _ (by omega)
   have e2:(y*48271+29)%2147483647<2147483647:=Int.emod_lt_of_pos _ (by omega)
   refine⟨_,SqL.of hH,_,rfl,_,rfl,.inr ⟨by omega,by omega⟩,by decide,_,hH,_,rfl,_,SqL.of aE,_,rfl,_,SqL.of aE,_,rfl,_,rfl,_,rfl,.inr ⟨iL _ (by decide) (by decide),iL _ (by decide) (by decide)⟩,_,SqL.of aE,_,rfl,_,rfl,
    .inr ⟨by decide,iL _ (by decide) (by decide)⟩,by decide,.inr ⟨iL _ (by decide) (by decide),iL _ (by decide) (by decide)⟩,.inr ⟨by decide,iL _ (by decide) (by decide)⟩,by decide,⟨by decide,by decide⟩,m0,
    q _ _ (Int.emod_nonneg _ (by omega)) (Int.emod_lt_of_pos _ m0) ⟨⟨_,_,aE,e1,by omega⟩,fun b o hb e=>by rw[aO hb];exact e⟩⟩
noncomputable abbrev O_q41 (P:Program) (w:World) (K:PySem.W.Frag) (mg:Str->Option Value) (base:Heap):Prop:=∃f fd,Df_q41 K mg f fd/\FnOk P w K mg base CX0 1 f fd ["_law_state_here","_law_many"] (spTake)
noncomputable abbrev s_q34:Stmt:=top 57
theorem sc_q34:FnScope ["_law_number","_law_found","_law_left","_law_prime_here","_law_often"] ["_law_number"] (aJ s_q34):=⟨rfl,rfl,rfl,by decide +kernel,rfl,by decide +kernel,by decide +kernel⟩
noncomputable abbrev Df_q34 (K:PySem.W.Frag) (mg:Str->Option Value) (f:Addr) (fd:FuncData):Prop:=Def K mg "_law_parts" s_q34 ["_law_number"] f fd
noncomputable def spLParts (K:PySem.W.Frag):Sp:=fun vs H Q _=>∃(n:Int),vs=[.int n]/\(1<=n/\n<=10^9)/\∀l p xs H',Parts n l->Same H H'->H' p=some (.lst xs)->RepL K H' (l.map pD) xs->Q (.ref p) H'
theorem ok_q34 (D:Df_q34 K mg f fd) (T:Txt K mg t1 cl):FnOk P w K mg base CX0 1 f fd ["_law_number"] (spLParts K):=by
  refine D.fn.ok sc_q34 (fun vs H Q E h=>?_) (fun cdv A outer s H vs Q E hr h=>?_)
  · obtain⟨n,rfl,_⟩:=h
    rfl
  · obtain⟨n,rfl,hb,k⟩:=h
    refine⟨_,(aD (aCg (i:=1) (j:=2) (l:=3) rfl sc_q34.nd rfl rfl rfl (by decide) (by decide) (by decide) rfl rfl rfl (aA (cY aF) (aA (pv 0) (aA aB aF))) (by first | rfl | with_unfolding_all rfl)) (aD (cN PassesOwn.never (aL eL (pv 2) aB (nomark _)) (aD (bF (aL eL (aH aY (pv 3) (pv 3)) (pv 2) (nomark _)) (aG (aU (i:=3) sc_q34.nd rfl (by subst_eqs) (pv 2))) aT) (aD (aU (i:=4) sc_q34.nd rfl (by subst_eqs) aB) (aD (cN PassesOwn.never (aL cC (aH bI (pv 2) (pv 3)) aB (nomark _)) (aG (iD (i:=2) (j:=4) rfl sc_q34.nd rfl rfl (by decide) rfl rfl (aA (aH cQ (pv 2) (pv 3)) (aA (aH bQ (pv 4) aB) aF)) (by first | rfl | with_unfolding_all rfl)))) (aD (bF (aL eL (pv 4) aB (nomark _)) (aG (eP (l9 PySem.F.plainAttrs_list PySem.F.slot_list_append PySem.F.type_list_append eR (pv 1) (aA (bV (aA (pv 3) (aA (pv 4) aF))) aF)))) aT) (aG (aU (i:=3) sc_q34.nd rfl (by subst_eqs) (aH bQ (pv 3) aB)))))))) (aG (aN (pv 1))))),?_⟩
    have e0:L2.start ["_law_number","_law_found","_law_left","_law_prime_here","_law_often"] [.int n]=[some (.int n),none,none,none,none]:=rfl
    rw[e0];clear e0
    bv_omega
    refine⟨Nat.zero_le _,fun p hp=>?_⟩
    obtain⟨W,hW⟩:∃W:Nat->St->Hp->Prop,∀m σ H',W m σ H'↔∃l left t o xs,m=(left-t+2).toNat/\σ=[some (.int n),some (.ref p),some (.int left),some (.int t),o]/\LtInv n l left t/\Same H H'/\H' p=some (.lst xs)/\RepL K H' (l.map pD) xs:=⟨_,fun _ _ _=>Iff.rfl⟩
    have s0:Same H (upd H p (.lst [])):=fun b o e=>by rw[aO (aI e hp)];exact e
    refine⟨W,⟨_,(hW _ _ _).mpr ⟨[],n,2,none,[],rfl,rfl,aAu hb.1,s0,aE,rfl⟩⟩,?_⟩
    intro m σ H' hw
    obtain⟨l,left,t,o,xs,rfl,rfl,I,S,hl,R⟩:=(hW _ _ _).mp hw
    clear hw
    have i1:=I.l1;have i2:=I.t2;have i3:=aFz I
    bv_omega
    refine dY (fun h1=>?_) (fun h1=>?_)
    · have itb:=I.tb h1
      refine⟨fun σ' H2=>∃m',m'<(left-t+2).toNat/\W m' σ' H2,fun _ _ h=>h,?_⟩
      have inner:∀t':Int,LtInv n l left t'->t<=t'->t'<=left->pZ (fF (tOp rEq (tOp (rI (fun _ j=>0<j) fun i j=>V.int (i%j)) (dZ 2) (dZ 3)) (tC (V.int 0))))
          (lI 2 4 (eJ (tOp (rI xF fun i j=>V.int (i/j)) (dZ 2) (dZ 3)) (eJ (tOp (rI0 fun i j=>V.int (i+j)) (dZ 4) (tC (V.int 1))) iC)))
          { nx:=eO (lJ (fF (tOp (rI0 fun i j=>V.bl (decide (j<i))) (dZ 4) (tC (V.int 0)))) (gA (tBM K "list" eG (dZ 1) (eJ (kJ (eJ (dZ 3) (eJ (dZ 4) iC))) iC))) f9) (iT (tOp (rI0 fun i j=>V.int (i+j)) (dZ 3) (tC (V.int 1))) (eM 3))
              { nx:=fun σ' H2=>∃m',m'<(left-t+2).toNat/\W m' σ' H2,rt:=Q,bk:=kK (dZ 1) { nx:=fun x H'=>Q V.non H',rt:=Q },ct:=fun σ' H2=>∃m',m'<(left-t+2).toNat/\W m' σ' H2 },rt:=Q,bk:=kK (dZ 1) { nx:=fun x H'=>Q V.non H',rt:=Q },ct:=fun σ' H2=>∃m',m'<(left-t+2).toNat/\W m' σ' H2 }
          [some (.int n),some (.ref p),some (.int left),some (.int t'),some (.int 0)] H':=by
        intro t' I' tt tl
        have t2:=I'.t2
        obtain⟨W2,hW2⟩:∃W:Nat->St->Hp->Prop,∀m σ H2,W m σ H2↔∃left' oft,m=left'.toNat/\σ=[some (.int n),some (.ref p),some (.int left'),some (.int t'),some (.int oft)]/\DivInv left t' left' oft/\H2=H':=⟨_,fun _ _ _=>Iff.rfl⟩
        refine⟨W2,⟨_,(hW2 _ _ _).mpr ⟨left,0,rfl,rfl,pL (by omega),rfl⟩⟩,?_⟩
        intro m2 σ2 H2 hw2
        obtain⟨left',oft,rfl,rfl,J,rfl⟩:=(hW2 _ _ _).mp hw2
        clear hw2
        have j1:=J.l1
        have j2:=aBd t2 J
        bv_omega
        refine⟨by omega,?_⟩
        refine dY (fun hd=>?_) (fun hd=>?_)
        · refine⟨fun σ' H2=>∃m',m'<left'.toNat/\W2 m' σ' H2,fun _ _ h=>h,?_⟩
          obtain⟨J2,jl⟩:=tV t2 J hd
          have j3:=J2.l1
          exact⟨⟨by omega,by omega⟩,_,by omega,(hW2 _ _ _).mpr ⟨_,_,rfl,rfl,J2,rfl⟩⟩
        · obtain⟨I2,lle⟩:=aCx I' J hd
          refine dY (fun ho=>?_) (fun ho=>?_)
          · rw[if_pos ho] at I2
            refine⟨.inl ⟨_,SqL.of hl⟩,?_⟩
            refine⟨by show 2<=sizeLine;decide,fun a ha=>?_⟩
            have npa:p≠a:=aI hl ha
            have hlen:xs.length<sizeLine:=by
              have e:=R.length
              rw[List.length_map] at e
              have e2:=gX I.ok.pr (by have:=I.eq;have:=dE I.ok.pr;have:=Int.mul_le_mul_of_nonneg_left i1 (show 0<=prod l by omega);omega)
              exact bK (by omega)
            refine⟨_,by rw[aO npa];exact hl,hlen,_,by omega,(hW _ _ _).mpr ⟨l++[(t',oft)],left',t'+1,_,_,rfl,rfl,I2,?_,aE,?_⟩⟩
            · intro b u e
              have e1:b≠p:=aI e hp
              have e2:b≠a:=aI (S b u e) ha
              rw[aO e1,aO e2]
              exact S b u e
            · have tk:TK H2 (upd (upd H2 a (.tup [.int t',.int oft])) p (.lst (xs++[.ref a]))):=(TK.new ha).trans (TK.lst (xs:=xs) (by rw[aO npa];exact hl))
              rw[List.map_append]
              refine(R.mono tk _ (fT l)).append ⟨_,[],rfl,dA ?_,rfl⟩
              rw[aO npa.symm,aE]
          · rw[if_neg ho] at I2
            exact⟨_,by omega,(hW _ _ _).mpr ⟨l,left',t'+1,_,xs,rfl,rfl,I2,S,hl,R⟩⟩
      refine⟨.inr ⟨by omega,by omega⟩,?_⟩
      refine dY (fun hs=>?_) (fun hs=>?_)
      · exact inner left (aCy I h1 hs).1 itb (Int.le_refl _)
      · exact inner t I (Int.le_refl _) itb
    · exact k l p xs H' (aE4 I h1) S hl R
noncomputable abbrev O_q34 (P:Program) (w:World) (K:PySem.W.Frag) (mg:Str->Option Value) (base:Heap):Prop:=∃f fd,Df_q34 K mg f fd/\FnOk P w K mg base CX0 1 f fd ["_law_number"] (spLParts K)
noncomputable abbrev s_q12:Stmt:=top 58
theorem sc_q12:FnScope ["_law_number"] ["_law_number"] (aJ s_q12):=⟨rfl,rfl,rfl,by decide +kernel,rfl,by decide +kernel,by decide +kernel⟩
noncomputable abbrev Df_q12 (K:PySem.W.Frag) (mg:Str->Option Value) (f:Addr) (fd:FuncData):Prop:=Def K mg "_law_is_prime" s_q12 ["_law_number"] f fd
noncomputable def spLPrime:Sp:=fun vs H Q _=>∃(n:Int),vs=[.int n]/\n<=10^9/\∀H',Same H H'->Q (.bl (mV n)) H'
theorem ok_q12 (D:Df_q12 K mg f fd) (T:Txt K mg t1 cl) (o1:O_q34 P w K mg base):FnOk P w K mg base CX0 2 f fd ["_law_number"] spLPrime:=by
 obtain⟨_,_,D_q34,G_q34⟩:=o1
 refine D.fn.ok sc_q12 (fun vs H Q E h=>?_) (fun cdv A outer s H vs Q E hr h=>?_)
 ·obtain⟨n,rfl,_⟩:=h
  rfl
 ·obtain⟨n,rfl,hb,k⟩:=h
  refine⟨_,(aG (aN (dC (cH eL (pv 0) aB (nomark _)) (dW (cH (j4 (fZ hr)) (aK (G_q34.mono (by decide)) hr rfl D_q34.mgx D_q34.fn.kp D_q34.bd .nil aR (aA (pv 0) aF)) (cY (aA (bV (aA (pv 0) (aA aB aF))) aF)) (nomark _)))))),?_⟩
  have e0:L2.start ["_law_number"] [.int n]=[some (.int n)]:=rfl
  rw[e0];clear e0
  bv_omega
  refine dY (fun h1=>?_) (fun h1=>?_)
  ·refine⟨n,rfl,⟨by omega,hb⟩,fun l p xs H' hl S hp R=>?_⟩
   bv_omega
   refine⟨by show 2<=sizeLine;decide,fun a ha=>⟨by show 1<=sizeLine;decide,fun b hb'=>?_⟩⟩
   have na:b≠a:=(aI aE hb').symm
   have tk:TK H' (upd (upd H' a (.tup [.int n,.int 1])) b (.lst [.ref a])):=(TK.new ha).trans (TK.new hb')
   have npa:p≠a:=aI hp ha
   have npb:p≠b:=aI (by rw[aO npa];exact hp) hb'
   refine⟨l.map pD,[(n,1)].map pD,.inr ⟨⟨p,xs,rfl,SqL.of (by rw[aO npb,aO npa];exact hp),R.mono tk _ (fT l)⟩,⟨b,_,rfl,SqL.of aE,_,_,rfl,dA (by rw[aO na.symm,aE]),rfl⟩⟩,Nat.le_trans (g6 _ _) (Nat.le_trans (wU l) (by decide)),⟨gY _ (v0 l),rfl⟩,?_⟩
   have e:=tE hl
   have kk:=k _ (fun c o z=>show (upd (upd H' a (.tup [.int n,.int 1])) b (.lst [.ref a])) c=some o by
    rw[aO (aI (show (upd H' a _) c=some o by rw[aO (aI (S c o z) ha)];exact S c o z) hb'),aO (aI (S c o z) ha)]
    exact S c o z)
   rw[wR]
   by_cases hp':bP n
   ·rw[tR hp'] at kk
    rw[decide_eq_true (e.mpr hp')]
    exact kk
   ·rw[pH hp'] at kk
    rw[decide_eq_false (fun z=>hp' (e.mp z))]
    exact kk
  ·have kk:=k H (Same.refl H)
   rw[pH (fun h=>by have:=h.1;omega)] at kk
   exact kk
noncomputable abbrev O_q12 (P:Program) (w:World) (K:PySem.W.Frag) (mg:Str->Option Value) (base:Heap):Prop:=∃f fd,Df_q12 K mg f fd/\FnOk P w K mg base CX0 2 f fd ["_law_number"] (spLPrime)
theorem Step.same {a:Addr} {H H1 H2:Hp} (x:Step a H H1) (y:Same H1 H2):Step a H H2:=by
 obtain⟨u,v,e,r⟩:=x.st
 exact⟨⟨u,v,y a _ e,r⟩,fun b o hb e=>y b o (x.but b o hb e)⟩
noncomputable abbrev s_q31:Stmt:=top 59
theorem sc_q31:FnScope ["_law_state_here","_law_most","_law_number"] ["_law_state_here","_law_most"] (aJ s_q31):=⟨rfl,rfl,rfl,by decide +kernel,rfl,by decide +kernel,by decide +kernel⟩
noncomputable abbrev Df_q31 (K:PySem.W.Frag) (mg:Str->Option Value) (f:Addr) (fd:FuncData):Prop:=Def K mg "_law_prime" s_q31 ["_law_state_here","_law_most"] f fd
noncomputable def spPrimeD:Sp:=fun vs H Q _=>∃(a:Addr) (m:Int),vs=[.ref a,.int m]/\(0<m/\m<=10^6)/\StAt H a/\∀r H',bP r->r<=1000003->Step a H H'->Q (.int r) H'
theorem ok_q31 (D:Df_q31 K mg f fd) (T:Txt K mg t1 cl) (o1:O_q41 P w K mg base) (o2:O_q12 P w K mg base):FnOk P w K mg base CX0 3 f fd ["_law_state_here","_law_most"] spPrimeD:=by
 obtain⟨_,_,D_q41,G_q41⟩:=o1
 obtain⟨_,_,D_q12,G_q12⟩:=o2
 refine D.fn.ok sc_q31 (fun vs H Q E h=>?_) (fun cdv A outer s H vs Q E hr h=>?_)
 ·obtain⟨a,m,rfl,_⟩:=h
  rfl
 ·obtain⟨a,m,rfl,⟨m0,m1⟩,hst,k⟩:=h
  refine⟨_,(aD (aU (i:=2) sc_q31.nd rfl (by subst_eqs) (aH bQ aB (aK (G_q41.mono (by decide)) hr rfl D_q41.mgx D_q41.fn.kp D_q41.bd .nil aR (aA (pv 0) (aA (pv 1) aF))))) (aD (cN PassesOwn.never (bH (bL (aK (G_q12.mono (by decide)) hr rfl D_q12.mgx D_q12.fn.kp D_q12.bd .nil aR (aA (pv 2) aF)))) (aG (aU (i:=2) sc_q31.nd rfl (by subst_eqs) (aH bQ (pv 2) aB)))) (aG (aN (pv 2))))),?_⟩
  have e0:L2.start ["_law_state_here","_law_most","_law_number"] [.ref a,.int m]=[some (.ref a),some (.int m),none]:=rfl
  rw[e0];clear e0
  bv_omega
  refine⟨a,m,rfl,⟨by omega,by omega⟩,hst,fun r H1 r0 r1 S1=>?_⟩
  bv_omega
  obtain⟨W,hW⟩:∃W:Nat->St->Hp->Prop,∀j σ H',W j σ H'↔∃n:Int,j=(1000003-n).toNat/\σ=[some (.ref a),some (.int m),some (.int n)]/\n<=1000003/\Step a H H':=⟨_,fun _ _ _=>Iff.rfl⟩
  refine⟨W,⟨_,(hW _ _ _).mpr ⟨_,rfl,rfl,by omega,S1⟩⟩,?_⟩
  intro j σ H' hw
  obtain⟨n,rfl,rfl,nb,S⟩:=(hW _ _ _).mp hw
  clear hw
  bv_omega
  refine⟨n,rfl,by omega,fun H2 S2=>?_⟩
  bv_omega
  cases e:mV n with
  | false =>
   refine dY (fun _=>?_) (fun h=>absurd rfl h)
   refine⟨fun σ' H2=>∃m',m'<(1000003-n).toNat/\W m' σ' H2,fun _ _ h=>h,?_⟩
   have ne:n≠1000003:=fun z=>by rw[z,tR uP] at e;cases e
   exact⟨_,by omega,(hW _ _ _).mpr ⟨_,rfl,rfl,by omega,S.same S2⟩⟩
  | true =>
   refine dY (fun h=>absurd h (by decide)) (fun _=>?_)
   exact k n H2 (isPrB_iff.mp e) nb (S.same S2)
noncomputable abbrev O_q31 (P:Program) (w:World) (K:PySem.W.Frag) (mg:Str->Option Value) (base:Heap):Prop:=∃f fd,Df_q31 K mg f fd/\FnOk P w K mg base CX0 3 f fd ["_law_state_here","_law_most"] (spPrimeD)
theorem updupd {H:Hp} {D:Addr} {o u:HO}:upd (upd H D o) D u=upd H D u:=by
 funext c
 by_cases z:c=D
 ·subst z;rw[aE,aE]
 ·rw[aO z,aO z,aO z]
noncomputable def spLPower:Sp:=fun vs H Q _=>∃(b o n:Int),vs=[.int b,.int o,.int n]/\(b.natAbs<10^100/\0<=o/\o<=10^30/\0<n/\n<=10^40)/\∀H',Same H H'->Q (.int (b^o.toNat%n)) H'
noncomputable abbrev s_q43:Stmt:=top 55
theorem sc_q43:FnScope ["_law_often","_law_found"] ["_law_often"] (aJ s_q43):=⟨rfl,rfl,rfl,by decide +kernel,rfl,by decide +kernel,by decide +kernel⟩
noncomputable abbrev Df_q43 (K:PySem.W.Frag) (mg:Str->Option Value) (f:Addr) (fd:FuncData):Prop:=Def K mg "_law_bits" s_q43 ["_law_often"] f fd
noncomputable def spBits:Sp:=fun vs H Q _=>∃(o:Int),vs=[.int o]/\(0<=o/\o<=10^30)/\∀bs p H',fE bs=o->(∀b∈bs,b=0\/b=1)->bs.length<=100->Same H H'->H' p=some (.lst (bs.reverse.map V.int))->Q (.ref p) H'
theorem ok_q43 (D:Df_q43 K mg f fd) (T:Txt K mg t1 cl):FnOk P w K mg base CX0 1 f fd ["_law_often"] spBits:=by
 refine D.fn.ok sc_q43 (fun vs H Q E h=>?_) (fun cdv A outer s H vs Q E hr h=>?_)
 ·obtain⟨o,rfl,_⟩:=h
  rfl
 ·obtain⟨o,rfl,hb,k⟩:=h
  refine⟨_,(aD (aU (i:=1) sc_q43.nd rfl (by subst_eqs) (cY aF)) (aD (cN PassesOwn.never (aL eL (pv 0) aB (nomark _)) (aD (eP (l9 PySem.F.plainAttrs_list PySem.F.slot_list_append PySem.F.type_list_append eR (pv 1) (aA (aH bI (pv 0) aB) aF))) (aG (aU (i:=0) sc_q43.nd rfl (by subst_eqs) (aH cQ (pv 0) aB))))) (aG (aN (aEo (pv 1)))))),?_⟩
  have e0:L2.start ["_law_often","_law_found"] [.int o]=[some (.int o),none]:=rfl
  rw[e0];clear e0
  bv_omega
  refine⟨Nat.zero_le _,fun p hp=>?_⟩
  obtain⟨W,hW⟩:∃W:Nat->St->Hp->Prop,∀m σ H',W m σ H'↔∃l bs,m=l.toNat/\σ=[some (.int l),some (.ref p)]/\BitInv o l bs/\bs.length<=100/\H'=upd H p (.lst (bs.map V.int)):=⟨_,fun _ _ _=>Iff.rfl⟩
  refine⟨W,⟨_,(hW _ _ _).mpr ⟨o,[],rfl,rfl,yT hb.1,Nat.zero_le _,rfl⟩⟩,?_⟩
  intro m σ H' hw
  obtain⟨l,bs,rfl,rfl,I,bl,rfl⟩:=(hW _ _ _).mp hw
  clear hw
  have l0:=I.l0
  bv_omega
  refine dY (fun hl=>?_) (fun hl=>?_)
  ·have hlen:=aDg I hl hb.2
   refine⟨fun σ' H2=>∃m',m'<l.toNat/\W m' σ' H2,fun _ _ h=>h,?_⟩
   refine⟨.inl ⟨_,SqL.of aE⟩,by decide,_,aE,bK (by rw[List.length_map];omega),⟨by decide,by decide⟩,_,by omega,(hW _ _ _).mpr ⟨l/2,bs++[l%2],rfl,rfl,aBj I,by rw[List.length_append,List.length_singleton];omega,?_⟩⟩
   rw[updupd,List.map_append]
   rfl
  ·rename_i aFp
   refine⟨_,SqL.of aE,fun q hq=>?_⟩
   have hl0:l=0:=by omega
   subst hl0
   rw[<- List.map_reverse]
   refine k bs q _ (aDh I) I.bit bl (fun b u e=>?_) aE
   rw[aO (aI (keep e hp) hq)]
   exact keep e hp
noncomputable abbrev O_q43 (P:Program) (w:World) (K:PySem.W.Frag) (mg:Str->Option Value) (base:Heap):Prop:=∃f fd,Df_q43 K mg f fd/\FnOk P w K mg base CX0 1 f fd ["_law_often"] (spBits)
noncomputable abbrev s_q33:Stmt:=top 56
theorem sc_q33:FnScope ["_law_base","_law_often","_law_n","_law_found","_law_bit"] ["_law_base","_law_often","_law_n"] (aJ s_q33):=⟨rfl,rfl,rfl,by decide +kernel,rfl,by decide +kernel,by decide +kernel⟩
noncomputable abbrev Df_q33 (K:PySem.W.Frag) (mg:Str->Option Value) (f:Addr) (fd:FuncData):Prop:=Def K mg "_law_power" s_q33 ["_law_base","_law_often","_law_n"] f fd
theorem ok_q33 (D:Df_q33 K mg f fd) (T:Txt K mg t1 cl) (o1:O_q43 P w K mg base):FnOk P w K mg base CX0 2 f fd ["_law_base","_law_often","_law_n"] spLPower:=by
 obtain⟨_,_,D_q43,G_q43⟩:=o1
 refine D.fn.ok sc_q33 (fun vs H Q E h=>?_) (fun cdv A outer s H vs Q E hr h=>?_)
 ·obtain⟨b,o,n,rfl,_⟩:=h
  rfl
 ·obtain⟨b,o,n,rfl,⟨hb,ho,ho2,hn,hn2⟩,k⟩:=h
  refine⟨_,(aD (aU (i:=3) sc_q33.nd rfl (by subst_eqs) (aH bI aB (pv 2))) (aD (dN PassesOwn.never rfl (gW (aK (G_q43.mono (by decide)) hr rfl D_q43.mgx D_q43.fn.kp D_q43.bd .nil aR (aA (pv 1) aF))) (aX (i:=4) sc_q33.nd rfl (by subst_eqs)) (aD (aU (i:=3) sc_q33.nd rfl (by subst_eqs) (aH bI (aH aY (pv 3) (pv 3)) (pv 2))) (aG (bF (aL cC (pv 4) aB (nomark _)) (aG (aU (i:=3) sc_q33.nd rfl (by subst_eqs) (aH bI (aH aY (pv 3) (pv 0)) (pv 2)))) aT)))) (aG (aN (pv 3))))),?_⟩
  have e0:L2.start ["_law_base","_law_often","_law_n","_law_found","_law_bit"] [.int b,.int o,.int n]=[some (.int b),some (.int o),some (.int n),none,none]:=rfl
  rw[e0];clear e0
  bv_omega
  refine⟨hn,?_⟩
  refine⟨_,rfl,o,rfl,⟨ho,ho2⟩,fun bs p H1 hv hbit hlen S1 hp=>?_⟩
  have nbn:∀z:Int,(z%n).natAbs<10^100:=fun z=>iL z (by omega) (by omega)
  refine⟨p,rfl,⟨_,SqL.of hp⟩,mX (xs:=bs.reverse.map V.int) (fun j σ H'=>H'=H1/\∃v,σ=[some (.int b),some (.int o),some (.int n),some (.int (b^(fE (bs.drop (bs.length-j))).toNat%n)),v]) ⟨rfl,none,?_⟩ (fun _ _ _ _ h=>by rw[h.1];exact SqL.of hp) ?_ ?_⟩
  ·simp[fE]
  ·rintro j x σ H' hx ⟨rfl,v,rfl⟩
   rw[List.getElem?_map] at hx
   obtain⟨c,hcx⟩:∃c,bs.reverse[j]? = some c:=by
    cases e:bs.reverse[j]? with
    | none=>rw[e] at hx;cases hx
    | some c=>exact⟨c,rfl⟩
   rw[hcx] at hx
   cases hx
   obtain⟨hc,hd⟩:=zI hcx
   have hv0:=f8 (fun y hy=>hbit y (List.mem_of_mem_drop (i:=bs.length-j) hy))
   have cb:=hbit c hc
   bv_omega
   refine⟨.inr ⟨nbn _,nbn _⟩,hn,?_⟩
   refine dY (fun h1=>?_) (fun h1=>?_)
   ·subst h1
    refine⟨.inr ⟨nbn _,by omega⟩,hn,?_⟩
    rw[hd,zU hv0]
    first | exact⟨rfl,_,rfl⟩ | simp
   ·have c0:c=0:=by omega
    subst c0
    rw[hd,zV hv0]
    first | exact⟨rfl,_,rfl⟩ | simp
  ·rintro σ H' ⟨rfl,v,rfl⟩
   bv_omega
   have e:bs.length-(bs.reverse.map V.int).length=0:=by rw[List.length_map,List.length_reverse];omega
   rw[e,List.drop_zero,hv]
   exact k _ S1
noncomputable abbrev O_q33 (P:Program) (w:World) (K:PySem.W.Frag) (mg:Str->Option Value) (base:Heap):Prop:=∃f fd,Df_q33 K mg f fd/\FnOk P w K mg base CX0 2 f fd ["_law_base","_law_often","_law_n"] (spLPower)
noncomputable def spLookG (K:PySem.W.Frag) (ws:List Str):Sp:=fun vs H Q _=>∃(n:Int) (d:Dt) (u:V),vs=[.int n,u]/\(Rep K H d u/\okD d=true/\1<=n/\n<=10^30/\cnD d<=20000)/\(PapG ws n d->∀H',Same H H'->Q (.bl true) H')/\(¬ PapG ws n d->∀H',Same H H'->Q (.bl false) H')
noncomputable def dX:List Str:=[Str.ofString "other"]
noncomputable def fullWs:List Str:=[Str.ofString "two",Str.ofString "full"]
theorem xY:∀z∈dX,z∈cT:=by decide
theorem aA5:∀z∈fullWs,z∈cT:=by decide
noncomputable abbrev s_q42:Stmt:=top 45
theorem sc_q42:FnScope ["n","thing"] ["n","thing"] (aJ s_q42):=⟨rfl,rfl,rfl,by decide +kernel,rfl,by decide +kernel,by decide +kernel⟩
noncomputable abbrev Df_q42 (K:PySem.W.Frag) (mg:Str->Option Value) (f:Addr) (fd:FuncData):Prop:=Def K mg "is_other" s_q42 ["n","thing"] f fd
theorem ok_q42 (D:Df_q42 K mg f fd) (T:Txt K mg t1 cl) (o1:O_q21 P w K mg base) (o2:O_q8 P w K mg base):FnOk P w K mg base CX0 8 f fd ["n","thing"] (spLookG K dX):=by
 obtain⟨_,_,D_q21,G_q21⟩:=o1
 obtain⟨_,_,D_q8,G_q8⟩:=o2
 refine D.fn.ok sc_q42 (fun vs H Q E h=>?_) (fun cdv A outer s H vs Q E hr h=>?_)
 ·obtain⟨n,d,u,rfl,_⟩:=h
  rfl
 ·obtain⟨n,d,u,rfl,⟨R,ok,n1,n30,cb⟩,k1,k2⟩:=h
  refine⟨_,(aD (eP (aK (G_q21.mono (by decide)) hr rfl D_q21.mgx D_q21.fn.kp D_q21.bd .nil aR (aA (pv 0) (aA bD aF)))) (aG (aN (aK (G_q8.mono (by decide)) hr rfl D_q8.mgx D_q8.fn.kp D_q8.bd .nil aR (aA (pv 0) (aA (pv 1) (aA (bV (aA bD aF)) aF))))))),?_⟩
  have e0:L2.start ["n","thing"] [.int n,u]=[some (.int n),some (u)]:=rfl
  rw[e0];clear e0
  bv_omega
  refine⟨n,_,rfl,⟨n1,n30⟩,?_⟩
  refine⟨by show 1<=sizeLine;decide,fun p hp=>?_⟩
  have S:Same H (upd H p (.tup [.str (Str.ofString "other")])):=fun b o e=>aW e hp
  exact⟨⟨n,d,dX⟩,u,p,rfl,⟨Rep.same S _ R,⟨ok,n1,n30,xY⟩,SqT.of aE,cb⟩,fun h H' S'=>k1 h _ (S.trans S'),fun h H' S'=>k2 h _ (S.trans S')⟩
noncomputable abbrev O_q42 (P:Program) (w:World) (K:PySem.W.Frag) (mg:Str->Option Value) (base:Heap):Prop:=∃f fd,Df_q42 K mg f fd/\FnOk P w K mg base CX0 8 f fd ["n","thing"] ((spLookG K dX))
theorem i8 {d:Dt} (ht:¬ cU (kdD d) "tuple" = true):cU (kdD d) "tuple" = false:=by cases h:cU (kdD d) "tuple" with | true=>exact absurd h ht | false=>rfl
theorem aF3 {α:Type} {l:List α} (h:l.length=3):∃a b c,l=[a,b,c]:=by
 match l,h with
 | [a,b,c],_=>exact⟨a,b,c,rfl⟩
theorem aE5 {α:Type} {l:List α} (h:l.length=2):∃a b,l=[a,b]:=by
 match l,h with
 | [a,b],_=>exact⟨a,b,rfl⟩
theorem eW {ds:List Dt}:eqDL ds []=decide (ds=[]):=by
 cases ds with
 | nil=>rfl
 | cons d ds=>rfl
theorem rw_get {H:Hp} {rows:List Row} {xs:List V} {j:Nat} {x:V} (R:RepL K H (rows.map rwD) xs) (hx:xs[j]? = some x):∃r,rows[j]? = some r/\Rep K H (rwD r) x:=by
 obtain⟨dj,hd,Rj⟩:=dM R hx
 rw[List.getElem?_map] at hd
 cases q:rows[j]? with
 | none=>rw[q] at hd;cases hd
 | some r=>rw[q] at hd;cases hd;exact⟨r,rfl,Rj⟩
theorem aZ {X:Cx} {K:PySem.W.Frag} (hK:X.K=K):IxR X (aCb K):=by subst hK;exact bM
noncomputable def aD1 (n:Int) (z:Str) (b:Int) (rows:List Row):Prop:=b^(n-1).toNat%n=1/\((z=Str.ofString "full" /\ ∀r∈rows,b^((n-1)/r.1).toNat%n≠1)\/(z≠Str.ofString "full" /\ ∀r∈rows,Int.gcd (b^((n-1)/r.1).toNat%n-1) n=1))
noncomputable def uC (n d:Int) (A:PZ) (rows:List Row):Prop:=MM.rp n (pw d A (n+1).toNat)=(1,0)/\∀r∈rows,uY n d A r
noncomputable def wsF (fl:Bool):List Str:=if fl=true then [Str.ofString "two",Str.ofString "full"] else cT
theorem sI (z:Str):c9 z=wsF (decide (z=Str.ofString "full")):=by
 unfold c9 wsF
 by_cases h:z=Str.ofString "full"
 ·rw[if_pos h,if_pos (decide_eq_true h)]
 ·rw[if_neg h,if_neg (by simpa using h)]
structure H3 (n:Int) (z:Str) (ds:List Dt) (b:Int) (rD:Dt) (rows:List Row):Prop where
 eq:ds=[.int b,rD]
 rp:RowsP rD (n-1) rows
 b1:1<=b
 bn:b<=n-1
 dv:(n-1)%prd rows=0
 all:z≠Str.ofString "share" -> prd rows=n-1
 odd:z≠Str.ofString "full" -> ¬ n%2=0
 big:z=Str.ofString "share" -> n<prd rows*prd rows
 go:aD1 n z b rows
structure H4 (n:Int) (ds:List Dt) (d:Int) (A:PZ) (rD:Dt) (rows:List Row):Prop where
 eq:ds=[.int d,pD A,rD]
 rp:RowsP rD (n+1) rows
 d1:1<=d
 dn:d<=n-1
 all:prd rows=n+1
 odd:¬ n%2=0
 rest:kI n A
 nm:(A.1*A.1-d*A.2*A.2)%n=1
 gd:Int.gcd d n=1
 go:uC n d A rows
theorem rT {α:Type} {a b:α} {as bs:List α} (h:a::as=b::bs):as=bs:=(List.cons.inj h).2
theorem vS {d:Dt} {m:Int} {rows:List Row} (h:RowsP d m rows):2<=prd rows:=by
 obtain⟨r,hr⟩:=List.exists_mem_of_ne_nil rows h.ne
 have a:=cE h.up r hr
 have b:=l6 (by decide) h.up r hr
 omega
theorem lQ {n:Int} {z:Str} {ds:List Dt} (hz:z=Str.ofString "full" \/ z=Str.ofString "share"):dB n (.str z::ds)↔∃b rD rows,H3 n z ds b rD rows:=by
 rcases hz with rfl | rfl
 ·rw[show_full]
  constructor
  ·rintro⟨b,rows,F⟩
   obtain⟨hh,rD,e,rp⟩:=F.eq
   exact⟨b,rD,rows,rT e,rp,F.home.1,F.home.2.1,by rw[F.all];exact Int.emod_self,fun _=>F.all,fun h=>absurd rfl h,fun h=>absurd h ws_ne4,F.home.2.2,.inl ⟨rfl,F.off⟩⟩
  ·rintro⟨b,rD,rows,F⟩
   refine⟨b,rows,⟨_,rD,by rw[F.eq],F.rp⟩,F.all ws_ne4,⟨F.b1,F.bn,F.go.1⟩,?_⟩
   rcases F.go.2 with h | h
   ·exact h.2
   ·exact absurd rfl h.1
 ·rw[show_share]
  constructor
  ·rintro⟨b,rows,F⟩
   obtain⟨hh,rD,e,rp⟩:=F.eq
   exact⟨b,rD,rows,rT e,rp,F.home.1,F.home.2.1,F.great.1,fun h=>absurd rfl h,fun _=>F.odd,fun _=>F.great.2,F.home.2.2,.inr ⟨ws_ne4.symm,F.off⟩⟩
  ·rintro⟨b,rD,rows,F⟩
   refine⟨b,rows,⟨_,rD,by rw[F.eq],F.rp⟩,F.odd ws_ne4.symm,⟨F.dv,F.big rfl⟩,⟨F.b1,F.bn,F.go.1⟩,?_⟩
   rcases F.go.2 with h | h
   ·exact absurd h.1.symm ws_ne4
   ·exact h.2
theorem show4 {n:Int} {ds:List Dt}:dB n (.str (Str.ofString "other")::ds)↔∃d A rD rows,H4 n ds d A rD rows:=by
 rw[show_other]
 constructor
 ·rintro⟨d,A,rows,F⟩
  obtain⟨hh,rD,e,rp⟩:=F.eq
  exact⟨d,A,rD,rows,rT e,rp,F.home.d1,F.home.dn,F.all,F.odd,F.home.rest,F.home.nm,F.home.gd,F.home.home,F.off⟩
 ·rintro⟨d,A,rD,rows,F⟩
  exact⟨d,A,rows,⟨_,rD,by rw[F.eq],F.rp⟩,F.odd,F.all,⟨rfl,rfl,F.d1,F.dn,F.gd,F.rest,F.nm,F.go.1⟩,F.go.2⟩
theorem H3.n3 {n:Int} {z:Str} {ds:List Dt} {b:Int} {rD:Dt} {rows:List Row} (h:H3 n z ds b rD rows):3<=n:=by
 have:=vS h.rp
 have:=h.rp.le
 omega
theorem H4.n3 {n:Int} {ds:List Dt} {d:Int} {A:PZ} {rD:Dt} {rows:List Row} (h:H4 n ds d A rD rows):3<=n:=by
 have:=h.odd
 have:=h.d1
 have:=h.dn
 omega
theorem aEu {ws:List Str} {n:Int} {z:Str} {ds:List Dt} (hw:z∈ws) (hz:z=Str.ofString "full" \/ z=Str.ofString "share"):PapG ws n (.tup (.str z::ds))↔∃b rD rows,H3 n z ds b rD rows/\∀r∈rows,PapG (c9 z) r.1 r.2.2:=by
 have h2:z≠Str.ofString "two" := by
  rcases hz with rfl | rfl
  ·exact ws_ne1.symm
  ·exact ws_ne2.symm
 constructor
 ·intro h
  obtain⟨z',ds',rows,e,_,sh,ri,hr⟩:=h.inv
  cases e
  obtain⟨b,rD,rows',F⟩:=(lQ hz).mp sh
  refine⟨b,rD,rows',F,?_⟩
  have ri':RowsIn z ds rows':=.inr ⟨h2,[.int b],by rw[F.eq,F.rp.eq];rfl⟩
  rw[ri'.unique ri]
  exact hr
 ·rintro⟨b,rD,rows,F,hr⟩
  exact .mk hw ((lQ hz).mpr ⟨b,rD,rows,F⟩) (.inr ⟨h2,[.int b],by rw[F.eq,F.rp.eq];rfl⟩) hr
theorem aCn {ws:List Str} {n:Int} {ds:List Dt} (hw:Str.ofString "other" ∈ ws):PapG ws n (.tup (.str (Str.ofString "other")::ds))↔∃d A rD rows,H4 n ds d A rD rows/\∀r∈rows,PapG (c9 (Str.ofString "other")) r.1 r.2.2:=by
 constructor
 ·intro h
  obtain⟨z',ds',rows,e,_,sh,ri,hr⟩:=h.inv
  cases e
  obtain⟨d,A,rD,rows',F⟩:=show4.mp sh
  refine⟨d,A,rD,rows',F,?_⟩
  have ri':RowsIn (Str.ofString "other") ds rows':=.inr ⟨ws_ne3.symm,[.int d,pD A],by rw[F.eq,F.rp.eq];rfl⟩
  rw[ri'.unique ri]
  exact hr
 ·rintro⟨d,A,rD,rows,F,hr⟩
  exact .mk hw (show4.mpr ⟨d,A,rD,rows,F⟩) (.inr ⟨ws_ne3.symm,[.int d,pD A],by rw[F.eq,F.rp.eq];rfl⟩) hr
theorem aEv {ws:List Str} {n:Int} {ds:List Dt} (hw:Str.ofString "two" ∈ ws):PapG ws n (.tup (.str (Str.ofString "two")::ds))↔ds=[]/\n=2:=by
 constructor
 ·intro h
  obtain⟨z',ds',rows,e,_,sh,ri,hr⟩:=h.inv
  cases e
  have:=show_two.mp sh
  exact⟨List.length_eq_zero_iff.mp (by have:=this.1;rw[List.length_cons] at this;omega),this.2⟩
 ·rintro⟨rfl,rfl⟩
  exact .mk hw (show_two.mpr ⟨rfl,rfl⟩) (.inl ⟨rfl,rfl⟩) fun r hr=>by cases hr
theorem aBv (fl:Bool):Str.ofString "two" ∈ wsF fl:=by cases fl <;> decide
noncomputable def aGd (fl:Bool):List Str:=if fl=true then [Str.ofString "full"] else [Str.ofString "full",Str.ofString "share",Str.ofString "other"]
theorem aAt {fl:Bool} {z:Str} (h2:z≠Str.ofString "two"):z∈aGd fl↔z∈wsF fl:=by
 cases fl
 ·show z∈[Str.ofString "full",Str.ofString "share",Str.ofString "other"]↔z∈cT
  unfold cT
  constructor
  ·exact fun h=>List.mem_cons_of_mem _ h
  ·intro h
   rcases List.mem_cons.mp h with e | h
   ·exact absurd e h2
   ·exact h
 ·show z∈[Str.ofString "full"]↔z∈[Str.ofString "two",Str.ofString "full"]
  constructor
  ·exact fun h=>List.mem_cons_of_mem _ h
  ·intro h
   rcases List.mem_cons.mp h with e | h
   ·exact absurd e h2
   ·exact h
theorem yU {fl:Bool} {z:Str} (h:z∈aGd fl) (ho:z≠Str.ofString "other"):z=Str.ofString "full" \/ z=Str.ofString "share" := by
 cases fl
 ·have h:z∈[Str.ofString "full",Str.ofString "share",Str.ofString "other"]:=h
  rcases List.mem_cons.mp h with e | h
  ·exact .inl e
  rcases List.mem_cons.mp h with e | h
  ·exact .inr e
  ·exact absurd (List.mem_singleton.mp h) ho
 ·have h:z∈[Str.ofString "full"]:=h
  exact .inl (List.mem_singleton.mp h)
theorem wH:∀ {rs:List Row} {l:Int},1<=l->dL l rs->(2:Int)^rs.length<=prd rs
 | [],_,_,_=>by decide
 | a::as,l,h0,h=>by
  have y:=wH (l:=a.1) (by have:=h.1;omega) h.2.2
  have x:2<=a.1^a.2.1.toNat:=by
   have:=cW (show 1<=a.1 by have:=h.1;omega) (show 1<=a.2.1.toNat by have:=h.2.1;omega)
   rw[Int.pow_one] at this
   have:=h.1
   omega
  show (2:Int)^(as.length+1)<=a.1^a.2.1.toNat*prd as
  rw[Int.pow_succ,Int.mul_comm]
  have p2:=cG (show (1:Int)<=2 by decide) as.length
  exact Int.mul_le_mul x y (by omega) (by omega)
theorem gR {d:Dt} {m:Int} {rows:List Row} (h:RowsP d m rows) (hm:m<=10^31):rows.length<=104:=by
 have a:=wH (by decide) h.up
 have c:=h.le
 apply Nat.not_lt.mp
 intro h104
 have:=cW (show (1:Int)<=2 by decide) (show 104<=rows.length by omega)
 have q:(2:Int)^104=20282409603651670423947251286016:=by decide
 rw[q] at this
 omega
theorem jJ:∀ {ds:List Dt} {d:Dt},d∈ds->dep d<=depL ds
 | x::xs,d,h=>by
  show dep d<=max (dep x) (depL xs)
  rcases List.mem_cons.mp h with e | h
  ·rw[e];omega
  ·have:=jJ h;omega
theorem wT {rows:List Row} {ds:List Dt} (h:Dt.tup (rows.map rwD)∈ds) {r:Row} (hr:r∈rows):dep r.2.2+3<=dep (.tup ds):=by
 have a:=jJ h
 have b:=jJ (List.mem_map_of_mem (f:=rwD) hr)
 have c:dep r.2.2<=depL [.int r.1,.int r.2.1,r.2.2]:=jJ (by simp)
 have e1:dep (rwD r)=depL [.int r.1,.int r.2.1,r.2.2]+1:=rfl
 have e2:dep (.tup (rows.map rwD))=depL (rows.map rwD)+1:=rfl
 have e3:dep (.tup ds)=depL ds+1:=rfl
 omega
noncomputable abbrev s_q28:Stmt:=top 51
theorem sc_q28:FnScope ["_law_thing"] ["_law_thing"] (aJ s_q28):=⟨rfl,rfl,rfl,by decide +kernel,rfl,by decide +kernel,by decide +kernel⟩
noncomputable abbrev Df_q28 (K:PySem.W.Frag) (mg:Str->Option Value) (f:Addr) (fd:FuncData):Prop:=Def K mg "_law_whole" s_q28 ["_law_thing"] f fd
theorem ok_q28 (D:Df_q28 K mg f fd) (T:Txt K mg t1 cl):FnOk P w K mg base CX0 1 f fd ["_law_thing"] (spWhole K):=by
 refine D.fn.ok sc_q28 (fun vs H Q E h=>?_) (fun cdv A outer s H vs Q E hr h=>?_)
 ·obtain⟨x,n,rfl,_⟩:=h
  rfl
 ·obtain⟨x,n,rfl,ty,k⟩:=h
  rw[<- aAy ty] at k
  refine⟨_,(aG (aN (dC (aQ bJ (by rfl) T.no_isinstance PyProof.Rows.boot_isinstance (aA (pv 0) (aA (b9 (v:=.ty "int") rfl T.no_int PyProof.Rows.boot_int rfl) aF))) (dW (zZ (aQ bJ (by rfl) T.no_isinstance PyProof.Rows.boot_isinstance (aA (pv 0) (aA (b9 (v:=.ty "bool") rfl T.no_bool PyProof.Rows.boot_bool rfl) aF)))))))),?_⟩
  have e0:L2.start ["_law_thing"] [x]=[some (x)]:=rfl
  rw[e0];clear e0
  bv_omega
  refine isk ty ⟨_,rfl,?_⟩
  cases e:cU n "int" with
  | false =>
   rw[e] at k
   rw[if_neg (by decide)]
   exact k
  | true =>
   rw[e] at k
   rw[if_pos rfl]
   refine isk ty ⟨_,rfl,?_⟩
   exact k
noncomputable abbrev O_q28 (P:Program) (w:World) (K:PySem.W.Frag) (mg:Str->Option Value) (base:Heap):Prop:=∃f fd,Df_q28 K mg f fd/\FnOk P w K mg base CX0 1 f fd ["_law_thing"] ((spWhole K))
theorem pC:∀ds:List Dt,2*ds.length<=lenDL ds
 | []=>Nat.le_refl _
 | d::ds=>by
  have:=pC ds
  show 2*(ds.length+1)<=bY d+2+lenDL ds
  omega
theorem pF:∀ {pre:List Row} {l:Int} {j:Nat},pre.length=j+1->∃r,pre[j]? = some r/\fI l pre=r.1
 | [r],l,0,_=>⟨r,rfl,rfl⟩
 | r::s::rs,l,j+1,h=>by
  obtain⟨r',h1,h2⟩:=pF (pre:=s::rs) (l:=r.1) (j:=j) (by rw[List.length_cons] at h;omega)
  exact⟨r',h1,h2⟩
structure RowsU (d:Dt) (rows:List Row):Prop where
 eq:d=.tup (rows.map rwD)
 ne:rows≠[]
 up:dL 1 rows
theorem RowsU.take {ds:List Dt} {rows pre:List Row} {j:Nat} (h:RowsU (.tup ds) rows) (hp:ds.take j=pre.map rwD):rows.take j=pre:=by
 have e:=Dt.tup.inj h.eq
 rw[e,<- List.map_take] at hp
 exact cI hp
theorem RowsU.at {ds:List Dt} {rows:List Row} {j:Nat} {d:Dt} (h:RowsU (.tup ds) rows) (hd:ds[j]? = some d):∃r,rows[j]? = some r/\d=rwD r:=by
 have e:=Dt.tup.inj h.eq
 rw[e,List.getElem?_map] at hd
 cases q:rows[j]? with
 | none=>rw[q] at hd;cases hd
 | some r=>rw[q] at hd;cases hd;exact⟨r,rfl,rfl⟩
noncomputable def spAreR (K:PySem.W.Frag):Sp:=fun vs H Q _=>∃(d:Dt) (u:V),vs=[u]/\Rep K H d u/\bY d<=1000000/\(∀rows,RowsU d rows->∀H',Same H H'->Q (.bl true) H')/\((∀rows,¬ RowsU d rows)->∀H',Same H H'->Q (.bl false) H')
noncomputable abbrev s_q11:Stmt:=top 62
theorem sc_q11:FnScope ["_law_thing","_law_at","_law_row"] ["_law_thing"] (aJ s_q11):=⟨rfl,rfl,rfl,by decide +kernel,rfl,by decide +kernel,by decide +kernel⟩
noncomputable abbrev Df_q11 (K:PySem.W.Frag) (mg:Str->Option Value) (f:Addr) (fd:FuncData):Prop:=Def K mg "_law_are_rows" s_q11 ["_law_thing"] f fd
theorem xL {ti:TI} {g:TG} {tb:TS} {D:Ends} {σ:St} {H:Hp} (h:∀B:TS,B=tb->kL ti g B D σ H):kL ti g tb D σ H:=h tb rfl
theorem ok_q11 (D:Df_q11 K mg f fd) (T:Txt K mg t1 cl) (o1:O_q28 P w K mg base):FnOk P w K mg base CX0 2 f fd ["_law_thing"] (spAreR K):=by
 obtain⟨_,_,D_q28,G_q28⟩:=o1
 refine D.fn.ok sc_q11 (fun vs H Q E h=>?_) (fun cdv A outer s H vs Q E hr h=>?_)
 ·obtain⟨d,u,rfl,_⟩:=h
  rfl
 ·obtain⟨d,u,rfl,R,cb,k1,k2⟩:=h
  refine⟨_,(aD (bF (PW.pt (bS (bH (bL (aQ bJ (by rfl) T.no_isinstance PyProof.Rows.boot_isinstance (aA (pv 0) (aA (b9 (v:=.ty "tuple") rfl T.no_tuple PyProof.Rows.boot_tuple rfl) aF))))) (cB (aL (j4 (fZ hr)) (pv 0) (bV aF) (nomark _))))) (aG (aN bR)) aT) (aD (dN PassesOwn.never rfl (jX rfl T.no_range (aA (aQ bB (by rfl) T.no_len PySem.boot_len (aA (pv 0) aF)) aF)) (aX (i:=1) sc_q11.nd rfl (by subst_eqs)) (aD (aU (i:=2) sc_q11.nd rfl (by subst_eqs) (aV bM (pv 0) (pv 1) (fun _ _=>rfl))) (aD (bF (PW.pt (bS (bH (bL (aQ bJ (by rfl) T.no_isinstance PyProof.Rows.boot_isinstance (aA (pv 2) (aA (b9 (v:=.ty "tuple") rfl T.no_tuple PyProof.Rows.boot_tuple rfl) aF))))) (bS (aL cV (aQ bB (by rfl) T.no_len PySem.boot_len (aA (pv 2) aF)) aB (nomark _)) (bS (bH (bL (aK (G_q28.mono (by decide)) hr rfl D_q28.mgx D_q28.fn.kp D_q28.bd .nil aR (aA (aV bM (pv 2) aB (fun _ _=>rfl)) aF)))) (cB (bH (bL (aK (G_q28.mono (by decide)) hr rfl D_q28.mgx D_q28.fn.kp D_q28.bd .nil aR (aA (aV bM (pv 2) aB (fun _ _=>rfl)) aF))))))))) (aG (aN bR)) aT) (aG (bF (PW.pt (bS (aL gK (aV bM (pv 2) aB (fun _ _=>rfl)) aB (nomark _)) (bS (aL gK (aV bM (pv 2) aB (fun _ _=>rfl)) aB (nomark _)) (cB (PW.pt (jV (aL eL (pv 1) aB (nomark _)) (gT (bH (aL gK (aV bM (aV bM (pv 0) (aH bE (pv 1) aB) (fun _ _=>rfl)) aB (fun _ _=>rfl)) (aV bM (pv 2) aB (fun _ _=>rfl)) (nomark _)))))))))) (aG (aN bR)) aT))))) (aG (aN bR)))),?_⟩
  have e0:L2.start ["_law_thing","_law_at","_law_row"] [u]=[some (u),none,none]:=rfl
  rw[e0];clear e0
  refine aM fun R1 sq1=>?_
  bv_omega
  refine isk (cF R) ⟨_,rfl,?_⟩
  by_cases ht:cU (kdD d) "tuple" = true
  case neg =>
   rw[i8 ht,if_pos rfl]
   refine k2 (fun rows rp=>?_) _ (Same.refl H)
   rw[rp.eq] at ht
   exact absurd rfl ht
  rw[ht,if_neg (by decide)]
  obtain⟨ds,rfl⟩:=fW ht
  have R0:=R
  obtain⟨a,xs,rfl,ha,RL⟩:=R
  have xl:=RL.length
  refine⟨Nat.zero_le _,fun p hp=>?_⟩
  have S1:Same H (upd H p (.tup [])):=fun b o e=>aW e hp
  have hp1:(upd H p (.tup [])) p=some (.tup []):=aE
  generalize upd H p (.tup [])=H1 at S1 hp1 ⊢
  refine⟨_,[],.inl ⟨Rep.same S1 _ R0,p,[],rfl,SqT.of hp1,rfl⟩,Nat.zero_le _,⟨rfl,rfl⟩,?_⟩
  rw[eW]
  refine⟨_,rfl,?_⟩
  by_cases h0:ds=[]
  case pos =>
   rw[decide_eq_true h0,if_pos rfl]
   refine k2 (fun rows rp=>?_) _ S1
   have:=Dt.tup.inj rp.eq
   rw[h0] at this
   exact rp.ne (List.map_eq_nil_iff.mp this.symm)
  rw[decide_eq_false h0,if_neg (by decide)]
  subst sq1
  refine aM fun R1 sq1=>?_
  dsimp only[eO]
  refine xL fun B hB=>?_
  refine lK ?_
  bv_omega
  have RL1:=RepL.same S1 _ RL
  have ha1:=S1.tk.sq ha
  have dlen:ds.length<=1000000:=by
   have:=pC ds
   have e:bY (.tup ds)=lenDL ds+3:=rfl
   omega
  refine⟨xs,.inr ha1,by omega,by omega,?_⟩
  obtain⟨Pv,hPv⟩:∃Pv:Nat->St->Hp->Prop,∀j σ H2,Pv j σ H2↔H2=H1/\∃(pre:List Row) (v1 v2:Option V),σ=[some (.ref a),v1,v2]/\ds.take j=pre.map rwD/\dL 1 pre:=⟨_,fun _ _ _=>Iff.rfl⟩
  refine aA6 Pv ((hPv _ _ _).mpr ⟨rfl,[],none,none,rfl,rfl,True.intro⟩) ?_ ?_
  ·intro j σ H2 hj hP
   obtain⟨rfl,pre,v1,v2,rfl,tk,up⟩:=(hPv _ _ _).mp hP
   rw[hB]
   clear hB B
   have jl:j<xs.length:=by omega
   obtain⟨x,hx⟩:∃x,xs[j]? = some x:=⟨_,List.getElem?_eq_getElem jl⟩
   obtain⟨dj,hd,Rj⟩:=dM RL1 hx
   have tk1:ds.take (j+1)=ds.take j++[dj]:=by rw[List.take_succ,hd];rfl
   have prl:pre.length=j:=by
    have:=congrArg List.length tk
    rw[List.length_map,List.length_take] at this
    omega
   have at':∀rows,RowsU (.tup ds) rows->∃r,rows[j]? = some r/\dj=rwD r/\(2<=r.1/\1<=r.2.1)/\fI 1 pre<r.1:=fun rows rp=>by
    obtain⟨r,hr,er⟩:=rp.at hd
    have tk2:ds.take (j+1)=(pre++[r]).map rwD:=by rw[tk1,tk,List.map_append,er];rfl
    have e:=rp.take tk2
    have b:=cE rp.up r (List.mem_of_getElem? hr)
    exact⟨r,hr,er,⟨by omega,b.2⟩,(ascU_snoc.mp (gQ (b:=rows.drop (j+1)) (by rw[<- e,List.take_append_drop];exact rp.up))).2.1⟩
   dsimp only[eM,List.set_cons_zero,List.set_cons_succ]
   refine aM fun R2 sq2=>?_
   bv_omega
   refine⟨a,_,_,_,rfl,rfl,ha1,by rw[Int.zero_add];exact g9 hx,?_⟩
   subst sq2
   refine aM fun R2 sq2=>?_
   bv_omega
   refine isk (cF Rj) ⟨_,rfl,?_⟩
   by_cases htj:cU (kdD dj) "tuple" = true
   case neg =>
    rw[i8 htj,if_pos rfl]
    refine k2 (fun rows rp=>?_) _ S1
    obtain⟨r,_,er,_⟩:=at' rows rp
    rw[er] at htj
    exact absurd rfl htj
   rw[htj,if_neg (by decide)]
   obtain⟨es,rfl⟩:=fW htj
   obtain⟨c,ys,rfl,hc,RY⟩:=Rj
   have yl:=RY.length
   refine⟨c,rfl,_,.inr hc,?_⟩
   by_cases h3:es.length=3
   case neg =>
    rw[if_pos (by omega)]
    refine k2 (fun rows rp=>?_) _ S1
    obtain⟨r,_,er,_⟩:=at' rows rp
    rw[Dt.tup.inj er] at h3
    exact h3 rfl
   rw[if_neg (by omega)]
   obtain⟨d0,d1,d2,rfl⟩:=aF3 h3
   obtain⟨x0,_,rfl,R0',x1,_,rfl,R1',x2,_,rfl,R2',rfl⟩:=RY
   refine⟨c,_,_,_,rfl,rfl,hc,rfl,x0,_,rfl,cF R0',_,rfl,?_⟩
   by_cases hb0:kP x0=true
   case neg =>
    rw[if_pos (by simpa using hb0)]
    refine k2 (fun rows rp=>?_) _ S1
    obtain⟨r,_,er,_⟩:=at' rows rp
    unfold rwD at er
    cases er
    cases (show x0=V.int r.1 from R0')
    exact hb0 rfl
   rw[hb0,if_neg (by decide)]
   obtain⟨q,rfl,rfl⟩:=gG R0' hb0
   refine⟨c,_,_,_,rfl,rfl,hc,rfl,x1,_,rfl,cF R1',_,rfl,?_⟩
   by_cases hb1:kP x1=true
   case neg =>
    rw[if_pos (by simpa using hb1)]
    refine k2 (fun rows rp=>?_) _ S1
    obtain⟨r,_,er,_⟩:=at' rows rp
    unfold rwD at er
    cases er
    cases (show x1=V.int r.2.1 from R1')
    exact hb1 rfl
   rw[hb1,if_neg (by decide)]
   obtain⟨e,rfl,rfl⟩:=gG R1' hb1
   have bad:¬ (2<=q/\1<=e/\fI 1 pre<q)->∀rows,¬ RowsU (.tup ds) rows:=fun hn rows rp=>by
    obtain⟨r,_,er,hr,hl⟩:=at' rows rp
    unfold rwD at er
    cases er
    exact hn ⟨hr.1,hr.2,hl⟩
   have good:2<=q->1<=e->fI 1 pre<q->Pv (j+1) [some (.ref a),some (.int (0+(j:Int))),some (.ref c)] H2:=fun g1 g2 g3=>(hPv _ _ _).mpr ⟨rfl,pre++[(q,e,d2)],_,_,rfl,by rw[tk1,tk,List.map_append];rfl,ascU_snoc.mpr ⟨up,g3,g2⟩⟩
   subst sq2
   bv_omega
   refine⟨c,_,_,_,rfl,rfl,hc,rfl,q,rfl,?_⟩
   refine dY (fun h=>k2 (bad fun g=>by omega) _ S1) (fun hq2=>?_)
   refine⟨c,_,_,_,rfl,rfl,hc,rfl,e,rfl,?_⟩
   refine dY (fun h=>k2 (bad fun g=>by omega) _ S1) (fun he1=>?_)
   refine dY (fun hj0=>?_) (fun hj0=>?_)
   ·obtain⟨i,rfl⟩:∃i,j=i+1:=⟨j-1,by omega⟩
    obtain⟨r',h1,h2⟩:=pF (l:=1) prl
    obtain⟨vi,hvi⟩:∃vi,xs[i]? = some vi:=⟨_,List.getElem?_eq_getElem (by omega)⟩
    obtain⟨di,hdi,Ri⟩:=dM RL1 hvi
    have edi:di=rwD r':=by
     have a1:(ds.take (i+1))[i]? = some di:=by rw[List.getElem?_take_of_lt (by omega)];exact hdi
     rw[tk,List.getElem?_map,h1] at a1
     cases a1
     rfl
    subst edi
    obtain⟨c2,zs,rfl,hc2,_,_,rfl,rfl,_,_,rfl,rfl,z2,_,rfl,R8,rfl⟩:=Ri
    refine⟨a,_,_,_,rfl,rfl,ha1,by rw[show (0+((i+1:Nat):Int)-1)=(i:Int) by omega];exact g9 hvi,c2,_,_,_,rfl,rfl,hc2,rfl,c,_,_,_,rfl,rfl,hc,rfl,r'.1,rfl,q,rfl,?_⟩
    rw[<- h2]
    refine dY (fun h=>k2 (bad fun g=>h g.2.2) _ S1) (fun h=>good (by omega) (by omega) (by omega))
   ·have e0:j=0:=by omega
    subst e0
    have:pre=[]:=List.length_eq_zero_iff.mp prl
    subst this
    exact good (by omega) (by omega) (by show (1:Int)<q;omega)
  ·intro σ H2 hP
   obtain⟨rfl,pre,v1,v2,rfl,tk,up⟩:=(hPv _ _ _).mp hP
   subst sq1
   bv_omega
   rw[Int.toNat_natCast,<- xl,List.take_length] at tk
   subst tk
   exact k1 pre ⟨rfl,fun h=>h0 (by rw[h];rfl),up⟩ _ S1
noncomputable abbrev O_q11 (P:Program) (w:World) (K:PySem.W.Frag) (mg:Str->Option Value) (base:Heap):Prop:=∃f fd,Df_q11 K mg f fd/\FnOk P w K mg base CX0 2 f fd ["_law_thing"] ((spAreR K))
noncomputable def spLProdA (K:PySem.W.Frag):Sp:=fun vs H Q _=>∃(rows:List Row) (a:Addr) (m:Int),vs=[.ref a,.int m]/\Rep K H (.tup (rows.map rwD)) (.ref a)/\(dL 1 rows/\okD (.tup (rows.map rwD))=true/\1<=m/\m<=10^31)/\Q (.int (if prd rows<=m then prd rows else m+1)) H
noncomputable abbrev s_q15:Stmt:=top 63
theorem sc_q15:FnScope ["_law_rows","_law_most","_law_found","_law_row","_law_turn"] ["_law_rows","_law_most"] (aJ s_q15):=⟨rfl,rfl,rfl,by decide +kernel,rfl,by decide +kernel,by decide +kernel⟩
noncomputable abbrev Df_q15 (K:PySem.W.Frag) (mg:Str->Option Value) (f:Addr) (fd:FuncData):Prop:=Def K mg "_law_product" s_q15 ["_law_rows","_law_most"] f fd
theorem ok_q15 (D:Df_q15 K mg f fd) (T:Txt K mg t1 cl):FnOk P w K mg base CX0 1 f fd ["_law_rows","_law_most"] (spLProdA K):=by
 refine D.fn.ok sc_q15 (fun vs H Q E h=>?_) (fun cdv A outer s H vs Q E hr h=>?_)
 ·obtain⟨rows,a,m,rfl,_⟩:=h
  rfl
 ·obtain⟨rows,a,m,rfl,R,⟨up,ok,m1,m31⟩,k⟩:=h
  obtain⟨_,xs,e,ha,RL⟩:=R
  cases e
  have xl:xs.length=rows.length:=by rw[<- RL.length,List.length_map]
  refine⟨_,(aD (aU (i:=2) sc_q15.nd rfl (by subst_eqs) aB) (aD (dN PassesOwn.never rfl (eE (pv 0)) (aX (i:=3) sc_q15.nd rfl (by subst_eqs)) (aD (aU (i:=4) sc_q15.nd rfl (by subst_eqs) aB) (aG (cN PassesOwn.never (PW.pt (jV (aL gK (pv 4) (aV bM (pv 3) aB (fun _ _=>rfl)) (nomark _)) (gT (aL hU (pv 2) (pv 1) (nomark _))))) (aG (iD (i:=2) (j:=4) rfl sc_q15.nd rfl rfl (by decide) rfl rfl (aA (aH aY (pv 2) (aV bM (pv 3) aB (fun _ _=>rfl))) (aA (aH bQ (pv 4) aB) aF)) (by first | rfl | with_unfolding_all rfl))))))) (aG (aN (aQ (pM rfl) (by rfl) T.no_min PyProof.Rows.boot_min (aA (pv 2) (aA (aH bQ (pv 1) aB) aF))))))),?_⟩
  have e0:L2.start ["_law_rows","_law_most","_law_found","_law_row","_law_turn"] [.ref a,.int m]=[some (.ref a),some (.int m),none,none,none]:=rfl
  rw[e0];clear e0
  bv_omega
  refine⟨_,rfl,a,rfl,⟨xs,ha⟩,fX (xs:=xs) (fun j σ H2=>H2=H/\∃(v:Int) (v3 v4:Option V),σ=[some (.ref a),some (.int m),some (.int v),v3,v4]/\1<=v/\(prd (rows.take j)<=m->v=prd (rows.take j))/\(m<prd (rows.take j)->m<v)) ⟨rfl,1,none,none,rfl,by decide,fun _=>rfl,fun h=>absurd h (by show ¬ m<1;omega)⟩ (fun _ _ _ _ h=>by rw[h.1];exact ha) ?_ ?_⟩
  ·rintro j x σ H2 hx ⟨rfl,F,v3,v4,rfl,F1,g1,g2⟩
   obtain⟨r,hr,Rr⟩:=rw_get RL hx
   have rm:=List.mem_of_getElem? hr
   have rp:=cE up r rm
   have okr:=bU ok (rwD r) (List.mem_map_of_mem rm)
   have q100:r.1.natAbs<10^100:=of_decide_eq_true (bU okr (.int r.1) List.mem_cons_self)
   have tk:prd (rows.take (j+1))=prd (rows.take j)*r.1^r.2.1.toNat:=by rw[List.take_succ,hr];exact prd_snoc _ r
   have upj:dL 1 (rows.take j):=gQ (b:=rows.drop j) (by rw[List.take_append_drop];exact up)
   have P1:=cO (by decide) upj
   obtain⟨c,ys,rfl,hc,_,_,rfl,rfl,_,_,rfl,rfl,z,_,rfl,R3,rfl⟩:=Rr
   bv_omega
   obtain⟨W,hW⟩:∃W:Nat->St->Hp->Prop,∀z σ H',W z σ H'↔∃i:Nat,z=(m+1-F*r.1^i).toNat/\σ=[some (.ref a),some (.int m),some (.int (F*r.1^i)),some (.ref c),some (.int (i:Int))]/\(i:Int)<=r.2.1/\(0<i->F<=m)/\H'=H2:=⟨_,fun _ _ _=>Iff.rfl⟩
   refine⟨W,⟨_,(hW _ _ _).mpr ⟨0,rfl,by rw[Int.pow_zero,Int.mul_one];rfl,by omega,fun h=>absurd h (by decide),rfl⟩⟩,?_⟩
   intro z' σ H' hw
   obtain⟨i,rfl,rfl,ie,iF,rfl⟩:=(hW _ _ _).mp hw
   clear hw
   have pos:∀i:Nat,1<=F*r.1^i:=fun i=>by
    have:=dH (show 0<=F by omega) (cG (show 1<=r.1 by omega) i)
    omega
   have pi:=pos i
   have step:F*r.1^(i+1)=F*r.1^i*r.1:=by rw[Int.pow_succ,<- Int.mul_assoc]
   have grow:F*r.1^i*2<=F*r.1^i*r.1:=Int.mul_le_mul_of_nonneg_left (by omega) (by omega)
   have mono:F*r.1^i<=F*r.1^r.2.1.toNat:=Int.mul_le_mul_of_nonneg_left (cW (show 1<=r.1 by omega) (by omega)) (by omega)
   bv_omega
   have fin:¬ ((i:Int)<r.2.1/\F*r.1^i<=m)->(prd (rows.take (j+1))<=m->F*r.1^i=prd (rows.take (j+1)))/\(m<prd (rows.take (j+1))->m<F*r.1^i):=fun hn=>by
    rw[tk]
    by_cases hP:prd (rows.take j)<=m
    ·have e:=g1 hP
     rw[<- e]
     by_cases hi:i=r.2.1.toNat
     ·rw[hi];exact⟨fun _=>rfl,fun h=>h⟩
     ·have hgt:m<F*r.1^i:=by
       apply Int.not_le.mp
       intro h
       exact hn ⟨by omega,h⟩
      exact⟨fun h=>by omega,fun _=>hgt⟩
    ·have hF:=g2 (by omega)
     have i0:i=0:=by
      apply Classical.byContradiction
      intro h
      have:=iF (by omega)
      omega
     subst i0
     rw[Int.pow_zero,Int.mul_one]
     have big:=dH (show 0<=prd (rows.take j) by omega) (cG (show 1<=r.1 by omega) r.2.1.toNat)
     exact⟨fun h=>by omega,fun _=>hF⟩
   refine⟨c,_,_,_,rfl,rfl,hc,rfl,_,rfl,?_⟩
   by_cases hl:(i:Int)<r.2.1
   ·rw[if_pos hl]
    by_cases hm:F*r.1^i<=m
    ·rw[if_pos hm]
     refine⟨fun σ' H2=>∃m',m'<(m+1-F*r.1^i).toNat/\W m' σ' H2,fun _ _ h=>h,?_⟩
     have Fm:F<=m:=by
      have:=dH (show 0<=F by omega) (cG (show 1<=r.1 by omega) i)
      omega
     refine⟨c,_,_,_,rfl,rfl,hc,rfl,_,rfl,.inr ⟨by omega,q100⟩,_,?_,(hW _ _ _).mpr ⟨i+1,rfl,?_,by omega,fun _=>Fm,rfl⟩⟩
     ·rw[step];omega
     ·rw[step];rfl
    ·rw[if_neg hm]
     have g:=fin (fun h=>hm h.2)
     exact⟨rfl,pi,g.1,g.2⟩
   ·rw[if_neg hl]
    have g:=fin (fun h=>hl h.1)
    exact⟨rfl,pi,g.1,g.2⟩
  ·rintro σ H2 ⟨rfl,F,v3,v4,rfl,F1,g1,g2⟩
   bv_omega
   rw[xl,List.take_length] at g1 g2
   by_cases hP:prd rows<=m
   ·rw[if_pos hP] at k
    rw[g1 hP,if_neg (by omega)]
    exact k
   ·rw[if_neg hP] at k
    have:=g2 (by omega)
    by_cases h:m+1<F
    ·rw[if_pos h];exact k
    ·rw[if_neg h,show F=m+1 by omega];exact k
noncomputable abbrev O_q15 (P:Program) (w:World) (K:PySem.W.Frag) (mg:Str->Option Value) (base:Heap):Prop:=∃f fd,Df_q15 K mg f fd/\FnOk P w K mg base CX0 1 f fd ["_law_rows","_law_most"] ((spLProdA K))
noncomputable def spLF (K:PySem.W.Frag):Sp:=fun vs H Q _=>∃(n:Int) (z:Str) (ds:List Dt) (u:V),vs=[.int n,u]/\(Rep K H (.tup (.str z::ds)) u/\okD (.tup (.str z::ds))=true/\bY (.tup (.str z::ds))<=1000000/\z∈fullWs/\1<=n/\n<=10^30)/\(dB n (.str z::ds)->∀H',Same H H'->Q (.bl true) H')/\(¬ dB n (.str z::ds)->∀H',Same H H'->Q (.bl false) H')
noncomputable def aAh (b n:Int) (r:Row):Bool:=decide (b^((n-1)/r.1).toNat%n=1)
noncomputable abbrev OB_q33 (P:Program) (w:World) (K:PySem.W.Frag) (mg:Str->Option Value):Prop:=∃f fd,Df_q33 K mg f fd/\∀b,FnOk P w K mg b CX0 2 f fd ["_law_base","_law_often","_law_n"] spLPower
noncomputable abbrev s_q5:Stmt:=top 64
theorem sc_q5:FnScope ["_law_n","_law_thing"] ["_law_n","_law_thing"] (aJ s_q5):=⟨rfl,rfl,rfl,by decide +kernel,rfl,by decide +kernel,by decide +kernel⟩
noncomputable abbrev Df_q5 (K:PySem.W.Frag) (mg:Str->Option Value) (f:Addr) (fd:FuncData):Prop:=Def K mg "_law_full_holds" s_q5 ["_law_n","_law_thing"] f fd
theorem ok_q5 (D:Df_q5 K mg f fd) (T:Txt K mg t1 cl) (o1:O_q28 P w K mg base) (o2:O_q11 P w K mg base) (o3:O_q15 P w K mg base) (o4:OB_q33 P w K mg):FnOk P w K mg base CX0 3 f fd ["_law_n","_law_thing"] (spLF K):=by
 obtain⟨_,_,D_q28,G_q28⟩:=o1
 obtain⟨_,_,D_q11,G_q11⟩:=o2
 obtain⟨_,_,D_q15,G_q15⟩:=o3
 obtain⟨_,_,D_q33,B_q33⟩:=o4
 have G_q33:=B_q33 base
 refine D.fn.ok sc_q5 (fun vs H Q E h=>?_) (fun cdv A outer s H vs Q E hr h=>?_)
 ·obtain⟨n,z,ds,u,rfl,_⟩:=h
  rfl
 ·obtain⟨n,z,ds,u,rfl,⟨R0,ok,lb,zw,n1,n30⟩,k1,k2⟩:=h
  refine⟨_,(aD (bF (aL cC (aV (aZ (K:=K) rfl) (pv 1) aB (fun _ _=>rfl)) bD (nomark _)) (aG (aN (dC (cH cC (aQ bB (by rfl) T.no_len PySem.boot_len (aA (pv 1) aF)) aB (nomark _)) (dW (cH cC (pv 0) aB (nomark _)))))) aT) (aD (bF (PW.pt (bS (aL cV (aQ bB (by rfl) T.no_len PySem.boot_len (aA (pv 1) aF)) aB (nomark _)) (bS (bH (bL (aK (G_q28.mono (by omega)) hr rfl D_q28.mgx D_q28.fn.kp D_q28.bd .nil aR (aA (aV (aZ (K:=K) rfl) (pv 1) aB (fun _ _=>rfl)) aF)))) (bS (bH (iY hU gK aB (aV (aZ (K:=K) rfl) (pv 1) aB (fun _ _=>rfl)) (pv 0))) (cB (bH (bL (aK (G_q11.mono (by omega)) hr rfl D_q11.mgx D_q11.fn.kp D_q11.bd .nil aR (aA (aV (aZ (K:=K) rfl) (pv 1) aB (fun _ _=>rfl)) aF))))))))) (aG (aN bR)) aT) (aD (bF (PW.pt (bS (aL cV (aK (G_q15.mono (by omega)) hr rfl D_q15.mgx D_q15.fn.kp D_q15.bd .nil aR (aA (aV (aZ (K:=K) rfl) (pv 1) aB (fun _ _=>rfl)) (aA (pv 0) aF))) (aH bE (pv 0) aB) (nomark _)) (cB (aL cV (aK (G_q33.mono (by omega)) hr rfl D_q33.mgx D_q33.fn.kp D_q33.bd .nil aR (aA (aV (aZ (K:=K) rfl) (pv 1) aB (fun _ _=>rfl)) (aA (aH bE (pv 0) aB) (aA (pv 0) aF)))) aB (nomark _))))) (aG (aN bR)) aT) (aG (aN (cH (j4 (fZ hr)) (eV (N:=["_law_row","_law_n","_law_thing"]) (js:=[none,some 0,some 1]) (by rfl) rfl (fun _=>rfl) (eE (aV (aZ (K:=K) rfl) (pv 1) aB (fun _ _=>rfl))) (by intro b _ _ _ _;exact(aX (i:=0) (show List.Nodup (["_law_row","_law_n","_law_thing"]:List Str) by decide) rfl (by subst_eqs))) (by intro b _ _ _ _;exact i6 (aL cC (aK ((B_q33 b).mono (by omega)) hr rfl D_q33.mgx D_q33.fn.kp D_q33.bd .nil aR (aA (aV (aZ (K:=K) rfl) (pv 2) aB (fun _ _=>rfl)) (aA (aH cQ (aH bE (pv 1) aB) (aV (aZ (K:=K) rfl) (pv 0) aB (fun _ _=>rfl))) (aA (pv 1) aF)))) aB (nomark _))) (by intro b _ _ _ _;exact(pv 0))) (cY aF) (nomark _))))))),?_⟩
  have e0:L2.start ["_law_n","_law_thing"] [.int n,u]=[some (.int n),some (u)]:=rfl
  rw[e0];clear e0
  refine aM fun R1 sq1=>?_
  bv_omega
  have RR:=R0
  obtain⟨a,xs,rfl,ha,x0,xs,rfl,Rz,RL⟩:=RR
  cases (show x0=V.str z from Rz)
  have xl:=RL.length
  refine⟨a,_,_,_,rfl,rfl,ha,at0,rfl,?_⟩
  by_cases h2:z=Str.ofString "two"
  case pos =>
   subst h2
   rw[if_pos rfl]
   refine⟨a,rfl,_,.inr ha,?_⟩
   by_cases hd:ds.length=0
   ·rw[if_pos (by rw[List.length_cons,<- xl,hd];rfl)]
    by_cases hn:n=2
    ·rw[decide_eq_true hn]
     exact k1 (show_two.mpr ⟨by rw[List.length_cons,hd],hn⟩) _ (Same.refl H)
    ·rw[decide_eq_false hn]
     exact k2 (fun h=>hn (show_two.mp h).2) _ (Same.refl H)
   ·rw[if_neg (by rw[List.length_cons,<- xl];omega)]
    exact k2 (fun h=>hd (by have:=(show_two.mp h).1;rw[List.length_cons] at this;omega)) _ (Same.refl H)
  have zf:z=Str.ofString "full" := by
   rcases List.mem_cons.mp zw with e | e
   ·exact absurd e h2
   ·exact List.mem_singleton.mp e
  subst zf
  rw[if_neg (fun h=>h2 (V.str.inj h))]
  subst sq1
  refine aM fun R1 sq1=>?_
  bv_omega
  have no:(∀b rD rows,¬ H3 n (Str.ofString "full") ds b rD rows)->¬ dB n (.str (Str.ofString "full")::ds):=fun h g=>by
   obtain⟨b,rD,rows,F⟩:=(lQ (.inl rfl)).mp g
   exact h b rD rows F
  refine⟨_,.inr ha,?_⟩
  by_cases h3:ds.length=2
  case neg =>
   rw[if_pos (by rw[List.length_cons,<- xl];omega)]
   exact k2 (no fun b rD rows F=>h3 (by rw[F.eq];rfl)) _ (Same.refl H)
  rw[if_neg (by rw[List.length_cons,<- xl];omega)]
  obtain⟨d1,d2,rfl⟩:=aE5 h3
  obtain⟨x1,_,rfl,Rb,x2,_,rfl,R2,rfl⟩:=RL
  refine⟨a,_,_,_,rfl,rfl,ha,rfl,x1,_,rfl,cF Rb,_,rfl,?_⟩
  by_cases hb1:kP x1=true
  case neg =>
   rw[if_pos (by simpa using hb1)]
   refine k2 (no fun b rD rows F=>?_) _ (Same.refl H)
   cases F.eq
   cases (show x1=V.int b from Rb)
   exact hb1 rfl
  rw[hb1,if_neg (by decide)]
  obtain⟨b,rfl,rfl⟩:=gG Rb hb1
  refine⟨a,_,_,_,rfl,rfl,ha,rfl,_,rfl,?_⟩
  by_cases hl1:1<=b
  case neg =>
   rw[if_neg hl1]
   refine k2 (no fun b' rD rows F=>?_) _ (Same.refl H)
   cases F.eq
   exact hl1 F.b1
  rw[if_pos hl1]
  refine⟨_,rfl,?_⟩
  by_cases hl2:b<n
  case neg =>
   rw[if_pos hl2]
   refine k2 (no fun b' rD rows F=>?_) _ (Same.refl H)
   cases F.eq
   have:=F.bn
   omega
  rw[if_neg (fun h=>h hl2)]
  have lb2:bY d2<=1000000:=by
   have e:bY (.tup [.str (Str.ofString "full"),.int b,d2])=bY (.str (Str.ofString "full"))+2+(bY (.int b)+2+(bY d2+2+0))+3:=rfl
   omega
  refine⟨a,_,_,_,rfl,rfl,ha,rfl,d2,x2,rfl,R2,lb2,fun rows rp H1 S1=>?_,fun hno H1 S1=>?_⟩
  case refine_2 =>
   refine⟨_,rfl,?_⟩
   rw[if_pos rfl]
   refine k2 (no fun b' rD rows F=>?_) _ S1
   cases F.eq
   exact hno rows ⟨F.rp.eq,F.rp.ne,F.rp.up⟩
  refine⟨_,rfl,?_⟩
  rw[if_neg (by decide)]
  have uniq:∀ {b' rD rows'},H3 n (Str.ofString "full") [.int b,d2] b' rD rows'->b'=b/\rows'=rows:=fun {b' rD rows'} F=>by
   have e:=F.eq
   cases e
   exact⟨rfl,cI (Dt.tup.inj (F.rp.eq.symm.trans rp.eq))⟩
  have ok2:okD d2=true:=bU ok d2 (by simp)
  have e2:=rp.eq
  subst e2
  obtain⟨c,ys,rfl,hc,RY⟩:=id R2
  have yl:ys.length=rows.length:=by rw[<- RY.length,List.length_map]
  have ha1:=S1.tk.sq ha
  subst sq1
  refine aM fun R1 sq1=>?_
  bv_omega
  refine⟨a,_,_,_,rfl,rfl,ha1,rfl,?_⟩
  refine⟨rows,c,n,rfl,Rep.same S1 _ R2,⟨rp.up,ok2,n1,by omega⟩,rfl,?_⟩
  by_cases hp:prd rows=n-1
  case neg =>
   rw[if_pos (fun h=>hp (by have:=V.int.inj h;split at this <;> omega))]
   refine k2 (no fun b' rD rows' F=>?_) _ S1
   obtain⟨_,rfl⟩:=uniq F
   exact hp (F.all ws_ne4)
  rw[if_neg (by rw[if_pos (show prd rows<=n by omega),hp];exact fun h=>h rfl)]
  have RP:RowsP (.tup (rows.map rwD)) (n-1) rows:=⟨rfl,rp.ne,rp.up,by omega⟩
  have n3:=vS RP
  have rl:=gR RP (by omega)
  refine⟨a,_,_,_,rfl,rfl,ha1,rfl,b,n-1,n,rfl,⟨by omega,by omega,by omega,by omega,by omega⟩,fun H2 S2=>⟨rfl,?_⟩⟩
  have S12:=S1.trans S2
  by_cases hm:b^(n-1).toNat%n=1
  case neg =>
   rw[if_pos (fun h=>hm (V.int.inj h))]
   refine k2 (no fun b' rD rows' F=>?_) _ S12
   obtain⟨rfl,rfl⟩:=uniq F
   exact hm F.go.1
  rw[if_neg (by rw[hm];exact fun h=>h rfl)]
  subst sq1
  have ha2:=S12.tk.sq ha
  have hc2:=S12.tk.sq hc
  have RY2:=RepL.same S12 _ RY
  bv_omega
  refine d8 ?_
  refine⟨_,rfl,a,_,_,_,rfl,rfl,ha2,rfl,c,rfl,⟨ys,hc2⟩,fun bs D hcb hD=>?_⟩
  obtain⟨Pv,hPv⟩:∃Pv:Nat->St->Hp->Prop,∀i σ H3,Pv i σ H3↔(∃v1,σ=[v1,some (.int n),some (.ref a)])/\Same H2 H3/\∃vs,H3 D=some (.lst vs)/\RepL K H2 (((rows.take i).filter (aAh b n)).map rwD) vs/\vs.length<=i:=⟨_,fun _ _ _=>Iff.rfl⟩
  refine jK (xs:=ys) Pv ((hPv _ _ _).mpr ⟨⟨none,rfl⟩,fun b o e=>aW e hD,[],aE,rfl,Nat.zero_le _⟩) (fun i σ H' hi h=>((hPv _ _ _).mp h).2.1.tk.sq hc2) ?_ ?_
  ·intro j x σ H3 hx h
   obtain⟨⟨v1,rfl⟩,s3,vs,d3,RV,vl⟩:=(hPv _ _ _).mp h
   obtain⟨r,hr,Rr⟩:=rw_get RY2 hx
   have rm:=List.mem_of_getElem? hr
   have jl:j<rows.length:=(List.getElem?_eq_some_iff.mp hr).1
   have r2:=cE rp.up r rm
   have Rr3:=Rep.same s3 _ Rr
   have tk:rows.take (j+1)=rows.take j++[r]:=by rw[List.take_succ,hr];rfl
   have okr:=bU ok2 (rwD r) (List.mem_map_of_mem rm)
   have q100:r.1.natAbs<10^100:=of_decide_eq_true (bU okr (.int r.1) List.mem_cons_self)
   obtain⟨c2,zs,rfl,hc3,_,_,rfl,rfl,_,_,rfl,rfl,z2,_,rfl,R8,rfl⟩:=Rr3
   rename_i CT
   have dv0:0<=(n-1)/r.1:=Int.ediv_nonneg (by omega) (by omega)
   have dv1:(n-1)/r.1<=n-1:=Int.ediv_le_self _ (by omega)
   refine⟨a,_,_,_,rfl,rfl,(S12.trans s3).tk.sq ha,rfl,c2,_,_,_,rfl,rfl,hc3,rfl,_,rfl,⟨by omega,by omega⟩,b,(n-1)/r.1,n,rfl,⟨by omega,dv0,by omega,by omega,by omega⟩,fun H4 S4=>?_⟩
   refine⟨rfl,?_⟩
   have S34:=s3.trans S4
   by_cases h1:b^((n-1)/r.1).toNat%n=1
   ·rw[if_pos (by rw[h1])]
    refine⟨_,S4 _ _ d3,bK (by omega),(hPv _ _ _).mpr ⟨⟨_,rfl⟩,fun b o e=>?_,_,aE,?_,by rw[List.length_append];show _+1<=_;omega⟩⟩
    ·rw[aO (aI e hD)];exact S34 _ _ e
    ·rw[tk,List.filter_append,List.filter_cons_of_pos (show aAh b n r=true from decide_eq_true h1),List.map_append]
     exact RepL.append RV ⟨_,[],rfl,Rr,rfl⟩
   ·rw[if_neg (fun h=>h1 (V.int.inj h))]
    refine(hPv _ _ _).mpr ⟨⟨_,rfl⟩,S34,vs,S4 _ _ d3,?_,by omega⟩
    rw[tk,List.filter_append,List.filter_cons_of_neg (show ¬ aAh b n r=true from fun h=>h1 (of_decide_eq_true h)),List.filter_nil,List.append_nil]
    exact RV
  ·intro σ H3 h
   obtain⟨⟨v1,rfl⟩,s3,vs,d3,RV,vl⟩:=(hPv _ _ _).mp h
   rw[yl,List.take_length] at RV
   refine⟨Nat.zero_le _,fun pe hpe=>?_⟩
   have S3':Same H2 (upd H3 pe (.lst [])):=fun b o e=>aW (s3 _ _ e) hpe
   have S13:=S12.trans S3'
   refine⟨(rows.filter (aAh b n)).map rwD,[],.inr ⟨⟨D,vs,rfl,SqL.of (aW d3 hpe),RepL.same S3' _ RV⟩,⟨pe,[],rfl,SqL.of aE,rfl⟩⟩,Nat.zero_le _,⟨rfl,rfl⟩,?_⟩
   rw[eW]
   by_cases he:rows.filter (aAh b n)=[]
   ·rw[decide_eq_true (by rw[he];rfl)]
    refine k1 ((lQ (.inl rfl)).mpr ⟨b,_,rows,rfl,RP,hl1,by omega,by rw[hp];exact Int.emod_self,fun _=>hp,fun h=>absurd rfl h,fun h=>absurd h ws_ne4,hm,.inl ⟨rfl,fun r hr h=>?_⟩⟩) _ S13
    exact absurd (decide_eq_true h) (List.filter_eq_nil_iff.mp he r hr)
   ·rw[decide_eq_false (fun h=>he (List.map_eq_nil_iff.mp h))]
    refine k2 (no fun b' rD rows' F=>he ?_) _ S13
    obtain⟨rfl,rfl⟩:=uniq F
    refine List.filter_eq_nil_iff.mpr fun r hr h=>?_
    rcases F.go.2 with g | g
    ·exact g.2 r hr (of_decide_eq_true h)
    ·exact g.1 rfl
noncomputable abbrev O_q5 (P:Program) (w:World) (K:PySem.W.Frag) (mg:Str->Option Value) (base:Heap):Prop:=∃f fd,Df_q5 K mg f fd/\FnOk P w K mg base CX0 3 f fd ["_law_n","_law_thing"] ((spLF K))
noncomputable abbrev s_q19:Stmt:=top 54
theorem sc_q19:FnScope ["_law_one","_law_other"] ["_law_one","_law_other"] (aJ s_q19):=⟨rfl,rfl,rfl,by decide +kernel,rfl,by decide +kernel,by decide +kernel⟩
noncomputable abbrev Df_q19 (K:PySem.W.Frag) (mg:Str->Option Value) (f:Addr) (fd:FuncData):Prop:=Def K mg "_law_divisor" s_q19 ["_law_one","_law_other"] f fd
theorem ok_q19 (D:Df_q19 K mg f fd) (T:Txt K mg t1 cl):FnOk P w K mg base CX0 1 f fd ["_law_one","_law_other"] spGreat:=by
 refine D.fn.ok sc_q19 (fun vs H Q E h=>?_) (fun cdv A outer s H vs Q E hr h=>?_)
 ·obtain⟨a,b,rfl,_⟩:=h
  rfl
 ·obtain⟨a,b,rfl,⟨ha,hb⟩,k⟩:=h
  refine⟨_,(aD (iD (i:=0) (j:=1) rfl sc_q19.nd rfl rfl (by decide) rfl rfl (aA (aQ jP (by rfl) T.no_abs PyProof.Rows.boot_abs (aA (pv 0) aF)) (aA (aQ jP (by rfl) T.no_abs PyProof.Rows.boot_abs (aA (pv 1) aF)) aF)) (by first | rfl | with_unfolding_all rfl)) (aD (cN PassesOwn.never (aL eL (pv 1) aB (nomark _)) (aG (iD (i:=0) (j:=1) rfl sc_q19.nd rfl rfl (by decide) rfl rfl (aA (pv 1) (aA (aH bI (pv 0) (pv 1)) aF)) (by first | rfl | with_unfolding_all rfl)))) (aG (aN (pv 0))))),?_⟩
  have e0:L2.start ["_law_one","_law_other"] [.int a,.int b]=[some (.int a),some (.int b)]:=rfl
  rw[e0];clear e0
  bv_omega
  refine⟨fun m σ H'=>H'=H/\∃g s,m=s.toNat/\σ=[some (.int g),some (.int s)]/\GcdInv a b g s,
   ⟨_,rfl,_,_,rfl,rfl,pJ a b⟩,?_⟩
  rintro m σ H' ⟨rfl,g,s,rfl,rfl,I⟩
  bv_omega
  refine dY (fun hl=>?_) (fun hl=>?_)
  ·refine⟨fun σ' H2=>H2=H'/\∃g' s',s'.toNat<s.toNat/\σ'=[some (.int g'),some (.int s')]/\GcdInv a b g' s',
    fun σ' H2 ⟨e,g',s',hlt,e2,J⟩=>⟨_,hlt,e,g',s',rfl,e2,J⟩,?_⟩
   have l1:=Int.emod_lt_of_pos g hl
   have l2:=Int.emod_nonneg g (show s≠0 by omega)
   exact⟨hl,rfl,_,_,by omega,rfl,tT I hl⟩
  ·have e:=wQ I hl
   rw[<- e] at k
   exact k
noncomputable abbrev O_q19 (P:Program) (w:World) (K:PySem.W.Frag) (mg:Str->Option Value) (base:Heap):Prop:=∃f fd,Df_q19 K mg f fd/\FnOk P w K mg base CX0 1 f fd ["_law_one","_law_other"] (spGreat)
noncomputable abbrev s_q17:Stmt:=top 60
theorem sc_q17:FnScope ["_law_one","_law_other","_law_d","_law_n","_law_first"] ["_law_one","_law_other","_law_d","_law_n"] (aJ s_q17):=⟨rfl,rfl,rfl,by decide +kernel,rfl,by decide +kernel,by decide +kernel⟩
noncomputable abbrev Df_q17 (K:PySem.W.Frag) (mg:Str->Option Value) (f:Addr) (fd:FuncData):Prop:=Def K mg "_law_pair_by" s_q17 ["_law_one","_law_other","_law_d","_law_n"] f fd
theorem ok_q17 (D:Df_q17 K mg f fd) (T:Txt K mg t1 cl):FnOk P w K mg base CX0 1 f fd ["_law_one","_law_other","_law_d","_law_n"] (spProd K):=by
 refine D.fn.ok sc_q17 (fun vs H Q E h=>?_) (fun cdv A outer s H vs Q E hr h=>?_)
 ·obtain⟨p,q,A,B,d,n,rfl,_⟩:=h
  rfl
 ·obtain⟨p,q,A,B,d,n,rfl,hp,hq,⟨sa,sb,hd,hn,hn2⟩,k⟩:=h
  refine⟨_,(aD (aU (i:=4) sc_q17.nd rfl (by subst_eqs) (aH bQ (aH aY (aV bM (pv 0) aB (fun _ _=>rfl)) (aV bM (pv 1) aB (fun _ _=>rfl))) (aH aY (aH aY (pv 2) (aV bM (pv 0) aB (fun _ _=>rfl))) (aV bM (pv 1) aB (fun _ _=>rfl))))) (aG (aN (bV (aA (aH bI (pv 4) (pv 3)) (aA (aH bI (aH bQ (aH aY (aV bM (pv 0) aB (fun _ _=>rfl)) (aV bM (pv 1) aB (fun _ _=>rfl))) (aH aY (aV bM (pv 0) aB (fun _ _=>rfl)) (aV bM (pv 1) aB (fun _ _=>rfl)))) (pv 3)) aF)))))),?_⟩
  have e0:L2.start ["_law_one","_law_other","_law_d","_law_n","_law_first"] [.ref p,.ref q,.int d,.int n]=[some (.ref p),some (.ref q),some (.int d),some (.int n),none]:=rfl
  rw[e0];clear e0
  rename_i aCb
  exact⟨_,hp,_,rfl,_,hq,_,rfl,_,rfl,_,rfl,.inr ⟨bG sa.a,bG sb.a⟩,_,hp,_,rfl,_,rfl,.inr ⟨bG hd,bG sa.b⟩,_,hq,_,rfl,_,rfl,.inr ⟨j5 hd sa.b (by decide),bG sb.b⟩,hn,_,hp,_,rfl,_,hq,_,rfl,_,rfl,_,rfl,.inr ⟨bG sa.a,bG sb.b⟩,_,hp,_,rfl,_,hq,_,rfl,_,rfl,_,rfl,.inr ⟨bG sa.b,bG sb.a⟩,hn,by show 2<=sizeLine;decide,fun r hr'=>k r hr'⟩
noncomputable abbrev O_q17 (P:Program) (w:World) (K:PySem.W.Frag) (mg:Str->Option Value) (base:Heap):Prop:=∃f fd,Df_q17 K mg f fd/\FnOk P w K mg base CX0 1 f fd ["_law_one","_law_other","_law_d","_law_n"] (spProd K)
noncomputable abbrev s_q6:Stmt:=top 61
theorem sc_q6:FnScope ["_law_pair","_law_often","_law_d","_law_n","_law_found","_law_bit"] ["_law_pair","_law_often","_law_d","_law_n"] (aJ s_q6):=⟨rfl,rfl,rfl,by decide +kernel,rfl,by decide +kernel,by decide +kernel⟩
noncomputable abbrev Df_q6 (K:PySem.W.Frag) (mg:Str->Option Value) (f:Addr) (fd:FuncData):Prop:=Def K mg "_law_pair_power" s_q6 ["_law_pair","_law_often","_law_d","_law_n"] f fd
theorem ok_q6 (D:Df_q6 K mg f fd) (T:Txt K mg t1 cl) (o1:O_q43 P w K mg base) (o2:O_q17 P w K mg base):FnOk P w K mg base CX0 2 f fd ["_law_pair","_law_often","_law_d","_law_n"] (spPP K):=by
 obtain⟨_,_,D_q43,G_q43⟩:=o1
 obtain⟨_,_,D_q17,G_q17⟩:=o2
 refine D.fn.ok sc_q6 (fun vs H Q E h=>?_) (fun cdv A outer s H vs Q E hr h=>?_)
 ·obtain⟨p,A,o,d,n,rfl,_⟩:=h
  rfl
 ·obtain⟨p,A,o,d,n,rfl,hp,⟨sa,ho,ho2,hd,hn,hn2⟩,k⟩:=h
  refine⟨_,(aD (aU (i:=4) sc_q6.nd rfl (by subst_eqs) (bV (aA (aH bI aB (pv 3)) (aA aB aF)))) (aD (dN PassesOwn.never rfl (gW (aK (G_q43.mono (by decide)) hr rfl D_q43.mgx D_q43.fn.kp D_q43.bd .nil aR (aA (pv 1) aF))) (aX (i:=5) sc_q6.nd rfl (by subst_eqs)) (aD (aU (i:=4) sc_q6.nd rfl (by subst_eqs) (aK (G_q17.mono (by decide)) hr rfl D_q17.mgx D_q17.fn.kp D_q17.bd .nil aR (aA (pv 4) (aA (pv 4) (aA (pv 2) (aA (pv 3) aF)))))) (aG (bF (aL cC (pv 5) aB (nomark _)) (aG (aU (i:=4) sc_q6.nd rfl (by subst_eqs) (aK (G_q17.mono (by decide)) hr rfl D_q17.mgx D_q17.fn.kp D_q17.bd .nil aR (aA (pv 4) (aA (pv 0) (aA (pv 2) (aA (pv 3) aF))))))) aT)))) (aG (aN (pv 4))))),?_⟩
  have e0:L2.start ["_law_pair","_law_often","_law_d","_law_n","_law_found","_law_bit"] [.ref p,.int o,.int d,.int n]=[some (.ref p),some (.int o),some (.int d),some (.int n),none,none]:=rfl
  rw[e0];clear e0
  bv_omega
  refine⟨hn,by show 2<=sizeLine;decide,fun p1 hp1=>?_⟩
  have s1:Same H (upd H p1 (.tup [V.int (1%n),V.int 0])):=fun b o e=>keep e hp1
  have e1:(upd H p1 (.tup [V.int (1%n),V.int 0])) p1=some (.tup (pzV (1%n,0))):=aE
  generalize upd H p1 (.tup [V.int (1%n),V.int 0])=H1 at s1 e1 ⊢
  refine⟨_,rfl,o,rfl,⟨ho,ho2⟩,fun bs q H2 hv hbit hlen S2 hq=>?_⟩
  obtain⟨W,hW⟩:∃W:Nat->St->Hp->Prop,∀j σ H',W j σ H'↔Same H H'/\Same H2 H'/\∃pf v,σ=[some (.ref p),some (.int o),some (.int d),some (.int n),some (.ref pf),v]/\H' pf=some (.tup (pzV (MM.rp n (pw d A (fE (bs.drop (bs.length-j))).toNat)))):=⟨_,fun _ _ _=>Iff.rfl⟩
  refine⟨q,rfl,⟨_,SqL.of hq⟩,mX (xs:=bs.reverse.map V.int) W ((hW _ _ _).mpr ⟨s1.trans S2,fun _ _ e=>e,p1,none,rfl,?_⟩) (fun _ _ _ _ h=>SqL.of (((hW _ _ _).mp h).2.1 _ _ hq)) ?_ ?_⟩
  ·rw[Nat.sub_zero,List.drop_length]
   rw[aAg hn] at e1
   exact S2 _ _ e1
  ·intro j x σ H' hx hw
   obtain⟨sm,sm2,pf,v,rfl,ef⟩:=(hW _ _ _).mp hw
   rw[List.getElem?_map] at hx
   obtain⟨c,hcx⟩:∃c,bs.reverse[j]? = some c:=by
    cases e:bs.reverse[j]? with
    | none=>rw[e] at hx;cases hx
    | some c=>exact⟨c,rfl⟩
   rw[hcx] at hx
   cases hx
   obtain⟨hc,hdr⟩:=zI hcx
   have hv0:=f8 (fun y hy=>hbit y (List.mem_of_mem_drop (i:=bs.length-j) hy))
   have cb:=hbit c hc
   bv_omega
   refine⟨pf,pf,_,_,d,n,rfl,SqT.of ef,SqT.of ef,⟨Sm.rp hn hn2 _,Sm.rp hn hn2 _,hd,hn,hn2⟩,fun r1 hr1=>?_⟩
   bv_omega
   refine dY (fun h1=>?_) (fun h1=>?_)
   ·subst h1
    have hp':=(TK.new (o:=.tup (pzV (MM.rp n (pm d (MM.rp n (pw d A (fE (bs.drop (bs.length-j))).toNat)) (MM.rp n (pw d A (fE (bs.drop (bs.length-j))).toNat)))))) hr1).sq (sm.tk.sq hp)
    refine⟨r1,p,_,A,d,n,rfl,SqT.of aE,hp',⟨Sm.rp hn hn2 _,sa,hd,hn,hn2⟩,fun r2 hr2=>?_⟩
    refine(hW _ _ _).mpr ⟨fun b o e=>keep (keep (sm _ _ e) hr1) hr2,fun b o e=>keep (keep (sm2 _ _ e) hr1) hr2,r2,_,rfl,?_⟩
    rw[aE,hdr,<- aCc hv0]
   ·have c0:c=0:=by omega
    subst c0
    refine(hW _ _ _).mpr ⟨fun b o e=>keep (sm _ _ e) hr1,fun b o e=>keep (sm2 _ _ e) hr1,r1,_,rfl,?_⟩
    rw[aE,hdr,<- aCd hv0]
  ·intro σ H' hw
   obtain⟨sm,sm2,pf,v,rfl,ef⟩:=(hW _ _ _).mp hw
   bv_omega
   have e:bs.length-(bs.reverse.map V.int).length=0:=by rw[List.length_map,List.length_reverse];omega
   rw[e,List.drop_zero,hv] at ef
   exact k _ _ sm ef
noncomputable abbrev O_q6 (P:Program) (w:World) (K:PySem.W.Frag) (mg:Str->Option Value) (base:Heap):Prop:=∃f fd,Df_q6 K mg f fd/\FnOk P w K mg base CX0 2 f fd ["_law_pair","_law_often","_law_d","_law_n"] (spPP K)
noncomputable def FLt (K:PySem.W.Frag) (a:Addr) (g:TG) (tb:TS) (D:Ends) (σ:St) (H:Hp):Prop:=kL (fun _ H R=>R (Itt K a) H) g tb D σ H
theorem qB {te:TE} {g:TG} {tb:TS} {D:Ends} {σ:St} {H:Hp} (h:∀Z:Addr->Hp->Prop,(∀a H1,Z a H1=FLt K a g tb D σ H1)->te σ H fun x H1=>∃a,x=.ref a/\(∃xs,SqT K H1 a xs)/\Z a H1):kL (aFe K te) g tb D σ H:=h _ fun _ _=>rfl
theorem u8 {a:Addr} {xs:List V} {g:TG} {tb:TS} {D:Ends} {σ:St} {H:Hp} (Pv:Nat->St->Hp->Prop) (h0:Pv 0 σ H) (hl:∀i σ H,i<=xs.length->Pv i σ H->SqT K H a xs)
  (hs:∀i x σ H,xs[i]? = some x->Pv i σ H->g x σ H fun σ2 H2=>tb { D with nx:=Pv (i+1),ct:=Pv (i+1),bk:=D.nx } σ2 H2) (hd:∀ σ H,Pv xs.length σ H->D.nx σ H):FLt K a g tb D σ H:=fX Pv h0 hl hs hd
noncomputable def spLS (K:PySem.W.Frag):Sp:=fun vs H Q _=>∃(n:Int) (ds:List Dt) (u:V),vs=[.int n,u]/\(Rep K H (.tup (.str (Str.ofString "share")::ds)) u/\okD (.tup (.str (Str.ofString "share")::ds))=true/\bY (.tup (.str (Str.ofString "share")::ds))<=1000000/\1<=n/\n<=10^30)/\(dB n (.str (Str.ofString "share")::ds)->∀H',Same H H'->Q (.bl true) H')/\(¬ dB n (.str (Str.ofString "share")::ds)->∀H',Same H H'->Q (.bl false) H')
noncomputable abbrev s_q4:Stmt:=top 65
theorem sc_q4:FnScope ["_law_n","_law_thing","_law_m","_law_row"] ["_law_n","_law_thing"] (aJ s_q4):=⟨rfl,rfl,rfl,by decide +kernel,rfl,by decide +kernel,by decide +kernel⟩
noncomputable abbrev Df_q4 (K:PySem.W.Frag) (mg:Str->Option Value) (f:Addr) (fd:FuncData):Prop:=Def K mg "_law_share_holds" s_q4 ["_law_n","_law_thing"] f fd
theorem ok_q4 (D:Df_q4 K mg f fd) (T:Txt K mg t1 cl) (o1:O_q28 P w K mg base) (o2:O_q11 P w K mg base) (o3:O_q15 P w K mg base) (o4:O_q33 P w K mg base) (o5:O_q19 P w K mg base):FnOk P w K mg base CX0 3 f fd ["_law_n","_law_thing"] (spLS K):=by
 obtain⟨_,_,D_q28,G_q28⟩:=o1
 obtain⟨_,_,D_q11,G_q11⟩:=o2
 obtain⟨_,_,D_q15,G_q15⟩:=o3
 obtain⟨_,_,D_q33,G_q33⟩:=o4
 obtain⟨_,_,D_q19,G_q19⟩:=o5
 refine D.fn.ok sc_q4 (fun vs H Q E h=>?_) (fun cdv A outer s H vs Q E hr h=>?_)
 ·obtain⟨n,ds,u,rfl,_⟩:=h
  rfl
 ·obtain⟨n,ds,u,rfl,⟨R0,ok,lb,n1,n30⟩,k1,k2⟩:=h
  have no:(∀b rD rows,¬ H3 n (Str.ofString "share") ds b rD rows)->¬ dB n (.str (Str.ofString "share")::ds):=fun h g=>by
   obtain⟨b,rD,rows,F⟩:=(lQ (.inr rfl)).mp g
   exact h b rD rows F
  refine⟨_,(aD (bF (PW.pt (bS (aL gK (pv 0) aB (nomark _)) (bS (aL cC (aH bI (pv 0) aB) aB (nomark _)) (bS (aL cV (aQ bB (by rfl) T.no_len PySem.boot_len (aA (pv 1) aF)) aB (nomark _)) (bS (bH (bL (aK (G_q28.mono (by omega)) hr rfl D_q28.mgx D_q28.fn.kp D_q28.bd .nil aR (aA (aV (aZ (K:=K) rfl) (pv 1) aB (fun _ _=>rfl)) aF)))) (cB (bH (iY hU gK aB (aV (aZ (K:=K) rfl) (pv 1) aB (fun _ _=>rfl)) (pv 0))))))))) (aG (aN bR)) aT) (aD (bF (bH (bL (aK (G_q11.mono (by omega)) hr rfl D_q11.mgx D_q11.fn.kp D_q11.bd .nil aR (aA (aV (aZ (K:=K) rfl) (pv 1) aB (fun _ _=>rfl)) aF)))) (aG (aN bR)) aT) (aD (aU (i:=2) sc_q4.nd rfl (by subst_eqs) (aK (G_q15.mono (by omega)) hr rfl D_q15.mgx D_q15.fn.kp D_q15.bd .nil aR (aA (aV (aZ (K:=K) rfl) (pv 1) aB (fun _ _=>rfl)) (aA (pv 0) aF)))) (aD (bF (PW.pt (bS (aL hU (aH aY (pv 2) (pv 2)) (pv 0) (nomark _)) (bS (aL aAf (pv 2) (pv 0) (nomark _)) (bS (aL cV (aH bI (aH bE (pv 0) aB) (pv 2)) aB (nomark _)) (cB (aL cV (aK (G_q33.mono (by omega)) hr rfl D_q33.mgx D_q33.fn.kp D_q33.bd .nil aR (aA (aV (aZ (K:=K) rfl) (pv 1) aB (fun _ _=>rfl)) (aA (aH bE (pv 0) aB) (aA (pv 0) aF)))) aB (nomark _))))))) (aG (aN bR)) aT) (aD (dN PassesOwn.never rfl (eE (aV (aZ (K:=K) rfl) (pv 1) aB (fun _ _=>rfl))) (aX (i:=3) sc_q4.nd rfl (by subst_eqs)) (aG (bF (aL cV (aK (G_q19.mono (by omega)) hr rfl D_q19.mgx D_q19.fn.kp D_q19.bd .nil aR (aA (aH bE (aK (G_q33.mono (by omega)) hr rfl D_q33.mgx D_q33.fn.kp D_q33.bd .nil aR (aA (aV (aZ (K:=K) rfl) (pv 1) aB (fun _ _=>rfl)) (aA (aH cQ (aH bE (pv 0) aB) (aV (aZ (K:=K) rfl) (pv 3) aB (fun _ _=>rfl))) (aA (pv 0) aF)))) aB) (aA (pv 0) aF))) aB (nomark _)) (aG (aN bR)) aT))) (aG (aN bR))))))),?_⟩
  have e0:L2.start ["_law_n","_law_thing","_law_m","_law_row"] [.int n,u]=[some (.int n),some (u),none,none]:=rfl
  rw[e0];clear e0
  refine aM fun R1 sq1=>?_
  bv_omega
  obtain⟨a,xs,rfl,ha,x0,xs,rfl,Rz,RL⟩:=id R0
  have xl:=RL.length
  refine dY (fun h=>k2 (no fun b rD rows F=>by have:=F.n3;omega) _ (Same.refl H)) (fun n3=>?_)
  refine⟨by decide,?_⟩
  refine dY (fun h=>k2 (no fun b rD rows F=>F.odd ws_ne4.symm h) _ (Same.refl H)) (fun od=>?_)
  refine⟨a,rfl,_,.inr ha,?_⟩
  by_cases h3:ds.length=2
  case neg =>
   rw[if_pos (by rw[List.length_cons,<- xl];omega)]
   exact k2 (no fun b rD rows F=>h3 (by rw[F.eq];rfl)) _ (Same.refl H)
  rw[if_neg (by rw[List.length_cons,<- xl];omega)]
  obtain⟨d1,d2,rfl⟩:=aE5 h3
  obtain⟨x1,_,rfl,Rb,x2,_,rfl,R2,rfl⟩:=RL
  refine⟨a,_,_,_,rfl,rfl,ha,rfl,x1,_,rfl,cF Rb,_,rfl,?_⟩
  by_cases hb1:kP x1=true
  case neg =>
   rw[if_pos (by simpa using hb1)]
   refine k2 (no fun b rD rows F=>?_) _ (Same.refl H)
   cases F.eq
   cases (show x1=V.int b from Rb)
   exact hb1 rfl
  rw[hb1,if_neg (by decide)]
  obtain⟨b,rfl,rfl⟩:=gG Rb hb1
  refine⟨a,_,_,_,rfl,rfl,ha,rfl,_,rfl,?_⟩
  by_cases hl1:1<=b
  case neg =>
   rw[if_neg hl1]
   refine k2 (no fun b' rD rows F=>?_) _ (Same.refl H)
   cases F.eq
   exact hl1 F.b1
  rw[if_pos hl1]
  refine⟨_,rfl,?_⟩
  by_cases hl2:b<n
  case neg =>
   rw[if_pos hl2]
   refine k2 (no fun b' rD rows F=>?_) _ (Same.refl H)
   cases F.eq
   have:=F.bn
   omega
  rw[if_neg (fun h=>h hl2)]
  have lb2:bY d2<=1000000:=by
   have e:bY (.tup [.str (Str.ofString "share"),.int b,d2])=bY (.str (Str.ofString "share"))+2+(bY (.int b)+2+(bY d2+2+0))+3:=rfl
   omega
  subst sq1
  refine aM fun R1 sq1=>?_
  bv_omega
  refine⟨a,_,_,_,rfl,rfl,ha,rfl,d2,x2,rfl,R2,lb2,fun rows rp H1 S1=>?_,fun hno H1 S1=>?_⟩
  case refine_2 =>
   refine⟨_,rfl,?_⟩
   rw[if_pos rfl]
   refine k2 (no fun b' rD rows F=>?_) _ S1
   cases F.eq
   exact hno rows ⟨F.rp.eq,F.rp.ne,F.rp.up⟩
  refine⟨_,rfl,?_⟩
  rw[if_neg (by decide)]
  have uniq:∀ {b' rD rows'},H3 n (Str.ofString "share") [.int b,d2] b' rD rows'->b'=b/\rows'=rows:=fun {b' rD rows'} F=>by
   have e:=F.eq
   cases e
   exact⟨rfl,cI (Dt.tup.inj (F.rp.eq.symm.trans rp.eq))⟩
  have ok2:okD d2=true:=bU ok d2 (by simp)
  have e2:=rp.eq
  subst e2
  obtain⟨c,ys,rfl,hc,RY⟩:=id R2
  have yl:ys.length=rows.length:=by rw[<- RY.length,List.length_map]
  have ha1:=S1.tk.sq ha
  subst sq1
  refine aM fun R1 sq1=>?_
  bv_omega
  refine⟨a,_,_,_,rfl,rfl,ha1,rfl,?_⟩
  refine⟨rows,c,n,rfl,Rep.same S1 _ R2,⟨rp.up,ok2,n1,by omega⟩,?_⟩
  obtain⟨m,hm⟩:∃m:Int,(if prd rows<=n then prd rows else n+1)=m:=⟨_,rfl⟩
  have P1:=cO (by decide) rp.up
  have m1:1<=m/\m<=n+1:=by rw[<- hm];split <;> omega
  rw[hm]
  subst sq1
  refine aM fun R1 sq1=>?_
  bv_omega
  refine⟨.inr ⟨by omega,by omega⟩,?_⟩
  by_cases hbig:m*m<=n
  case pos =>
   rw[if_pos hbig]
   refine k2 (no fun b' rD rows' F=>?_) _ S1
   obtain⟨rfl,rfl⟩:=uniq F
   have:=F.rp.le
   rw[if_pos (by omega)] at hm
   subst hm
   have:=F.big rfl
   omega
  rw[if_neg hbig]
  by_cases hmn:n<=m
  case pos =>
   rw[if_pos hmn]
   refine k2 (no fun b' rD rows' F=>?_) _ S1
   obtain⟨rfl,rfl⟩:=uniq F
   have:=F.rp.le
   rw[if_pos (by omega)] at hm
   omega
  rw[if_neg hmn]
  have hpm:prd rows=m:=by
   by_cases h:prd rows<=n
   ·rw[if_pos h] at hm;exact hm
   ·rw[if_neg h] at hm;omega
  refine⟨by omega,?_⟩
  by_cases dv:(n-1)%m=0
  case neg =>
   rw[if_pos (by simpa using dv)]
   refine k2 (no fun b' rD rows' F=>?_) _ S1
   obtain⟨rfl,rfl⟩:=uniq F
   exact dv (by rw[<- hpm];exact F.dv)
  rw[if_neg (fun z=>z dv)]
  have RP:RowsP (.tup (rows.map rwD)) (n-1) rows:=⟨rfl,rp.ne,rp.up,by omega⟩
  have rl:=gR RP (by omega)
  refine⟨a,_,_,_,rfl,rfl,ha1,rfl,b,n-1,n,rfl,⟨by omega,by omega,by omega,by omega,by omega⟩,fun H2 S2=>⟨rfl,?_⟩⟩
  have S12:=S1.trans S2
  by_cases hm1:b^(n-1).toNat%n=1
  case neg =>
   rw[if_pos (fun h=>hm1 (V.int.inj h))]
   refine k2 (no fun b' rD rows' F=>?_) _ S12
   obtain⟨rfl,rfl⟩:=uniq F
   exact hm1 F.go.1
  rw[if_neg (by rw[hm1];exact fun h=>h rfl)]
  subst sq1
  have ha2:=S12.tk.sq ha
  have hc2:=S12.tk.sq hc
  have RY2:=RepL.same S12 _ RY
  refine aM fun R1 sq1=>?_
  dsimp only[eO]
  refine qB (K:=K) fun Z hZ=>?_
  bv_omega
  refine⟨a,_,_,_,rfl,rfl,ha2,rfl,c,rfl,⟨ys,hc2⟩,?_⟩
  rw[hZ]
  obtain⟨Pv,hPv⟩:∃Pv:Nat->St->Hp->Prop,∀i σ H3,Pv i σ H3↔(∃v3,σ=[some (.int n),some (.ref a),some (.int m),v3])/\Same H2 H3/\∀r∈rows.take i,Int.gcd (b^((n-1)/r.1).toNat%n-1) n=1:=⟨_,fun _ _ _=>Iff.rfl⟩
  refine u8 (xs:=ys) Pv ((hPv _ _ _).mpr ⟨⟨none,rfl⟩,Same.refl _,fun r hr=>by cases hr⟩) (fun i σ H3 _ hP=>((hPv _ _ _).mp hP).2.1.tk.sq hc2) ?_ ?_
  ·intro i x σ H3 hx hP
   obtain⟨⟨v3,rfl⟩,S3,all⟩:=(hPv _ _ _).mp hP
   obtain⟨r,hr,Rr⟩:=rw_get (RepL.same S3 _ RY2) hx
   have rm:=List.mem_of_getElem? hr
   have r2:=cE rp.up r rm
   have tk:rows.take (i+1)=rows.take i++[r]:=by rw[List.take_succ,hr];rfl
   have q100:=RP.often (by omega) r rm
   obtain⟨c2,zs,rfl,hc3,_,_,rfl,rfl,_,_,rfl,rfl,z2,_,rfl,R8,rfl⟩:=Rr
   have dv0:0<=(n-1)/r.1:=Int.ediv_nonneg (by omega) (by omega)
   have dv1:(n-1)/r.1<=n-1:=Int.ediv_le_self _ (by omega)
   bv_omega
   refine⟨a,_,_,_,rfl,rfl,S3.tk.sq ha2,rfl,c2,_,_,_,rfl,rfl,hc3,rfl,_,rfl,⟨by omega,by omega⟩,b,(n-1)/r.1,n,rfl,⟨by omega,dv0,by omega,by omega,by omega⟩,fun H4 S4=>?_⟩
   have e0:=Int.emod_nonneg (b^((n-1)/r.1).toNat) (show n≠0 by omega)
   have e1:=Int.emod_lt_of_pos (b^((n-1)/r.1).toNat) (show 0<n by omega)
   refine⟨_,rfl,_,_,rfl,⟨by omega,by omega⟩,rfl,?_⟩
   by_cases hg:Int.gcd (b^((n-1)/r.1).toNat%n-1) n=1
   ·rw[if_neg (by rw[hg];exact fun h=>h rfl)]
    refine(hPv _ _ _).mpr ⟨⟨_,rfl⟩,S3.trans S4,?_⟩
    rw[tk]
    intro r' hr'
    rcases List.mem_append.mp hr' with h' | h'
    ·exact all r' h'
    ·rw[List.mem_singleton.mp h'];exact hg
   ·rw[if_pos (fun h=>hg (by have:=V.int.inj h;omega))]
    refine k2 (no fun b' rD rows' F=>?_) _ (S12.trans (S3.trans S4))
    obtain⟨rfl,rfl⟩:=uniq F
    rcases F.go.2 with g | g
    ·exact ws_ne4 g.1.symm
    ·exact hg (g.2 r rm)
  ·intro σ H3 hP
   obtain⟨⟨v3,rfl⟩,S3,all⟩:=(hPv _ _ _).mp hP
   rw[yl,List.take_length] at all
   subst sq1
   bv_omega
   refine k1 ((lQ (.inr rfl)).mpr ⟨b,_,rows,rfl,RP,hl1,by omega,by rw[hpm];exact dv,fun h=>absurd rfl h,fun _=>od,fun _=>by rw[hpm];omega,hm1,.inr ⟨ws_ne4.symm,all⟩⟩) _ (S12.trans S3)
noncomputable abbrev O_q4 (P:Program) (w:World) (K:PySem.W.Frag) (mg:Str->Option Value) (base:Heap):Prop:=∃f fd,Df_q4 K mg f fd/\FnOk P w K mg base CX0 3 f fd ["_law_n","_law_thing"] ((spLS K))
noncomputable def spHome (K:PySem.W.Frag):Sp:=fun vs H Q _=>∃(n d:Int) (A:PZ) (rows:List Row) (p a:Addr),vs=[.int n,.int d,.ref p,.ref a]/\(SqT K H p (pzV A)/\Rep K H (.tup (rows.map rwD)) (.ref a))/\(3<=n/\n<10^30/\1<=d/\d<=n-1/\kI n A/\∀r∈rows,2<=r.1/\r.1<=10^31)/\(uC n d A rows->∀H',Same H H'->Q (.bl true) H')/\(¬ uC n d A rows->∀H',Same H H'->Q (.bl false) H')
noncomputable abbrev s_q40:Stmt:=top 66
theorem sc_q40:FnScope ["_law_n","_law_d","_law_pair","_law_rows","_law_row","_law_x","_law_y"] ["_law_n","_law_d","_law_pair","_law_rows"] (aJ s_q40):=⟨rfl,rfl,rfl,by decide +kernel,rfl,by decide +kernel,by decide +kernel⟩
noncomputable abbrev Df_q40 (K:PySem.W.Frag) (mg:Str->Option Value) (f:Addr) (fd:FuncData):Prop:=Def K mg "_law_home" s_q40 ["_law_n","_law_d","_law_pair","_law_rows"] f fd
theorem ok_q40 (D:Df_q40 K mg f fd) (T:Txt K mg t1 cl) (o1:O_q6 P w K mg base) (o2:O_q19 P w K mg base):FnOk P w K mg base CX0 3 f fd ["_law_n","_law_d","_law_pair","_law_rows"] (spHome K):=by
 obtain⟨_,_,D_q6,G_q6⟩:=o1
 obtain⟨_,_,D_q19,G_q19⟩:=o2
 refine D.fn.ok sc_q40 (fun vs H Q E h=>?_) (fun cdv A outer s H vs Q E hr h=>?_)
 ·obtain⟨n,d,A,rows,p,a,rfl,_⟩:=h
  rfl
 ·obtain⟨n,d,A,rows,pp,a,rfl,⟨hpp,R0⟩,⟨n3,n30,d1,dn,⟨a0,a1,c0,c1⟩,rb⟩,k1,k2⟩:=h
  refine⟨_,(aD (bF (aL (aEz (fZ hr)) (aK (G_q6.mono (by omega)) hr rfl D_q6.mgx D_q6.fn.kp D_q6.bd .nil aR (aA (pv 2) (aA (aH bQ (pv 0) aB) (aA (pv 1) (aA (pv 0) aF))))) (bV (aA aB (aA aB aF))) (nomark _)) (aG (aN bR)) aT) (aD (dN PassesOwn.never rfl (eE (pv 3)) (aX (i:=4) sc_q40.nd rfl (by subst_eqs)) (aD (d9 (aK (G_q6.mono (by omega)) hr rfl D_q6.mgx D_q6.fn.kp D_q6.bd .nil aR (aA (pv 2) (aA (aH cQ (aH bQ (pv 0) aB) (aV (aZ (K:=K) rfl) (pv 4) aB (fun _ _=>rfl))) (aA (pv 1) (aA (pv 0) aF))))) (dU rfl (bC (aX (i:=5) sc_q40.nd rfl (by subst_eqs)) (bC (aX (i:=6) sc_q40.nd rfl (by subst_eqs)) cX)))) (aG (bF (aL cV (aK (G_q19.mono (by omega)) hr rfl D_q19.mgx D_q19.fn.kp D_q19.bd .nil aR (aA (aH bE (aH aY (aH bE (pv 5) aB) (aH bE (pv 5) aB)) (aH aY (aH aY (pv 1) (pv 6)) (pv 6))) (aA (pv 0) aF))) aB (nomark _)) (aG (aN bR)) aT)))) (aG (aN bR)))),?_⟩
  have e0:L2.start ["_law_n","_law_d","_law_pair","_law_rows","_law_row","_law_x","_law_y"] [.int n,.int d,.ref pp,.ref a]=[some (.int n),some (.int d),some (.ref pp),some (.ref a),none,none,none]:=rfl
  rw[e0];clear e0
  refine aM fun R1 sq1=>?_
  bv_omega
  obtain⟨_,ys,e,hc,RR⟩:=R0
  cases e
  have xl:ys.length=rows.length:=by rw[<- RR.length,List.length_map]
  have sm:Sm A:=⟨by omega,by omega⟩
  refine⟨pp,A,n+1,d,n,rfl,hpp,⟨sm,by omega,by omega,by omega,by omega,by omega⟩,fun r H1 S1 hr1=>⟨by show 2<=sizeLine;decide,fun q hq=>?_⟩⟩
  have S2:Same H (upd H1 q (.tup [V.int 1,V.int 0])):=fun b o e=>aW (S1 _ _ e) hq
  by_cases hm:MM.rp n (pw d A (n+1).toNat)=(1,0)
  case neg =>
   refine⟨_,_,dA (x:=(MM.rp n (pw d A (n+1).toNat)).1) (y:=(MM.rp n (pw d A (n+1).toNat)).2) (aW hr1 hq),dA (x:=1) (y:=0) aE,aF8 _ _,⟨rfl,rfl⟩,_,rfl,?_⟩
   rw[aDx (fun e1 e2=>hm (Prod.ext e1 e2)),if_pos (by decide)]
   exact k2 (fun h=>hm h.1) _ S2
  rw[hm] at hr1
  refine⟨_,_,dA (x:=1) (y:=0) (aW hr1 hq),dA (x:=1) (y:=0) aE,by decide,⟨rfl,rfl⟩,_,rfl,?_⟩
  rw[eqDL_self,if_neg (by decide)]
  generalize upd H1 q (.tup [V.int 1,V.int 0])=H2 at S2 ⊢
  have hc2:=S2.tk.sq hc
  subst sq1
  refine aM fun R1 sq1=>?_
  dsimp only[eO]
  refine qB (K:=K) fun Z hZ=>?_
  bv_omega
  refine⟨⟨ys,hc2⟩,?_⟩
  rw[hZ]
  obtain⟨Pf,hPf⟩:∃Pf:Nat->St->Hp->Prop,∀j σ H3,Pf j σ H3↔(Same H2 H3/\∀r∈rows.take j,uY n d A r)/\∃v1 v2 v3,σ=[some (.int n),some (.int d),some (.ref pp),some (.ref a),v1,v2,v3]:=⟨_,fun _ _ _=>Iff.rfl⟩
  refine u8 (xs:=ys) Pf ((hPf _ _ _).mpr ⟨⟨Same.refl _,fun r hr=>by cases hr⟩,none,none,none,rfl⟩) (fun _ _ _ _ h=>((hPf _ _ _).mp h).1.1.tk.sq hc2) ?_ ?_
  ·intro j x σ H3 hx h
   obtain⟨⟨S3,of⟩,v1,v2,v3,rfl⟩:=(hPf _ _ _).mp h
   have S03:=S2.trans S3
   obtain⟨r,hr2,Rr⟩:=rw_get (RepL.same S03 _ RR) hx
   have rm:=List.mem_of_getElem? hr2
   have r2:=rb r rm
   obtain⟨c2,zs,rfl,hcc,_,_,rfl,rfl,_,_,rfl,rfl,z2,_,rfl,R9,rfl⟩:=Rr
   have tk:rows.take (j+1)=rows.take j++[r]:=by rw[List.take_succ,hr2];rfl
   bv_omega
   refine⟨c2,_,_,_,rfl,rfl,hcc,rfl,_,rfl,⟨by omega,by omega⟩,pp,A,(n+1)/r.1,d,n,rfl,S03.tk.sq hpp,⟨sm,Int.ediv_nonneg (by omega) (by omega),?_,by omega,by omega,by omega⟩,fun q H4 S4 hq4=>?_⟩
   ·have:=Int.ediv_le_self r.1 (show 0<=n+1 by omega)
    omega
   have rs:=Rst.of (show 0<n by omega) (pw d A ((n+1)/r.1).toNat)
   have eo:uY n d A r↔Int.gcd (((MM.rp n (pw d A ((n+1)/r.1).toNat)).1-1)*((MM.rp n (pw d A ((n+1)/r.1).toNat)).1-1)-d*(MM.rp n (pw d A ((n+1)/r.1).toNat)).2*(MM.rp n (pw d A ((n+1)/r.1).toNat)).2) n=1:=Iff.rfl
   generalize MM.rp n (pw d A ((n+1)/r.1).toNat)=B at eo hq4 rs
   have q0:=rs.a0;have q1:=rs.a1;have q2:=rs.b0;have q3:=rs.b1
   have sB:Sm B:=fP rs (by omega)
   refine⟨q,rfl,_,SqT.of hq4,rfl,_,_,rfl,_,_,rfl,rfl,?_⟩
   bv_omega
   have hdd:d.natAbs<10^31:=by omega
   have s1:(B.1-1).natAbs<10^31:=by omega
   refine⟨.inr ⟨bG s1,bG s1⟩,.inr ⟨bG hdd,bG sB.b⟩,.inr ⟨j5 hdd sB.b (by decide),bG sB.b⟩,_,n,rfl,⟨?_,by omega⟩,rfl,?_⟩
   ·have e1:((B.1-1)*(B.1-1)).natAbs<10^62:=by
     rw[Int.natAbs_mul]
     exact Nat.lt_of_lt_of_le (Nat.mul_lt_mul'' s1 s1) (by decide)
    have e2:(d*B.2*B.2).natAbs<10^93:=by
     rw[Int.natAbs_mul,Int.natAbs_mul]
     exact Nat.lt_of_lt_of_le (Nat.mul_lt_mul'' (Nat.mul_lt_mul'' hdd sB.b) sB.b) (by decide)
    omega
   by_cases hz:Int.gcd ((B.1-1)*(B.1-1)-d*B.2*B.2) n=1
   ·rw[hz,if_neg (fun z=>z rfl)]
    refine(hPf _ _ _).mpr ⟨⟨S3.trans S4,?_⟩,_,_,_,rfl⟩
    rw[tk]
    intro r' hr'
    rcases List.mem_append.mp hr' with h | h
    ·exact of r' h
    ·rw[List.mem_singleton.mp h];exact eo.mpr hz
   ·rw[if_pos (fun z=>hz (by have:=V.int.inj z;omega))]
    exact k2 (fun h=>hz (eo.mp (h.2 r rm))) _ (S03.trans S4)
  ·intro σ H3 h
   obtain⟨⟨S3,of⟩,v1,v2,v3,rfl⟩:=(hPf _ _ _).mp h
   subst sq1
   bv_omega
   rw[xl,List.take_length] at of
   exact k1 ⟨hm,of⟩ _ (S2.trans S3)
noncomputable abbrev O_q40 (P:Program) (w:World) (K:PySem.W.Frag) (mg:Str->Option Value) (base:Heap):Prop:=∃f fd,Df_q40 K mg f fd/\FnOk P w K mg base CX0 3 f fd ["_law_n","_law_d","_law_pair","_law_rows"] ((spHome K))
noncomputable abbrev OB_q28 (P:Program) (w:World) (K:PySem.W.Frag) (mg:Str->Option Value):Prop:=∃f fd,Df_q28 K mg f fd/\∀b,FnOk P w K mg b CX0 1 f fd ["_law_thing"] (spWhole K)
noncomputable def spLO (K:PySem.W.Frag):Sp:=fun vs H Q _=>∃(n:Int) (ds:List Dt) (u:V),vs=[.int n,u]/\(Rep K H (.tup (.str (Str.ofString "other")::ds)) u/\okD (.tup (.str (Str.ofString "other")::ds))=true/\bY (.tup (.str (Str.ofString "other")::ds))<=1000000/\1<=n/\n<=10^30)/\(dB n (.str (Str.ofString "other")::ds)->∀H',Same H H'->Q (.bl true) H')/\(¬ dB n (.str (Str.ofString "other")::ds)->∀H',Same H H'->Q (.bl false) H')
noncomputable def nwD:Dt->Bool
 | .int _=>false
 | _=>true
theorem aEc {H:Hp} {d:Dt} {x:V} (R:Rep K H d x):kP x = !nwD d:=by
 cases d with
 | int i=>cases (show x=V.int i from R);rfl
 | non=>cases (show x=V.non from R);rfl
 | bl b=>cases (show x=V.bl b from R);rfl
 | str z=>cases (show x=V.str z from R);rfl
 | tup ds=>obtain⟨a,xs,rfl,_⟩:=R;rfl
 | lst ds=>obtain⟨a,xs,rfl,_⟩:=R;rfl
 | emp=>obtain⟨a,rfl,_⟩:=R;rfl
theorem vX {d:Dt} (h:nwD d=false):∃i,d=.int i:=by
 cases d <;> first | exact⟨_,rfl⟩ | cases h
theorem aEd {H:Hp}:∀ns:List Int,RepL K H (ns.map Dt.int) (ns.map V.int)
 | []=>rfl
 | n::ns=>⟨_,_,rfl,rfl,aEd ns⟩
noncomputable def noR (n:Int) (i:Int):Bool := !decide (0<=i/\i<n)
theorem tJ {n x:Int} (h:2<=n):(x-1)%n=0↔x%n=1:=by
 have e:(1:Int)%n=1:=Int.emod_eq_of_lt (by decide) (by omega)
 constructor
 ·intro h'
  have:=Int.emod_emod_of_dvd x (Int.dvd_refl n)
  have q:=(Int.emod_eq_emod_iff_emod_sub_eq_zero (m:=x) (n:=n) (k:=1)).mpr h'
  rw[q,e]
 ·intro h'
  exact(Int.emod_eq_emod_iff_emod_sub_eq_zero (m:=x) (n:=n) (k:=1)).mp (by rw[h',e])
noncomputable abbrev s_q3:Stmt:=top 67
theorem sc_q3:FnScope ["_law_n","_law_thing","_law_d","_law_pair"] ["_law_n","_law_thing"] (aJ s_q3):=⟨rfl,rfl,rfl,by decide +kernel,rfl,by decide +kernel,by decide +kernel⟩
noncomputable abbrev Df_q3 (K:PySem.W.Frag) (mg:Str->Option Value) (f:Addr) (fd:FuncData):Prop:=Def K mg "_law_other_holds" s_q3 ["_law_n","_law_thing"] f fd
theorem ok_q3 (D:Df_q3 K mg f fd) (T:Txt K mg t1 cl) (o1:OB_q28 P w K mg) (o2:O_q11 P w K mg base) (o3:O_q15 P w K mg base) (o4:O_q19 P w K mg base) (o5:O_q40 P w K mg base):FnOk P w K mg base CX0 4 f fd ["_law_n","_law_thing"] (spLO K):=by
  obtain⟨_,_,D_q28,B_q28⟩:=o1
  have G_q28:=B_q28 base
  obtain⟨_,_,D_q11,G_q11⟩:=o2
  obtain⟨_,_,D_q15,G_q15⟩:=o3
  obtain⟨_,_,D_q19,G_q19⟩:=o4
  obtain⟨_,_,D_q40,G_q40⟩:=o5
  refine D.fn.ok sc_q3 (fun vs H Q E h=>?_) (fun cdv A outer s H vs Q E hr h=>?_)
  · obtain⟨n,ds,u,rfl,_⟩:=h
    rfl
  · obtain⟨n,ds,u,rfl,⟨R0,ok,lb,n1,n30⟩,k1,k2⟩:=h
    have no:(∀d A rD rows,¬ H4 n ds d A rD rows)->¬ dB n (.str (Str.ofString "other")::ds):=fun h g=>by
      obtain⟨d,A,rD,rows,F⟩:=show4.mp g
      exact h d A rD rows F
    refine⟨_,(aD (bF (PW.pt (bS (aL gK (pv 0) aB (nomark _)) (bS (aL cC (aH bI (pv 0) aB) aB (nomark _)) (bS (aL cV (aQ bB (by rfl) T.no_len PySem.boot_len (aA (pv 1) aF)) aB (nomark _)) (bS (bH (bL (aK (G_q28.mono (by omega)) hr rfl D_q28.mgx D_q28.fn.kp D_q28.bd .nil aR (aA (aV (aZ (K:=K) rfl) (pv 1) aB (fun _ _=>rfl)) aF)))) (cB (bH (iY hU gK aB (aV (aZ (K:=K) rfl) (pv 1) aB (fun _ _=>rfl)) (pv 0))))))))) (aG (aN bR)) aT) (aD (iD (i:=2) (j:=3) rfl sc_q3.nd rfl rfl (by decide) rfl rfl (aA (aV (aZ (K:=K) rfl) (pv 1) aB (fun _ _=>rfl)) (aA (aV (aZ (K:=K) rfl) (pv 1) aB (fun _ _=>rfl)) aF)) (by first | rfl | with_unfolding_all rfl)) (aD (bF (PW.pt (bS (bH (bL (aQ bJ (by rfl) T.no_isinstance PyProof.Rows.boot_isinstance (aA (pv 3) (aA (b9 (v:=.ty "tuple") rfl T.no_tuple PyProof.Rows.boot_tuple rfl) aF))))) (bS (aL cV (aQ bB (by rfl) T.no_len PySem.boot_len (aA (pv 3) aF)) aB (nomark _)) (cB (aL (uV (fZ hr)) (eV (N:=["_law_one"]) (js:=[none]) (by rfl) rfl (fun _=>rfl) (eE (pv 3)) (by intro b _ _ _ _;exact(aX (i:=0) (show List.Nodup (["_law_one"]:List Str) by decide) rfl (by subst_eqs))) (by intro b _ _ _ _;exact i6 (bH (bL (aK ((B_q28 b).mono (by omega)) hr rfl D_q28.mgx D_q28.fn.kp D_q28.bd .nil aR (aA (pv 0) aF))))) (by intro b _ _ _ _;exact(pv 0))) (cY aF) (nomark _)))))) (aG (aN bR)) aT) (aD (bF (PW.pt (bS (aL (uV (fZ hr)) (eV (N:=["_law_one","_law_n"]) (js:=[none,some 0]) (by rfl) rfl (fun _=>rfl) (eE (pv 3)) (by intro b _ _ _ _;exact(aX (i:=0) (show List.Nodup (["_law_one","_law_n"]:List Str) by decide) rfl (by subst_eqs))) (by intro b _ _ _ _;exact i6 (bH (iY hU gK aB (pv 0) (pv 1)))) (by intro b _ _ _ _;exact(pv 0))) (cY aF) (nomark _)) (cB (aL cV (aK (G_q19.mono (by omega)) hr rfl D_q19.mgx D_q19.fn.kp D_q19.bd .nil aR (aA (pv 2) (aA (pv 0) aF))) aB (nomark _))))) (aG (aN bR)) aT) (aD (bF (PW.pt (bS (aL cV (aH bI (aH bE (aH bE (aH aY (aV (aZ (K:=K) rfl) (pv 3) aB (fun _ _=>rfl)) (aV (aZ (K:=K) rfl) (pv 3) aB (fun _ _=>rfl))) (aH aY (aH aY (pv 2) (aV (aZ (K:=K) rfl) (pv 3) aB (fun _ _=>rfl))) (aV (aZ (K:=K) rfl) (pv 3) aB (fun _ _=>rfl)))) aB) (pv 0)) aB (nomark _)) (cB (bH (bL (aK (G_q11.mono (by omega)) hr rfl D_q11.mgx D_q11.fn.kp D_q11.bd .nil aR (aA (aV (aZ (K:=K) rfl) (pv 1) aB (fun _ _=>rfl)) aF))))))) (aG (aN bR)) aT) (aG (aN (dC (cH cC (aK (G_q15.mono (by omega)) hr rfl D_q15.mgx D_q15.fn.kp D_q15.bd .nil aR (aA (aV (aZ (K:=K) rfl) (pv 1) aB (fun _ _=>rfl)) (aA (aH bQ (pv 0) aB) aF))) (aH bQ (pv 0) aB) (nomark _)) (dW (aK (G_q40.mono (by omega)) hr rfl D_q40.mgx D_q40.fn.kp D_q40.bd .nil aR (aA (pv 0) (aA (pv 2) (aA (pv 3) (aA (aV (aZ (K:=K) rfl) (pv 1) aB (fun _ _=>rfl)) aF)))))))))))))),?_⟩
    have e0:L2.start ["_law_n","_law_thing","_law_d","_law_pair"] [.int n,u]=[some (.int n),some (u),none,none]:=rfl
    rw[e0];clear e0
    refine aM fun R1 sq1=>?_
    bv_omega
    obtain⟨a,xs,rfl,ha,x0,xs,rfl,Rz,RL⟩:=id R0
    have xl:=RL.length
    refine dY (fun h=>k2 (no fun d A rD rows F=>by have:=F.n3;omega) _ (Same.refl H)) (fun n3=>?_)
    refine⟨by decide,?_⟩
    refine dY (fun h=>k2 (no fun d A rD rows F=>F.odd h) _ (Same.refl H)) (fun od=>?_)
    have n30':n<10^30:=by omega
    refine⟨a,rfl,_,.inr ha,?_⟩
    by_cases h3:ds.length=3
    case neg =>
      rw[if_pos (by rw[List.length_cons,<- xl];omega)]
      exact k2 (no fun d A rD rows F=>h3 (by rw[F.eq];rfl)) _ (Same.refl H)
    rw[if_neg (by rw[List.length_cons,<- xl];omega)]
    obtain⟨d1,d2,d3,rfl⟩:=aF3 h3
    obtain⟨x1,_,rfl,Rb,x2,_,rfl,R2,x3,_,rfl,R3,rfl⟩:=RL
    refine⟨a,_,_,_,rfl,rfl,ha,rfl,x1,_,rfl,cF Rb,_,rfl,?_⟩
    by_cases hb1:kP x1=true
    case neg =>
      rw[if_pos (by simpa using hb1)]
      refine k2 (no fun d A rD rows F=>?_) _ (Same.refl H)
      cases F.eq
      cases (show x1=V.int d from Rb)
      exact hb1 rfl
    rw[hb1,if_neg (by decide)]
    obtain⟨b,rfl,rfl⟩:=gG Rb hb1
    refine⟨a,_,_,_,rfl,rfl,ha,rfl,_,rfl,?_⟩
    by_cases hl1:1<=b
    case neg =>
      rw[if_neg hl1]
      refine k2 (no fun d A rD rows F=>?_) _ (Same.refl H)
      cases F.eq
      exact hl1 F.d1
    rw[if_pos hl1]
    refine⟨_,rfl,?_⟩
    by_cases hl2:b<n
    case neg =>
      rw[if_pos hl2]
      refine k2 (no fun d A rD rows F=>?_) _ (Same.refl H)
      cases F.eq
      have:=F.dn
      omega
    rw[if_neg (fun h=>h hl2)]
    have lb3:bY d3<=1000000:=by
      have e:bY (.tup [.str (Str.ofString "other"),.int b,d2,d3])=bY (.str (Str.ofString "other"))+2+(bY (.int b)+2+(bY d2+2+(bY d3+2+0)))+3:=rfl
      omega
    subst sq1
    refine aM fun R1 sq1=>?_
    bv_omega
    refine⟨a,_,_,_,rfl,rfl,ha,rfl,a,_,_,_,rfl,rfl,ha,rfl,?_⟩
    subst sq1
    refine aM fun R1 sq1=>?_
    bv_omega
    refine isk (cF R2) ⟨_,rfl,?_⟩
    by_cases ht:cU (kdD d2) "tuple" = true
    case neg =>
      rw[i8 ht,if_pos rfl]
      refine k2 (no fun d A rD rows F=>?_) _ (Same.refl H)
      cases F.eq
      exact absurd rfl ht
    rw[ht,if_neg (by decide)]
    obtain⟨es,rfl⟩:=fW ht
    obtain⟨pp,ys,rfl,hpp,RY⟩:=id R2
    have yl:=RY.length
    refine⟨pp,rfl,_,.inr hpp,?_⟩
    by_cases hl:es.length=2
    case neg =>
      rw[if_pos (by omega)]
      refine k2 (no fun d A rD rows F=>?_) _ (Same.refl H)
      cases F.eq
      exact hl rfl
    rw[if_neg (by omega)]
    refine d8 ?_
    refine⟨_,rfl,pp,rfl,⟨ys,hpp⟩,fun bs D hcb hD=>?_⟩
    obtain⟨Pv,hPv⟩:∃Pv:Nat->St->Hp->Prop,∀i σ H2,Pv i σ H2↔(∃v1,σ=[v1])/\Same H H2/\∃vs,H2 D=some (.lst vs)/\RepL K H ((es.take i).filter nwD) vs/\vs.length<=i:=⟨_,fun _ _ _=>Iff.rfl⟩
    refine jK (xs:=ys) Pv ((hPv _ _ _).mpr ⟨⟨none,rfl⟩,fun b o e=>aW e hD,[],aE,rfl,Nat.zero_le _⟩) (fun i σ H2 hi hp=>((hPv _ _ _).mp hp).2.1.tk.sq hpp) ?_ ?_
    · intro i x σ H2 hx hp
      obtain⟨⟨v1,rfl⟩,S2,vs,d2',RV,vl⟩:=(hPv _ _ _).mp hp
      obtain⟨dj,hdj,Rj⟩:=dM RY hx
      have il:i<ys.length:=(List.getElem?_eq_some_iff.mp hx).1
      have tk:es.take (i+1)=es.take i++[dj]:=by rw[List.take_succ,hdj];rfl
      rename_i CT
      refine⟨x,_,rfl,cF (Rep.same S2 _ Rj),_,rfl,?_⟩
      rw[aEc Rj]
      cases ht:nwD dj with
      | true =>
        rw[if_pos (by decide)]
        refine⟨_,d2',bK (by omega),(hPv _ _ _).mpr ⟨⟨_,rfl⟩,fun b o e=>?_,_,aE,?_,by rw[List.length_append];show _+1<=_;omega⟩⟩
        · rw[aO (aI e hD)];exact S2 _ _ e
        · rw[tk,List.filter_append,List.filter_cons_of_pos ht]
          exact RepL.append RV ⟨_,[],rfl,Rj,rfl⟩
      | false =>
        rw[if_neg (by decide)]
        refine(hPv _ _ _).mpr ⟨⟨_,rfl⟩,S2,vs,d2',?_,by omega⟩
        rw[tk,List.filter_append,List.filter_cons_of_neg (by rw[ht];decide),List.filter_nil,List.append_nil]
        exact RV
    intro σ H2 hp
    obtain⟨⟨v1,rfl⟩,S2,vs,d2',RV,vl⟩:=(hPv _ _ _).mp hp
    clear hp hPv Pv
    rw[<- yl,List.take_length] at RV
    refine⟨Nat.zero_le _,fun pe hpe=>?_⟩
    have S3:Same H (upd H2 pe (.lst [])):=fun b o e=>aW (S2 _ _ e) hpe
    refine⟨es.filter nwD,[],⟨D,vs,rfl,SqL.of (aW d2' hpe),RepL.same S3 _ RV⟩,⟨pe,[],rfl,SqL.of aE,rfl⟩,Nat.zero_le _,⟨rfl,rfl⟩,_,rfl,?_⟩
    rw[eW]
    generalize upd H2 pe (.lst [])=H4 at S3 ⊢
    obtain⟨e1,e2,rfl⟩:=aE5 hl
    by_cases hne:[e1,e2].filter nwD=[]
    case neg =>
      rw[decide_eq_false hne,if_pos (by decide)]
      refine k2 (no fun d A rD rows F=>?_) _ S3
      cases F.eq
      exact hne rfl
    rw[decide_eq_true hne,if_neg (by decide)]
    have nn:=List.filter_eq_nil_iff.mp hne
    obtain⟨A1,rfl⟩:=vX (d:=e1) (by simpa using nn e1 (by simp))
    obtain⟨A2,rfl⟩:=vX (d:=e2) (by simpa using nn e2 (by simp))
    obtain⟨_,_,rfl,rfl,_,_,rfl,rfl,rfl⟩:=RY
    clear RV d2' vl hne nn hD hcb S2
    have A100:A1.natAbs<10^100:=of_decide_eq_true (bU (bU ok (.tup [.int A1,.int A2]) (by simp)) (.int A1) (by simp))
    have B100:A2.natAbs<10^100:=of_decide_eq_true (bU (bU ok (.tup [.int A1,.int A2]) (by simp)) (.int A2) (by simp))
    subst sq1
    refine aM fun R1 sq1=>?_
    bv_omega
    refine d8 ?_
    have hpp4:=S3.tk.sq hpp
    refine⟨_,rfl,pp,rfl,⟨_,hpp4⟩,fun bs D hcb hD=>?_⟩
    obtain⟨Pv,hPv⟩:∃Pv:Nat->St->Hp->Prop,∀i σ H2,Pv i σ H2↔(∃v1,σ=[v1,some (.int n)])/\Same H4 H2/\H2 D=some (.lst ((([A1,A2].take i).filter (noR n)).map V.int)):=⟨_,fun _ _ _=>Iff.rfl⟩
    refine jK (xs:=[A1,A2].map V.int) Pv ((hPv _ _ _).mpr ⟨⟨none,rfl⟩,fun b o e=>aW e hD,aE⟩) (fun i σ H2 hi hp=>((hPv _ _ _).mp hp).2.1.tk.sq hpp4) ?_ ?_
    · intro i x σ H5 hx hp
      obtain⟨⟨v1,rfl⟩,S5,d5⟩:=(hPv _ _ _).mp hp
      rw[List.getElem?_map] at hx
      cases hj:[A1,A2][i]? with
      | none=>rw[hj] at hx;cases hx
      | some q =>
      rw[hj] at hx
      cases hx
      have tk:[A1,A2].take (i+1)=[A1,A2].take i++[q]:=by rw[List.take_succ,hj];rfl
      have fl:=List.length_filter_le (noR n) ([A1,A2].take i)
      rw[List.length_take,show [A1,A2].length=2 from rfl] at fl
      rename_i CT
      have put:noR n q=true->∃ys,H5 D=some (.lst ys)/\ys.length<sizeLine/\Pv (i+1) [some (V.int q),some (V.int n)] (upd H5 D (.lst (ys++[V.int q]))):=fun hq=>by
        refine⟨_,d5,bK (by rw[List.length_map];omega),(hPv _ _ _).mpr ⟨⟨_,rfl⟩,fun b o e=>?_,?_⟩⟩
        · rw[aO (aI e hD)];exact S5 _ _ e
        · rw[aE,tk,List.filter_append,List.filter_cons_of_pos hq,List.map_append];rfl
      by_cases h0:0<=q
      · rw[if_pos h0]
        by_cases h1:q<n
        · rw[if_neg (by simpa using h1)]
          refine(hPv _ _ _).mpr ⟨⟨_,rfl⟩,S5,?_⟩
          rw[d5,tk,List.filter_append,List.filter_cons_of_neg (show ¬ noR n q=true by unfold noR;rw[decide_eq_true ⟨h0,h1⟩];decide),List.filter_nil,List.append_nil]
        · rw[if_pos (by simpa using h1)]
          exact put (by unfold noR;rw[decide_eq_false (fun h=>h1 h.2)];rfl)
      · rw[if_neg h0]
        first
          | exact put (by unfold noR;rw[decide_eq_false (fun h=>h0 h.1)];rfl)
          | (refine⟨_,rfl,?_⟩
             rw[if_pos (by decide)]
             exact put (by unfold noR;rw[decide_eq_false (fun h=>h0 h.1)];rfl))
    intro σ H5 hp
    obtain⟨⟨v1,rfl⟩,S5,d5⟩:=(hPv _ _ _).mp hp
    clear hp hPv Pv
    rw[List.length_map,List.take_length] at d5
    refine⟨Nat.zero_le _,fun pe hpe=>?_⟩
    have S6:Same H4 (upd H5 pe (.lst [])):=fun b o e=>aW (S5 _ _ e) hpe
    refine⟨([A1,A2].filter (noR n)).map Dt.int,[],⟨D,_,rfl,SqL.of (aW d5 hpe),aEd _⟩,⟨pe,[],rfl,SqL.of aE,rfl⟩,Nat.zero_le _,⟨rfl,rfl⟩,_,rfl,?_⟩
    rw[eW]
    generalize upd H5 pe (.lst [])=H6 at S6 ⊢
    have S06:=S3.trans S6
    by_cases hne:[A1,A2].filter (noR n)=[]
    case neg =>
      rw[decide_eq_false (fun h=>hne (List.map_eq_nil_iff.mp h)),if_pos (by decide)]
      refine k2 (no fun d A rD rows F=>hne ?_) _ S06
      cases F.eq
      have r:=F.rest
      refine List.filter_eq_nil_iff.mpr fun q hq h=>?_
      obtain⟨r1,r2,r3,r4⟩:=r
      rcases List.mem_cons.mp hq with rfl | hq
      · unfold noR at h;rw[decide_eq_true ⟨r1,by omega⟩] at h;cases h
      · rw[List.mem_singleton.mp hq] at h
        unfold noR at h;rw[decide_eq_true ⟨r3,by omega⟩] at h;cases h
    rw[decide_eq_true (by rw[hne];rfl),if_neg (by decide)]
    have rest:kI n (A1,A2):=by
      have nn:=List.filter_eq_nil_iff.mp hne
      have q1:0<=A1/\A1<n:=by
        have:=nn A1 (by simp)
        unfold noR at this
        simpa using this
      have q2:0<=A2/\A2<n:=by
        have:=nn A2 (by simp)
        unfold noR at this
        simpa using this
      exact⟨q1.1,by show A1<=n-1;omega,q2.1,by show A2<=n-1;omega⟩
    clear hne d5 hD hcb
    refine⟨b,n,rfl,⟨by omega,by omega⟩,rfl,?_⟩
    by_cases gd:Int.gcd b n=1
    case neg =>
      rw[if_pos (fun h=>gd (by have:=V.int.inj h;omega))]
      refine k2 (no fun d A rD rows F=>?_) _ S06
      cases F.eq
      exact gd F.gd
    rw[if_neg (by rw[gd];exact fun h=>h rfl)]
    obtain⟨r1,r2,r3,r4⟩:=id rest
    have s1:A1.natAbs<10^31:=by show A1.natAbs<_;have:A1<=n-1:=r2;have:0<=A1:=r1;omega
    have s2:A2.natAbs<10^31:=by show A2.natAbs<_;have:A2<=n-1:=r4;have:0<=A2:=r3;omega
    have hdd:b.natAbs<10^31:=by omega
    have hpp6:=S06.tk.sq hpp
    have ha6:=S06.tk.sq ha
    subst sq1
    refine aM fun R1 sq1=>?_
    bv_omega
    refine⟨pp,_,_,_,rfl,rfl,hpp6,rfl,pp,_,_,_,rfl,rfl,hpp6,rfl,_,rfl,_,rfl,.inr ⟨bG s1,bG s1⟩,pp,_,_,_,rfl,rfl,hpp6,rfl,_,rfl,.inr ⟨bG hdd,bG s2⟩,pp,_,_,_,rfl,rfl,hpp6,rfl,_,rfl,.inr ⟨j5 hdd s2 (by decide),bG s2⟩,by omega,?_⟩
    by_cases nm:(A1*A1-b*A2*A2)%n=1
    case neg =>
      rw[if_pos (fun h=>nm ((tJ (by omega)).mp h))]
      refine k2 (no fun d A rD rows F=>?_) _ S06
      cases F.eq
      exact nm F.nm
    rw[if_neg (fun h=>h ((tJ (by omega)).mpr nm))]
    refine⟨a,_,_,_,rfl,rfl,ha6,rfl,d3,x3,rfl,Rep.same S06 _ R3,lb3,fun rows rp H7 S7=>?_,fun hno H7 S7=>?_⟩
    case refine_2 =>
      refine⟨_,rfl,?_⟩
      rw[if_pos rfl]
      refine k2 (no fun d A rD rows F=>?_) _ (S06.trans S7)
      cases F.eq
      exact hno rows ⟨F.rp.eq,F.rp.ne,F.rp.up⟩
    refine⟨_,rfl,?_⟩
    rw[if_neg (by decide)]
    have S07:=S06.trans S7
    have uniq:∀ {d A rD rows'},PP.H4 n [.int b,.tup [.int A1,.int A2],d3] d A rD rows'->d=b/\A=(A1,A2)/\rows'=rows:=fun {d A rD rows'} F=>by
      have e:=F.eq
      cases e
      exact⟨rfl,rfl,cI (Dt.tup.inj (F.rp.eq.symm.trans rp.eq))⟩
    have ok3:okD d3=true:=bU ok d3 (by simp)
    have e2:=rp.eq
    subst e2
    obtain⟨c,zs,rfl,hc,RZ⟩:=id R3
    have ha7:=S07.tk.sq ha
    subst sq1
    bv_omega
    refine⟨a,_,_,_,rfl,rfl,ha7,rfl,rows,c,n+1,rfl,Rep.same S07 _ R3,⟨rp.up,ok3,by omega,by omega⟩,?_⟩
    refine⟨rfl,?_⟩
    by_cases all:prd rows=n+1
    case neg =>
      rw[if_neg (fun h=>all (by have:=V.int.inj h;split at this <;> omega))]
      refine k2 (no fun d A rD rows' F=>?_) _ S07
      obtain⟨_,_,rfl⟩:=uniq F
      exact all F.all
    rw[if_pos (by rw[if_pos (by omega),all])]
    have RP:RowsP (.tup (rows.map rwD)) (n+1) rows:=⟨rfl,rp.ne,rp.up,by omega⟩
    refine⟨a,_,_,_,rfl,rfl,ha7,rfl,n,b,(A1,A2),rows,pp,c,rfl,⟨S07.tk.sq hpp,Rep.same S07 _ R3⟩,⟨by omega,n30',hl1,by omega,rest,fun r hr=>?_⟩,fun go H8 S8=>?_,fun ngo H8 S8=>?_⟩
    · have:=RP.often (by omega) r hr
      omega
    · exact k1 (show4.mpr ⟨b,(A1,A2),_,rows,rfl,RP,hl1,by omega,all,od,rest,nm,gd,go⟩) _ (S07.trans S8)
    · refine k2 (no fun d A rD rows' F=>?_) _ (S07.trans S8)
      obtain⟨rfl,rfl,rfl⟩:=uniq F
      exact ngo F.go
noncomputable abbrev O_q3 (P:Program) (w:World) (K:PySem.W.Frag) (mg:Str->Option Value) (base:Heap):Prop:=∃f fd,Df_q3 K mg f fd/\FnOk P w K mg base CX0 4 f fd ["_law_n","_law_thing"] ((spLO K))
theorem wL {d:Dt} (ht:¬ cU (kdD d) "str" = true):cU (kdD d) "str" = false:=by cases h:cU (kdD d) "str" with | true=>exact absurd h ht | false=>rfl
theorem wJ:∀ {ds:List Dt} {d:Dt},d∈ds->bY d<=lenDL ds
 | x::xs,d,h=>by
  show bY d<=bY x+2+lenDL xs
  rcases List.mem_cons.mp h with e | h
  ·rw[e];omega
  ·have:=wJ h;omega
theorem fH {ds:List Dt} {d:Dt} (h:d∈ds):bY d<=bY (.tup ds):=by
 have:=wJ h
 have e:bY (.tup ds)=lenDL ds+3:=rfl
 omega
theorem dS {R a b:TS} (h:R=eO a b):∃R2,R2=b/\R=eO a R2:=⟨b,rfl,h⟩
noncomputable def spLHA (j:Nat) (K:PySem.W.Frag):Sp:=fun vs H Q _=>∃(n:Int) (d:Dt) (u:V) (c:Addr) (ws:List Str),vs=[.int n,u,.ref c]/\(Rep K H d u/\okD d=true/\bY d<=1000000/\L2.dep d<3*j/\1<=n/\n<=10^30)/\(SqT K H c (ws.map V.str)/\(ws=fullWs\/ws=cT))/\(PapG ws n d->∀H',Same H H'->Q (.bl true) H')/\(¬ PapG ws n d->∀H',Same H H'->Q (.bl false) H')
noncomputable abbrev s_q38:Stmt:=top 68
theorem sc_q38:FnScope ["_law_n","_law_thing","_law_kinds","_law_below","_law_prime_here","_law_often","_law_paper_here"] ["_law_n","_law_thing","_law_kinds"] (aJ s_q38):=⟨rfl,rfl,rfl,by decide +kernel,rfl,by decide +kernel,by decide +kernel⟩
noncomputable abbrev Df_q38 (K:PySem.W.Frag) (mg:Str->Option Value) (f:Addr) (fd:FuncData):Prop:=Def K mg "_law_holds" s_q38 ["_law_n","_law_thing","_law_kinds"] f fd
theorem ok_lh0 {m:Nat}:FnOk P w K mg base CX0 m f fd ["_law_n","_law_thing","_law_kinds"] (spLHA 0 K) :=
 ⟨fun vs H Q E h=>by obtain⟨n,d,u,c,ws,rfl,_⟩:=h;rfl,fun A outer s H args us vs Q E hr e hb hv h=>by
  obtain⟨n,d,u,c,ws,_,⟨_,_,_,hd,_⟩,_⟩:=h
  omega⟩
theorem vJ:c9 (Str.ofString "full")=fullWs:=by unfold c9;rw[if_pos rfl];rfl
theorem yZ {z:Str} (h:z≠Str.ofString "full"):c9 z=cT:=by unfold c9;rw[if_neg h]
theorem aD2 {ws:List Str} (h:ws=fullWs\/ws=cT) {z:Str} (hz:z∈ws) (h2:z≠Str.ofString "two") (hf:z≠Str.ofString "full"):ws=cT:=by
 rcases h with rfl | h
 ·rcases List.mem_cons.mp hz with e | e
  ·exact absurd e h2
  ·exact absurd (List.mem_singleton.mp e) hf
 ·exact h
theorem vI {ws:List Str} (h:ws=fullWs\/ws=cT):(ws.map V.str).all hV=true/\∀z∈ws,z∈cT:=by
 rcases h with rfl | rfl
 ·exact⟨rfl,aA5⟩
 ·exact⟨rfl,fun _ h=>h⟩
theorem ok_lhs (D:Df_q38 K mg f fd) (T:Txt K mg t1 cl) (o1:O_q5 P w K mg base) (o2:O_q4 P w K mg base) (o3:O_q3 P w K mg base) {j m:Nat} (B_q38:∀b,FnOk P w K mg b CX0 (m+4) f fd ["_law_n","_law_thing","_law_kinds"] (spLHA j K)):FnOk P w K mg base CX0 (m+5) f fd ["_law_n","_law_thing","_law_kinds"] (spLHA (j+1) K):=by
 obtain⟨_,_,D_q5,G_q5⟩:=o1
 obtain⟨_,_,D_q4,G_q4⟩:=o2
 obtain⟨_,_,D_q3,G_q3⟩:=o3
 have G_q38:=B_q38 base
 have D_q38:=D
 refine D.fn.ok sc_q38 (fun vs H Q E h=>?_) (fun cdv A outer s H vs Q E hr h=>?_)
 ·obtain⟨n,d,u,c,ws,rfl,_⟩:=h
  rfl
 ·obtain⟨n,d,u,c,ws,rfl,⟨R0,ok,lb,dpl,n1,n30⟩,⟨hk,hws⟩,k1,k2⟩:=h
  refine⟨_,(aD (bF (PW.pt (bS (bH (bL (aQ bJ (by rfl) T.no_isinstance PyProof.Rows.boot_isinstance (aA (pv 1) (aA (b9 (v:=.ty "tuple") rfl T.no_tuple PyProof.Rows.boot_tuple rfl) aF))))) (bS (aL (j4 (fZ hr)) (pv 1) (bV aF) (nomark _)) (bS (bH (bL (aQ bJ (by rfl) T.no_isinstance PyProof.Rows.boot_isinstance (aA (aV (aZ (K:=K) rfl) (pv 1) aB (fun _ _=>rfl)) (aA (b9 (v:=.ty "str") rfl T.no_str PyProof.Rows.boot_str rfl) aF))))) (cB (aL qS (aV (aZ (K:=K) rfl) (pv 1) aB (fun _ _=>rfl)) (pv 2) (by with_unfolding_all rfl))))))) (aG (aN bR)) aT) (aD (bF (PW.pt (jV (aL oZ (aV (aZ (K:=K) rfl) (pv 1) aB (fun _ _=>rfl)) (bV (aA bD (aA bD aF))) (by with_unfolding_all rfl)) (gT (bH (bL (aK (G_q5.mono (by omega)) hr rfl D_q5.mgx D_q5.fn.kp D_q5.bd .nil aR (aA (pv 0) (aA (pv 1) aF)))))))) (aG (aN bR)) aT) (aD (bF (PW.pt (jV (aL cC (aV (aZ (K:=K) rfl) (pv 1) aB (fun _ _=>rfl)) bD (nomark _)) (gT (bH (bL (aK (G_q4.mono (by omega)) hr rfl D_q4.mgx D_q4.fn.kp D_q4.bd .nil aR (aA (pv 0) (aA (pv 1) aF)))))))) (aG (aN bR)) aT) (aD (bF (PW.pt (jV (aL cC (aV (aZ (K:=K) rfl) (pv 1) aB (fun _ _=>rfl)) bD (nomark _)) (gT (bH (bL (aK (G_q3.mono (by omega)) hr rfl D_q3.mgx D_q3.fn.kp D_q3.bd .nil aR (aA (pv 0) (aA (pv 1) aF)))))))) (aG (aN bR)) aT) (aD (bF (aL cC (aV (aZ (K:=K) rfl) (pv 1) aB (fun _ _=>rfl)) bD (nomark _)) (aG (aN bR)) aT) (aD (aU (i:=3) sc_q38.nd rfl (by subst_eqs) (eU (aL cC (aV (aZ (K:=K) rfl) (pv 1) aB (fun _ _=>rfl)) bD (nomark _)) (bV (aA bD (aA bD aF))) (pv 2))) (aD (dN PassesOwn.never rfl (eE (aV (aZ (K:=K) rfl) (pv 1) (zY uF aB) (fun _ _=>rfl))) (dU rfl (bC (aX (i:=4) sc_q38.nd rfl (by subst_eqs)) (bC (aX (i:=5) sc_q38.nd rfl (by subst_eqs)) (bC (aX (i:=6) sc_q38.nd rfl (by subst_eqs)) cX)))) (aG (bF (bH (bL (aK (G_q38.mono (by omega)) hr rfl D_q38.mgx D_q38.fn.kp D_q38.bd .nil aR (aA (pv 4) (aA (pv 6) (aA (pv 3) aF)))))) (aG (aN bR)) aT))) (aG (aN bR))))))))),?_⟩
  have e0:L2.start ["_law_n","_law_thing","_law_kinds","_law_below","_law_prime_here","_law_often","_law_paper_here"] [.int n,u,.ref c]=[some (.int n),some (u),some (.ref c),none,none,none,none]:=rfl
  rw[e0];clear e0
  refine aM fun R1 sq1=>?_
  obtain⟨R2,sq2,sq1⟩:=dS sq1
  obtain⟨R3,sq3,sq2⟩:=dS sq2
  obtain⟨R4,sq4,sq3⟩:=dS sq3
  obtain⟨R5,sq5,sq4⟩:=dS sq4
  obtain⟨R6,sq6,sq5⟩:=dS sq5
  obtain⟨R7,sq7,sq6⟩:=dS sq6
  bv_omega
  refine isk (cF R0) ⟨_,rfl,?_⟩
  by_cases ht:cU (kdD d) "tuple" = true
  case neg =>
   rw[i8 ht,if_pos rfl]
   refine k2 (fun h=>?_) _ (Same.refl H)
   obtain⟨z,ds,_,e,_⟩:=h.inv
   rw[e] at ht
   exact absurd rfl ht
  rw[ht,if_neg (by decide)]
  obtain⟨es,rfl⟩:=fW ht
  have RR:=R0
  obtain⟨a,xs,rfl,ha,RL⟩:=RR
  refine⟨Nat.zero_le _,fun p hp=>?_⟩
  have S1:Same H (upd H p (.tup [])):=fun b o e=>aW e hp
  have hp1:(upd H p (.tup [])) p=some (.tup []):=aE
  generalize upd H p (.tup [])=H1 at S1 hp1 ⊢
  refine⟨_,[],.inl ⟨Rep.same S1 _ R0,p,[],rfl,SqT.of hp1,rfl⟩,Nat.zero_le _,⟨rfl,rfl⟩,?_⟩
  rw[eW]
  refine⟨_,rfl,?_⟩
  by_cases h0:es=[]
  case pos =>
   rw[decide_eq_true h0,if_pos rfl]
   refine k2 (fun h=>?_) _ S1
   obtain⟨z,ds,_,e,_⟩:=h.inv
   rw[h0] at e
   cases e
  rw[decide_eq_false h0,if_neg (by decide)]
  obtain⟨d0,ds,rfl⟩:∃d0 ds,es=d0::ds:=by
   cases es with
   | nil=>exact absurd rfl h0
   | cons d0 ds=>exact⟨d0,ds,rfl⟩
  clear h0 ht
  obtain⟨x0,xs,rfl,Rz,RL⟩:=RL
  have ha1:=S1.tk.sq ha
  refine⟨a,_,_,_,rfl,rfl,ha1,at0,isk (cF (Rep.same S1 _ Rz)) ⟨_,rfl,?_⟩⟩
  by_cases hs:cU (kdD d0) "str" = true
  case neg =>
   rw[wL hs,if_pos rfl]
   refine k2 (fun h=>?_) _ S1
   obtain⟨z,ds,_,e,_⟩:=h.inv
   rw[(List.cons.inj (Dt.tup.inj e)).1] at hs
   exact absurd rfl hs
  rw[hs,if_neg (by decide)]
  obtain⟨z,rfl⟩:=u5 hs
  cases (show x0=V.str z from Rz)
  clear hs
  refine⟨a,_,_,_,rfl,rfl,ha1,at0,?_⟩
  refine⟨_,ws.map V.str,rfl,.inr (S1.tk.sq hk),rfl,(vI hws).1,?_⟩
  rw[rO]
  refine⟨_,rfl,?_⟩
  by_cases hw:z∈ws
  case neg =>
   rw[decide_eq_false hw,if_pos rfl]
   refine k2 (fun h=>hw ?_) _ S1
   obtain⟨z',ds',_,e,hz',_⟩:=h.inv
   cases e
   exact hz'
  rw[decide_eq_true hw,if_neg (by decide)]
  have hwa:=(vI hws).2 z hw
  have bad:¬ dB n (.str z::ds)->¬ PapG ws n (.tup (.str z::ds)):=fun sh h=>sh (by
   obtain⟨z',ds',_,e,hz',sh',_⟩:=h.inv
   cases e
   exact sh')
  have hfin:∀H3,Same H H3->dB n (.str z::ds)->R4 { nx:=fun x H'=>Q V.non H',rt:=Q } [some (V.int n),some (V.ref a),some (V.ref c),none,none,none,none] H3:=by
   intro H3 S3 sh
   have ha3:=S3.tk.sq ha
   rw[sq4]
   bv_omega
   refine⟨a,_,_,_,rfl,rfl,ha3,at0,rfl,?_⟩
   by_cases z2:z=Str.ofString "two"
   case pos =>
    subst z2
    rw[if_pos rfl]
    have q:=show_two.mp sh
    refine k1 ((aEv hw).mpr ⟨List.length_eq_zero_iff.mp (by have:=q.1;rw[List.length_cons] at this;omega),q.2⟩) _ S3
   rw[if_neg (fun h=>z2 (V.str.inj h))]
   have tail:∀(pre:List V) (b c':Addr) (ys:List V) (rows:List Row) (H4:Hp),Same H H4->xs=pre++[.ref c']->SqT K H c' ys->RepL K H (rows.map rwD) ys->(∀r∈rows,(1<=r.1/\r.1<=10^30)/\okD r.2.2=true/\bY r.2.2<=1000000/\L2.dep r.2.2<3*j)->SqT K H4 b ((c9 z).map V.str)->((∀r∈rows,PapG (c9 z) r.1 r.2.2)->PapG ws n (.tup (.str z::ds)))->((¬ ∀r∈rows,PapG (c9 z) r.1 r.2.2)->¬ PapG ws n (.tup (.str z::ds)))->R6 { nx:=fun x H'=>Q V.non H',rt:=Q } [some (V.int n),some (V.ref a),some (V.ref c),some (V.ref b),none,none,none] H4:=by
    intro pre b c' ys rows H4 S4 exs hc RY hrow hb q1 q2
    subst exs
    have yl:ys.length=rows.length:=by rw[<- RY.length,List.length_map]
    have ha4:=S4.tk.sq ha
    have hc4:=S4.tk.sq hc
    have RY4:=RepL.same S4 _ RY
    rw[sq6]
    dsimp only[eO]
    refine qB (K:=K) fun Z hZ=>?_
    bv_omega
    refine⟨a,_,_,_,rfl,rfl,ha4,t9 (V.str z::pre) (V.ref c'),c',rfl,⟨ys,hc4⟩,?_⟩
    rw[hZ]
    obtain⟨Pv,hPv⟩:∃Pv:Nat->St->Hp->Prop,∀i σ H5,Pv i σ H5↔∃v2 v3 v4:Option V,σ=[some (.int n),some (.ref a),some (.ref c),some (.ref b),v2,v3,v4]/\Same H4 H5/\∀r∈rows.take i,PapG (c9 z) r.1 r.2.2:=⟨_,fun _ _ _=>Iff.rfl⟩
    refine u8 (xs:=ys) Pv ((hPv _ _ _).mpr ⟨none,none,none,rfl,Same.refl _,fun r hr=>by cases hr⟩) (fun i σ H5 _ hP=>?_) ?_ ?_
    ·obtain⟨_,_,_,_,S5,_⟩:=(hPv _ _ _).mp hP
     exact S5.tk.sq hc4
    ·intro i x σ H5 hx hP
     obtain⟨v2,v3,v4,rfl,S5,all⟩:=(hPv _ _ _).mp hP
     obtain⟨r,hr,Rr⟩:=rw_get (RepL.same S5 _ RY4) hx
     have rm:=List.mem_of_getElem? hr
     obtain⟨rb,okR,lR,dR⟩:=hrow r rm
     have tk:rows.take (i+1)=rows.take i++[r]:=by rw[List.take_succ,hr];rfl
     obtain⟨c2,zs,rfl,hc2,_,_,rfl,rfl,_,_,rfl,rfl,z2,_,rfl,R8,rfl⟩:=Rr
     bv_omega
     refine⟨_,hc2,rfl,_,_,rfl,_,_,rfl,_,_,rfl,rfl,?_⟩
     refine⟨r.1,r.2.2,z2,b,c9 z,rfl,⟨R8,okR,lR,dR,rb.1,rb.2⟩,⟨S5.tk.sq hb,?_⟩,fun pr H6 S6=>⟨_,rfl,?_⟩,fun pr H6 S6=>⟨_,rfl,?_⟩⟩
     ·by_cases zf:z=Str.ofString "full"
      ·rw[zf];exact .inl vJ
      ·exact .inr (yZ zf)
     ·rw[if_neg (by decide)]
      refine(hPv _ _ _).mpr ⟨_,_,_,rfl,S5.trans S6,?_⟩
      rw[tk]
      intro r' hr'
      rcases List.mem_append.mp hr' with h' | h'
      ·exact all r' h'
      ·rw[List.mem_singleton.mp h'];exact pr
     ·rw[if_pos rfl]
      exact k2 (q2 fun h=>pr (h r rm)) _ (S4.trans (S5.trans S6))
    ·intro σ H5 hP
     obtain⟨v2,v3,v4,rfl,S5,all⟩:=(hPv _ _ _).mp hP
     rw[yl,List.take_length] at all
     rw[sq7]
     bv_omega
     exact k1 (q1 all) _ (S4.trans S5)
   have goTail:∀(pre:List V) (c':Addr) (ys:List V) (rows:List Row),xs=pre++[.ref c']->SqT K H c' ys->RepL K H (rows.map rwD) ys->(∀r∈rows,(1<=r.1/\r.1<=10^30)/\okD r.2.2=true/\bY r.2.2<=1000000/\L2.dep r.2.2<3*j)->((∀r∈rows,PapG (c9 z) r.1 r.2.2)->PapG ws n (.tup (.str z::ds)))->((¬ ∀r∈rows,PapG (c9 z) r.1 r.2.2)->¬ PapG ws n (.tup (.str z::ds)))->R5 { nx:=fun x H'=>Q V.non H',rt:=Q } [some (V.int n),some (V.ref a),some (V.ref c),none,none,none,none] H3:=by
    intro pre c' ys rows exs hc RY hrow q1 q2
    rw[sq5]
    bv_omega
    refine⟨a,_,_,_,rfl,rfl,ha3,at0,rfl,?_⟩
    by_cases zf:z=Str.ofString "full"
    ·rw[if_pos (by rw[zf])]
     refine⟨by show 2<=sizeLine;decide,fun p hp=>?_⟩
     refine tail pre p c' ys rows _ (fun b o e=>aW (S3 _ _ e) hp) exs hc RY hrow ?_ q1 q2
     rw[zf,vJ]
     exact SqT.of aE
    ·rw[if_neg (fun h=>zf (V.str.inj h))]
     refine tail pre c c' ys rows _ S3 exs hc RY hrow ?_ q1 q2
     rw[yZ zf,<- aD2 hws hw z2 zf]
     exact S3.tk.sq hk
   by_cases zo:z=Str.ofString "other"
   ·subst zo
    obtain⟨d,A,rD,rows,F⟩:=show4.mp sh
    have rp:=F.rp
    have e1:=F.eq
    have e2:=rp.eq
    subst e2
    subst e1
    obtain⟨x1,_,rfl,Rb,x2,_,rfl,R2,x3,_,rfl,R3,rfl⟩:=RL
    obtain⟨c',ys,rfl,hc,RY⟩:=R3
    have okr:okD (.tup (rows.map rwD))=true:=bU ok _ (by simp)
    have lr:=fH (ds:=[.str (Str.ofString "other"),.int d,pD A,.tup (rows.map rwD)]) (d:=.tup (rows.map rwD)) (by simp)
    have n30':n<10^30:=by have:=F.odd;omega
    refine goTail [x1,x2] c' ys rows rfl hc RY (fun r rm=>?_) (fun h=>(aCn hw).mpr ⟨d,A,_,rows,F,h⟩) (fun h g=>h ?_)
    ·have a1:=rp.often (by omega) r rm
     have a2:=bU (bU okr (rwD r) (List.mem_map_of_mem rm)) r.2.2 (by simp)
     have a3:=wT (ds:=[.str (Str.ofString "other"),.int d,pD A,.tup (rows.map rwD)]) (by simp) rm
     have a4:=fH (List.mem_map_of_mem (f:=rwD) rm)
     have a5:bY r.2.2<=bY (rwD r):=fH (ds:=[.int r.1,.int r.2.1,r.2.2]) (by simp)
     exact⟨⟨by omega,by omega⟩,a2,by omega,by omega⟩
    ·obtain⟨d',A',rD',rows',F',hr'⟩:=(aCn hw).mp g
     have e:=(List.cons.inj (List.cons.inj (List.cons.inj F'.eq).2).2).1
     have er:rows'=rows:=cI (Dt.tup.inj (F'.rp.eq.symm.trans e.symm))
     subst er
     exact hr'
   ·have zk:z=Str.ofString "full" \/ z=Str.ofString "share" := yU (fl:=false) ((aAt (fl:=false) z2).mpr hwa) zo
    obtain⟨b,rD,rows,F⟩:=(lQ zk).mp sh
    have rp:=F.rp
    have e1:=F.eq
    have e2:=rp.eq
    subst e2
    subst e1
    obtain⟨x1,_,rfl,Rb,x2,_,rfl,R2,rfl⟩:=RL
    obtain⟨c',ys,rfl,hc,RY⟩:=R2
    have okr:okD (.tup (rows.map rwD))=true:=bU ok _ (by simp)
    have lr:=fH (ds:=[.str z,.int b,.tup (rows.map rwD)]) (d:=.tup (rows.map rwD)) (by simp)
    refine goTail [x1] c' ys rows rfl hc RY (fun r rm=>?_) (fun h=>(aEu hw zk).mpr ⟨b,_,rows,F,h⟩) (fun h g=>h ?_)
    ·have a1:=rp.often (by omega) r rm
     have a2:=bU (bU okr (rwD r) (List.mem_map_of_mem rm)) r.2.2 (by simp)
     have a3:=wT (ds:=[.str z,.int b,.tup (rows.map rwD)]) (by simp) rm
     have a4:=fH (List.mem_map_of_mem (f:=rwD) rm)
     have a5:bY r.2.2<=bY (rwD r):=fH (ds:=[.int r.1,.int r.2.1,r.2.2]) (by simp)
     exact⟨⟨by omega,by omega⟩,a2,by omega,by omega⟩
    ·obtain⟨b',rD',rows',F',hr'⟩:=(aEu hw zk).mp g
     have e:=F'.eq
     cases e
     have er:rows'=rows:=cI (Dt.tup.inj (F'.rp.eq.symm.trans rp.eq))
     subst er
     exact hr'
  have st4:∀H3,Same H H3->(z≠Str.ofString "other" -> dB n (.str z::ds))->R3 { nx:=fun x H'=>Q V.non H',rt:=Q } [some (V.int n),some (V.ref a),some (V.ref c),none,none,none,none] H3:=by
   intro H3 S3 sh
   rw[sq3]
   bv_omega
   refine⟨a,_,_,_,rfl,rfl,S3.tk.sq ha,at0,rfl,?_⟩
   by_cases zo:z=Str.ofString "other"
   ·subst zo
    rw[if_pos rfl]
    refine⟨n,ds,_,rfl,⟨Rep.same S3 _ R0,ok,lb,n1,n30⟩,fun sh H4 S4=>⟨_,rfl,?_⟩,fun sh H4 S4=>⟨_,rfl,?_⟩⟩
    ·rw[if_neg (by decide)]
     exact hfin _ (S3.trans S4) sh
    ·rw[if_pos rfl]
     exact k2 (bad sh) _ (S3.trans S4)
   ·rw[if_neg (fun h=>zo (V.str.inj h))]
    exact hfin _ S3 (sh zo)
  have st3:∀H3,Same H H3->(z∈fullWs->dB n (.str z::ds))->R2 { nx:=fun x H'=>Q V.non H',rt:=Q } [some (V.int n),some (V.ref a),some (V.ref c),none,none,none,none] H3:=by
   intro H3 S3 sh
   rw[sq2]
   bv_omega
   refine⟨a,_,_,_,rfl,rfl,S3.tk.sq ha,at0,rfl,?_⟩
   by_cases zs:z=Str.ofString "share"
   ·subst zs
    rw[if_pos rfl]
    refine⟨n,ds,_,rfl,⟨Rep.same S3 _ R0,ok,lb,n1,n30⟩,fun sh H4 S4=>⟨_,rfl,?_⟩,fun sh H4 S4=>⟨_,rfl,?_⟩⟩
    ·rw[if_neg (by decide)]
     exact st4 _ (S3.trans S4) fun _=>sh
    ·rw[if_pos rfl]
     exact k2 (bad sh) _ (S3.trans S4)
   ·rw[if_neg (fun h=>zs (V.str.inj h))]
    refine st4 _ S3 fun zo=>sh ?_
    unfold cT at hwa
    simp only[List.mem_cons,List.not_mem_nil,or_false] at hwa
    rcases hwa with h | h | h | h
    ·rw[h];decide
    ·rw[h];decide
    ·exact absurd h zs
    ·exact absurd h zo
  rw[sq1]
  bv_omega
  refine⟨a,_,_,_,rfl,rfl,ha1,at0,?_⟩
  refine⟨by show 2<=sizeLine;decide,fun p2 hp2=>?_⟩
  have S2:Same H1 (upd H1 p2 (.tup [.str (Str.ofString "two"),.str (Str.ofString "full")])):=fun b o e=>aW e hp2
  have l2:(upd H1 p2 (.tup [.str (Str.ofString "two"),.str (Str.ofString "full")])) p2=some (.tup [.str (Str.ofString "two"),.str (Str.ofString "full")]):=aE
  generalize upd H1 p2 (.tup [.str (Str.ofString "two"),.str (Str.ofString "full")])=H2 at S2 l2 ⊢
  have S02:=S1.trans S2
  refine⟨_,fullWs.map V.str,rfl,.inr (SqT.of l2),rfl,rfl,?_⟩
  rw[rO]
  refine⟨_,rfl,?_⟩
  by_cases zw:z∈fullWs
  ·rw[decide_eq_true zw,if_pos (by decide)]
   refine⟨n,z,ds,_,rfl,⟨Rep.same S02 _ R0,ok,lb,zw,n1,n30⟩,fun sh H4 S4=>⟨_,rfl,?_⟩,fun sh H4 S4=>⟨_,rfl,?_⟩⟩
   ·rw[if_neg (by decide)]
    exact st3 _ (S02.trans S4) fun _=>sh
   ·rw[if_pos rfl]
    exact k2 (bad sh) _ (S02.trans S4)
  ·rw[decide_eq_false zw,if_neg (by decide)]
   exact st3 _ S02 fun h=>absurd h zw
theorem ok_q38 (D:Df_q38 K mg f fd) (T:Txt K mg t1 cl) (o1:∀b,O_q5 P w K mg b) (o2:∀b,O_q4 P w K mg b) (o3:∀b,O_q3 P w K mg b):∀(j:Nat) (b:Heap),FnOk P w K mg b CX0 (j+4) f fd ["_law_n","_law_thing","_law_kinds"] (spLHA j K)
 | 0,_=>ok_lh0
 | j+1,b=>ok_lhs (m:=j) D T (o1 b) (o2 b) (o3 b) fun b=>ok_q38 D T o1 o2 o3 j b
noncomputable abbrev O_q38 (P:Program) (w:World) (K:PySem.W.Frag) (mg:Str->Option Value) (base:Heap):Prop:=∃f fd,Df_q38 K mg f fd/\FnOk P w K mg base CX0 37 f fd ["_law_n","_law_thing","_law_kinds"] ((spLHA 33 K))
noncomputable def spBased (K:PySem.W.Frag):Sp:=fun vs H Q _=>∃(st l:Addr) (n:Int) (qs:List Int),vs=[.ref st,.int n,.ref l]/\(StAt H st/\l≠st/\H l=some (.lst (qs.map V.int))/\qs.length<=200)/\(bP n/\3<=n/\n<=10^9/\∀q∈qs,2<=q/\q∣n-1)/\∀b H',1<=b->b<=n-1->(∀q∈qs,b^((n-1)/q).toNat%n≠1)->Step st H H'->Q (.int b) H'
noncomputable def x5 (b n:Int) (q:Int):Bool:=decide (b^((n-1)/q).toNat%n=1)
theorem uM {g b m:Int} (hm:1<=m) (g1:1<=g) (gm:g<=m) (b1:1<=b) (bm:b<=m) (hne:b≠g):((g-(b%m+1))%m).toNat<((g-b)%m).toNat:=by
 by_cases h:b=m
 ·subst h
  rw[Int.emod_self,show g-(0+1)=g-1 by omega,Int.emod_eq_of_lt (show 0<=g-1 by omega) (by omega)]
  have:(g-b)%b=g:=by
   rw[show g-b=g+b*(-1) by omega,Int.add_mul_emod_self_left,Int.emod_eq_of_lt (by omega) (by omega)]
  rw[this]
  omega
 ·rw[Int.emod_eq_of_lt (show 0<=b by omega) (show b<m by omega)]
  by_cases hl:b<g
  ·rw[Int.emod_eq_of_lt (show 0<=g-(b+1) by omega) (by omega),Int.emod_eq_of_lt (show 0<=g-b by omega) (by omega)]
   omega
  ·have e1:(g-(b+1))%m=g-(b+1)+m:=by
    rw[<- Int.add_emod_right (g-(b+1)) m,Int.emod_eq_of_lt (by omega) (by omega)]
   have e2:(g-b)%m=g-b+m:=by
    rw[<- Int.add_emod_right (g-b) m,Int.emod_eq_of_lt (by omega) (by omega)]
   rw[e1,e2]
   omega
noncomputable abbrev s_q36:Stmt:=top 69
theorem sc_q36:FnScope ["_law_state_here","_law_n","_law_primes","_law_base"] ["_law_state_here","_law_n","_law_primes"] (aJ s_q36):=⟨rfl,rfl,rfl,by decide +kernel,rfl,by decide +kernel,by decide +kernel⟩
noncomputable abbrev Df_q36 (K:PySem.W.Frag) (mg:Str->Option Value) (f:Addr) (fd:FuncData):Prop:=Def K mg "_law_based" s_q36 ["_law_state_here","_law_n","_law_primes"] f fd
theorem ok_q36 (D:Df_q36 K mg f fd) (T:Txt K mg t1 cl) (o1:O_q41 P w K mg base) (o4:OB_q33 P w K mg):FnOk P w K mg base CX0 3 f fd ["_law_state_here","_law_n","_law_primes"] (spBased K):=by
 obtain⟨_,_,D_q41,G_q41⟩:=o1
 obtain⟨_,_,D_q33,B_q33⟩:=o4
 have G_q33:=B_q33 base
 refine D.fn.ok sc_q36 (fun vs H Q E h=>?_) (fun cdv A outer s H vs Q E hr h=>?_)
 ·obtain⟨st,l,n,qs,rfl,_⟩:=h
  rfl
 ·obtain⟨st,l,n,qs,rfl,⟨hst,ls,hl,ql⟩,⟨hp,n3,n9,hq⟩,k⟩:=h
  refine⟨_,(aD (aU (i:=3) sc_q36.nd rfl (by subst_eqs) (aH bQ aB (aK (G_q41.mono (by omega)) hr rfl D_q41.mgx D_q41.fn.kp D_q41.bd .nil aR (aA (pv 0) (aA (aH bE (pv 1) aB) aF))))) (aD (cN PassesOwn.never (aL (uV (fZ hr)) (eV (N:=["_law_prime_here","_law_base","_law_n"]) (js:=[none,some 3,some 1]) (by rfl) rfl (fun _=>rfl) (gW (pv 2)) (by intro b _ _ _ _;exact(aX (i:=0) (show List.Nodup (["_law_prime_here","_law_base","_law_n"]:List Str) by decide) rfl (by subst_eqs))) (by intro b _ _ _ _;exact i6 (aL cC (aK ((B_q33 b).mono (by omega)) hr rfl D_q33.mgx D_q33.fn.kp D_q33.bd .nil aR (aA (pv 1) (aA (aH cQ (aH bE (pv 2) aB) (pv 0)) (aA (pv 2) aF)))) aB (nomark _))) (by intro b _ _ _ _;exact(pv 0))) (cY aF) (nomark _)) (aG (aU (i:=3) sc_q36.nd rfl (by subst_eqs) (aH bQ (aH bI (pv 3) (aH bE (pv 1) aB)) aB)))) (aG (aN (pv 3))))),?_⟩
  have e0:L2.start ["_law_state_here","_law_n","_law_primes","_law_base"] [.ref st,.int n,.ref l]=[some (.ref st),some (.int n),some (.ref l),none]:=rfl
  rw[e0];clear e0
  bv_omega
  refine⟨st,n-1,rfl,⟨by omega,by omega⟩,hst,fun r H1 r0 r1 S1=>⟨_,rfl,?_⟩⟩
  obtain⟨g,g1,g2,hg⟩:=oW hp
  obtain⟨W,hW⟩:∃W:Nat->St->Hp->Prop,∀m σ H',W m σ H'↔∃b:Int,m=((g-b)%(n-1)).toNat/\σ=[some (.ref st),some (.int n),some (.ref l),some (.int b)]/\1<=b/\b<=n-1/\Step st H H':=⟨_,fun _ _ _=>Iff.rfl⟩
  refine⟨W,⟨_,(hW _ _ _).mpr ⟨_,rfl,rfl,by omega,by omega,S1⟩⟩,?_⟩
  intro m σ H2 hw
  obtain⟨b,rfl,rfl,b1,bn,S2⟩:=(hW _ _ _).mp hw
  clear hw
  have hl2:=S2.but _ _ ls hl
  bv_omega
  refine d8 ?_
  refine⟨_,rfl,l,rfl,⟨_,SqL.of hl2⟩,fun bs D hcb hD=>?_⟩
  obtain⟨Pv,hPv⟩:∃Pv:Nat->St->Hp->Prop,∀i σ H3,Pv i σ H3↔(∃v1,σ=[v1,some (.int b),some (.int n)])/\Same H2 H3/\H3 D=some (.lst (((qs.take i).filter (x5 b n)).map V.int)):=⟨_,fun _ _ _=>Iff.rfl⟩
  refine kA (xs:=qs.map V.int) Pv ((hPv _ _ _).mpr ⟨⟨none,rfl⟩,fun b o e=>aW e hD,aE⟩) (fun i σ H' hi h=>SqL.of (((hPv _ _ _).mp h).2.1 _ _ hl2)) ?_ ?_
  ·intro j x σ H3 hx h
   obtain⟨⟨v1,rfl⟩,s3,d3⟩:=(hPv _ _ _).mp h
   rw[List.getElem?_map] at hx
   cases hj:qs[j]? with
   | none=>rw[hj] at hx;cases hx
   | some q =>
   rw[hj] at hx
   cases hx
   have q2:=hq q (List.mem_of_getElem? hj)
   have jl:j<qs.length:=(List.getElem?_eq_some_iff.mp hj).1
   have tk:qs.take (j+1)=qs.take j++[q]:=by rw[List.take_succ,hj];rfl
   have fl:=List.length_filter_le (x5 b n) (qs.take j)
   rw[List.length_take] at fl
   have dv0:0<=(n-1)/q:=Int.ediv_nonneg (by omega) (by omega)
   have dv1:(n-1)/q<=n-1:=Int.ediv_le_self _ (by omega)
   have qn:q<=n-1:=Int.le_of_dvd (by omega) q2.2
   rename_i CT
   refine⟨⟨by omega,by omega⟩,b,(n-1)/q,n,rfl,⟨by omega,dv0,by omega,by omega,by omega⟩,fun H4 S4=>?_⟩
   refine⟨rfl,?_⟩
   have S34:=s3.trans S4
   by_cases h1:b^((n-1)/q).toNat%n=1
   ·rw[if_pos (by rw[h1])]
    refine⟨_,S4 _ _ d3,bK (by rw[List.length_map];omega),(hPv _ _ _).mpr ⟨⟨_,rfl⟩,fun b o e=>?_,?_⟩⟩
    ·rw[aO (aI e hD)];exact S34 _ _ e
    ·rw[aE,tk,List.filter_append,List.filter_cons_of_pos (show x5 b n q=true from decide_eq_true h1),List.map_append];rfl
   ·rw[if_neg (fun h=>h1 (V.int.inj h))]
    refine(hPv _ _ _).mpr ⟨⟨_,rfl⟩,S34,?_⟩
    rw[tk,List.filter_append,List.filter_cons_of_neg (show ¬ x5 b n q=true from fun h=>h1 (of_decide_eq_true h)),List.filter_nil,List.append_nil]
    exact S4 _ _ d3
  ·intro σ H3 h
   obtain⟨⟨v1,rfl⟩,s3,d3⟩:=(hPv _ _ _).mp h
   rw[List.length_map,List.take_length] at d3
   refine⟨Nat.zero_le _,fun pe hpe=>?_⟩
   have S3':Same H2 (upd H3 pe (.lst [])):=fun b o e=>aW (s3 _ _ e) hpe
   refine⟨(qs.filter (x5 b n)).map Dt.int,[],⟨D,_,rfl,SqL.of (aW d3 hpe),aEd _⟩,⟨pe,[],rfl,SqL.of aE,rfl⟩,Nat.zero_le _,⟨rfl,rfl⟩,_,rfl,?_⟩
   rw[eW]
   by_cases he:qs.filter (x5 b n)=[]
   ·rw[decide_eq_true (by rw[he];rfl),if_neg (by decide)]
    exact k b _ b1 bn (fun q hq' h=>absurd (decide_eq_true h) (List.filter_eq_nil_iff.mp he q hq')) (S2.same S3')
   ·rw[decide_eq_false (fun h=>he (List.map_eq_nil_iff.mp h)),if_pos (by decide)]
    refine⟨fun σ' H2=>∃m',m'<((g-b)%(n-1)).toNat/\W m' σ' H2,fun _ _ h=>h,by omega,?_⟩
    have bg:b≠g:=fun e=>he (List.filter_eq_nil_iff.mpr fun q hq' h=>(zH hp hg (hq q hq').1 (hq q hq').2).1 (by rw[<- e];exact of_decide_eq_true h))
    have m0:=Int.emod_nonneg b (show n-1≠0 by omega)
    have m1:=Int.emod_lt_of_pos b (show 0<n-1 by omega)
    exact⟨_,uM (by omega) g1 (by omega) b1 bn bg,(hW _ _ _).mpr ⟨_,rfl,rfl,by omega,by omega,S2.same S3'⟩⟩
noncomputable abbrev O_q36 (P:Program) (w:World) (K:PySem.W.Frag) (mg:Str->Option Value) (base:Heap):Prop:=∃f fd,Df_q36 K mg f fd/\FnOk P w K mg base CX0 3 f fd ["_law_state_here","_law_n","_law_primes"] ((spBased K))
noncomputable def spSameB:Sp:=fun vs H Q _=>∃(b:Bool),vs=[.bl b,.bl b]/\∀H',Same H H'->Q (.bl true) H'
noncomputable abbrev s_q44:Stmt:=top 50
theorem sc_q44:FnScope ["_law_found","_law_due_here"] ["_law_found","_law_due_here"] (aJ s_q44):=⟨rfl,rfl,rfl,by decide +kernel,rfl,by decide +kernel,by decide +kernel⟩
noncomputable abbrev Df_q44 (K:PySem.W.Frag) (mg:Str->Option Value) (f:Addr) (fd:FuncData):Prop:=Def K mg "_law_same" s_q44 ["_law_found","_law_due_here"] f fd
theorem ok_q44 (D:Df_q44 K mg f fd) (T:Txt K mg t1 cl):FnOk P w K mg base CX0 1 f fd ["_law_found","_law_due_here"] spSameB:=by
 refine D.fn.ok sc_q44 (fun vs H Q E h=>?_) (fun cdv A outer s H vs Q E hr h=>?_)
 ·obtain⟨b,rfl,_⟩:=h
  rfl
 ·obtain⟨i,rfl,k⟩:=h
  refine⟨_,(aD (bF (bL (aQ r8 (by rfl) T.no_isinstance PyProof.Rows.boot_isinstance (aA (pv 1) (aA (bV (aA (b9 (v:=.ty "tuple") rfl T.no_tuple PyProof.Rows.boot_tuple rfl) (aA (b9 (v:=.ty "list") rfl T.no_list PyProof.Rows.boot_list rfl) aF))) aF)))) aEh aT) (aG (aN (dC (cH cC (pv 0) (pv 1) (nomark _)) (dW (cH cC (aQ gN (by rfl) T.no_isinstance PyProof.Rows.boot_isinstance (aA (pv 0) (aA (b9 (v:=.ty "bool") rfl T.no_bool PyProof.Rows.boot_bool rfl) aF))) (aQ gN (by rfl) T.no_isinstance PyProof.Rows.boot_isinstance (aA (pv 1) (aA (b9 (v:=.ty "bool") rfl T.no_bool PyProof.Rows.boot_bool rfl) aF))) (nomark _))))))),?_⟩
  have e0:L2.start ["_law_found","_law_due_here"] [.bl i,.bl i]=[some (.bl i),some (.bl i)]:=rfl
  rw[e0];clear e0
  bv_omega
  refine⟨by show 2<=sizeLine;decide,fun p hp=>?_⟩
  refine aGr (.bl _) aE ⟨_,rfl,aF5 ?_⟩
  refine isi (.bl _) (isi (.bl _) ?_)
  refine⟨rfl,?_⟩
  rw[decide_eq_true rfl]
  exact k _ (fun b o e=>by rw[aO (aI e hp)];exact e)
noncomputable abbrev O_q44 (P:Program) (w:World) (K:PySem.W.Frag) (mg:Str->Option Value) (base:Heap):Prop:=∃f fd,Df_q44 K mg f fd/\FnOk P w K mg base CX0 1 f fd ["_law_found","_law_due_here"] (spSameB)
inductive BP:Nat->Bool->Int->Dt->Prop
 | two {j:Nat} {fl:Bool}:BP (j+1) fl 2 (.tup [.str (Str.ofString "two")])
 | k3 {j:Nat} {fl:Bool} {n:Int} {z:Str} {b:Int} {rows:List Row}:bP n->(z=Str.ofString "full" \/ z=Str.ofString "share" /\ fl=false)->H3 n z [.int b,.tup (rows.map rwD)] b (.tup (rows.map rwD)) rows->(∀r∈rows,BP j (decide (z=Str.ofString "full")) r.1 r.2.2)->BP (j+1) fl n (.tup [.str z,.int b,.tup (rows.map rwD)])
 | k4 {j:Nat} {n d:Int} {A:PZ} {rows:List Row}:bP n->H4 n [.int d,pD A,.tup (rows.map rwD)] d A (.tup (rows.map rwD)) rows->(∀r∈rows,BP j false r.1 r.2.2)->BP (j+1) false n (.tup [.str (Str.ofString "other"),.int d,pD A,.tup (rows.map rwD)])
theorem aGm:bP 2:=⟨by omega,fun d h1 h2=>by
 have:=Int.mul_le_mul h1 h1 (by omega) (by omega)
 omega⟩
theorem BP.pr {j:Nat} {fl:Bool} {n:Int} {d:Dt} (h:BP j fl n d):bP n:=by
 cases h with
 | two=>exact aGm
 | k3 p=>exact p
 | k4 p=>exact p
theorem BP.pap {j:Nat} {fl:Bool} {n:Int} {d:Dt} (h:BP j fl n d):PapG (wsF fl) n d:=by
 induction h with
 | two=>exact(aEv (aBv _)).mpr ⟨rfl,rfl⟩
 | @k3 j fl n z b rows p hz F c ih =>
  have hz':z=Str.ofString "full" \/ z=Str.ofString "share" := hz.elim .inl fun h=>.inr h.1
  refine(aEu ?_ hz').mpr ⟨b,_,rows,F,fun r hr=>by rw[sI];exact ih r hr⟩
  rcases hz with rfl | ⟨rfl,rfl⟩
  ·cases fl <;> decide
  ·decide
 | @k4 j n d A rows p F c ih =>
  exact(aCn (by decide)).mpr ⟨d,A,_,rows,F,fun r hr=>by rw[sI];exact ih r hr⟩
theorem BP.n3 {j:Nat} {fl:Bool} {n:Int} {d:Dt} (h:BP j fl n d):2<=n:=h.pr.1
theorem tY (d:Int) (A:PZ) (rows:List Row):cnD (.tup [.str (Str.ofString "other"),.int d,pD A,.tup (rows.map rwD)])=3+cnR rows:=by
 simp only[cnD,cnL,jL,pD]
 omega
theorem BP.cn {j:Nat} {fl:Bool} {n:Int} {d:Dt} (h:BP j fl n d):(n=2->cnD d=1)/\(n≠2->(2:Int)^(cnD d+3)<=n^10):=by
 induction h with
 | two=>exact⟨fun _=>by simp[cnD,cnL],fun z=>absurd rfl z⟩
 | @k3 j fl n z b rows p hz F c ih =>
  have n3:=F.n3
  refine⟨fun z=>by omega,fun _=>?_⟩
  have o:=fC p (by omega)
  have:=tZ (W:=n-1) n3 (by omega) (by omega) (by omega) F.rp.ne F.rp.up F.dv (fun r hr=>(c r hr).pr) ih
  rw[tX]
  have q:=cW (show (1:Int)<=2 by decide) (show 2+cnR rows+3<=3+cnR rows+3 by omega)
  omega
 | @k4 j n d A rows p F c ih =>
  have n3:=F.n3
  refine⟨fun z=>by omega,fun _=>?_⟩
  have o:=fC p (by omega)
  have:=tZ (W:=n+1) n3 (by omega) (by omega) (by omega) F.rp.ne F.rp.up (by rw[F.all];exact Int.emod_self) (fun r hr=>(c r hr).pr) ih
  rw[tY]
  exact this
theorem BP.cn300 {j:Nat} {fl:Bool} {n:Int} {d:Dt} (h:BP j fl n d) (n9:n<=10^9):cnD d<=300:=by
 have cn:=h.cn
 by_cases e2:n=2
 ·have:=cn.1 e2
  omega
 ·have g:=cn.2 e2
  have h5:=eB (show 0<=n by have:=h.n3;omega) n9 10
  have hb:((10:Int)^9)^10<2^300:=by decide +kernel
  refine Classical.byContradiction fun w=>?_
  have:=cW (show (1:Int)<=2 by decide) (show 300<=cnD d+3 by omega)
  omega
theorem BP.dep {j:Nat} {fl:Bool} {n:Int} {d:Dt} (h:BP j fl n d):dep d+2<=3*j:=by
 induction h with
 | @two k=>show 1+2<=3*(k+1);omega
 | @k3 k fl n z b rows p hz F c ih =>
  have e:=j9 (rows:=rows) (j:=3*k-2) fun r hr=>by have:=ih r hr;omega
  show max 0 (max 0 (max (depL (rows.map rwD)+1) 0))+1+2<=3*(k+1)
  cases rows with
  | nil=>exact absurd rfl F.rp.ne
  | cons r rs =>
   have:=ih r List.mem_cons_self
   omega
 | @k4 k n d A rows p F c ih =>
  have e:=j9 (rows:=rows) (j:=3*k-2) fun r hr=>by have:=ih r hr;omega
  show max 0 (max 0 (max 1 (max (depL (rows.map rwD)+1) 0)))+1+2<=3*(k+1)
  cases rows with
  | nil=>exact absurd rfl F.rp.ne
  | cons r rs =>
   have:=ih r List.mem_cons_self
   omega
theorem BP.len {j:Nat} {fl:Bool} {n:Int} {d:Dt} (h:BP j fl n d):bY d<=250*cnD d:=by
 induction h with
 | @two k =>
  show (10*(Str.ofString "two").length+2+2+0)+3<=250*(1+(0+0))
  have:(Str.ofString "two").length=3:=by rfl
  omega
 | @k3 k fl n z b rows p hz F c ih =>
  have e:=iM ih
  rw[tX]
  show (10*z.length+2+2+(101+2+(lenDL (rows.map rwD)+3+2+0)))+3<=250*(2+cnR rows)
  have:z.length<=5:=by
   rcases hz with rfl | ⟨rfl,_⟩
   ·decide
   ·decide
  omega
 | @k4 k n d A rows p F c ih =>
  have e:=iM ih
  rw[tY]
  show (10*(Str.ofString "other").length+2+2+(101+2+((101+2+(101+2+0))+3+2+(lenDL (rows.map rwD)+3+2+0))))+3<=250*(3+cnR rows)
  have:(Str.ofString "other").length=5:=by rfl
  omega
theorem BP.nl {j:Nat} {fl:Bool} {n:Int} {d:Dt} (h:BP j fl n d):noL d=true:=by
 induction h with
 | two=>rfl
 | @k3 k fl n z b rows p hz F c ih =>
  show (true&&(true&&(noLL (rows.map rwD)&&true)))=true
  rw[jA rows ih];rfl
 | @k4 k n d A rows p F c ih =>
  show (true&&(true&&(true&&(noLL (rows.map rwD)&&true))))=true
  rw[jA rows ih];rfl
mutual
theorem mC:∀d:Dt,noL d=true->noE d=true
 | .non,_=>rfl
 | .bl _,_=>rfl
 | .int _,_=>rfl
 | .str _,_=>rfl
 | .tup ds,h=>noEL_of_noLL ds h
 | .lst _,h=>by cases h
 | .emp,h=>by cases h
theorem noEL_of_noLL:∀ds:List Dt,noLL ds=true->noEL ds=true
 | [],_=>rfl
 | d::ds,h=>by
  have h:(noL d&&noLL ds)=true:=h
  rw[Bool.and_eq_true] at h
  show (noE d&&noEL ds)=true
  rw[mC d h.1,noEL_of_noLL ds h.2];rfl
end
theorem uX {d:Dt} (h:noL d=true):okR d=true:=by
 unfold okR
 rw[mC d h];rfl
theorem Step.tk {a:Addr} {H H':Hp} (h:StAt H a) (s:Step a H H'):TK H H':=fun b xs r=>by
 obtain⟨x,y,e,_⟩:=h
 have ne:∀u,H b=some u->u ≠ .lst [.int x,.int y]->b≠a:=fun u e' n z=>by rw[z,e] at e';cases e';exact n rfl
 rcases r with r | ⟨u,r⟩
 ·exact .inl (s.but b _ (ne _ r (by intro z;cases z)) r)
 ·exact .inr ⟨u,s.but b _ (ne _ r (by intro z;cases z)) r⟩
theorem Step.nn {a p:Addr} {H H':Hp} (s:Step a H H') (h:H' p=none):H p=none:=by
 cases e:H p with
 | none=>rfl
 | some o =>
  by_cases ne:p=a
  ·obtain⟨x,y,e',_⟩:=s.st
   rw[<- ne,h] at e'
   cases e'
  ·rw[s.but p o ne e] at h
   cases h
theorem StAt.ne {a p:Addr} {H:Hp} (h:StAt H a) (hp:H p=none):p≠a:=by
 obtain⟨x,y,e,_⟩:=h
 exact(aI e hp).symm
theorem Step.put {a p:Addr} {H H1:Hp} {o:HO} (s:Step a H H1) (hp:H p=none) (ne:p≠a):Step a H (upd H1 p o):=by
 obtain⟨x,y,e,r⟩:=s.st
 exact⟨⟨x,y,by rw[aO ne.symm];exact e,r⟩,fun b u hb e=>by rw[aO (aI e hp)];exact s.but b u hb e⟩
theorem eI {j:Nat} {fl:Bool} {rows:List Row} (h:∀r∈rows,BP j fl r.1 r.2.2):noLL (rows.map rwD)=true:=jA rows fun r hr=>(h r hr).nl
theorem rR:∀ {rows:List Row} {r:Row},r∈rows->1<=r.2.1->r.1∣prd rows
 | a::as,r,h,h1=>by
  show r.1∣a.1^a.2.1.toNat*prd as
  rcases List.mem_cons.mp h with e | h
  ·subst e
   obtain⟨k,hk⟩:∃k,r.2.1.toNat=k+1:=⟨r.2.1.toNat-1,by omega⟩
   rw[hk,Int.pow_succ]
   exact Int.dvd_trans (Int.dvd_mul_left _ _) (Int.dvd_mul_right _ _)
  ·exact Int.dvd_trans (rR h h1) (Int.dvd_mul_left _ _)
theorem aBu {p:Nat} {d:Int} {f:Nat} {u:PZ} {rows:List Row} (F:Fld p d) (hu:Uf p d f u) (ho:OrP p d u (p+1)) (up:dL 1 rows) (all:prd rows=(p:Int)+1):uC p d u rows:=by
 have p3:=F.p3
 refine⟨?_,fun r hr=>?_⟩
 ·rw[show ((p:Int)+1).toNat=p+1 by omega]
  exact(aEb p3).mpr (hu.home F)
 ·have a:=cE up r hr
  have:=ho.off (q:=r.1) (by omega) (by rw[<- all];exact rR hr a.2)
  refine aCs F fun z=>this ?_
  exact(fK (p:Int) (pw d u (((p:Int)+1)/r.1).toNat)).symm.trans z
theorem aC6 {p d:Int} (hp:bP p) (h3:3<=p) (d1:1<=d) (dn:d<=p-1) (h:d^((p-1)/2).toNat%p≠1):d^((p-1)/2).toNat%p=p-1:=by
 have od:=fC hp (by omega)
 have nd:¬ p∣d:=fun z=>by have:=Int.le_of_dvd (by omega) z;omega
 have c:=g5 hp nd
 rw[show (p-1).toNat=((p-1)/2).toNat+((p-1)/2).toNat by omega,Int.pow_add] at c
 generalize d^((p-1)/2).toNat=y at h c
 have d:p∣(y-1)*(y+1):=by
  have e:(y-1)*(y+1)=y*y-1:=by grind
  rw[e];exact c
 rcases bX hp d with h' | h'
 ·exact absurd ((aE3 hp.1).mpr h') h
 ·have h'':Cg p y (-1):=by
   unfold Cg
   rw[show y - -1=y+1 by omega];exact h'
  rw[f7 h'',mD h3]
theorem tK (x y p:Int):x%p*y%p=x*y%p:=by rw[Int.mul_emod,Int.emod_emod_of_dvd _ (Int.dvd_refl p),<- Int.mul_emod]
theorem aCo {p:Nat} {d:Int} (F:Fld p d) (f:Nat):Uf p d f (((f:Int)*f+d)*(((f:Int)*f-d)^((p:Int)-2).toNat%p)%p,2*(f:Int)*(((f:Int)*f-d)^((p:Int)-2).toNat%p)%p):=by
 have h:=aEw F f
 have e1:(MM.rp p (pm d ((f:Int),1) ((f:Int),1))).1=((f:Int)*f+d)%p:=by
  show ((f:Int)*f+d*1*1)%(p:Int)=_
  rw[Int.mul_one,Int.mul_one]
 have e2:(MM.rp p (pm d ((f:Int),1) ((f:Int),1))).2=(2*(f:Int))%p:=by
  show ((f:Int)*1+1*f)%(p:Int)=_
  rw[Int.mul_one,Int.one_mul,show (f:Int)+f=2*f by omega]
 rw[e1,e2,tK,tK] at h
 exact h
noncomputable def spHomed (K:PySem.W.Frag):Sp:=fun vs H Q _=>∃(st rw:Addr) (p:Nat) (rows:List Row),vs=[.ref st,.int (p:Int),.ref rw]/\(bP (p:Int)/\3<=p/\p<=10^8)/\(StAt H st/\Rep K H (.tup (rows.map rwD)) (.ref rw)/\noLL (rows.map rwD)=true)/\(RowsP (.tup (rows.map rwD)) ((p:Int)+1) rows/\prd rows=(p:Int)+1) /\
 ∀d A q r H',(1<=d/\d<=(p:Int)-1/\Int.gcd d p=1)->kI p A->(A.1*A.1-d*A.2*A.2)%(p:Int)=1->uC p d A rows->Step st H H'->H' q=some (.tup (pzV A))->H' r=some (.tup [.int d,.ref q])->Q (.ref r) H'
noncomputable abbrev s_q29:Stmt:=top 70
theorem sc_q29:FnScope ["_law_state_here","_law_n","_law_rows","_law_d","_law_part","_law_by","_law_pair"] ["_law_state_here","_law_n","_law_rows"] (aJ s_q29):=⟨rfl,rfl,rfl,by decide +kernel,rfl,by decide +kernel,by decide +kernel⟩
noncomputable abbrev Df_q29 (K:PySem.W.Frag) (mg:Str->Option Value) (f:Addr) (fd:FuncData):Prop:=Def K mg "_law_homed" s_q29 ["_law_state_here","_law_n","_law_rows"] f fd
theorem ok_q29 (D:Df_q29 K mg f fd) (T:Txt K mg t1 cl) (o1:O_q41 P w K mg base) (o2:O_q33 P w K mg base) (o3:O_q40 P w K mg base):FnOk P w K mg base CX0 4 f fd ["_law_state_here","_law_n","_law_rows"] (spHomed K):=by
 obtain⟨_,_,D_q41,G_q41⟩:=o1
 obtain⟨_,_,D_q33,G_q33⟩:=o2
 obtain⟨_,_,D_q40,G_q40⟩:=o3
 refine D.fn.ok sc_q29 (fun vs H Q E h=>?_) (fun cdv A outer s H vs Q E hr h=>?_)
 ·obtain⟨st,rw,p,rows,rfl,_⟩:=h
  rfl
 ·obtain⟨st,rw,p,rows,rfl,⟨hp,p3,p8⟩,⟨hst,Rw,nl⟩,⟨rp,all⟩,k⟩:=h
  refine⟨_,(aD (aU (i:=3) sc_q29.nd rfl (by subst_eqs) (aH bQ aB (aK (G_q41.mono (by omega)) hr rfl D_q41.mgx D_q41.fn.kp D_q41.bd .nil aR (aA (pv 0) (aA (aH bE (pv 1) aB) aF))))) (aD (cN PassesOwn.never (aL cC (aK (G_q33.mono (by omega)) hr rfl D_q33.mgx D_q33.fn.kp D_q33.bd .nil aR (aA (pv 3) (aA (aH cQ (aH bE (pv 1) aB) aB) (aA (pv 1) aF)))) aB (nomark _)) (aG (aU (i:=3) sc_q29.nd rfl (by subst_eqs) (aH bQ (aH bI (pv 3) (aH bE (pv 1) aB)) aB)))) (aD (aU (i:=4) sc_q29.nd rfl (by subst_eqs) (aK (G_q41.mono (by omega)) hr rfl D_q41.mgx D_q41.fn.kp D_q41.bd .nil aR (aA (pv 0) (aA (pv 1) aF)))) (aG (cN PassesOwn.never (bL bR) (aD (aU (i:=5) sc_q29.nd rfl (by subst_eqs) (aK (G_q33.mono (by omega)) hr rfl D_q33.mgx D_q33.fn.kp D_q33.bd .nil aR (aA (aH bE (aH aY (pv 4) (pv 4)) (pv 3)) (aA (aH bE (pv 1) aB) (aA (pv 1) aF))))) (aD (aU (i:=6) sc_q29.nd rfl (by subst_eqs) (bV (aA (aH bI (aH aY (aH bQ (aH aY (pv 4) (pv 4)) (pv 3)) (pv 5)) (pv 1)) (aA (aH bI (aH aY (aH aY aB (pv 4)) (pv 5)) (pv 1)) aF)))) (aD (bF (bL (aK (G_q40.mono (by omega)) hr rfl D_q40.mgx D_q40.fn.kp D_q40.bd .nil aR (aA (pv 1) (aA (pv 3) (aA (pv 6) (aA (pv 2) aF)))))) (aG (aN (bV (aA (pv 3) (aA (pv 6) aF))))) aT) (aG (aU (i:=4) sc_q29.nd rfl (by subst_eqs) (aH bI (aH bQ (pv 4) aB) (pv 1)))))))))))),?_⟩
  have e0:L2.start ["_law_state_here","_law_n","_law_rows","_law_d","_law_part","_law_by","_law_pair"] [.ref st,.int (p:Int),.ref rw]=[some (.ref st),some (.int (p:Int)),some (.ref rw),none,none,none,none]:=rfl
  rw[e0];clear e0
  refine aM fun R0 hR0=>?_
  bv_omega
  refine⟨st,(p:Int)-1,rfl,⟨by omega,by omega⟩,hst,fun x H1 x0 x1 s1=>⟨_,rfl,?_⟩⟩
  obtain⟨d0,d01,d0n,hd0⟩:=xI hp (show (3:Int)<=p by omega)
  subst hR0
  refine aM fun R0 hR0=>?_
  dsimp only[eO]
  obtain⟨W,hW⟩:∃W:Nat->St->Hp->Prop,∀m σ H',W m σ H'↔∃(d:Int),m=aBh d0 ((p:Int)-1) d/\σ=[some (V.ref st),some (V.int (p:Int)),some (V.ref rw),some (V.int d),none,none,none]/\(1<=d/\d<=(p:Int)-1)/\Step st H H':=⟨_,fun _ _ _=>Iff.rfl⟩
  refine⟨W,⟨_,(hW _ _ _).mpr ⟨1+x,rfl,rfl,⟨by omega,by omega⟩,s1⟩⟩,?_⟩
  intro m σ H' hw
  obtain⟨d,rfl,rfl,⟨d1,dn⟩,s2⟩:=(hW _ _ _).mp hw
  clear hw
  bv_omega
  refine⟨⟨by decide,by decide⟩,d,((p:Int)-1)/2,p,rfl,⟨by omega,by omega,by omega,by omega,by omega⟩,fun H2 S2=>⟨rfl,?_⟩⟩
  have s3:=s2.same S2
  by_cases hd:d^(((p:Int)-1)/2).toNat%(p:Int)=1
  case pos =>
   rw[if_pos (by rw[hd])]
   have ne:d≠d0:=fun e=>by rw[e,hd0] at hd;omega
   have c:=cyc d1 dn d01 d0n ne
   exact⟨fun σ' H2=>∃m',m'<aBh d0 ((p:Int)-1) d/\W m' σ' H2,fun _ _ h=>h,by omega,_,c.1,(hW _ _ _).mpr ⟨_,rfl,rfl,c.2,s3⟩⟩
  rw[if_neg (fun h=>hd (V.int.inj h))]
  have hJ:=aC6 hp (by omega) d1 dn hd
  have F:=aC8 hp p3 hJ
  have gd:Int.gcd d p=1:=mW hp fun z=>by have:=Int.le_of_dvd (by omega) z;omega
  obtain⟨f0,f0p,hf0⟩:=aC7 F
  clear hW W
  subst hR0
  refine aM fun R0 hR0=>?_
  bv_omega
  refine⟨st,p,rfl,⟨by omega,by omega⟩,s3.st,fun f1 H3 g0 g1 s4=>?_⟩
  subst hR0
  try dsimp only
  obtain⟨W,hW⟩:∃W:Nat->St->Hp->Prop,∀m σ H',W m σ H'↔∃(f:Int) (v5 v6:Option V),m=aBg f0 p f/\σ=[some (.ref st),some (.int (p:Int)),some (.ref rw),some (.int d),some (.int f),v5,v6]/\(0<=f/\f<p)/\Step st H H':=⟨_,fun _ _ _=>Iff.rfl⟩
  refine⟨W,⟨_,(hW _ _ _).mpr ⟨f1,none,none,rfl,rfl,⟨g0,g1⟩,s3.trans s4⟩⟩,?_⟩
  intro m σ H' hw
  obtain⟨f,v5,v6,rfl,rfl,⟨f0',f1'⟩,s5⟩:=(hW _ _ _).mp hw
  clear hw
  bv_omega
  have ff0:0<=f*f:=Int.mul_nonneg f0' f0'
  have ff1:f*f<=10^8*10^8:=Int.mul_le_mul (by omega) (by omega) f0' (by decide)
  obtain⟨fN,rfl⟩:∃fN:Nat,f=(fN:Int):=⟨f.toNat,by omega⟩
  refine⟨fun σ' H2=>∃m',m'<aBg f0 p fN/\W m' σ' H2,fun _ _ h=>h,.inr ⟨by omega,by omega⟩,_,_,_,rfl,⟨by omega,by omega,by omega,by omega,by omega⟩,fun H6 S6=>?_⟩
  have hu:=aCo F fN
  have nv0:=Int.emod_nonneg (((fN:Int)*fN-d)^((p:Int)-2).toNat) (show (p:Int)≠0 by omega)
  have nv1:=Int.emod_lt_of_pos (((fN:Int)*fN-d)^((p:Int)-2).toNat) (show 0<(p:Int) by omega)
  generalize ((fN:Int)*fN-d)^((p:Int)-2).toNat%(p:Int)=nv at hu nv0 nv1 ⊢
  refine⟨.inr ⟨by omega,by omega⟩,_,rfl,.inr ⟨by omega,by omega⟩,by omega,.inr ⟨by omega,by omega⟩,_,rfl,.inr ⟨by omega,by omega⟩,by omega,by show 2<=sizeLine;decide,fun p5 hp5=>?_⟩
  have S7:Same H' (upd H6 p5 (.tup [V.int (((fN:Int)*fN+d)*nv%p),V.int (2*(fN:Int)*nv%p)])):=fun b o e=>aW (S6 _ _ e) hp5
  have h5:(upd H6 p5 (.tup [V.int (((fN:Int)*fN+d)*nv%p),V.int (2*(fN:Int)*nv%p)])) p5=some (.tup (pzV (((fN:Int)*fN+d)*nv%p,2*(fN:Int)*nv%p))):=aE
  generalize upd H6 p5 (.tup [V.int (((fN:Int)*fN+d)*nv%p),V.int (2*(fN:Int)*nv%p)])=H7 at S7 h5 ⊢
  have s7:=s5.same S7
  have a0:=Int.emod_nonneg (((fN:Int)*fN+d)*nv) (show (p:Int)≠0 by omega)
  have a1:=Int.emod_lt_of_pos (((fN:Int)*fN+d)*nv) (show 0<(p:Int) by omega)
  have c0:=Int.emod_nonneg (2*(fN:Int)*nv) (show (p:Int)≠0 by omega)
  have c1:=Int.emod_lt_of_pos (2*(fN:Int)*nv) (show 0<(p:Int) by omega)
  have rest:kI p (((fN:Int)*fN+d)*nv%p,2*(fN:Int)*nv%p):=⟨a0,by show ((fN:Int)*fN+d)*nv%(p:Int)<=(p:Int)-1;omega,c0,by show 2*(fN:Int)*nv%(p:Int)<=(p:Int)-1;omega⟩
  refine⟨p,d,_,rows,p5,rw,rfl,⟨SqT.of h5,Rep.mono (s7.tk hst) (.tup (rows.map rwD)) nl Rw⟩,⟨by omega,by omega,d1,dn,rest,fun r hr=>?_⟩,fun go H8 S8=>⟨_,rfl,?_⟩,fun ngo H8 S8=>⟨_,rfl,?_⟩⟩
  ·have:=rp.often (by omega) r hr
   omega
  ·rw[if_pos rfl]
   refine⟨by show 2<=sizeLine;decide,fun r hr'=>?_⟩
   exact k d _ p5 r _ ⟨d1,dn,gd⟩ rest (hu.nm F) go ((s7.same S8).new hr') (aW (S8 _ _ h5) hr') aE
  ·rw[if_neg (by decide)]
   have ne:(fN:Int)≠f0:=fun e=>ngo (by
    have e:fN=f0:=by omega
    subst e
    exact aBu F hu (hf0 _ hu) rp.up all)
   have c:=cycz f0' f1' (show (0:Int)<=f0 by omega) (by omega) ne
   exact⟨by omega,_,c.1,(hW _ _ _).mpr ⟨_,_,_,rfl,rfl,c.2,s7.same S8⟩⟩
noncomputable abbrev O_q29 (P:Program) (w:World) (K:PySem.W.Frag) (mg:Str->Option Value) (base:Heap):Prop:=∃f fd,Df_q29 K mg f fd/\FnOk P w K mg base CX0 4 f fd ["_law_state_here","_law_n","_law_rows"] ((spHomed K))
theorem aBi {xs:List V} {k:Nat}:m7 xs (some (k:Int)) none=xs.drop k:=by
 unfold m7
 rw[HT.aB7,HT.zF]
 by_cases h:k<=xs.length
 ·rw[Nat.min_eq_left h,List.take_of_length_le (by rw[List.length_drop];exact Nat.le_refl _)]
 ·rw[Nat.min_eq_right (by omega),Nat.sub_self,List.take_zero,List.drop_of_length_le (by omega)]
theorem lV {H:Hp} {g:Int×Int->Dt}:∀ {l:List (Int×Int)} {xs:List V} (k:Nat),RepL K H (l.map g) xs->RepL K H ((l.drop k).map g) (xs.drop k)
 | [],xs,k,h=>by cases (show xs=[] from h);rw[List.drop_nil,List.drop_nil];rfl
 | d::ds,xs,0,h=>h
 | d::ds,xs,k+1,h=>by
  obtain⟨x,r,rfl,h1,h2⟩:=h
  exact lV k h2
structure Kinds (st:Addr) (H:Hp) (c:Addr) (fl:Bool) (ws:List Str):Prop where
 at':H c=some (.lst (ws.map V.str))
 nst:c≠st
 pos:0<ws.length
 len:ws.length<=10
 all:∀z∈ws,z=Str.ofString "full" \/ fl=false/\(z=Str.ofString "share" \/ z=Str.ofString "other")
theorem Kinds.step {st:Addr} {H H':Hp} {c:Addr} {fl:Bool} {ws:List Str} (h:Kinds st H c fl ws) (s:Step st H H'):Kinds st H' c fl ws:=⟨s.but _ _ h.nst h.at',h.nst,h.pos,h.len,h.all⟩
structure PartsOk (j:Nat) (n:Int) (z:Str) (l:List (Int×Int)):Prop where
 up:l.Pairwise fun a b=>a.1<b.1
 pr:∀q∈l,bP q.1/\q.1<=10^8/\q.1<=2^j/\1<=q.2
 len:l.length<30
 ne:l≠[]
 ful:z=Str.ofString "full" -> prod l=n-1
 oth:z=Str.ofString "other" -> prod l=n+1
 sha:z=Str.ofString "share" -> (n-1)%prod l=0/\n<prod l*prod l
theorem yP {x n:Int} (h0:0<=x) (h1:x<n) (n3:3<=n) (h:n∣x-1):x=1:=by
 obtain⟨k,hk⟩:=h
 by_cases k0:k=0
 ·rw[k0,Int.mul_zero] at hk;omega
 ·by_cases kp:0<k
  ·have:=Int.mul_le_mul_of_nonneg_left (show 1<=k by omega) (show 0<=n by omega)
   omega
  ·have:=Int.mul_le_mul_of_nonneg_left (show k <= -1 by omega) (show 0<=n by omega)
   omega
theorem mE {st L:Addr} {H:Hp} {xs:List V} {l:List (Int×Int)} (hst:StAt H st) (hL:H L=some (.lst xs)) (R:RepL K H (l.map pD) xs):L≠st:=fun e=>by
 obtain⟨x,y,hs,_⟩:=hst
 rw[<- e,hL] at hs
 cases hs
 cases l with
 | nil=>cases (show _=[] from R)
 | cons q l =>
  obtain⟨_,_,e,R,_⟩:=R
  cases e
  obtain⟨_,_,e,_⟩:=R
  cases e
noncomputable abbrev s_q35:Stmt:=top 71
theorem sc_q35:FnScope ["_law_state_here","_law_n","_law_kinds","_law_word_here","_law_parts_here","_law_some","_law_m","_law_prime_here","_law_often","_law_turn","_law_below","_law_rows","_law_d","_law_pair"] ["_law_state_here","_law_n","_law_kinds"] (aJ s_q35):=⟨rfl,rfl,rfl,by decide +kernel,rfl,by decide +kernel,by decide +kernel⟩
noncomputable abbrev Df_q35 (K:PySem.W.Frag) (mg:Str->Option Value) (f:Addr) (fd:FuncData):Prop:=Def K mg "_law_paper" s_q35 ["_law_state_here","_law_n","_law_kinds"] f fd
noncomputable def spLPA (j:Nat) (K:PySem.W.Frag):Sp:=fun vs H Q _=>∃(st c:Addr) (n:Int) (fl:Bool) (ws:List Str),vs=[.ref st,.int n,.ref c]/\(bP n/\n<=10^8/\n<=2^j/\StAt H st/\Kinds st H c fl ws)/\∀d v H',BP j fl n d->Step st H H'->Rep K H' d v->Q v H'
theorem ok_lpa0 {m:Nat}:FnOk P w K mg base CX0 m f fd ["_law_state_here","_law_n","_law_kinds"] (spLPA 0 K) :=
 ⟨fun vs H Q E h=>by obtain⟨st,c,n,fl,ws,rfl,_⟩:=h;rfl,fun A outer s H args us vs Q E hr e hb hv h=>by
  obtain⟨st,c,n,fl,ws,_,⟨hp,_,h1,_⟩,_⟩:=h
  have:=hp.1
  rw[Int.pow_zero] at h1
  omega⟩
theorem ok_lpas (D:Df_q35 K mg f fd) (T:Txt K mg t1 cl) (o1:O_q41 P w K mg base) (o2:O_q34 P w K mg base) (o3:O_q29 P w K mg base) (o4:O_q36 P w K mg base) {j m:Nat} (B_q35:∀b,FnOk P w K mg b CX0 (m+4) f fd ["_law_state_here","_law_n","_law_kinds"] (spLPA j K)):FnOk P w K mg base CX0 (m+5) f fd ["_law_state_here","_law_n","_law_kinds"] (spLPA (j+1) K):=by
 obtain⟨_,_,D_q41,G_q41⟩:=o1
 obtain⟨_,_,D_q34,G_q34⟩:=o2
 obtain⟨_,_,D_q29,G_q29⟩:=o3
 obtain⟨_,_,D_q36,G_q36⟩:=o4
 have D_q35:=D
 have G_q35:=B_q35 base
 refine D.fn.ok sc_q35 (fun vs H Q E h=>?_) (fun cdv A outer s H vs Q E hr h=>?_)
 ·obtain⟨st,c,n,fl,ws,rfl,_⟩:=h
  rfl
 ·obtain⟨st,c,n,fl,ws,rfl,⟨hp,n8,nj,hst,hk⟩,k⟩:=h
  have n2:=hp.1
  refine⟨_,(aD (bF (aL cC (pv 1) aB (nomark _)) (aG (aN (bV (aA bD aF)))) aT) (aD (aU (i:=3) sc_q35.nd rfl (by subst_eqs) (aV dD (pv 2) (aK (G_q41.mono (by omega)) hr rfl D_q41.mgx D_q41.fn.kp D_q41.bd .nil aR (aA (pv 0) (aA (aQ bB (by rfl) T.no_len PySem.boot_len (aA (pv 2) aF)) aF))) (fun _ _=>rfl))) (aD (aU (i:=4) sc_q35.nd rfl (by subst_eqs) (aK (G_q34.mono (by omega)) hr rfl D_q34.mgx D_q34.fn.kp D_q34.bd .nil aR (aA (eU (aL cV (pv 3) bD (nomark _)) (aH bE (pv 1) aB) (aH bQ (pv 1) aB)) aF))) (aD (bF (aL cC (pv 3) bD (nomark _)) (aD (aU (i:=5) sc_q35.nd rfl (by subst_eqs) (i7 aB3 (pv 4) (lA (aK (G_q41.mono (by omega)) hr rfl D_q41.mgx D_q41.fn.kp D_q41.bd .nil aR (aA (pv 0) (aA (aQ bB (by rfl) T.no_len PySem.boot_len (aA (pv 4) aF)) aF)))) lB)) (aD (aU (i:=6) sc_q35.nd rfl (by subst_eqs) aB) (aD (dN PassesOwn.never rfl (gW (pv 5)) (dU rfl (bC (aX (i:=7) sc_q35.nd rfl (by subst_eqs)) (bC (aX (i:=8) sc_q35.nd rfl (by subst_eqs)) cX))) (aG (dN PassesOwn.never rfl (jX rfl T.no_range (aA (pv 8) aF)) (aX (i:=9) sc_q35.nd rfl (by subst_eqs)) (aG (aU (i:=6) sc_q35.nd rfl (by subst_eqs) (aH aY (pv 6) (pv 7))))))) (aG (aU (i:=4) sc_q35.nd rfl (by subst_eqs) (eU (aL eL (aH aY (pv 6) (pv 6)) (pv 1) (nomark _)) (pv 5) (pv 4))))))) aT) (aD (aU (i:=10) sc_q35.nd rfl (by subst_eqs) (eU (aL cC (pv 3) bD (nomark _)) (cY (aA bD aF)) (pv 2))) (aD (aU (i:=11) sc_q35.nd rfl (by subst_eqs) (jY iA (by rfl) T.no_tuple PyProof.Rows.boot_tuple (aA (eV (N:=["_law_prime_here","_law_often","_law_state_here","_law_below"]) (js:=[none,none,some 0,some 10]) (by rfl) rfl (fun _=>rfl) (gW (pv 4)) (by intro b _ _ _ _;exact(vT (K:=K) (n:=2) rfl rfl (bC (aX (i:=0) (show List.Nodup (["_law_prime_here","_law_often","_law_state_here","_law_below"]:List Str) by decide) rfl (by subst_eqs)) (bC (aX (i:=1) (show List.Nodup (["_law_prime_here","_law_often","_law_state_here","_law_below"]:List Str) by decide) rfl (by subst_eqs)) cX)))) (by intro b _ _ _ _;exact l8) (by intro b _ _ _ _;exact(bV (aA (pv 0) (aA (pv 1) (aA (aK ((B_q35 b).mono (by omega)) hr rfl D_q35.mgx D_q35.fn.kp D_q35.bd .nil aR (aA (pv 2) (aA (pv 0) (aA (pv 3) aF)))) aF)))))) aF))) (aD (bF (aL cC (pv 3) bD (nomark _)) (aD (d9 (aK (G_q29.mono (by omega)) hr rfl D_q29.mgx D_q29.fn.kp D_q29.bd .nil aR (aA (pv 0) (aA (pv 1) (aA (pv 11) aF)))) (dU rfl (bC (aX (i:=12) sc_q35.nd rfl (by subst_eqs)) (bC (aX (i:=13) sc_q35.nd rfl (by subst_eqs)) cX)))) (aG (aN (bV (aA bD (aA (pv 12) (aA (pv 13) (aA (pv 11) aF)))))))) aT) (aG (aN (bV (aA (pv 3) (aA (aK (G_q36.mono (by omega)) hr rfl D_q36.mgx D_q36.fn.kp D_q36.bd .nil aR (aA (pv 0) (aA (pv 1) (aA (eV (N:=["_law_row"]) (js:=[none]) (by rfl) rfl (fun _=>rfl) (eE (pv 11)) (by intro b _ _ _ _;exact(aX (i:=0) (show List.Nodup (["_law_row"]:List Str) by decide) rfl (by subst_eqs))) (by intro b _ _ _ _;exact l8) (by intro b _ _ _ _;exact(aV (aZ (K:=K) rfl) (pv 0) aB (fun _ _=>rfl)))) aF)))) (aA (pv 11) aF))))))))))))),?_⟩
  have e0:L2.start ["_law_state_here","_law_n","_law_kinds","_law_word_here","_law_parts_here","_law_some","_law_m","_law_prime_here","_law_often","_law_turn","_law_below","_law_rows","_law_d","_law_pair"] [.ref st,.int n,.ref c]=[some (.ref st),some (.int n),some (.ref c),none,none,none,none,none,none,none,none,none,none,none]:=rfl
  rw[e0];clear e0
  refine aM fun R1 sq1=>?_
  bv_omega
  refine dY (fun h2=>?_) (fun h2=>?_)
  ·subst h2
   refine⟨by show 1<=sizeLine;decide,fun p hp'=>?_⟩
   exact k _ (.ref p) _ .two ((Step.refl hst).new hp') ⟨p,_,rfl,SqT.of aE,_,_,rfl,rfl,rfl⟩
  have n3:3<=n:=by omega
  have nod:=fC hp (by omega)
  subst sq1
  refine aM fun R1 sq1=>?_
  bv_omega
  refine⟨_,.inl (SqL.of hk.at'),st,_,rfl,⟨by rw[List.length_map];have:=hk.pos;omega,by rw[List.length_map];have:=hk.len;omega⟩,hst,fun x H1 x0 x1 s1=>?_⟩
  rw[List.length_map] at x1
  obtain⟨xn,rfl⟩:∃xn:Nat,x=(xn:Int):=⟨x.toNat,by omega⟩
  obtain⟨z,hz⟩:∃z,ws[xn]? = some z:=⟨_,List.getElem?_eq_getElem (by omega)⟩
  have hzk:=hk.all z (List.mem_of_getElem? hz)
  have hk1:=hk.step s1
  refine⟨_,_,rfl,SqL.of hk1.at',.str z,g9 (by rw[List.getElem?_map,hz];rfl),?_⟩
  subst sq1
  refine aM fun R1 sq1=>?_
  obtain⟨R2,sq2,sq1⟩:=dS sq1
  have hgo:∀(L:Addr) (l:List (Int×Int)) (xs:List V) (v5 v6 v7 v8 v9:Option V) (H2:Hp),Step st H H2->H2 L=some (.lst xs)->RepL K H2 (l.map pD) xs->PartsOk j n z l->R2 { nx:=fun x H'=>Q V.non H',rt:=Q } [some (V.ref st),some (V.int n),some (V.ref c),some (.str z),some (.ref L),v5,v6,v7,v8,v9,none,none,none,none] H2:=by
   intro L l xs v5 v6 v7 v8 v9 H2 s2 hL RL po
   have xl:xs.length=l.length:=by rw[<- RL.length,List.length_map]
   have nL:=mE s2.st hL RL
   have len:=po.len
   rw[sq2]
   refine aM fun R3 sq3=>?_
   bv_omega
   suffices hb:∀(b:Addr) (wb:List Str) (H3:Hp),Same H2 H3->Kinds st H3 b (decide (z=Str.ofString "full")) wb->R3 { nx:=fun x H'=>Q V.non H',rt:=Q } [some (V.ref st),some (V.int n),some (V.ref c),some (.str z),some (.ref L),v5,v6,v7,v8,v9,some (.ref b),none,none,none] H3 by
    by_cases zf:z=Str.ofString "full"
    ·rw[if_pos zf]
     refine⟨by show 1<=sizeLine;decide,fun p hp1=>?_⟩
     exact hb p [Str.ofString "full"] _ (fun b o e=>aW e hp1) ⟨aE,s2.st.ne hp1,by decide,by decide,fun y hy=>.inl (List.mem_singleton.mp hy)⟩
    ·rw[if_neg zf]
     have hf:fl=false:=(hzk.resolve_left zf).1
     refine hb c ws H2 (Same.refl _) ?_
     rw[decide_eq_false zf,<- hf]
     exact hk.step s2
   intro b wb H3 S3 hkb
   have s3:=s2.same S3
   have hL3:=S3 _ _ hL
   have RL3:=RepL.same S3 _ RL
   rw[sq3]
   refine aM fun R4 sq4=>?_
   bv_omega
   refine d8 ?_
   refine⟨_,rfl,L,rfl,⟨xs,SqL.of hL3⟩,fun bs D hcb hD=>?_⟩
   have nD:D≠st:=s3.st.ne hD
   have nLD:L≠D:=aI hL3 hD
   obtain⟨Pw,hPw⟩:∃Pw:Nat->St->Hp->Prop,∀i σ H5,Pw i σ H5↔(∃v1 v2,σ=[v1,v2,some (.ref st),some (.ref b)])/\Step st H3 H5/\∃(ys:List V) (rows:List Row),H5 D=some (.lst ys)/\RepL K H5 (rows.map rwD) ys/\rows.map rwP=l.take i/\∀r∈rows,BP j (decide (z=Str.ofString "full")) r.1 r.2.2:=⟨_,fun _ _ _=>Iff.rfl⟩
   refine kA (xs:=xs) Pw ((hPw _ _ _).mpr ⟨⟨_,_,rfl⟩,(Step.refl s3.st).new hD,[],[],aE,rfl,rfl,fun r hr=>by cases hr⟩) (fun i σ H5 hi h=>?_) ?_ ?_
   ·obtain⟨_,s5,_⟩:=(hPw _ _ _).mp h
    exact SqL.of (s5.but _ _ nL hL3)
   ·intro i x σ H5 hx h
    obtain⟨⟨v1,v2,rfl⟩,s5,ys,rows,eD,RD',er,hb⟩:=(hPw _ _ _).mp h
    obtain⟨q,cc,hq,rfl,hcc⟩:=e6 (RL3.mono (s5.tk s3.st) _ (fT l)) hx
    have hmem:q∈l:=List.mem_of_getElem? hq
    have h2:=po.pr q hmem
    have yl:ys.length<=l.length:=by
     have:=RD'.length
     have e2:=congrArg List.length er
     rw[List.length_map] at this e2
     rw[List.length_take] at e2
     omega
    rename_i CT aBy
    refine⟨_,hcc,rfl,_,_,rfl,_,_,rfl,rfl,?_⟩
    try bv_omega
    refine⟨st,b,q.1,_,wb,rfl,⟨h2.1,h2.2.1,h2.2.2.1,s5.st,hkb.step s5⟩,fun d v H6 bp s6 Rv=>⟨by show 3<=sizeLine;decide,fun r hr'=>?_⟩⟩
    have eD6:=s6.but _ _ nD eD
    have nrD:D≠r:=aI eD6 hr'
    have tk6:TK H6 (upd (upd H6 r (.tup [.int q.1,.int q.2,v])) D (.lst (ys++[.ref r]))):=(TK.new hr').trans (TK.lst (aW eD6 hr'))
    refine⟨ys,aW eD6 hr',bK (by omega),(hPw _ _ _).mpr ⟨⟨_,_,rfl⟩,((s5.trans s6).new hr').put hD nD,_,rows++[(q.1,q.2,d)],aE,?_,?_,?_⟩⟩
    ·rw[List.map_append]
     refine(RD'.mono ((s6.tk s5.st).trans tk6) _ (eI hb)).append ⟨_,[],rfl,⟨r,_,rfl,SqT.of (by rw[aO nrD.symm,aE]),_,_,rfl,rfl,_,_,rfl,rfl,_,_,rfl,Rep.mono tk6 _ bp.nl Rv,rfl⟩,rfl⟩
    ·rw[List.map_append,er,List.take_succ,hq];rfl
    ·intro r' hr2
     rcases List.mem_append.mp hr2 with h | h
     ·exact hb r' h
     ·rw[List.mem_singleton.mp h];exact bp
   intro σ H5 h
   obtain⟨⟨v1,v2,rfl⟩,s5,ys,rows,eD,RD',er,hb⟩:=(hPw _ _ _).mp h
   clear h hPw Pw
   rw[xl,List.take_length] at er
   have rlen:rows.length=l.length:=by rw[<- er,List.length_map]
   have ylen:ys.length=rows.length:=by rw[<- RD'.length,List.length_map]
   refine⟨D,rfl,ys,.inl ⟨SqL.of eD,fun tl htl=>?_⟩⟩
   have s6:Step st H (upd H5 tl (.tup ys)):=(s3.trans s5).new htl
   have h6:SqT K (upd H5 tl (.tup ys)) tl ys:=SqT.of aE
   have R6:=RD'.mono (TK.new (o:=.tup ys) htl) _ (eI hb)
   generalize upd H5 tl (.tup ys)=H6 at s6 h6 R6 ⊢
   have up:dL 1 rows:=r9 (by rw[er];exact po.up) fun r hr=>by
    have hm:rwP r∈l:=by rw[<- er];exact List.mem_map_of_mem hr
    have a:=po.pr _ hm
    exact⟨a.1.1,a.2.2.2⟩
   have pe:prd rows=prod l:=by rw[qM,er]
   have rne:rows≠[]:=fun e=>po.ne (by rw[<- er,e];rfl)
   clear RD' eD hcb hD
   rw[sq4]
   refine aM fun R5 sq5=>?_
   bv_omega
   by_cases zo:z=Str.ofString "other"
   ·rw[if_pos zo]
    have hf:fl=false:=(hzk.resolve_left (by rw[zo];exact ws_ne5.symm)).1
    subst zo
    subst hf
    have all:prd rows=n+1:=by rw[pe];exact po.oth rfl
    have rp:RowsP (.tup (rows.map rwD)) (n+1) rows:=⟨rfl,rne,up,by omega⟩
    obtain⟨pN,rfl⟩:∃pN:Nat,n=(pN:Int):=⟨n.toNat,by omega⟩
    refine⟨st,tl,pN,rows,rfl,⟨hp,by omega,by omega⟩,⟨s6.st,⟨tl,ys,rfl,h6,R6⟩,eI hb⟩,⟨rp,all⟩,fun d A q r H7 hd rest nm go s7 hq hr=>?_⟩
    refine⟨r,rfl,_,SqT.of hr,rfl,_,_,rfl,_,_,rfl,rfl,by show 4<=sizeLine;decide,fun u hu=>?_⟩
    have tk7:=s7.tk s6.st
    have hb':∀r∈rows,BP j false r.1 r.2.2:=fun r hr=>by have:=hb r hr;rw[decide_eq_false ws_ne5.symm] at this;exact this
    exact k _ (.ref u) _ (.k4 hp ⟨rfl,rp,hd.1,hd.2.1,all,by omega,rest,nm,hd.2.2,go⟩ hb') ((s6.trans s7).new hu) ⟨u,_,rfl,SqT.of aE,_,_,rfl,rfl,_,_,rfl,rfl,_,_,rfl,dA (aW hq hu),_,_,rfl,⟨tl,ys,rfl,(TK.new hu).sq (tk7.sq h6),R6.mono (tk7.trans (TK.new hu)) _ (eI hb)⟩,rfl⟩
   rw[if_neg zo]
   have zk:z=Str.ofString "full" \/ z=Str.ofString "share" /\ fl=false:=by
    rcases hzk with h | ⟨h1,h | h⟩
    ·exact .inl h
    ·exact .inr ⟨h,h1⟩
    ·exact absurd h zo
   have dv:(n-1)%prd rows=0:=by
    rw[pe]
    rcases zk with h | h
    ·rw[po.ful h];exact Int.emod_self
    ·exact(po.sha h.1).1
   have p1:=cO (by decide) up
   have ple:prd rows<=n-1:=Int.le_of_dvd (by omega) (Int.dvd_of_emod_eq_zero dv)
   have rp:RowsP (.tup (rows.map rwD)) (n-1) rows:=⟨rfl,rne,up,ple⟩
   rw[sq5]
   bv_omega
   refine d8 ?_
   refine⟨_,rfl,tl,rfl,⟨ys,h6⟩,fun bs2 D2 hcb2 hD2=>?_⟩
   obtain⟨Pv,hPv⟩:∃Pv:Nat->St->Hp->Prop,∀i σ H3,Pv i σ H3↔(∃v1,σ=[v1])/\Same H6 H3/\H3 D2=some (.lst (((rows.take i).map Prod.fst).map V.int)):=⟨_,fun _ _ _=>Iff.rfl⟩
   refine jK (xs:=ys) Pv ((hPv _ _ _).mpr ⟨⟨none,rfl⟩,fun b o e=>aW e hD2,aE⟩) (fun i σ H' hi h=>((hPv _ _ _).mp h).2.1.tk.sq h6) ?_ ?_
   ·intro i x σ H3 hx h
    obtain⟨⟨v1,rfl⟩,S3,d3⟩:=(hPv _ _ _).mp h
    obtain⟨r,hr,Rr⟩:=rw_get (RepL.same S3 _ R6) hx
    have il:i<rows.length:=(List.getElem?_eq_some_iff.mp hr).1
    obtain⟨c2,zs,rfl,hc2,_,_,rfl,rfl,_,_,rfl,rfl,z2,_,rfl,R8,rfl⟩:=Rr
    rename_i CT aBy
    refine⟨c2,_,_,_,rfl,rfl,hc2,rfl,_,d3,bK (by rw[List.length_map,List.length_map,List.length_take];omega),(hPv _ _ _).mpr ⟨⟨_,rfl⟩,fun b o e=>?_,?_⟩⟩
    ·rw[aO (aI e hD2)];exact S3 _ _ e
    ·rw[aE,List.take_succ,hr,List.map_append,List.map_append];rfl
   intro σ H7 h
   obtain⟨⟨v1,rfl⟩,S7,d7⟩:=(hPv _ _ _).mp h
   rw[ylen,List.take_length] at d7
   clear h hPv Pv
   have s7:=s6.same S7
   have nD2:D2≠st:=s6.st.ne hD2
   refine⟨st,D2,n,rows.map Prod.fst,rfl,⟨s7.st,nD2,d7,by rw[List.length_map];omega⟩,⟨hp,by omega,by omega,fun q hq=>?_⟩,fun bb H8 b1 bn off s8=>⟨by show 3<=sizeLine;decide,fun u hu=>?_⟩⟩
   ·obtain⟨r,hr,rfl⟩:=List.mem_map.mp hq
    have a:=cE up r hr
    exact⟨by omega,Int.dvd_trans (rR hr a.2) (Int.dvd_of_emod_eq_zero dv)⟩
   have tk8:=s8.tk s7.st
   have S7tk:=S7.tk
   have home:bb^(n-1).toNat%n=1:=by
    refine(aE3 hp.1).mpr (g5 hp fun h=>?_)
    have:=Int.le_of_dvd (by omega) h
    omega
   have go:aD1 n z bb rows:=by
    refine⟨home,?_⟩
    have off':∀r∈rows,bb^((n-1)/r.1).toNat%n≠1:=fun r hr=>off r.1 (List.mem_map_of_mem (f:=Prod.fst) hr)
    rcases zk with h | h
    ·exact .inl ⟨h,off'⟩
    ·refine .inr ⟨by rw[h.1];exact ws_ne4.symm,fun r hr=>mW hp fun hd=>off' r hr ?_⟩
     have e0:=Int.emod_nonneg (bb^((n-1)/r.1).toNat) (show n≠0 by omega)
     have e1:=Int.emod_lt_of_pos (bb^((n-1)/r.1).toNat) (show 0<n by omega)
     exact yP e0 e1 n3 hd
   refine k _ (.ref u) _ (.k3 hp zk ⟨rfl,rp,b1,bn,dv,fun h=>?_,fun h=>by omega,fun h=>?_,go⟩ hb) ((s7.trans s8).new hu) ⟨u,_,rfl,SqT.of aE,_,_,rfl,rfl,_,_,rfl,rfl,_,_,rfl,⟨tl,ys,rfl,(TK.new hu).sq (tk8.sq (S7tk.sq h6)),R6.mono ((S7tk.trans tk8).trans (TK.new hu)) _ (eI hb)⟩,rfl⟩
   ·rcases zk with h' | h'
    ·rw[pe];exact po.ful h'
    ·exact absurd h'.1 h
   ·rw[pe];exact(po.sha h).2
  bv_omega
  by_cases zo:z=Str.ofString "other"
  ·rw[if_neg (by rw[zo];exact fun h=>h rfl)]
   refine⟨n+1,rfl,⟨by omega,by omega⟩,fun l L xs H2 hl S2 hL RL=>?_⟩
   rw[sq1]
   bv_omega
   rw[if_neg (by rw[zo];exact ws_ne6.symm)]
   refine hgo L l xs _ _ _ _ _ H2 (s1.same S2) hL RL ⟨hl.1.up,fun q hq=>⟨(hl.1.pr q hq).1,?_,uT hp n3 nj hl hq,(hl.1.pr q hq).2⟩,gX hl.1.pr (by rw[hl.2];omega),fun e=>?_,fun h=>absurd (h.symm.trans zo) ws_ne5,fun _=>hl.2,fun h=>absurd (h.symm.trans zo) ws_ne6⟩
   ·have:=(gI hl hq).1
    omega
   ·have:=hl.2
    rw[e] at this
    have e1:prod []=1:=rfl
    omega
  rw[if_pos zo]
  refine⟨n-1,rfl,⟨by omega,by omega⟩,fun l L xs H2 hl S2 hL RL=>?_⟩
  have hpr:∀q∈l,bP q.1/\q.1<=10^8/\q.1<=2^j/\1<=q.2:=fun q hq=>⟨(hl.1.pr q hq).1,by have:=(gI hl hq).1;omega,xX hp nj hl hq,(hl.1.pr q hq).2⟩
  have len:=gX hl.1.pr (show prod l<=10^9 by rw[hl.2];omega)
  have lne:l≠[]:=fun e=>by
   have:=hl.2
   rw[e] at this
   have e1:prod []=1:=rfl
   omega
  have s2:=s1.same S2
  have whole:PartsOk j n z l:=⟨hl.1.up,hpr,len,lne,fun _=>hl.2,fun h=>absurd h zo,fun _=>⟨by rw[hl.2];exact Int.emod_self,by
   rw[hl.2]
   have:=Int.mul_le_mul_of_nonneg_right (show 2<=n-1 by omega) (show 0<=n-1 by omega)
   omega⟩⟩
  rw[sq1]
  rename_i tSl kD eZ
  by_cases zs:z=Str.ofString "share"
  case neg =>
   rw[if_neg zs]
   exact hgo L l xs _ _ _ _ _ H2 s2 hL RL whole
  rw[if_pos zs]
  have xl:xs.length=l.length:=by rw[<- RL.length,List.length_map]
  have lp:0<l.length:=List.length_pos_iff.mpr lne
  refine⟨xs,.inl (SqL.of hL),st,_,rfl,⟨by omega,by omega⟩,s2.st,fun y H3 y0 y1 s3=>?_⟩
  obtain⟨yn,rfl⟩:∃yn:Nat,y=(yn:Int):=⟨y.toNat,by omega⟩
  have nL:=mE s2.st hL RL
  have hL3:=s3.but _ _ nL hL
  have RL3:=RL.mono (s3.tk s2.st) _ (fT l)
  have s03:=s2.trans s3
  refine⟨_,rfl,L,xs,rfl,SqL.of hL3,fun p hp4=>?_⟩
  rw[aBi]
  have tk4:TK H3 (upd H3 p (.lst (xs.drop yn))):=TK.new hp4
  have hL4:(upd H3 p (.lst (xs.drop yn))) L=some (.lst xs):=aW hL3 hp4
  have hS4:(upd H3 p (.lst (xs.drop yn))) p=some (.lst (xs.drop yn)):=aE
  have s4:Step st H (upd H3 p (.lst (xs.drop yn))):=s03.new hp4
  have RL4:=RL3.mono tk4 _ (fT l)
  generalize upd H3 p (.lst (xs.drop yn))=H4 at tk4 hL4 hS4 s4 RL4 ⊢
  have RS4:=lV yn RL4
  obtain⟨lS,hlS⟩:∃lS,lS=l.drop yn:=⟨_,rfl⟩
  obtain⟨xS,hxS⟩:∃xS,xS=xs.drop yn:=⟨_,rfl⟩
  rw[<- hlS,<- hxS] at RS4
  rw[<- hxS] at hS4
  have mS:∀q∈lS,q∈l:=fun q hq=>by rw[hlS] at hq;exact List.mem_of_mem_drop hq
  have lSne:lS≠[]:=fun e=>by
   have:=congrArg List.length e
   rw[hlS,List.length_drop] at this
   have e0:([]:List (Int×Int)).length=0:=rfl
   omega
  have pS:=dE (l:=lS) fun q hq=>hl.1.pr q (mS q hq)
  have pT:=dE (l:=l.take yn) fun q hq=>hl.1.pr q (List.mem_of_mem_take hq)
  have pTS:prod (l.take yn)*prod lS=n-1:=by rw[hlS,<- iE,List.take_append_drop,hl.2]
  have pSn:prod lS<=n-1:=by
   have:=Int.mul_le_mul_of_nonneg_right pT (show 0<=prod lS by omega)
   omega
  have xSl:xS.length=lS.length:=by rw[<- RS4.length,List.length_map]
  have lSl:lS.length<=l.length:=by rw[hlS,List.length_drop];omega
  refine lL (K:=K) ?_
  bv_omega
  refine⟨⟨_,SqL.of hS4⟩,?_⟩
  obtain⟨Pm,hPm⟩:∃Pm:Nat->St->Hp->Prop,∀i σ H',Pm i σ H'↔H'=H4/\∃v7 v8 v9:Option V,σ=[some (V.ref st),some (V.int n),some (V.ref c),some (V.str z),some (V.ref L),some (V.ref p),some (V.int (prod (lS.take i))),v7,v8,v9,none,none,none,none]:=⟨_,fun _ _ _=>Iff.rfl⟩
  refine u9 (xs:=xS) Pm ((hPm _ _ _).mpr ⟨rfl,none,none,none,rfl⟩) (fun i σ H' _ hP=>by rw[((hPm _ _ _).mp hP).1];exact SqL.of hS4) ?_ ?_
  ·intro i x σ H5 hx hP
   obtain⟨rfl,v7,v8,v9,rfl⟩:=(hPm _ _ _).mp hP
   obtain⟨q,cc,hq,rfl,hcc⟩:=e6 RS4 hx
   have qm:=mS q (List.mem_of_getElem? hq)
   have qp:=hpr q qm
   have q2':=qp.1.1
   have qq:=(gI hl qm).2
   have tk:lS.take (i+1)=lS.take i++[q]:=by rw[List.take_succ,hq];rfl
   have pi1:=dE (l:=lS.take i) fun q hq=>hl.1.pr q (mS q (List.mem_of_mem_take hq))
   have pd1:=dE (l:=lS.drop (i+1)) fun q hq=>hl.1.pr q (mS q (List.mem_of_mem_drop hq))
   have pe:prod (lS.take i)*q.1^q.2.toNat<=n-1:=by
    have e:prod lS=prod (lS.take i)*q.1^q.2.toNat*prod (lS.drop (i+1)):=by
     have:prod (lS.take (i+1))=prod (lS.take i)*q.1^q.2.toNat:=by rw[tk];exact l5 _ q
     rw[<- this,<- iE,List.take_append_drop]
    have g0:0<=prod (lS.take i)*q.1^q.2.toNat:=Int.mul_nonneg (by omega) (Int.le_of_lt (by have:=cG (show 1<=q.1 by omega) q.2.toNat;omega))
    have:=Int.mul_le_mul_of_nonneg_left pd1 g0
    omega
   bv_omega
   refine⟨_,hcc,rfl,_,_,rfl,_,_,rfl,rfl,?_⟩
   refine lK ?_
   bv_omega
   obtain⟨Pn,hPn⟩:∃Pn:Nat->St->Hp->Prop,∀k σ H',Pn k σ H'↔H'=H5/\∃v9:Option V,σ=[some (V.ref st),some (V.int n),some (V.ref c),some (V.str z),some (V.ref L),some (V.ref p),some (V.int (prod (lS.take i)*q.1^k)),some (V.int q.1),some (V.int q.2),v9,none,none,none,none]:=⟨_,fun _ _ _=>Iff.rfl⟩
   refine⟨by omega,by omega,aA6 Pn ((hPn _ _ _).mpr ⟨rfl,_,by rw[Int.pow_zero,Int.mul_one]⟩) ?_ ?_⟩
   ·intro k' σ H6 hk' hP
    obtain⟨rfl,v9,rfl⟩:=(hPn _ _ _).mp hP
    bv_omega
    have b1:prod (lS.take i)*q.1^k'<=prod (lS.take i)*q.1^q.2.toNat:=Int.mul_le_mul_of_nonneg_left (cW (show 1<=q.1 by omega) (by omega)) (by omega)
    have b0:0<=prod (lS.take i)*q.1^k':=Int.mul_nonneg (by omega) (Int.le_of_lt (by have:=cG (show 1<=q.1 by omega) k';omega))
    exact⟨.inr ⟨by omega,by omega⟩,(hPn _ _ _).mpr ⟨rfl,_,by rw[Int.pow_succ,Int.mul_assoc]⟩⟩
   ·intro σ H6 hP
    obtain⟨rfl,v9,rfl⟩:=(hPn _ _ _).mp hP
    have e:prod (lS.take (i+1))=prod (lS.take i)*q.1^q.2.toNat:=by rw[tk];exact l5 _ q
    exact(hPm _ _ _).mpr ⟨rfl,some (V.int q.1),some (V.int q.2),v9,by rw[e]⟩
  ·intro σ H5 hP
   obtain⟨rfl,v7,v8,v9,rfl⟩:=(hPm _ _ _).mp hP
   rw[xSl,List.take_length]
   bv_omega
   refine⟨.inr ⟨by omega,by omega⟩,?_⟩
   refine dY (fun hbig=>?_) (fun _=>?_)
   ·refine hgo p lS xS _ _ _ _ _ H5 s4 hS4 RS4 ⟨by rw[hlS];exact hl.1.up.sublist (List.drop_sublist _ _),fun q hq=>hpr q (mS q hq),by omega,lSne,fun h=>absurd (h.symm.trans zs) ws_ne4,fun h=>absurd h zo,fun _=>⟨?_,by omega⟩⟩
    rw[<- pTS];exact Int.mul_emod_left _ _
   ·exact hgo L l xs _ _ _ _ _ H5 s4 hL4 RL4 whole
theorem ok_q35 (D:Df_q35 K mg f fd) (T:Txt K mg t1 cl) (o1:∀b,O_q41 P w K mg b) (o2:∀b,O_q34 P w K mg b) (o3:∀b,O_q29 P w K mg b) (o4:∀b,O_q36 P w K mg b):∀(j:Nat) (b:Heap),FnOk P w K mg b CX0 (j+4) f fd ["_law_state_here","_law_n","_law_kinds"] (spLPA j K)
 | 0,_=>ok_lpa0
 | j+1,b=>ok_lpas (m:=j) D T (o1 b) (o2 b) (o3 b) (o4 b) fun b=>ok_q35 D T o1 o2 o3 o4 j b
noncomputable abbrev O_q35 (P:Program) (w:World) (K:PySem.W.Frag) (mg:Str->Option Value) (base:Heap):Prop:=∃f fd,Df_q35 K mg f fd/\FnOk P w K mg base CX0 24 f fd ["_law_state_here","_law_n","_law_kinds"] ((spLPA 20 K))
mutual
noncomputable def paD:Dt->Bool
 | .int i=>decide (i.natAbs<10^31)
 | .str z=>decide (z∈cT)
 | .tup ds=>decide (ds.length<=300)&&paL ds
 | _=>false
noncomputable def paL:List Dt->Bool
 | []=>true
 | d::ds=>paD d&&paL ds
end
theorem vV:∀ {ds:List Dt},paL ds=true->∀d∈ds,paD d=true
 | x::xs,h,d,hd=>by
  have h:(paD x&&paL xs)=true:=h
  rw[Bool.and_eq_true] at h
  rcases List.mem_cons.mp hd with e | hd
  ·rw[e];exact h.1
  ·exact vV h.2 d hd
theorem aAb:∀ {ds:List Dt},(∀d∈ds,paD d=true)->paL ds=true
 | [],_=>rfl
 | x::xs,h=>by
  show (paD x&&paL xs)=true
  rw[h x List.mem_cons_self,aAb fun d hd=>h d (List.mem_cons_of_mem x hd)];rfl
theorem okW:∀z∈cT,okD (.str z)=true/\z.length<=5:=by
 intro z hz
 unfold cT at hz
 simp only[List.mem_cons,List.not_mem_nil,or_false] at hz
 rcases hz with rfl | rfl | rfl | rfl <;> exact⟨rfl,by decide⟩
mutual
theorem aAc:∀d:Dt,paD d=true->okD d=true/\noL d=true
 | .int i,h=>by
  have h:i.natAbs<10^31:=of_decide_eq_true h
  exact⟨decide_eq_true (show i.natAbs<10^100 by omega),rfl⟩
 | .str z,h=>⟨(okW z (of_decide_eq_true h)).1,rfl⟩
 | .tup ds,h=>by
  have h:(decide (ds.length<=300)&&paL ds)=true:=h
  rw[Bool.and_eq_true] at h
  exact paL_ok ds h.2
 | .non,h=>by cases h
 | .bl _,h=>by cases h
 | .lst _,h=>by cases h
 | .emp,h=>by cases h
theorem paL_ok:∀ds:List Dt,paL ds=true->okDL ds=true/\noLL ds=true
 | [],_=>⟨rfl,rfl⟩
 | d::ds,h=>by
  have h:(paD d&&paL ds)=true:=h
  rw[Bool.and_eq_true] at h
  have a:=aAc d h.1
  have b:=paL_ok ds h.2
  refine⟨?_,?_⟩
  ·show (okD d&&okDL ds)=true
   rw[a.1,b.1];rfl
  ·show (noL d&&noLL ds)=true
   rw[a.2,b.2];rfl
end
theorem tF {rows:List Row} (h:∀r∈rows,r.1.natAbs<10^31/\r.2.1.natAbs<10^31/\paD r.2.2=true):paL (rows.map rwD)=true:=aAb fun d hd=>by
 obtain⟨r,hr,rfl⟩:=List.mem_map.mp hd
 obtain⟨a,b,c⟩:=h r hr
 show (decide (3<=300)&&(decide (r.1.natAbs<10^31)&&(decide (r.2.1.natAbs<10^31)&&(paD r.2.2&&true))))=true
 rw[decide_eq_true a,decide_eq_true b,c];rfl
theorem BP.pa {j:Nat} {fl:Bool} {n:Int} {d:Dt} (h:BP j fl n d):n<=10^9->paD d=true:=by
 induction h with
 | @two k=>intro _;decide
 | @k3 k fl n z b rows p hz F c ih =>
  intro hn
  have b1:=F.b1
  have b2:=F.bn
  have rl:=gR F.rp (by omega)
  have e:=tF (rows:=rows) fun r hr=>by
   have a:=F.rp.often (by omega) r hr
   exact⟨by omega,by omega,ih r hr (by omega)⟩
  have zz:z∈cT:=by rcases hz with rfl | ⟨rfl,_⟩ <;> decide
  show (decide (3<=300)&&(decide (z∈cT)&&(decide (b.natAbs<10^31)&&((decide ((rows.map rwD).length<=300)&&paL (rows.map rwD))&&true))))=true
  rw[decide_eq_true zz,decide_eq_true (show b.natAbs<10^31 by omega),e,decide_eq_true (show (rows.map rwD).length<=300 by rw[List.length_map];omega)];rfl
 | @k4 k n d A rows p F c ih =>
  intro hn
  have b1:=F.d1
  have b2:=F.dn
  have n3:=F.n3
  have o:=fC p (by omega)
  obtain⟨a0,a1,c0,c1⟩:=F.rest
  have rl:=gR F.rp (by omega)
  have e:=tF (rows:=rows) fun r hr=>by
   have a:=F.rp.often (by omega) r hr
   exact⟨by omega,by omega,ih r hr (by omega)⟩
  show (decide (4<=300)&&(decide (Str.ofString "other" ∈ cT)&&(decide (d.natAbs<10^31)&&((decide (2<=300)&&(decide (A.1.natAbs<10^31)&&(decide (A.2.natAbs<10^31)&&true)))&&((decide ((rows.map rwD).length<=300)&&paL (rows.map rwD))&&true)))))=true
  rw[decide_eq_true (show d.natAbs<10^31 by omega),decide_eq_true (show A.1.natAbs<10^31 by omega),decide_eq_true (show A.2.natAbs<10^31 by omega),e,decide_eq_true (show (rows.map rwD).length<=300 by rw[List.length_map];omega)];rfl
theorem tH:∀a b:List Dt,noLL (a++b)=(noLL a&&noLL b)
 | [],b=>rfl
 | d::ds,b=>by
  show (noL d&&noLL (ds++b))=((noL d&&noLL ds)&&noLL b)
  rw[tH ds b,Bool.and_assoc]
structure Tp (ds:List Dt):Prop where
 pa:paL ds=true
 ln:ds.length<=300
 len:lenDL ds<=76000
 dep:depL ds<=65
 cn:cnL ds<=310
structure Fine (k:Nat) (d:Dt):Prop where
 ok:okD d=true
 r:okR d=true
 len:bY d<=160000+80000*k
 dep:L2.dep d<=70+k
 cn:cnD d<=700+320*k
theorem wG:∀ {ds:List Dt} {d:Dt},d∈ds->bY d+2<=lenDL ds
 | x::xs,d,h=>by
  show bY d+2<=bY x+2+lenDL xs
  rcases List.mem_cons.mp h with e | h
  ·rw[e];omega
  ·have:=wG h;omega
theorem aAs:∀ {ds:List Dt} {d:Dt},d∈ds->cnD d<=cnL ds
 | x::xs,d,h=>by
  rw[show cnL (x::xs)=cnD x+cnL xs by simp[cnL]]
  rcases List.mem_cons.mp h with e | h
  ·rw[e];omega
  ·have:=aAs h;omega
structure Nice (d:Dt):Prop where
 ok:okD d=true
 r:okR d=true
 len:bY d<=1000000
 dep:dep d<99
 cn:cnD d<=20000
section
variable {K:PySem.W.Frag}
end
noncomputable def aEx:Dt:=.tup [.str (Str.ofString "two")]
noncomputable def fD (b:Int) (rows:List Row):Dt:=.tup [.str (Str.ofString "full"),.int b,.tup (rows.map rwD)]
noncomputable def p3D:Dt:=fD 2 [(2,1,aEx)]
noncomputable def p7D:Dt:=fD 3 [(2,1,aEx),(3,1,p3D)]
noncomputable def aGn:Dt:=fD 3 [(2,4,aEx)]
noncomputable def smB:List (Int×Dt):=[(7,p7D),(17,aGn)]
structure SmOk (e:Int×Dt):Prop where
 pap:PapG fullWs e.1 e.2
 pa:paD e.2=true
 len:bY e.2<=3000
 dep:L2.dep e.2<=20
 cn:cnD e.2<=30
 p:2<=e.1/\e.1<=17
theorem prd_snoc:∀(rows:List Row) (r:Row),prd (rows++[r])=prd rows*r.1^r.2.1.toNat
 | [],r=>by show r.1^r.2.1.toNat*1=1*r.1^r.2.1.toNat;rw[Int.mul_one,Int.one_mul]
 | a::as,r=>by
  show a.1^a.2.1.toNat*prd (as++[r])=a.1^a.2.1.toNat*prd as*r.1^r.2.1.toNat
  rw[prd_snoc as r,Int.mul_assoc]
structure MI (m pr:Int):Prop where
 m1:1<=m
 m2:m<=17*10^30
 eq:m<10^30->m=pr
section
variable {K:PySem.W.Frag}
variable {σ:St} {H:Hp}
end
theorem Step.fr {a:Addr} {H3 H4 H5:Hp} (s:Step a H4 H5) (h:StAt H3 a):Same (frH H3 H4) H5:=fun b o e=>by
 obtain⟨h1,h2⟩:=lC e
 exact s.but b o (h.ne h1) h2
theorem Step.fr2 {a:Addr} {H3 H4 H5:Hp} (s:Step a H4 H5) (h:StAt H3 a):Same (frH H3 H4) (frH H3 H5):=fun b o e=>by
 obtain⟨h1,h2⟩:=lC e
 exact j8 h1 (s.but b o (h.ne h1) h2)
theorem aAv {σ:St} {H:Hp} {ta:TA} {ds:List Dt} {g:TG} {D:Ends} (hl:ds.length<=1000) (h:u6 K ta ds) (q:∀p vs H',Same H H'->H p=none->H' p=some (.lst vs)->RepL K (frH H H') ds vs->g (.ref p) σ H' fun σ2 H2=>D.nx σ2 H2):iT (jS ta) g D σ H :=
 h σ H _ fun vs H2 S2 R2=>⟨by rw[<- R2.length];exact Nat.le_of_lt (bK hl),fun p hp=>by
  have S3:Same H2 (upd H2 p (.lst vs)):=fun b o e=>aW e hp
  exact q p vs _ (S2.trans S3) (i9 S2 hp) aE (RepL.sm (pK S3) ds R2)⟩
theorem aDf {σ:St} {H:Hp} {i:Nat} {l:Addr} {xs:List V} {ta:TA} {tb:TE} {ds:List Dt} {Q:VK} (hv:σ[i]? = some (some (.ref l))) (hL:H l=some (.lst xs)) (hl:xs.length+ds.length<=1000) (h:u6 K ta ds)
  (q:∀p vs H',Same H H'->H p=none->H' p=some (.lst (xs++vs))->RepL K (frH H H') ds vs->tb σ H' fun y H2=>lW K (.ref p) y H2 Q):tOp (lW K) (tOp nM (dZ i) (jS ta)) tb σ H Q :=
 ⟨_,hv,h σ H _ fun vs H2 S2 R2=>⟨by rw[<- R2.length];exact Nat.le_of_lt (bK (by omega)),fun p hp=>by
  have S3:Same H2 (upd H2 p (.lst vs)):=fun b o e=>aW e hp
  refine⟨l,p,xs,vs,rfl,rfl,S3 _ _ (S2 _ _ hL),aE,Nat.le_of_lt (bK (by rw[<- R2.length];exact hl)),fun p2 hp2=>?_⟩
  have S4:Same (upd H2 p (.lst vs)) (upd (upd H2 p (.lst vs)) p2 (.lst (xs++vs))):=fun b o e=>aW e hp2
  exact q p2 vs _ (S2.trans (S3.trans S4)) (i9 (S2.trans S3) hp2) aE (RepL.sm (pK (S3.trans S4)) ds R2)⟩⟩
noncomputable def aAk:List Dt:=[.non,.bl true,.int 0,.int 2,.str (Str.ofString "two"),.str (Str.ofString ""),.tup [],.lst [],.emp,.tup [.tup []],.tup [.str (Str.ofString "two"),.int 1],.lst [.str (Str.ofString "two")],.tup [.str (Str.ofString "full")],.tup [.str (Str.ofString "share"),.int 1,.tup []],.int (10^59)]
noncomputable def aAj:List Dt:=[.tup [.str (Str.ofString "other"),.int 1,.tup [.int 1,.int 0],.tup []]]
noncomputable def aBa (d:Dt):Bool:=okD d&&(okR d&&(decide (bY d<=1000)&&(decide (L2.dep d<=10)&&decide (cnD d<=20))))
theorem aA9 {d:Dt} (h:aBa d=true):Nice d:=by
 unfold aBa at h
 simp only[Bool.and_eq_true,decide_eq_true_eq] at h
 exact⟨h.1,h.2.1,by have:=h.2.2.1;omega,by have:=h.2.2.2.1;omega,by have:=h.2.2.2.2;omega⟩
theorem aAi:∀d∈aAk++aAj,Nice d:=fun d hd=>aA9 (List.all_eq_true.mp (show (aAk++aAj).all aBa=true by decide +kernel) d hd)
theorem yG:isD K (tOp (rI aGf fun i j=>V.int (i^j.toNat)) (tC (V.int 10)) (tC (V.int 59))) (.int (10^59)):=fun σ H Q h=>⟨10,59,rfl,rfl,⟨by decide,by decide,by decide⟩,h _ H (Same.refl H) rfl⟩
noncomputable abbrev s_q47:Stmt:=top 72
theorem sc_q47:FnScope ["_law_state_here","_law_some"] ["_law_state_here"] (aJ s_q47):=⟨rfl,rfl,rfl,by decide +kernel,rfl,by decide +kernel,by decide +kernel⟩
noncomputable abbrev Df_q47 (K:PySem.W.Frag) (mg:Str->Option Value) (f:Addr) (fd:FuncData):Prop:=Def K mg "_law_odd" s_q47 ["_law_state_here"] f fd
noncomputable def spOdd (K:PySem.W.Frag):Sp:=fun vs H Q _=>∃(st:Addr),vs=[.ref st]/\StAt H st/\∀d v H',Nice d->Step st H H'->Rep K (frH H H') d v->Q v H'
theorem ok_q47 (D:Df_q47 K mg f fd) (T:Txt K mg t1 cl) (o1:O_q41 P w K mg base):FnOk P w K mg base CX0 2 f fd ["_law_state_here"] (spOdd K):=by
 obtain⟨_,_,D_q41,G_q41⟩:=o1
 refine D.fn.ok sc_q47 (fun vs H Q E h=>?_) (fun cdv A outer s H vs Q E hr h=>?_)
 ·obtain⟨st,rfl,_⟩:=h
  rfl
 ·obtain⟨st,rfl,hst,k⟩:=h
  refine aF7 (b8 (eT (i:=1) sc_q47.nd rfl (by subst_eqs) (eN (aC aD9 (aC sU (aC bO (aC bO (aC cD (aC cD (aC (bT aS) (aC (eN aS) (aC aB5 (aC (bT (aC (bT aS) aS)) (aC (bT (aC cD (aC bO aS))) (aC (eN (aC cD aS)) (aC (bT (aC cD aS)) (aC (bT (aC cD (aC bO (aC (bT aS) aS)))) (aC (eK jZ bO bO) aS))))))))))))))))) (fO (qG (oS dD (eK iJ (sv 1) (eN (aC (bT (aC cD (aC bO (aC (bT (aC bO (aC bO aS))) (aC (bT aS) aS))))) aS))) (cJ (G_q41.mono (by decide)) hr rfl D_q41.mgx D_q41.fn.kp D_q41.bd .nil aR (aC (sv 0) (aC bO aS))) (fun _ _=>rfl))))) ?_
  have e0:L2.start ["_law_state_here","_law_some"] [.ref st]=[some (.ref st),none]:=rfl
  rw[e0];clear e0
  refine aM fun R0 hR0=>?_
  dsimp only[eO]
  refine aAv (K:=K) (ds:=aAk) (by decide) ?_ fun L xs H1 S1 f1 hL1 R1=>?_
  ·unfold aAk
   repeat' (first | exact aC0 | exact wP | exact aFc | exact wO | exact aC2 | exact yG | exact tS | refine pI ?_ ?_ | refine wN (by decide) ?_ | refine aC1 (by decide) ?_)
  dsimp only[eM,List.set_cons_zero,List.set_cons_succ]
  subst hR0
  have xl:xs.length=15:=R1.length.symm
  refine aDf (K:=K) (ds:=aAj) rfl hL1 (by rw[xl];decide) ?_ fun p vs H2 S2 f2 hp2 R2=>?_
  ·unfold aAj
   repeat' (first | exact wP | exact wO | exact tS | refine pI ?_ ?_ | refine wN (by decide) ?_)
  bv_omega
  have st2:StAt H2 st:=((Step.refl hst).same (S1.trans S2)).st
  refine⟨st,16,rfl,⟨by decide,by decide⟩,st2,fun x H3 x0 x1 s3=>?_⟩
  obtain⟨xn,rfl⟩:∃xn:Nat,x=(xn:Int):=⟨x.toNat,by omega⟩
  have vl:vs.length=1:=R2.length.symm
  have np:p≠st:=fun e=>by rw[e] at f2;obtain⟨u,v,q,_⟩:=((Step.refl hst).same S1).st;rw[f2] at q;cases q
  have RA:RepL K (frH H H2) (aAk++aAj) (xs++vs):=RepL.append (RepL.sm (pK S2) _ R1) (RepL.sm (aDw S1) _ R2)
  have RA3:=RepL.sm (s3.fr2 hst) _ RA
  obtain⟨v,hv⟩:∃v,(xs++vs)[xn]? = some v:=⟨_,List.getElem?_eq_getElem (by rw[List.length_append];omega)⟩
  obtain⟨d,hd,Rd⟩:=dM RA3 hv
  refine⟨_,_,rfl,SqL.of (s3.but _ _ np hp2),_,g9 hv,?_⟩
  exact k d v H3 (aAi d (List.mem_of_getElem? hd)) (((Step.refl hst).same (S1.trans S2)).trans s3) Rd
noncomputable abbrev O_q47 (P:Program) (w:World) (K:PySem.W.Frag) (mg:Str->Option Value) (base:Heap):Prop:=∃f fd,Df_q47 K mg f fd/\FnOk P w K mg base CX0 2 f fd ["_law_state_here"] ((spOdd K))
noncomputable def Tyd (K:PySem.W.Frag) (a:Addr) (H:Hp) (v:V):Prop:=(∃n,TyOf K H v (.type n))/\∀p,v=.ref p->p≠a
noncomputable abbrev s_q46:Stmt:=top 53
theorem sc_q46:FnScope ["_law_state_here","_law_low","_law_high","_law_some"] ["_law_state_here","_law_low","_law_high"] (aJ s_q46):=⟨rfl,rfl,rfl,by decide +kernel,rfl,by decide +kernel,by decide +kernel⟩
noncomputable abbrev Df_q46 (K:PySem.W.Frag) (mg:Str->Option Value) (f:Addr) (fd:FuncData):Prop:=Def K mg "_law_none" s_q46 ["_law_state_here","_law_low","_law_high"] f fd
noncomputable def spNone (K:PySem.W.Frag):Sp:=fun vs H Q _=>∃(a:Addr) (lo hi:Int),vs=[.ref a,.int lo,.int hi]/\(-(10^40)<=lo/\lo<=hi/\hi<=10^40)/\StAt H a/\∀v H',Step a H H'->Tyd K a H' v->dG v lo hi=false->Q v H'
theorem ok_q46 (D:Df_q46 K mg f fd) (T:Txt K mg t1 cl) (o1:O_q41 P w K mg base):FnOk P w K mg base CX0 2 f fd ["_law_state_here","_law_low","_law_high"] (spNone K):=by
 obtain⟨_,_,D_q41,G_q41⟩:=o1
 refine D.fn.ok sc_q46 (fun vs H Q E h=>?_) (fun cdv A outer s H vs Q E hr h=>?_)
 ·obtain⟨a,lo,hi,rfl,_⟩:=h
  rfl
 ·obtain⟨a,lo,hi,rfl,⟨b1,b2,b3⟩,hst,k⟩:=h
  refine⟨_,(aD (aU (i:=3) sc_q46.nd rfl (by subst_eqs) (cY (aA (aH bE (pv 1) aB) (aA (aH bQ (pv 2) aB) (aA bR (aA bR (aA iI (aA (jY rY (by rfl) T.no_str PyProof.Rows.boot_str (aA (pv 1) aF)) (aA (bV (aA (pv 1) aF)) (aA (cY (aA (pv 2) aF)) (aA (aH jZ aB aB) (aA (aH bE aB (aH jZ aB aB)) (aA vU (aA bD aF)))))))))))))) (aG (aN (aV dD (pv 3) (aK (G_q41.mono (by decide)) hr rfl D_q41.mgx D_q41.fn.kp D_q41.bd .nil aR (aA (pv 0) (aA aB aF))) (fun _ _=>rfl))))),?_⟩
  have e0:L2.start ["_law_state_here","_law_low","_law_high","_law_some"] [.ref a,.int lo,.int hi]=[some (.ref a),some (.int lo),some (.int hi),none]:=rfl
  rw[e0];clear e0
  bv_omega
  refine⟨Nat.lt_trans (eF (by omega)) (by decide),by show 1<=sizeLine;decide,fun p hp=>⟨by show 1<=sizeLine;decide,fun p1 hp1=>⟨⟨by decide,by decide,by decide⟩,⟨by decide,by decide,by decide⟩,fun p2 hp2=>⟨by show 12<=sizeLine;decide,fun p3 hp3=>⟨a,_,rfl,⟨by decide,by decide⟩,(((hst.upd hp).upd hp1).upd hp2).upd hp3,fun r H2 r0 r1 S2=>?_⟩⟩⟩⟩⟩
  have S:=((((Step.refl hst).new hp).new hp1).new hp2).new hp3 |>.trans S2
  obtain⟨x,y,ha,_⟩:=hst
  have n0:p≠a:=(aI ha hp).symm
  have n1:p1≠a:=(aI (keep ha hp) hp1).symm
  have n2:p2≠a:=(aI (keep (keep ha hp) hp1) hp2).symm
  have n3:p3≠a:=(aI (keep (keep (keep ha hp) hp1) hp2) hp3).symm
  have g0:=S2.but p _ n0 (keep (keep (keep aE hp1) hp2) hp3)
  have g1:=S2.but p1 _ n1 (keep (keep aE hp2) hp3)
  have g2:=S2.but p2 _ n2 (keep aE hp3)
  have g3:=S2.but p3 _ n3 aE
  refine⟨_,r,rfl,SqL.of g3,?_⟩
  have hr':r=0\/r=1\/r=2\/r=3\/r=4\/r=5\/r=6\/r=7\/r=8\/r=9\/r=10\/r=11:=by omega
  have si:∀i:Int,Tyd K a H2 (.int i):=fun i=>⟨⟨_,.int _⟩,fun p e=>nomatch e⟩
  rcases hr' with rfl | rfl | rfl | rfl | rfl | rfl | rfl | rfl | rfl | rfl | rfl | rfl
  ·exact⟨_,rfl,k _ _ S (si _) (by rw[dG,decide_eq_false (by omega)];rfl)⟩
  ·exact⟨_,rfl,k _ _ S (si _) (by rw[dG,decide_eq_false (show ¬ hi+1<=hi by omega),Bool.and_false])⟩
  ·exact⟨_,rfl,k _ _ S ⟨⟨_,.bl _⟩,fun p e=>nomatch e⟩ rfl⟩
  ·exact⟨_,rfl,k _ _ S ⟨⟨_,.bl _⟩,fun p e=>nomatch e⟩ rfl⟩
  ·exact⟨_,rfl,k _ _ S ⟨⟨_,.non⟩,fun p e=>nomatch e⟩ rfl⟩
  ·exact⟨_,rfl,k _ _ S ⟨⟨_,.str _⟩,fun p e=>nomatch e⟩ rfl⟩
  ·exact⟨_,rfl,k _ _ S ⟨⟨_,.tup g0⟩,fun p e=>by cases e;exact n0⟩ rfl⟩
  ·exact⟨_,rfl,k _ _ S ⟨⟨_,.lst g1⟩,fun p e=>by cases e;exact n1⟩ rfl⟩
  ·exact⟨_,rfl,k _ _ S (si _) (by rw[dG,decide_eq_false (show ¬ (100000000000000000000000000000000000000000000000000000000000:Int)<=hi by omega),Bool.and_false])⟩
  ·exact⟨_,rfl,k _ _ S (si _) (by rw[dG,decide_eq_false (by omega)];rfl)⟩
  ·exact⟨_,rfl,k _ _ S ⟨⟨_,.dK g2⟩,fun p e=>by cases e;exact n2⟩ rfl⟩
  ·exact⟨_,rfl,k _ _ S ⟨⟨_,.str _⟩,fun p e=>nomatch e⟩ rfl⟩
noncomputable abbrev O_q46 (P:Program) (w:World) (K:PySem.W.Frag) (mg:Str->Option Value) (base:Heap):Prop:=∃f fd,Df_q46 K mg f fd/\FnOk P w K mg base CX0 2 f fd ["_law_state_here","_law_low","_law_high"] (spNone K)
noncomputable def aFq:TE:=fun σ H Q=>∃nm lo hi,σ[3]? = some (some (.str nm))/\σ[1]? = some (some (.int lo))/\σ[2]? = some (some (.int hi))/\(nm.length<=100/\lo.natAbs<10^100/\hi.natAbs<10^100)/\∀z,Q (.str z) H
theorem aCw {a b:Str} (ha:a.length<=100) (hb:b.length<=100):∀ σ H Q,aFq σ H Q->e8 (kM (dZ 3)) (e8 (tC (.str a)) (e8 (kM (dZ 1)) (e8 (tC (.str b)) (e8 (kM (dZ 2)) oI)))) Str.empty σ H Q:=by
 rintro σ H Q ⟨nm,lo,hi,e1,e2,e3,⟨b3,b1,b2⟩,k⟩
 have l1:(Str.ofString (toString lo)).length<=101:=jR b1
 have l2:(Str.ofString (toString hi)).length<=101:=jR b2
 have e0:Str.empty.length=0:=rfl
 have sz:∀ {x:Str},x.length<=1000->x.length<=sizeLine:=fun h=>Nat.le_of_lt (bK h)
 refine⟨_,e1,.inl ⟨nm,rfl,sz (by omega),nm,rfl,sz ?_,a,rfl,sz ?_,_,e2,.inr ⟨lo,rfl,b1,_,rfl,sz ?_,b,rfl,sz ?_,_,e3,.inr ⟨hi,rfl,b2,_,rfl,sz ?_,sz ?_,k _⟩⟩⟩⟩ <;> simp only[Str.length_append,e0] <;> omega
noncomputable def spWantBX (K:PySem.W.Frag) (cl:Cl):Sp:=fun vs H Q E=>∃(x:V) (n:String) (lo hi:Int) (nm:Str),vs=[x,.int lo,.int hi,.str nm]/\TyOf K H x (.type n)/\(lo.natAbs<10^100/\hi.natAbs<10^100/\nm.length<=100)/\dG x lo hi=false/\E (.ref cl.nn) none H
theorem ok_want_betweenX (D:Df_q13 K mg f fd) (T:Txt K mg t1 cl) (o1:O_q26 P w K mg base):FnOk P w K mg base (CXE P w) 3 f fd ["thing","least","most","name"] (spWantBX K cl):=by
 obtain⟨_,_,D_q26,G_q26⟩:=o1
 refine D.fn.okX sc_q13 (fun vs H Q E h=>?_) (fun cdv A outer s H vs Q E hr h=>?_)
 ·obtain⟨x,n,lo,hi,nm,rfl,_⟩:=h
  rfl
 ·obtain⟨x,n,lo,hi,nm,rfl,ty,⟨b1,b2,b3⟩,bN,k2⟩:=h
  refine⟨_,(aG (bF (bH (bL (aK (G_q26.mono (by decide)) hr rfl D_q26.mgx D_q26.fn.kp D_q26.bd .nil aR (aA (pv 0) (aA (pv 1) (aA (pv 2) aF)))))) (aG (zO xR rfl rfl T.mg_NoNumber T.xc_NoNumber (z4 (t':=aFq) (xW (i5 (uR (pv 3)) (i5 bD (i5 (uR (pv 1)) (i5 bD (i5 (uR (pv 2)) aEm)))))) (aCw (by decide) (by decide))))) aT)),?_⟩
  have e0:L2.start ["thing","least","most","name"] [x,.int lo,.int hi,.str nm]=[some (x),some (.int lo),some (.int hi),some (.str nm)]:=rfl
  rw[e0];clear e0
  bv_omega
  refine⟨x,n,lo,hi,rfl,.inl ty,_,rfl,?_⟩
  rw[bN,if_pos rfl]
  exact⟨_,_,_,rfl,rfl,rfl,⟨b3,b1,b2⟩,fun _=>k2⟩
noncomputable def spWantX (K:PySem.W.Frag) (cl:Cl) (lo hi:Int):Sp:=fun vs H Q E=>∃(x:V) (n:String) (nm:Str),vs=[x,.str nm]/\TyOf K H x (.type n)/\nm.length<=100/\dG x lo hi=false/\E (.ref cl.nn) none H
theorem ok_want_numberX (D:Df_q21 K mg f fd) (T:Txt K mg t1 cl) {f1 fd1} (D_q13:Df_q13 K mg f1 fd1) (G_q13:FnOk P w K mg base (CXE P w) 3 f1 fd1 ["thing","least","most","name"] (spWantBX K cl)):FnOk P w K mg base (CXE P w) 4 f fd ["thing","name"] (spWantX K cl 1 1000000000000000000000000000000):=by
 refine D.fn.okX sc_q21 (fun vs H Q E h=>?_) (fun cdv A outer s H vs Q E hr h=>?_)
 ·obtain⟨x,n,nm,rfl,_⟩:=h
  rfl
 ·obtain⟨x,n,nm,rfl,ty,hb,bN,k2⟩:=h
  refine⟨_,(aG (eP (aK (G_q13.mono (by decide)) hr rfl D_q13.mgx D_q13.fn.kp D_q13.bd .nil (oX (fun _ _ _ h=>h)) (aA (pv 0) (aA aB (aA (cZ (v:=.int _) rfl T.mg_MOST ⟨_,rfl⟩) (aA (pv 1) aF))))))),?_⟩
  have e0:L2.start ["thing","name"] [x,.str nm]=[some (x),some (.str nm)]:=rfl
  rw[e0];clear e0
  bv_omega
  exact⟨x,n,_,_,nm,rfl,ty,⟨by decide,by decide,hb⟩,bN,k2⟩
noncomputable def spFullX (K:PySem.W.Frag) (cl:Cl):Sp:=fun vs H Q E=>∃(x u:V) (n:String),vs=[x,u]/\TyOf K H x (.type n)/\dG x 1 1000000000000000000000000000000=false/\E (.ref cl.nn) none H
theorem ok_is_otherX (D:Df_q42 K mg f fd) (T:Txt K mg t1 cl) {f1 fd1} (D_q21:Df_q21 K mg f1 fd1) (G_q21:FnOk P w K mg base (CXE P w) 4 f1 fd1 ["thing","name"] (spWantX K cl 1 1000000000000000000000000000000)) (o2:O_q8 P w K mg base):FnOk P w K mg base (CXE P w) 8 f fd ["n","thing"] (spFullX K cl):=by
 obtain⟨_,_,D_q8,G_q8⟩:=o2
 refine D.fn.okX sc_q42 (fun vs H Q E h=>?_) (fun cdv A outer s H vs Q E hr h=>?_)
 ·obtain⟨x,u,n,rfl,_⟩:=h
  rfl
 ·obtain⟨x,u,n,rfl,ty,bN,k2⟩:=h
  refine⟨_,(aD (eP (aK (G_q21.mono (by decide)) hr rfl D_q21.mgx D_q21.fn.kp D_q21.bd .nil (oX (fun _ _ _ h=>h)) (aA (pv 0) (aA bD aF)))) (aG (aN (aK (G_q8.mono (by decide)) hr rfl D_q8.mgx D_q8.fn.kp D_q8.bd .nil aR (aA (pv 0) (aA (pv 1) (aA (bV (aA bD aF)) aF))))))),?_⟩
  have e0:L2.start ["n","thing"] [x,u]=[some (x),some (u)]:=rfl
  rw[e0];clear e0
  bv_omega
  exact⟨x,_,_,rfl,ty,by decide,bN,k2⟩
structure WordC (K:PySem.W.Frag) (cl:Cl) (C:Addr) (i:Nat):Prop where
 xc:XCls K C
 ex:PySem.W.exmOne K (.ref C) (.ref cl.pe)=some true
 ve:PySem.W.kitOne K (.ref C) (.type "ValueError")=some true
 k0:PySem.W.kitOne K (.ref C) (.ref cl.nn)=some (decide (i=0))
 k1:PySem.W.kitOne K (.ref C) (.ref cl.np)=some (decide (i=1))
 k2:PySem.W.kitOne K (.ref C) (.ref cl.pa)=some (decide (i=2))
 k3:PySem.W.kitOne K (.ref C) (.ref cl.pp)=some (decide (i=3))
 k4:PySem.W.kitOne K (.ref C) (.ref cl.nb)=some (decide (i=4))
 k5:PySem.W.kitOne K (.ref C) (.ref cl.nt)=some (decide (i=5))
 k6:PySem.W.kitOne K (.ref C) (.ref cl.nl)=some (decide (i=6))
 k7:PySem.W.kitOne K (.ref C) (.ref cl.nm)=some (decide (i=7))
 k8:PySem.W.kitOne K (.ref C) (.ref cl.nd)=some (decide (i=8))
 k9:PySem.W.kitOne K (.ref C) (.ref cl.tg)=some (decide (i=9))
noncomputable def uD (i:Nat):Str:=if i=0 then "number" else "paper"
theorem lN {n:Nat} (h:n<=1000):n<=sizeLine:=Nat.le_of_lt (bK h)
theorem vK {H H2:Hp} {a p1 p2:Addr} {x o u:HO} (s:Same H H2) (e:H2 a=some x) (h1:H2 p1=none) (h2:(upd H2 p1 o) p2=none):∃H3,Same H H3/\H3 a=some x/\H3 p2=some u/\H3=upd (upd H2 p1 o) p2 u/\H p2=none:=by
 have st:∀b y,H2 b=some y->(upd (upd H2 p1 o) p2 u) b=some y:=fun b y q=>by
  have n1:=aI q h1
  have q1:(upd H2 p1 o) b=some y:=by rw[aO n1];exact q
  rw[aO (aI q1 h2)]
  exact q1
 refine⟨_,fun b y q=>st b y (s b y q),st a x e,aE,rfl,?_⟩
 cases q:H p2 with
 | none=>rfl
 | some y =>
  have q2:=s p2 y q
  rw[aO (aI q2 h1),q2] at h2
  cases h2
noncomputable abbrev s_q39:Stmt:=top 52
theorem sc_q39:FnScope ["_law_call","_law_error","e","_law_marks","_law_words"] ["_law_call"] (aJ s_q39):=⟨rfl,rfl,rfl,by decide +kernel,rfl,by decide +kernel,by decide +kernel⟩
noncomputable abbrev Df_q39 (K:PySem.W.Frag) (mg:Str->Option Value) (f:Addr) (fd:FuncData):Prop:=Def K mg "_law_word" s_q39 ["_law_call"] f fd
noncomputable def spWord (P:Program) (w:World) (K:PySem.W.Frag) (mg:Str->Option Value) (cl:Cl) (b:Heap):Sp:=fun vs H Q _=>∃(fl:Addr) (fdl:FuncData) (spL:Sp) (C:Addr) (i:Nat),vs=[.ref fl]/\H fl=some (sG fl fdl)/\FnOk P w K mg b (CXE P w) 11 fl fdl [] spL/\Binds K fdl [] []/\WordC K cl C i/\(i=0\/i=3) /\
 (∀R:XK,R (.ref C) none H->spL [] H (fun _ _=>False) R)/\∀H'',Same H H''->Q (.str (uD i)) H''
theorem mU {K:PySem.W.Frag} {H:Hp} {a C:Addr} {c:V} {u:Value} {b:Bool} {Q:VK} (ha:H a=some (f6 none a (.ref C))) (xc:XCls K C) (ec:yQ c=some u) (hk:PySem.W.kitOne K (.ref C) u=some b) (q:Q (.bl b) H):aDp K [.ref a,c] H Q:=⟨a,C,none,c,u,b,rfl,ha,(fun d e=>by cases e),xc,ec,hk,q⟩
theorem ok_q39 (D:Df_q39 K mg f fd) (T:Txt K mg t1 cl):FnOk P w K mg base CX0 12 f fd ["_law_call"] (spWord P w K mg cl base):=by
 refine D.fn.ok sc_q39 (fun vs H Q E h=>?_) (fun cdv A outer s H vs Q E hr h=>?_)
 ·obtain⟨fl,fdl,spL,C,i,rfl,_⟩:=h
  rfl
 ·obtain⟨fl,fdl,spL,C,i,rfl,hfl,F,hB,W,hi,kE,k⟩:=h
  refine⟨_,(aD (aU (i:=1) sc_q39.nd rfl (by subst_eqs) iI) (aD (aCf (ie:=2) sc_q39.nd rfl rfl rfl rfl rfl rfl rfl T.mg_PrimeError (zL (i:=0) rfl (Or.inl rfl) hr) (fun v=>(aG (aU (i:=1) sc_q39.nd rfl (by subst_eqs) (pv 2))))) (aD (bF (aEg (aEs (pv 1))) (aG (aN iI)) aT) (aD (aU (i:=3) sc_q39.nd rfl (by subst_eqs) (cY (aA (aQ bZ (by rfl) T.no_isinstance PyProof.Rows.boot_isinstance (aA (pv 1) (aA (cZ (v:=.ref _) rfl T.mg_NoNumber rfl) aF))) (aA (aQ bZ (by rfl) T.no_isinstance PyProof.Rows.boot_isinstance (aA (pv 1) (aA (cZ (v:=.ref _) rfl T.mg_NoPrime rfl) aF))) (aA (aQ bZ (by rfl) T.no_isinstance PyProof.Rows.boot_isinstance (aA (pv 1) (aA (cZ (v:=.ref _) rfl T.mg_NoPair rfl) aF))) aF))))) (aD (aU (i:=3) sc_q39.nd rfl (by subst_eqs) (aH iJ (pv 3) (cY (aA (aQ bZ (by rfl) T.no_isinstance PyProof.Rows.boot_isinstance (aA (pv 1) (aA (cZ (v:=.ref _) rfl T.mg_NoPaper rfl) aF))) (aA (aQ bZ (by rfl) T.no_isinstance PyProof.Rows.boot_isinstance (aA (pv 1) (aA (cZ (v:=.ref _) rfl T.mg_NoBases rfl) aF))) (aA (aQ bZ (by rfl) T.no_isinstance PyProof.Rows.boot_isinstance (aA (pv 1) (aA (cZ (v:=.ref _) rfl T.mg_NoText rfl) aF))) aF)))))) (aD (aU (i:=3) sc_q39.nd rfl (by subst_eqs) (aH iJ (pv 3) (cY (aA (aQ bZ (by rfl) T.no_isinstance PyProof.Rows.boot_isinstance (aA (pv 1) (aA (cZ (v:=.ref _) rfl T.mg_NoLine rfl) aF))) (aA (aQ bZ (by rfl) T.no_isinstance PyProof.Rows.boot_isinstance (aA (pv 1) (aA (cZ (v:=.ref _) rfl T.mg_NoName rfl) aF))) (aA (aQ bZ (by rfl) T.no_isinstance PyProof.Rows.boot_isinstance (aA (pv 1) (aA (cZ (v:=.ref _) rfl T.mg_NoDeed rfl) aF))) aF)))))) (aD (eP (l9 PySem.F.plainAttrs_list PySem.F.slot_list_append PySem.F.type_list_append eR (pv 3) (aA (aQ bZ (by rfl) T.no_isinstance PyProof.Rows.boot_isinstance (aA (pv 1) (aA (cZ (v:=.ref _) rfl T.mg_TooGreat rfl) aF))) aF))) (aD (bF (PW.pt (bS (bH (bL (aQ bZ (by rfl) T.no_isinstance PyProof.Rows.boot_isinstance (aA (pv 1) (aA (b9 (v:=.ty "ValueError") rfl T.no_ValueError PyProof.Rows.Boot.«ValueError» rfl) aF))))) (cB (aL cV (l9 PySem.F.plainAttrs_list PySem.F.slot_list_count PySem.F.type_list_count aAr (pv 3) (aA bR aF)) aB (nomark _))))) (aG (aN bD)) aT) (aD (aU (i:=4) sc_q39.nd rfl (by subst_eqs) (cY (aA bD (aA bD (aA bD (aA bD (aA bD (aA bD (aA bD (aA bD (aA bD aF))))))))))) (aG (aN (eU (bL (aV dD (pv 3) aB (fun _ _=>rfl))) aFx (aV dD (pv 4) (l9 PySem.F.plainAttrs_list PySem.F.slot_list_index PySem.F.type_list_index aAq (pv 3) (aA bR aF)) (fun _ _=>rfl)))))))))))))),?_⟩
  have e0:L2.start ["_law_call","_law_error","e","_law_marks","_law_words"] [.ref fl]=[some (.ref fl),none,none,none,none]:=rfl
  rw[e0];clear e0
  refine aM fun R1 sq1=>?_
  obtain⟨R2,sq2,sq1⟩:=dS sq1
  obtain⟨R3,sq3,sq2⟩:=dS sq2
  obtain⟨R4,sq4,sq3⟩:=dS sq3
  obtain⟨R5,sq5,sq4⟩:=dS sq4
  obtain⟨R6,sq6,sq5⟩:=dS sq5
  obtain⟨R7,sq7,sq6⟩:=dS sq6
  obtain⟨R8,sq8,sq7⟩:=dS sq7
  bv_omega
  rw[sq1]
  rename_i aDl yY
  refine⟨fdl,hfl,spL,F,hB,kE _ ⟨W.ex,fun a ha=>?_⟩⟩
  have s1:Same H (upd H a (f6 none a (.ref C))):=fun b o e=>by rw[aO (aI e ha)];exact e
  have e1:(upd H a (f6 none a (.ref C))) a=some (f6 none a (.ref C)):=aE
  generalize upd H a (f6 none a (.ref C))=H1 at s1 e1 ⊢
  rw[sq2]
  bv_omega
  rw[sq3]
  bv_omega
  refine mU e1 W.xc rfl W.k0 (mU e1 W.xc rfl W.k1 (mU e1 W.xc rfl W.k2 ⟨by show 3<=sizeLine;decide,fun p hp=>?_⟩))
  obtain⟨l1,hl1⟩:∃l1,l1=[decide (i=0),decide (i=1),decide (i=2)]:=⟨_,rfl⟩
  have m2:(upd H1 p (.lst (l1.map V.bl))) p=some (.lst (l1.map V.bl)):=aE
  rw[show [V.bl (decide (i=0)),V.bl (decide (i=1)),V.bl (decide (i=2))]=l1.map V.bl by rw[hl1];rfl]
  have s2:Same H (upd H1 p (.lst (l1.map V.bl))):=fun b o e=>by rw[aO (aI (s1 b o e) hp)];exact s1 b o e
  have e2:(upd H1 p (.lst (l1.map V.bl))) a=some (f6 none a (.ref C)):=by rw[aO (aI e1 hp)];exact e1
  generalize upd H1 p (.lst (l1.map V.bl))=H2 at s2 e2 m2 ⊢
  rw[sq4]
  bv_omega
  refine mU e2 W.xc rfl W.k3 (mU e2 W.xc rfl W.k4 (mU e2 W.xc rfl W.k5 ⟨by show 3<=sizeLine;decide,fun p1 hp1=>?_⟩))
  have np1:p≠p1:=aI m2 hp1
  refine⟨_,by rw[aO np1];exact m2,_,aE,lN (by rw[hl1];show 6<=1000;decide),fun p2 hp2=>?_⟩
  obtain⟨l2,hl2⟩:∃l2,l2=l1++[decide (i=3),decide (i=4),decide (i=5)]:=⟨_,rfl⟩
  rw[show l1.map V.bl++[V.bl (decide (i=3)),V.bl (decide (i=4)),V.bl (decide (i=5))]=l2.map V.bl by rw[hl2,List.map_append];rfl]
  obtain⟨H3,s3,e3,m3,hH3,_⟩:=vK (o:=.lst [V.bl (decide (i=3)),V.bl (decide (i=4)),V.bl (decide (i=5))]) (u:=.lst (l2.map V.bl)) s2 e2 hp1 hp2
  rw[<- hH3]
  clear hH3
  rw[sq5]
  bv_omega
  refine mU e3 W.xc rfl W.k6 (mU e3 W.xc rfl W.k7 (mU e3 W.xc rfl W.k8 ⟨by show 3<=sizeLine;decide,fun p3 hp3=>?_⟩))
  have np3:p2≠p3:=aI m3 hp3
  refine⟨_,by rw[aO np3];exact m3,_,aE,lN (by rw[hl2,hl1];show 9<=1000;decide),fun p4 hp4=>?_⟩
  obtain⟨l3,hl3⟩:∃l3,l3=l2++[decide (i=6),decide (i=7),decide (i=8)]:=⟨_,rfl⟩
  rw[show l2.map V.bl++[V.bl (decide (i=6)),V.bl (decide (i=7)),V.bl (decide (i=8))]=l3.map V.bl by rw[hl3,List.map_append];rfl]
  obtain⟨H4,s4,e4,m4,hH4,f4⟩:=vK (o:=.lst [V.bl (decide (i=6)),V.bl (decide (i=7)),V.bl (decide (i=8))]) (u:=.lst (l3.map V.bl)) s3 e3 hp3 hp4
  rw[<- hH4]
  clear hH4
  have na4:a≠p4:=fun z=>by
   rw[z,m4] at e4
   exact nomatch Option.some.inj e4
  rw[sq6]
  bv_omega
  refine⟨.inl ⟨_,SqL.of m4⟩,mU e4 W.xc rfl W.k9 ⟨_,m4,bK (by rw[hl3,hl2,hl1];show 9<=1000;decide),?_⟩⟩
  obtain⟨l4,hl4⟩:∃l4,l4=l3++[decide (i=9)]:=⟨_,rfl⟩
  rw[show l3.map V.bl++[V.bl (decide (i=9))]=l4.map V.bl by rw[hl4,List.map_append];rfl]
  have m5:(upd H4 p4 (.lst (l4.map V.bl))) p4=some (.lst (l4.map V.bl)):=aE
  have e5:(upd H4 p4 (.lst (l4.map V.bl))) a=some (f6 none a (.ref C)):=by rw[aO na4];exact e4
  have s5:Same H (upd H4 p4 (.lst (l4.map V.bl))):=fun b o q=>by rw[aO (aI q f4)];exact s4 b o q
  generalize upd H4 p4 (.lst (l4.map V.bl))=H5 at m5 e5 s5 ⊢
  rw[sq7]
  bv_omega
  refine mU e5 W.xc rfl W.ve ⟨_,rfl,?_⟩
  rw[if_neg (by decide)]
  have el4:l4=[decide (i=0),decide (i=1),decide (i=2),decide (i=3),decide (i=4),decide (i=5),decide (i=6),decide (i=7),decide (i=8),decide (i=9)]:=by rw[hl4,hl3,hl2,hl1];rfl
  refine⟨.inl ⟨_,SqL.of m5⟩,l4,m5,?_⟩
  have ct:(l4.countP id:Nat)=1:=by rw[el4];rcases hi with rfl | rfl <;> rfl
  rw[ct]
  rw[if_neg (fun h=>h rfl)]
  rw[sq8]
  bv_omega
  refine⟨by show 9<=sizeLine;decide,fun p6 hp6=>?_⟩
  have n6:p4≠p6:=aI m5 hp6
  obtain⟨H6,hH6⟩:∃H6,H6=upd H5 p6 (.lst [V.str (Str.ofString "number"),V.str (Str.ofString "prime"),V.str (Str.ofString "pair"),V.str (Str.ofString "paper"),V.str (Str.ofString "bases"),V.str (Str.ofString "text"),V.str (Str.ofString "line"),V.str (Str.ofString "name"),V.str (Str.ofString "deed")]):=⟨_,rfl⟩
  have m6:H6 p4=some (.lst (l4.map V.bl)):=by rw[hH6,aO n6];exact m5
  have w6:H6 p6=some (.lst [V.str (Str.ofString "number"),V.str (Str.ofString "prime"),V.str (Str.ofString "pair"),V.str (Str.ofString "paper"),V.str (Str.ofString "bases"),V.str (Str.ofString "text"),V.str (Str.ofString "line"),V.str (Str.ofString "name"),V.str (Str.ofString "deed")]):=by rw[hH6];exact aE
  have s6:Same H H6:=fun b o q=>by rw[hH6,aO (aI (s5 b o q) hp6)];exact s5 b o q
  rw[<- hH6]
  clear hH6
  refine⟨_,SqL.of m6,V.bl (decide (i=9)),by rw[el4];rfl,_,rfl,?_⟩
  rw[if_neg (by rcases hi with rfl | rfl <;> decide)]
  refine⟨.inl ⟨_,SqL.of m6⟩,?_⟩
  refine⟨l4,m6,i,?_,?_,?_,_,SqL.of w6,V.str (uD i),?_,k H6 s6⟩
  ·rw[el4];rcases hi with rfl | rfl <;> rfl
  ·intro m hm
   rw[el4]
   rcases hi with rfl | rfl
   ·omega
   ·have:m=0\/m=1\/m=2:=by omega
    rcases this with rfl | rfl | rfl <;> rfl
  ·omega
  ·rcases hi with rfl | rfl <;> rfl
noncomputable abbrev s_q48:Stmt:=top 73
theorem sc_q48:FnScope ["_law_n","_law_thing"] ["_law_n","_law_thing"] (aJ s_q48):=⟨rfl,rfl,rfl,by decide +kernel,rfl,by decide +kernel,by decide +kernel⟩
noncomputable abbrev Df_q48 (K:PySem.W.Frag) (mg:Str->Option Value) (f:Addr) (fd:FuncData):Prop:=Def K mg "_law_due" s_q48 ["_law_n","_law_thing"] f fd
noncomputable def spDue (K:PySem.W.Frag):Sp:=fun vs H Q _=>∃(n:Int) (d:Dt) (u:V),vs=[.int n,u]/\(Rep K H d u/\okD d=true/\bY d<=1000000/\L2.dep d<99/\1<=n/\n<=10^30)/\(PapG dX n d->∀H',Same H H'->Q (.bl true) H')/\(¬ PapG dX n d->∀H',Same H H'->Q (.bl false) H')
theorem qR {n:Int} {d:Dt} (h:PapG dX n d):PapG cT n d/\∃ds,d=.tup (.str (Str.ofString "other")::ds):=by
 obtain⟨z,ds,rows,rfl,hz,sh,ri,hr⟩:=h.inv
 have e:=List.mem_singleton.mp hz
 subst e
 exact⟨.mk (by decide) sh ri hr,ds,rfl⟩
theorem aEy {n:Int} {ds:List Dt} (h:PapG cT n (.tup (.str (Str.ofString "other")::ds))):PapG dX n (.tup (.str (Str.ofString "other")::ds)):=by
 obtain⟨z,ds',rows,e,hz,sh,ri,hr⟩:=h.inv
 cases e
 exact .mk (by decide) sh ri hr
theorem ok_q48 (D:Df_q48 K mg f fd) (T:Txt K mg t1 cl) (o1:O_q38 P w K mg base):FnOk P w K mg base CX0 38 f fd ["_law_n","_law_thing"] (spDue K):=by
 obtain⟨_,_,D_q38,G_q38⟩:=o1
 refine D.fn.ok sc_q48 (fun vs H Q E h=>?_) (fun cdv A outer s H vs Q E hr h=>?_)
 ·obtain⟨n,d,u,rfl,_⟩:=h
  rfl
 ·obtain⟨n,d,u,rfl,⟨R0,ok,lb,dpl,n1,n30⟩,k1,k2⟩:=h
  refine⟨_,(aD (bF (PW.pt (bS (bH (bL (aQ bJ (by rfl) T.no_isinstance PyProof.Rows.boot_isinstance (aA (pv 1) (aA (b9 (v:=.ty "tuple") rfl T.no_tuple PyProof.Rows.boot_tuple rfl) aF))))) (bS (aL (j4 (fZ hr)) (pv 1) (bV aF) (nomark _)) (bS (bH (bL (aQ bJ (by rfl) T.no_isinstance PyProof.Rows.boot_isinstance (aA (aV (aZ (K:=K) rfl) (pv 1) aB (fun _ _=>rfl)) (aA (b9 (v:=.ty "str") rfl T.no_str PyProof.Rows.boot_str rfl) aF))))) (cB (aL cV (aV (aZ (K:=K) rfl) (pv 1) aB (fun _ _=>rfl)) bD (nomark _))))))) (aG (aN bR)) aT) (aG (aN (aK (G_q38.mono (by decide)) hr rfl D_q38.mgx D_q38.fn.kp D_q38.bd .nil aR (aA (pv 0) (aA (pv 1) (aA (bV (aA bD (aA bD (aA bD (aA bD aF))))) aF))))))),?_⟩
  have e0:L2.start ["_law_n","_law_thing"] [.int n,u]=[some (.int n),some (u)]:=rfl
  rw[e0];clear e0
  refine aM fun R1 sq1=>?_
  bv_omega
  refine isk (cF R0) ⟨_,rfl,?_⟩
  by_cases ht:cU (kdD d) "tuple" = true
  case neg =>
   rw[i8 ht,if_pos rfl]
   refine k2 (fun h=>?_) _ (Same.refl H)
   obtain⟨z,ds,_,e,_⟩:=h.inv
   rw[e] at ht
   exact absurd rfl ht
  rw[ht,if_neg (by decide)]
  obtain⟨es,rfl⟩:=fW ht
  have RR:=R0
  obtain⟨a,xs,rfl,ha,RL⟩:=RR
  refine⟨Nat.zero_le _,fun p hp=>?_⟩
  have S1:Same H (upd H p (.tup [])):=fun b o e=>aW e hp
  have hp1:(upd H p (.tup [])) p=some (.tup []):=aE
  generalize upd H p (.tup [])=H1 at S1 hp1 ⊢
  refine⟨_,[],.inl ⟨Rep.same S1 _ R0,p,[],rfl,SqT.of hp1,rfl⟩,Nat.zero_le _,⟨rfl,rfl⟩,?_⟩
  rw[eW]
  refine⟨_,rfl,?_⟩
  by_cases h0:es=[]
  case pos =>
   rw[decide_eq_true h0,if_pos rfl]
   refine k2 (fun h=>?_) _ S1
   obtain⟨z,ds,_,e,_⟩:=h.inv
   rw[h0] at e
   cases e
  rw[decide_eq_false h0,if_neg (by decide)]
  obtain⟨d0,ds,rfl⟩:∃d0 ds,es=d0::ds:=by
   cases es with
   | nil=>exact absurd rfl h0
   | cons d0 ds=>exact⟨d0,ds,rfl⟩
  obtain⟨x0,xs,rfl,Rz,RL⟩:=RL
  have ha1:=S1.tk.sq ha
  refine⟨a,_,_,_,rfl,rfl,ha1,at0,isk (cF (Rep.same S1 _ Rz)) ⟨_,rfl,?_⟩⟩
  by_cases hs:cU (kdD d0) "str" = true
  case neg =>
   rw[wL hs,if_pos rfl]
   refine k2 (fun h=>?_) _ S1
   obtain⟨z,ds,_,e,_⟩:=h.inv
   rw[(List.cons.inj (Dt.tup.inj e)).1] at hs
   exact absurd rfl hs
  rw[hs,if_neg (by decide)]
  obtain⟨z,rfl⟩:=u5 hs
  cases (show x0=V.str z from Rz)
  refine⟨a,_,_,_,rfl,rfl,ha1,at0,rfl,?_⟩
  by_cases zo:z=Str.ofString "other"
  case neg =>
   rw[if_pos (fun h=>zo (V.str.inj h))]
   refine k2 (fun h=>zo ?_) _ S1
   obtain⟨_,ds',e⟩:=qR h
   cases e
   rfl
  subst zo
  rw[if_neg (fun h=>h rfl)]
  subst sq1
  bv_omega
  refine⟨by show 4<=sizeLine;decide,fun p2 hp2=>?_⟩
  have S2:Same H (upd H1 p2 (.tup [.str (Str.ofString "two"),.str (Str.ofString "full"),.str (Str.ofString "share"),.str (Str.ofString "other")])):=fun b o e=>aW (S1 _ _ e) hp2
  exact⟨n,_,_,p2,cT,rfl,⟨Rep.same S2 _ R0,ok,lb,by omega,n1,n30⟩,⟨SqT.of aE,.inr rfl⟩,fun y H' S'=>k1 (aEy y) _ (S2.trans S'),fun y H' S'=>k2 (fun h=>y (qR h).1) _ (S2.trans S')⟩
noncomputable abbrev O_q48 (P:Program) (w:World) (K:PySem.W.Frag) (mg:Str->Option Value) (base:Heap):Prop:=∃f fd,Df_q48 K mg f fd/\FnOk P w K mg base CX0 38 f fd ["_law_n","_law_thing"] ((spDue K))
end
section
variable {P:Program} {w:World} {K:PySem.W.Frag} {mg:Str->Option Value} {base:Heap} {t1:Tok} {cl:Cl} {f:Addr}
theorem Step.tab {a Pt:Addr} {q:Str} {H H1:Hp} (st:StAt H a) (x:Step a H H1) (t:TabOk H Pt q):TabOk H1 Pt q:=t.kept fun b o e n=>x.but b o (fun z=>by
 obtain⟨u,v,e',_⟩:=st
 rw[z,e'] at e
 cases e
 exact n _ rfl) e
noncomputable def qL:Str:=("law" : Str) ++ ".<locals>." ++ "<lambda>"
noncomputable def KX (Pt pc:Addr) (H H':Hp):Prop:=∀b o,b≠Pt->b≠pc->H b=some o->H' b=some o
theorem TyOf.keepK {K:PySem.W.Frag} {H H':Hp} {v:V} {n:String} (ty:TyOf K H v (.type n)) (s:∀p o,v=.ref p->H p=some o->H' p=some o):TyOf K H' v (.type n):=by
 cases ty with
 | non=>exact .non
 | bl x=>exact .bl x
 | int i=>exact .int i
 | str x=>exact .str x
 | flt x=>exact .flt x
 | lst e=>exact .lst (s _ _ rfl e)
 | frz e=>exact .frz (s _ _ rfl e)
 | tup e=>exact .tup (s _ _ rfl e)
 | dK e=>exact .dK (s _ _ rfl e)
 | dT e=>exact .dT (s _ _ rfl e)
theorem TyOf.has {K:PySem.W.Frag} {H:Hp} {p:Addr} {n:String} (ty:TyOf K H (.ref p) (.type n)):∃o,H p=some o/\∀ps,o ≠ .tbl ps:=by
 cases ty with
 | lst e=>exact⟨_,e,fun _ z=>nomatch z⟩
 | frz e=>exact⟨_,e,fun _ z=>nomatch z⟩
 | tup e=>exact⟨_,e,fun _ z=>nomatch z⟩
 | dK e=>exact⟨_,e,fun _ z=>nomatch z⟩
 | dT e=>exact⟨_,e,fun _ z=>nomatch z⟩
structure Lm (Pt pc:Addr) (q:Str) (H:Hp) (fl:Addr) (fd:FuncData) (c':Addr):Prop where
 n1:fl≠Pt
 n2:fl≠pc
 n3:c'≠Pt
 n4:c'≠pc
 lam:H fl=some (sG fl fd)
 cod:H c'=some (vH c' q)
theorem aBr {X:Cx} {σ:St} {b:Heap} {M H':Hp} {Pt pc fl c' C:Addr} {q qual:Str} {params:Arguments} {body:Expr} {sc:Scope} {pm ctv:Value} {i:Nat} {N:List Str} {js:List Nat} {vs:List V} {sp:Hp->VK->XK->Prop} {Q':VK} (hc:hG X σ b)
  (g:Lm Pt pc q M fl (PySem.W.kla_fn "<lambda>" qual params body sc (eX sc X.env) pm (.ref c') ctv) c') (sm:Same M H') (W:WordC K cl C i) (hi:i=0\/i=3) (hck:pG sc X.env.scope N X.N js=true) (hinj:(X.env.cells.map (·.2)).Nodup) (hhas:∀x,X.env.scope.names.lookup x=some .cell->∃c,X.env.cells.lookup x=some c)
  (hv:vs.length=js.length) (hσ:∀(i j:Nat) (v:V),js[i]? = some j->vs[i]? = some v->σ[j]? = some (some v)) (hp:∀pm cd ctv,bindArgs (PySem.W.kla_fn "<lambda>" qual params body sc (eX sc X.env) pm cd ctv) ⟨[],[]⟩=pure [])
  (hbody:∀(A:Around) (outer:List Env) (s:Shared) (H:Hp) (Q:VK) (E:XK),Room 10 (A.deeper (PySem.W.envX qual sc s.heap.objs.size fl (.ref c') (eX sc X.env)))->sp H Q E->∃t,PE (tW P w K mg b N qual sc fl (.ref c') (eX sc X.env) A outer s H E) body t/\t (vs.map some) H Q)
  (hR:∀R:XK,R (.ref C) none H'->sp H' (fun _ _=>False) R) (hQ:∀H'',Same H' H''->Q' (.str (uD i)) H'') (hq:qual=q):spWord P w K mg cl b [.ref fl] H' Q' E0:=by
 subst hq
 obtain⟨l1,l2,l3,l4⟩:=yD hck hinj hhas hc hv hσ
 exact⟨fl,_,_,C,i,rfl,sm _ _ g.lam,aE6 l1 l2 l3 l4 hbody,yE hp,W,hi,fun R h=>⟨rfl,sm _ _ g.lam,sm _ _ g.cod,hR R h⟩,hQ⟩
theorem BP.tp {n:Int} {d:Dt} {j:Nat} {fl:Bool} (h:BP j fl n d) (hj:j<=21) (n9:n<=10^9):∃ds,d=.tup ds/\Tp ds:=by
 have c:=h.cn300 n9
 have l:=h.len
 have dp:=h.dep
 have pa:=h.pa n9
 obtain⟨z,ds,rows,e,_⟩:=h.pap.inv
 subst e
 have pa:(decide ((Dt.str z::ds).length<=300)&&paL (.str z::ds))=true:=pa
 rw[Bool.and_eq_true] at pa
 have e1:bY (.tup (.str z::ds))=lenDL (.str z::ds)+3:=rfl
 have e2:L2.dep (.tup (.str z::ds))=depL (.str z::ds)+1:=rfl
 have e3:cnD (.tup (.str z::ds))=1+cnL (.str z::ds):=by simp[cnD]
 exact⟨_,rfl,pa.2,of_decide_eq_true pa.1,by omega,by omega,by omega⟩
theorem aGl:bP 3:=⟨by omega,fun d h1 h2=>by
 have:=Int.mul_le_mul h1 h1 (by omega) (by omega)
 omega⟩
theorem aBx {ds:List Dt} (h:Tp ds):Nice (.tup ds)/\noL (.tup ds)=true:=by
 have a:=paL_ok ds h.pa
 have l:=h.len
 have dp:=h.dep
 have c:=h.cn
 exact⟨⟨a.1,uX a.2,by show lenDL ds+3<=_;omega,by show depL ds+1<_;omega,by rw[show cnD (.tup ds)=1+cnL ds by simp[cnD]];omega⟩,a.2⟩
theorem BP.nice {n:Int} {d:Dt} {j:Nat} {fl:Bool} (h:BP j fl n d) (hj:j<=21) (n9:n<=10^9):Nice d/\noL d=true:=by
 obtain⟨ds,rfl,tp⟩:=h.tp hj n9
 exact aBx tp
theorem aE1:¬ PapG dX 2 (.tup [.str (Str.ofString "two")]):=fun h=>by
 obtain⟨_,ds,e⟩:=qR h
 have:=(List.cons.inj (Dt.tup.inj e)).1
 exact absurd (Dt.str.inj this) (by decide)
theorem aEt:PapG dX 3 (.tup [.str (Str.ofString "other"),.int 2,pD (0,1),.tup ([((2:Int),(2:Int),Dt.tup [.str (Str.ofString "two")])].map rwD)]):=by
 refine(aCn (by decide)).mpr ⟨2,(0,1),_,[(2,2,.tup [.str (Str.ofString "two")])],⟨rfl,⟨rfl,by simp,⟨by decide,by decide,True.intro⟩,by decide⟩,by decide,by decide,by decide,by decide,⟨by decide,by decide,by decide,by decide⟩,by decide,by decide,by decide,fun r hr=>?_⟩,fun r hr=>?_⟩
 ·rw[List.mem_singleton.mp hr];unfold uY;decide
 ·rw[List.mem_singleton.mp hr]
  exact(aEv (by decide)).mpr ⟨rfl,rfl⟩
noncomputable def Stab (a:Addr) (K:PySem.W.Frag) (H:Hp) (d:Dt) (v:V):Prop:=∀H',Step a H H'->Rep K H' d v
noncomputable def StabL (a:Addr) (K:PySem.W.Frag) (H:Hp) (ds:List Dt) (xs:List V):Prop:=∀H',Step a H H'->RepL K H' ds xs
theorem Stab.step {a:Addr} {H H1:Hp} {d:Dt} {v:V} (h:Stab a K H d v) (s:Step a H H1):Stab a K H1 d v:=fun H' s'=>h H' (s.trans s')
theorem StabL.step {a:Addr} {H H1:Hp} {ds:List Dt} {xs:List V} (h:StabL a K H ds xs) (s:Step a H H1):StabL a K H1 ds xs:=fun H' s'=>h H' (s.trans s')
theorem Stab.of {a:Addr} {H:Hp} {d:Dt} {v:V} (hst:StAt H a) (nl:noL d=true) (R:Rep K H d v):Stab a K H d v:=fun H' s=>Rep.mono (s.tk hst) d nl R
theorem StabL.nil {a:Addr} {H:Hp}:StabL a K H [] []:=fun _ _=>rfl
theorem StabL.cons {a:Addr} {H:Hp} {d:Dt} {ds:List Dt} {v:V} {xs:List V} (h:Stab a K H d v) (g:StabL a K H ds xs):StabL a K H (d::ds) (v::xs):=fun H' s=>⟨v,xs,rfl,h H' s,g H' s⟩
theorem StabL.app {a:Addr} {H:Hp} {ds es:List Dt} {xs ys:List V} (h:StabL a K H ds xs) (g:StabL a K H es ys):StabL a K H (ds++es) (xs++ys):=fun H' s=>RepL.append (h H' s) (g H' s)
theorem tI {x n:Int} (h0:0<=x) (h1:x<n) (h2:n<10^90):x.natAbs<10^100:=by omega
theorem aAp {x n y:Int} (h0:0<=x) (h1:x<n) (h2:n<10^90) (y0:0<=y) (y1:y<=n):(x+y).natAbs<10^100:=by omega
structure RN (R:Dt):Prop where
 ok:okD R=true
 nl:noL R=true
 len:bY R<=80000
 dep:L2.dep R<=70
 cn:cnD R<=400
structure XN (X:Dt):Prop where
 ok:okD X=true
 ne:noE X=true
 len:bY X<=400
 dep:L2.dep X<=3
 cn:cnD X<=3
theorem aAm {R:Dt} (h:noL R=true):noE R=true:=by
 have:=noEL_of_noLL [R] (by show (noL R&&true)=true;rw[h];rfl)
 have:(noE R&&true)=true:=this
 rw[Bool.and_true] at this
 exact this
theorem nN {e:Int} {X R:Dt} (he:e.natAbs<10^100) (x:XN X) (r:RN R):Nice (.tup [.str (Str.ofString "other"),.int e,X,R]):=by
 have l1:=x.len;have l2:=r.len;have d1:=x.dep;have d2:=r.dep;have c1:=x.cn;have c2:=r.cn
 refine⟨?_,?_,?_,?_,?_⟩
 ·show (true&&(decide (e.natAbs<10^100)&&(okD X&&(okD R&&true))))=true
  rw[decide_eq_true he,x.ok,r.ok];rfl
 ·show ((true&&(true&&(noE X&&(noE R&&true))))||_)=true
  rw[x.ne,aAm r.nl];rfl
 ·show (10*(Str.ofString "other").length+2)+2+(101+2+(bY X+2+(bY R+2+0)))+3<=1000000
  have:(Str.ofString "other").length=5:=by decide
  omega
 ·show max 0 (max 0 (max (L2.dep X) (max (L2.dep R) 0)))+1<99
  omega
 ·rw[show cnD (.tup [.str (Str.ofString "other"),.int e,X,R])=1+(cnD X+cnD R) by simp[cnD,cnL]]
  omega
theorem aGo {e i:Int} {X R:Dt} (he:e.natAbs<10^100) (hi:i.natAbs<10^100) (x:XN X) (r:RN R):Nice (.tup [.str (Str.ofString "other"),.int e,X,R,.int i]):=by
 have l1:=x.len;have l2:=r.len;have d1:=x.dep;have d2:=r.dep;have c1:=x.cn;have c2:=r.cn
 refine⟨?_,?_,?_,?_,?_⟩
 ·show (true&&(decide (e.natAbs<10^100)&&(okD X&&(okD R&&(decide (i.natAbs<10^100)&&true)))))=true
  rw[decide_eq_true he,decide_eq_true hi,x.ok,r.ok];rfl
 ·show ((true&&(true&&(noE X&&(noE R&&(true&&true)))))||_)=true
  rw[x.ne,aAm r.nl];rfl
 ·show (10*(Str.ofString "other").length+2)+2+(101+2+(bY X+2+(bY R+2+(101+2+0))))+3<=1000000
  have:(Str.ofString "other").length=5:=by decide
  omega
 ·show max 0 (max 0 (max (L2.dep X) (max (L2.dep R) (max 0 0))))+1<99
  omega
 ·rw[show cnD (.tup [.str (Str.ofString "other"),.int e,X,R,.int i])=1+(cnD X+cnD R) by simp[cnD,cnL]]
  omega
theorem aGp {e:Int} {X:Dt} (he:e.natAbs<10^100) (x:XN X):Nice (.tup [.str (Str.ofString "other"),.int e,X]):=by
 have l1:=x.len;have d1:=x.dep;have c1:=x.cn
 refine⟨?_,?_,?_,?_,?_⟩
 ·show (true&&(decide (e.natAbs<10^100)&&(okD X&&true)))=true
  rw[decide_eq_true he,x.ok];rfl
 ·show ((true&&(true&&(noE X&&true)))||_)=true
  rw[x.ne];rfl
 ·show (10*(Str.ofString "other").length+2)+2+(101+2+(bY X+2+0))+3<=1000000
  have:(Str.ofString "other").length=5:=by decide
  omega
 ·show max 0 (max 0 (max (L2.dep X) 0))+1<99
  omega
 ·rw[show cnD (.tup [.str (Str.ofString "other"),.int e,X])=1+cnD X by simp[cnD,cnL]]
  omega
theorem fL {A:PZ} (h1:A.1.natAbs<10^100) (h2:A.2.natAbs<10^100):XN (pD A)/\XN (.lst [.int A.1,.int A.2]):=by
 have e:(decide (A.1.natAbs<10^100)&&(decide (A.2.natAbs<10^100)&&true))=true:=by rw[decide_eq_true h1,decide_eq_true h2];rfl
 refine⟨⟨e,rfl,?_,?_,?_⟩,⟨e,rfl,?_,?_,?_⟩⟩
 ·show 101+2+(101+2+0)+3<=400;decide
 ·show max 0 (max 0 0)+1<=3;decide
 ·rw[show cnD (pD A)=1 by simp[pD,cnD,cnL]];decide
 ·show 101+2+(101+2+0)+3<=400;decide
 ·show max 0 (max 0 0)+1<=3;decide
 ·rw[show cnD (.lst [.int A.1,.int A.2])=0 by simp[cnD]];decide
theorem aFs {d:Int} {A:PZ} {R:Dt} (h:Tp [.str (Str.ofString "other"),.int d,pD A,R]):RN R:=by
 have a:=paL_ok _ h.pa
 have l:=h.len;have dp:=h.dep;have c:=h.cn
 have m:R∈[Dt.str (Str.ofString "other"),.int d,pD A,R]:=by simp
 have l1:=wG m
 have d1:=jJ m
 have c1:=aAs m
 have o:=aAc R (vV h.pa R m)
 exact⟨o.1,o.2,by omega,by omega,by omega⟩
theorem nl4 {e:Int} {X R:Dt} (hx:noL X=true) (hr:noL R=true):noL (.tup [.str (Str.ofString "other"),.int e,X,R])=true:=by
 show (true&&(true&&(noL X&&(noL R&&true))))=true
 rw[hx,hr];rfl
theorem lT {H:Hp} {p:Addr} {x y:Int} (h:SqT K H p [.int x,.int y]):Rep K H (pD (x,y)) (.ref p):=⟨p,_,rfl,h,_,_,rfl,rfl,_,_,rfl,rfl,rfl⟩
theorem lU {H:Hp} {p:Addr} {e:Int} {X R:Dt} {vx vr:V} (h:SqT K H p [.str (Str.ofString "other"),.int e,vx,vr]) (hx:Rep K H X vx) (hr:Rep K H R vr):Rep K H (.tup [.str (Str.ofString "other"),.int e,X,R]) (.ref p):=⟨p,_,rfl,h,_,_,rfl,rfl,_,_,rfl,rfl,_,_,rfl,hx,_,_,rfl,hr,rfl⟩
theorem iV {a:Addr} {H:Hp} {p:Addr} {e:Int} {X R:Dt} {vx vr:V} (hst:StAt H a) (h:SqT K H p [.str (Str.ofString "other"),.int e,vx,vr]) (hx:Stab a K H X vx) (hr:Stab a K H R vr):Stab a K H (.tup [.str (Str.ofString "other"),.int e,X,R]) (.ref p):=fun H' s=>lU ((s.tk hst).sq h) (hx H' s) (hr H' s)
theorem kS {a:Addr} {H:Hp} {p:Addr} {x y:Int} (hst:StAt H a) (h:SqT K H p [.int x,.int y]):Stab a K H (pD (x,y)) (.ref p):=fun H' s=>lT ((s.tk hst).sq h)
theorem aB0 {a:Addr} {H:Hp} {p:Addr} {x y:Int} (ne:p≠a) (h:H p=some (.lst [.int x,.int y])):Stab a K H (.lst [.int x,.int y]) (.ref p):=fun H' s=>⟨p,_,rfl,SqL.of (s.but _ _ ne h),_,_,rfl,rfl,_,_,rfl,rfl,rfl⟩
theorem pB {ds:List Dt} {d:Dt} (h:noLL ds=true) (g:noL d=true):noLL (ds++[d])=true:=by
 rw[tH,h]
 show (true&&(noL d&&true))=true
 rw[g];rfl
noncomputable abbrev OB_q35 (P:Program) (w:World) (K:PySem.W.Frag) (mg:Str->Option Value):Prop:=∃f fd,Df_q35 K mg f fd/\∀b,FnOk P w K mg b CX0 24 f fd ["_law_state_here","_law_n","_law_kinds"] (spLPA 20 K)
noncomputable abbrev OX_is_other (P:Program) (w:World) (K:PySem.W.Frag) (mg:Str->Option Value) (base:Heap) (cl:Cl):Prop:=∃f fd,Df_q42 K mg f fd/\FnOk P w K mg base CX0 8 f fd ["n","thing"] (spLookG K dX)/\∀b,FnOk P w K mg b (CXE P w) 8 f fd ["n","thing"] (spFullX K cl)
noncomputable abbrev OB_q39 (P:Program) (w:World) (K:PySem.W.Frag) (mg:Str->Option Value) (cl:Cl):Prop:=∃f fd,Df_q39 K mg f fd/\∀b,FnOk P w K mg b CX0 12 f fd ["_law_call"] (spWord P w K mg cl b)
noncomputable abbrev s_law:Stmt:=top 74
theorem sc_law:FnScope ["_law_script","_law_k","_law_state_here","_law_n","_law_parts_here","_law_rows","_law_d","_law_pair","_law_paper_here","_law_x","_law_y","_law_things","_law_thing","_law_number","_law_kept","_law_due_here","_law_none_here"] ["_law_script"] (aJ s_law):=⟨rfl,rfl,rfl,by decide +kernel,rfl,by decide +kernel,by decide +kernel⟩
noncomputable def spLaw (K:PySem.W.Frag) (Pt:Addr):Sp:=fun vs H Q _=>∃(a:Addr) (ns:List Int),vs=[.ref a]/\SqL K H a (ns.map V.int)/\ns.length<=63/\H Pt=some (.tbl #[])/\∀H',Q (.bl true) H'
theorem aBs {c:Int} (h0:0<=c) (h1:c<2):∃z:Int,atI [V.int 30,V.int 2000] c=some (.int z)/\1<=z/\z<=2000:=by
 have h:c=0\/c=1:=by omega
 rcases h with rfl | rfl <;> exact⟨_,rfl,by decide,by decide⟩
end
section
variable {P:Program} {w:World} {K:PySem.W.Frag} {mg:Str->Option Value} {base:Heap} {t1:Tok} {cl:Cl} {f:Addr}
theorem lM {ti:TI} {g:TG} {tb:TS} {D:Ends} {σ:St} {H:Hp} (h:∀B:TS,B=tb->kL ti g B D σ H):kL ti g tb D σ H:=h tb rfl
theorem ok_law {c Pt:Addr} {oc kV doc pm ct:Value} {od an:Option Addr} {osl:Array (Option Value)}
    (lk:K.lookup f=some ⟨oc,od,.func (PySem.W.fnOf "law" "law" (c8 s_law) (cK s_law) (aJ s_law) .none kV doc pm an (.ref c) ct),osl⟩) (hcd:PySem.W.codeIn K (.ref c) "law" = true) (hd:PySem.W.CodeHd base c Pt) (bm:base.BuiltinsAt mg Pt)
    (T:Txt K mg t1 cl) (W0:WordC K cl cl.nn 0) (o1:O_q37 P w K mg base) (o2:O_q41 P w K mg base) (o3:O_q31 P w K mg base) (o4:O_q34 P w K mg base) (o5:OB_q35 P w K mg) (o6:O_q29 P w K mg base) (o7:O_q47 P w K mg base) (o8:O_q48 P w K mg base) (o9:O_q44 P w K mg base) (oA:OX_is_other P w K mg base cl) (oB:O_q46 P w K mg base) (oC:OB_q39 P w K mg cl) (oD:O_q17 P w K mg base):FnOk P w K mg base CX0 39 f (PySem.W.fnOf "law" "law" (c8 s_law) (cK s_law) (aJ s_law) .none kV doc pm an (.ref c) ct) ["_law_script"] (spLaw K Pt):=by
  obtain⟨_,_,D_q37,G_q37⟩:=o1
  obtain⟨_,_,D_q41,G_q41⟩:=o2
  obtain⟨_,_,D_q31,G_q31⟩:=o3
  obtain⟨_,_,D_q34,G_q34⟩:=o4
  obtain⟨_,_,D_q35,B_q35⟩:=o5
  have G_q35:=B_q35 base
  obtain⟨_,_,D_q29,G_q29⟩:=o6
  obtain⟨_,_,D_q47,G_q47⟩:=o7
  obtain⟨_,_,D_q48,G_q48⟩:=o8
  obtain⟨_,_,D_q44,G_q44⟩:=o9
  obtain⟨_,_,D_q42,G_q42,B_q42⟩:=oA
  obtain⟨_,_,D_q46,G_q46⟩:=oB
  obtain⟨_,_,D_q39,B_q39⟩:=oC
  obtain⟨_,_,D_q17,G_q17⟩:=oD
  refine aFg lk hcd sc_law (fun vs H Q E h=>?_) (fun A outer s H vs Q E hr h=>?_)
  · obtain⟨a,ns,rfl,_⟩:=h
    rfl
  · obtain⟨sa,ns,rfl,hS,hlen,hT,k⟩:=h
    refine aF7 (b8 (uK PassesOwn.never rfl (xN rfl T.no_range (aC (fG (pO rfl) (by rfl) T.no_max PyProof.Rows.boot_max (aC bO (aC (fG (pM rfl) (by rfl) T.no_min PyProof.Rows.boot_min (aC (fG bB (by rfl) T.no_len PySem.boot_len (aC (sv 0) aS)) (aC bO aS))) aS))) aS)) (aX (i:=1) sc_law.nd rfl (by subst_eqs)) (b8 (eT (i:=2) sc_law.nd rfl (by subst_eqs) (cJ (G_q37.mono (by decide)) hr rfl D_q37.mgx D_q37.fn.kp D_q37.bd .nil aR (aC (sv 0) (aC (sv 1) aS)))) (b8 (eT (i:=3) sc_law.nd rfl (by subst_eqs) (fG (pO rfl) (by rfl) T.no_max PyProof.Rows.boot_max (aC bO (aC (cJ (G_q31.mono (by decide)) hr rfl D_q31.mgx D_q31.fn.kp D_q31.bd .nil aR (aC (sv 2) (aC (oS dD (eN (aC bO (aC bO aS))) (cJ (G_q41.mono (by decide)) hr rfl D_q41.mgx D_q41.fn.kp D_q41.bd .nil aR (aC (sv 2) (aC bO aS))) (fun _ _=>rfl)) aS))) aS)))) (b8 (eT (i:=4) sc_law.nd rfl (by subst_eqs) (cJ (G_q34.mono (by decide)) hr rfl D_q34.mgx D_q34.fn.kp D_q34.bd .nil aR (aC (eK bQ (sv 3) bO) aS))) (b8 (eT (i:=5) sc_law.nd rfl (by subst_eqs) (oU iA (by rfl) T.no_tuple PyProof.Rows.boot_tuple (aC (zD (N:=["_law_prime_here","_law_often","_law_state_here"]) (js:=[none,none,some 2]) (by rfl) rfl (fun _=>rfl) (qI (sv 4)) (by intro b _ _ _ _;exact(vT (K:=K) (n:=2) rfl rfl (bC (aX (i:=0) (show List.Nodup (["_law_prime_here","_law_often","_law_state_here"]:List Str) by decide) rfl (by subst_eqs)) (bC (aX (i:=1) (show List.Nodup (["_law_prime_here","_law_often","_law_state_here"]:List Str) by decide) rfl (by subst_eqs)) cX)))) (by intro b _ _ _ _;exact l8) (by intro b _ _ _ _;exact(bV (aA (pv 0) (aA (pv 1) (aA (aK ((B_q35 b).mono (by decide)) hr rfl D_q35.mgx D_q35.fn.kp D_q35.bd .nil aR (aA (pv 2) (aA (pv 0) (aA (cY (aA bD (aA bD (aA bD aF)))) aF)))) aF)))))) aS))) (b8 (aD8 (cJ (G_q29.mono (by decide)) hr rfl D_q29.mgx D_q29.fn.kp D_q29.bd .nil aR (aC (sv 2) (aC (sv 3) (aC (sv 5) aS)))) (dU rfl (bC (aX (i:=6) sc_law.nd rfl (by subst_eqs)) (bC (aX (i:=7) sc_law.nd rfl (by subst_eqs)) cX)))) (b8 (eT (i:=8) sc_law.nd rfl (by subst_eqs) (bT (aC cD (aC (sv 6) (aC (sv 7) (aC (sv 5) aS)))))) (b8 (zA (i:=9) (j:=10) rfl sc_law.nd rfl rfl (by decide) rfl rfl (aC (cJ (G_q41.mono (by decide)) hr rfl D_q41.mgx D_q41.fn.kp D_q41.bd .nil aR (aC (sv 2) (aC (sv 3) aS))) (aC (cJ (G_q41.mono (by decide)) hr rfl D_q41.mgx D_q41.fn.kp D_q41.bd .nil aR (aC (sv 2) (aC (sv 3) aS))) aS)) (by first | rfl | with_unfolding_all rfl)) (b8 (eT (i:=11) sc_law.nd rfl (by subst_eqs) (eN (aC (sv 8) (aC (bT (aC cD (aC (sv 6) (aC (bT (aC (sv 9) (aC (sv 10) aS))) (aC (sv 5) aS))))) (aC (bT (aC cD (aC (eK bQ bO (cJ (G_q41.mono (by decide)) hr rfl D_q41.mgx D_q41.fn.kp D_q41.bd .nil aR (aC (sv 2) (aC (eK bE (sv 3) bO) aS)))) (aC (sv 7) (aC (sv 5) aS))))) aS))))) (b8 (vN (aDo PySem.F.plainAttrs_list PySem.F.slot_list_append PySem.F.type_list_append eR (sv 11) (aC (bT (aC cD (aC (sv 6) (aC (bT (aC (oS (aZ (K:=K) rfl) (sv 7) bO (fun _ _=>rfl)) (aC (eK bI (eK bE (sv 3) (oS (aZ (K:=K) rfl) (sv 7) bO (fun _ _=>rfl))) (sv 3)) aS))) (aC (sv 5) aS))))) aS))) (b8 (vN (aDo PySem.F.plainAttrs_list PySem.F.slot_list_append PySem.F.type_list_append eR (sv 11) (aC (bT (aC cD (aC (sv 6) (aC (cJ (G_q17.mono (by decide)) hr rfl D_q17.mgx D_q17.fn.kp D_q17.bd .nil aR (aC (sv 7) (aC (sv 7) (aC (sv 6) (aC (sv 3) aS))))) (aC (sv 5) aS))))) aS))) (b8 (eT (i:=11) sc_law.nd rfl (by subst_eqs) (eK iJ (sv 11) (eN (aC (bT (aC cD (aC (sv 6) (aC (bT (aC bO (aC bO aS))) (aC (sv 5) aS))))) (aC (bT (aC cD (aC (sv 6) (aC (bT (aC (eK bE (sv 3) bO) (aC bO aS))) (aC (sv 5) aS))))) (aC (bT (aC cD (aC (sv 6) (aC (oU rZ (by rfl) T.no_list PyProof.Rows.boot_list (aC (sv 7) aS)) (aC (sv 5) aS))))) aS)))))) (b8 (eT (i:=11) sc_law.nd rfl (by subst_eqs) (eK iJ (sv 11) (eN (aC (bT (aC cD (aC (eK bQ (sv 6) (sv 3)) (aC (sv 7) (aC (sv 5) aS))))) (aC (bT (aC cD (aC (sv 6) (aC (bT (aC (eK bQ (oS (aZ (K:=K) rfl) (sv 7) bO (fun _ _=>rfl)) (sv 3)) (aC (oS (aZ (K:=K) rfl) (sv 7) bO (fun _ _=>rfl)) aS))) (aC (sv 5) aS))))) (aC (cJ (G_q47.mono (by decide)) hr rfl D_q47.mgx D_q47.fn.kp D_q47.bd .nil aR (aC (sv 2) aS)) aS)))))) (b8 (eT (i:=11) sc_law.nd rfl (by subst_eqs) (eK iJ (sv 11) (eN (aC (bT (aC cD (aC (sv 6) (aC (sv 7) (aC (sv 5) (aC bO aS)))))) (aC (bT (aC cD (aC (sv 6) (aC (sv 7) aS)))) aS))))) (b8 (uK PassesOwn.never rfl (qI (eK iJ (sv 11) (eN (aC (cJ (G_q35.mono (by decide)) hr rfl D_q35.mgx D_q35.fn.kp D_q35.bd .nil aR (aC (sv 2) (aC (sv 3) (aC (eN (aC cD (aC cD aS))) aS)))) aS)))) (aX (i:=12) sc_law.nd rfl (by subst_eqs)) (fO (uK PassesOwn.never rfl (qI (eN (aC (sv 3) (aC (eK bQ (sv 3) bO) (aC (eK aY (sv 3) (sv 3)) aS))))) (aX (i:=13) sc_law.nd rfl (by subst_eqs)) (b8 (zA (i:=14) (j:=15) rfl sc_law.nd rfl rfl (by decide) rfl rfl (aC (fG (nE hr.gd (fZ hr)) (by rfl) T.no_repr PyProof.Rows.boot_repr (aC (sv 12) aS)) (aC (cJ (G_q48.mono (by decide)) hr rfl D_q48.mgx D_q48.fn.kp D_q48.bd .nil aR (aC (sv 13) (aC (sv 12) aS))) aS)) (by first | rfl | with_unfolding_all rfl)) (fO (aDn (SW.st (aDm (aD7 (aD6 (cJ (G_q44.mono (by decide)) hr rfl D_q44.mgx D_q44.fn.kp D_q44.bd .nil aR (aC (cJ (G_q42.mono (by decide)) hr rfl D_q42.mgx D_q42.fn.kp D_q42.bd .nil aR (aC (sv 13) (aC (sv 12) aS))) (aC (sv 15) aS))))) (y9 (qF cV (fG (nE hr.gd (fZ hr)) (by rfl) T.no_repr PyProof.Rows.boot_repr (aC (sv 12) aS)) (sv 14) (nomark _))))) (fO (qG sU))
 vM)))))) (b8 (eT (i:=16) sc_law.nd rfl (by subst_eqs) (cJ (G_q46.mono (by decide)) hr rfl D_q46.mgx D_q46.fn.kp D_q46.bd .nil aR (aC (sv 2) (aC bO (aC (eK jZ bO bO) aS))))) (fO (aDn (SW.st (aDm (qF cV (zE (sp:=fun b=>spWord P w K mg cl b) (fun b=>(B_q39 b).mono (by decide)) hr (fun _=>rfl) rfl D_q39.mgx D_q39.fn.kp D_q39.bd .nil aR (aC (aB4 (N:=["_law_none_here","_law_paper_here"]) (js:=[16,8]) ⟨rfl,hd,bm⟩ (by rfl) rfl) aS)) cD (nomark _)) (y9 (qF xZ (cJ (G_q42.mono (by decide)) hr rfl D_q42.mgx D_q42.fn.kp D_q42.bd .nil aR (aC bO (aC (bT (aC cD aS)) aS))) sU (nomark _))))) (fO (qG sU))
 vM)))))))))))))))))) (fO (qG (aB6 aE0 (cJ (G_q42.mono (by decide)) hr rfl D_q42.mgx D_q42.fn.kp D_q42.bd .nil aR (aC bO (aC (bT (aC cD (aC bO (aC (bT (aC bO (aC bO aS))) (aC (bT (aC (bT (aC bO (aC bO (aC (bT (aC cD aS)) aS)))) aS)) aS))))) aS))) sU (nomark _))))) ?_
    have e0:L2.start ["_law_script","_law_k","_law_state_here","_law_n","_law_parts_here","_law_rows","_law_d","_law_pair","_law_paper_here","_law_x","_law_y","_law_things","_law_thing","_law_number","_law_kept","_law_due_here","_law_none_here"] [.ref sa]=[some (.ref sa),none,none,none,none,none,none,none,none,none,none,none,none,none,none,none,none]:=rfl
    rw[e0];clear e0
    refine aM fun R0 hR0=>?_
    dsimp only[eO]
    refine lM fun B hB=>?_
    refine lK ?_
    bv_omega
    refine⟨_,.inl hS,?_⟩
    obtain⟨Pl,hPl⟩:∃Pl:Nat->St->Hp->Prop,∀i σ H',Pl i σ H'↔SameX Pt H H'/\TabOk H' Pt qL/\∃v1 v2 v3 v4 v5 v6 v7 v8 v9 v10 v11 v12 v13 v14 v15 v16,σ=[some (.ref sa),v1,v2,v3,v4,v5,v6,v7,v8,v9,v10,v11,v12,v13,v14,v15,v16]:=⟨_,fun _ _ _=>Iff.rfl⟩
    refine⟨?_,?_,aA6 Pl ((hPl _ _ _).mpr ⟨SameX.refl _ _,xK hT,none,none,none,none,none,none,none,none,none,none,none,none,none,none,none,none,rfl⟩) ?_ ?_⟩
    · rw[List.length_map];repeat' split
      all_goals omega
    · rw[List.length_map];repeat' split
      all_goals omega
    · intro i σ H1 hi hP
      obtain⟨S,TB,v1,v2,v3,v4,v5,v6,v7,v8,v9,v10,v11,v12,v13,v14,v15,v16,rfl⟩:=(hPl _ _ _).mp hP
      clear hP
      dsimp only[eM,List.set_cons_zero,List.set_cons_succ]
      rw[hB]
      clear hB B
      refine aM fun R hR=>?_
      bv_omega
      refine⟨sa,ns,_,rfl,S.seq hT hS,hlen,by omega,fun a x y y0 y1 ha=>?_⟩
      have nb:∀b o,b≠Pt->H b=some o->b≠a:=fun b o hb e=>aI (S b o hb e) ha
      have S0:SameX Pt H (upd H1 a (.lst [.int x,.int y])):=fun b o hb e=>by rw[aO (nb b o hb e)];exact S b o hb e
      have TB0:TabOk (upd H1 a (.lst [.int x,.int y])) Pt qL:=TB.same fun b o e=>by rw[aO (aI e ha)];exact e
      have st0:StAt (upd H1 a (.lst [.int x,.int y])) a:=⟨x,y,aE,y0,y1⟩
      generalize upd H1 a (.lst [.int x,.int y])=H2 at S0 TB0 st0 ⊢
      subst hR
      refine aM fun R hR=>?_
      bv_omega
      refine⟨by show 2<=sizeLine;decide,fun p hp=>?_⟩
      refine⟨a,2,rfl,⟨by decide,by decide⟩,st0.upd hp,fun x H4 x0 x1 s4=>?_⟩
      have s04:Step a H2 H4:=((Step.refl st0).new hp).trans s4
      have np:p≠a:=st0.ne hp
      have hp4:H4 p=some (.lst [.int 30,.int 2000]):=s4.but _ _ np aE
      obtain⟨wd,ew,w1,w2⟩:=aBs x0 x1
      refine⟨_,_,rfl,SqL.of hp4,_,ew,a,wd,rfl,⟨by omega,by omega⟩,s04.st,fun n0 H5 hn0 nu s5=>?_⟩
      have s05:=s04.trans s5
      refine⟨_,rfl,?_⟩
      obtain⟨n,en,hn,n3,nB⟩:∃n:Int,(if n0>3 then n0 else 3)=n/\bP n/\3<=n/\n<=1000003:=by
        refine⟨_,rfl,?_⟩
        split
        · exact⟨hn0,by omega,nu⟩
        · exact⟨aGl,by decide,by decide⟩
      rw[en]
      clear en hn0 nu
      have nod:=fC hn (by omega)
      subst hR
      refine aM fun R hR=>?_
      bv_omega
      refine⟨n+1,rfl,⟨by omega,by omega⟩,fun l L xs H6 hl S6 hL RL=>?_⟩
      have s06:=s05.same S6
      have xl:xs.length=l.length:=by rw[<- RL.length,List.length_map]
      have nL:=mE s06.st hL RL
      have len:=gX hl.1.pr (show prod l<=10^9 by rw[hl.2];omega)
      have n20:(2:Int)^20=1048576:=by decide
      have hpr:∀q∈l,bP q.1/\q.1<=10^8/\q.1<=2^20/\1<=q.2:=fun q hq=>⟨(hl.1.pr q hq).1,by have:=(gI hl hq).1;omega,by have:=(gI hl hq).1;omega,(hl.1.pr q hq).2⟩
      subst hR
      refine aM fun R hR=>?_
      bv_omega
      refine d8 ?_
      refine⟨_,rfl,L,rfl,⟨xs,SqL.of hL⟩,fun bs D hcb hD=>?_⟩
      have nD:D≠a:=s06.st.ne hD
      obtain⟨Pw,hPw⟩:∃Pw:Nat->St->Hp->Prop,∀i σ H5,Pw i σ H5↔(∃v1 v2,σ=[v1,v2,some (.ref a)])/\Step a H6 H5/\∃(ys:List V) (rows:List Row),H5 D=some (.lst ys)/\RepL K H5 (rows.map rwD) ys/\rows.map rwP=l.take i/\∀r∈rows,BP 20 false r.1 r.2.2:=⟨_,fun _ _ _=>Iff.rfl⟩
      refine kA (xs:=xs) Pw ((hPw _ _ _).mpr ⟨⟨_,_,rfl⟩,(Step.refl s06.st).new hD,[],[],aE,rfl,rfl,fun r hr=>by cases hr⟩) (fun i σ H5 hi h=>?_) ?_ ?_
      · obtain⟨_,s5,_⟩:=(hPw _ _ _).mp h
        exact SqL.of (s5.but _ _ nL hL)
      · intro i x σ H5 hx h
        obtain⟨⟨v1,v2,rfl⟩,s5,ys,rows,eD,RD',er,hb⟩:=(hPw _ _ _).mp h
        obtain⟨q,cc,hq,rfl,hcc⟩:=e6 (RL.mono (s5.tk s06.st) _ (fT l)) hx
        have hmem:q∈l:=List.mem_of_getElem? hq
        have h2:=hpr q hmem
        have yl:ys.length<=l.length:=by
          have:=RD'.length
          have e2:=congrArg List.length er
          rw[List.length_map] at this e2
          rw[List.length_take] at e2
          omega
        rename_i CT aBy
        refine⟨_,hcc,rfl,_,_,rfl,_,_,rfl,rfl,?_⟩
        try bv_omega
        refine⟨by show 3<=sizeLine;decide,fun kd hkd=>?_⟩
        have s5':Step a H6 (upd H5 kd (.lst [.str (Str.ofString "full"),.str (Str.ofString "share"),.str (Str.ofString "other")])):=s5.new hkd
        have eD':(upd H5 kd (.lst [.str (Str.ofString "full"),.str (Str.ofString "share"),.str (Str.ofString "other")])) D=some (.lst ys):=aW eD hkd
        have tk5:TK H5 (upd H5 kd (.lst [.str (Str.ofString "full"),.str (Str.ofString "share"),.str (Str.ofString "other")])):=TK.new hkd
        have kds:Kinds a (upd H5 kd (.lst [.str (Str.ofString "full"),.str (Str.ofString "share"),.str (Str.ofString "other")])) kd false [Str.ofString "full",Str.ofString "share",Str.ofString "other"]:=⟨aE,s5.st.ne hkd,by decide,by decide,fun z hz=>by
          rcases List.mem_cons.mp hz with e | hz
          · exact .inl e
          rcases List.mem_cons.mp hz with e | hz
          · exact .inr ⟨rfl,.inl e⟩
          · exact .inr ⟨rfl,.inr (List.mem_singleton.mp hz)⟩⟩
        generalize upd H5 kd (.lst [.str (Str.ofString "full"),.str (Str.ofString "share"),.str (Str.ofString "other")])=H5' at s5' eD' tk5 kds ⊢
        refine⟨a,kd,q.1,false,_,rfl,⟨h2.1,h2.2.1,h2.2.2.1,s5'.st,kds⟩,fun d v H7 bp s7 Rv=>⟨by show 3<=sizeLine;decide,fun r hr'=>?_⟩⟩
        have eD6:=s7.but _ _ nD eD'
        have nrD:D≠r:=aI eD6 hr'
        have tk6:TK H7 (upd (upd H7 r (.tup [.int q.1,.int q.2,v])) D (.lst (ys++[.ref r]))):=(TK.new hr').trans (TK.lst (aW eD6 hr'))
        refine⟨ys,aW eD6 hr',bK (by omega),(hPw _ _ _).mpr ⟨⟨_,_,rfl⟩,((s5'.trans s7).new hr').put hD nD,_,rows++[(q.1,q.2,d)],aE,?_,?_,?_⟩⟩
        · rw[List.map_append]
          refine(RD'.mono ((tk5.trans (s7.tk s5'.st)).trans tk6) _ (eI hb)).append ⟨_,[],rfl,⟨r,_,rfl,SqT.of (by rw[aO nrD.symm,aE]),_,_,rfl,rfl,_,_,rfl,rfl,_,_,rfl,Rep.mono tk6 _ bp.nl Rv,rfl⟩,rfl⟩
        · rw[List.map_append,er,List.take_succ,hq];rfl
        · intro r' hr2
          rcases List.mem_append.mp hr2 with h | h
          · exact hb r' h
          · rw[List.mem_singleton.mp h];exact bp
      intro σ H7 h
      obtain⟨⟨v1,v2,rfl⟩,s7,ys,rows,eD,RD',er,hb⟩:=(hPw _ _ _).mp h
      clear h hPw Pw
      rw[xl,List.take_length] at er
      refine⟨D,rfl,ys,.inl ⟨SqL.of eD,fun tl htl=>?_⟩⟩
      have s8:Step a H2 (upd H7 tl (.tup ys)):=(s06.trans s7).new htl
      have h8:SqT K (upd H7 tl (.tup ys)) tl ys:=SqT.of aE
      have R8:=RD'.mono (TK.new (o:=.tup ys) htl) _ (eI hb)
      generalize upd H7 tl (.tup ys)=H8 at s8 h8 R8 ⊢
      have up:dL 1 rows:=r9 (by rw[er];exact hl.1.up) fun r hr=>by
        have hm:rwP r∈l:=by rw[<- er];exact List.mem_map_of_mem hr
        have a:=hpr _ hm
        exact⟨a.1.1,a.2.2.2⟩
      have all:prd rows=n+1:=by rw[qM,er,hl.2]
      have rne:rows≠[]:=fun e=>by
        rw[e] at all
        have:prd []=1:=rfl
        omega
      have rp:RowsP (.tup (rows.map rwD)) (n+1) rows:=⟨rfl,rne,up,by omega⟩
      clear RD' eD hcb hD
      obtain⟨pN,rfl⟩:∃pN:Nat,n=(pN:Int):=⟨n.toNat,by omega⟩
      subst hR
      refine aM fun R hR=>?_
      bv_omega
      refine⟨a,tl,pN,rows,rfl,⟨hn,by omega,by omega⟩,⟨s8.st,⟨tl,ys,rfl,h8,R8⟩,eI hb⟩,⟨rp,all⟩,fun d A q r H9 hd rest nm go s9 hq hr=>?_⟩
      refine⟨r,rfl,_,SqT.of hr,rfl,_,_,rfl,_,_,rfl,rfl,?_⟩
      have s09:=s8.trans s9
      have tk9:=s9.tk s8.st
      subst hR
      refine aM fun R hR=>?_
      bv_omega
      refine⟨by show 4<=sizeLine;decide,fun u hu=>?_⟩
      have bp:BP 21 false (pN:Int) (.tup [.str (Str.ofString "other"),.int d,pD A,.tup (rows.map rwD)]):=.k4 hn ⟨rfl,rp,hd.1,hd.2.1,all,by omega,rest,nm,hd.2.2,go⟩ hb
      have RvA:Rep K (upd H9 u (.tup [.str (Str.ofString "other"),.int d,.ref q,.ref tl])) (.tup [.str (Str.ofString "other"),.int d,pD A,.tup (rows.map rwD)]) (.ref u):=⟨u,_,rfl,SqT.of aE,_,_,rfl,rfl,_,_,rfl,rfl,_,_,rfl,dA (aW hq hu),_,_,rfl,⟨tl,ys,rfl,(TK.new hu).sq (tk9.sq h8),R8.mono (tk9.trans (TK.new hu)) _ (eI hb)⟩,rfl⟩
      have s10:Step a H2 (upd H9 u (.tup [.str (Str.ofString "other"),.int d,.ref q,.ref tl])):=s09.new hu
      have hqA:SqT K (upd H9 u (.tup [.str (Str.ofString "other"),.int d,.ref q,.ref tl])) q (pzV A):=SqT.of (aW hq hu)
      have RtA:Rep K (upd H9 u (.tup [.str (Str.ofString "other"),.int d,.ref q,.ref tl])) (.tup (rows.map rwD)) (.ref tl):=⟨tl,ys,rfl,(TK.new hu).sq (tk9.sq h8),R8.mono (tk9.trans (TK.new hu)) _ (eI hb)⟩
      generalize upd H9 u (.tup [.str (Str.ofString "other"),.int d,.ref q,.ref tl])=HA at RvA s10 hqA RtA ⊢
      obtain⟨ds,ed,tp⟩:=bp.tp (by decide) (by omega)
      have ed':=Dt.tup.inj ed
      subst ed'
      have nld:=bp.nl
      have rn:=aFs tp
      obtain⟨a0,a1,c0,c1⟩:=id rest
      obtain⟨xnP,xnL⟩:=fL (A:=A) (by omega) (by omega)
      have nP:Nice (.tup [.str (Str.ofString "other"),.int d,pD A,.tup (rows.map rwD)]):=nN (by have:=hd.1;have:=hd.2.1;omega) xnP rn
      have dn:=hd.2.1
      have d1:=hd.1
      have hn0:0<(pN:Int):=by omega
      have hn90:(pN:Int)<10^90:=by omega
      have hn30:(pN:Int)<=10^30:=by omega
      have hd0:0<=d:=by omega
      have hdn:d<(pN:Int):=by omega
      have hd100:=tI hd0 hdn hn90
      have hd31:d.natAbs<10^31:=by omega
      have hA1:A.1.natAbs<10^31:=by omega
      have hA2:A.2.natAbs<10^31:=by omega
      have hA1n:A.1<(pN:Int):=by omega
      have SP0:=Stab.of s10.st nld RvA
      have ST0:=Stab.of s10.st rn.nl RtA
      have papN:∃n:Int,n=(pN:Int):=⟨_,rfl⟩
      clear hb RvA R8 h8 bp tk9 s09 s9 hq hr go all rp rne up rest nm tp er
      subst hR
      refine aM fun R hR=>?_
      bv_omega
      refine⟨a,pN,rfl,⟨hn0,hn90⟩,s10.st,fun x HB x0 x1 sB=>⟨a,pN,rfl,⟨hn0,hn90⟩,sB.st,fun y HC y0 y1 sC=>?_⟩⟩
      have sBC:=sB.trans sC
      have s0C:=s10.trans sBC
      replace SP0:=SP0.step sBC
      replace ST0:=ST0.step sBC
      replace hqA:=(sBC.tk s10.st).sq hqA
      clear sBC sC sB RtA
      subst hR
      refine aM fun R hR=>?_
      bv_omega
      refine⟨by show 2<=sizeLine;decide,fun p1 hp1=>⟨by show 4<=sizeLine;decide,fun p2 hp2=>?_⟩⟩
      have sD:Step a HC (upd (upd HC p1 (.tup [.int x,.int y])) p2 (.tup [.str (Str.ofString "other"),.int d,.ref p1,.ref tl])):=((Step.refl s0C.st).new hp1).new hp2
      have hD1:SqT K (upd (upd HC p1 (.tup [.int x,.int y])) p2 (.tup [.str (Str.ofString "other"),.int d,.ref p1,.ref tl])) p1 [.int x,.int y]:=SqT.of (aW aE hp2)
      have hD2:SqT K (upd (upd HC p1 (.tup [.int x,.int y])) p2 (.tup [.str (Str.ofString "other"),.int d,.ref p1,.ref tl])) p2 [.str (Str.ofString "other"),.int d,.ref p1,.ref tl]:=SqT.of aE
      generalize upd (upd HC p1 (.tup [.int x,.int y])) p2 (.tup [.str (Str.ofString "other"),.int d,.ref p1,.ref tl])=HD at sD hD1 hD2 ⊢
      refine⟨a,(pN:Int)-1,rfl,⟨by omega,by omega⟩,sD.st,fun z HE z0 z1 sE=>⟨_,rfl,by show 4<=sizeLine;decide,fun p3 hp3=>⟨by show 3<=sizeLine;decide,fun L1 hL1=>?_⟩⟩⟩
      have tkE:=sE.tk sD.st
      have sF:Step a HC (upd HE p3 (.tup [.str (Str.ofString "other"),.int (1+z),.ref q,.ref tl])):=(sD.trans sE).new hp3
      have tkF:TK HD (upd HE p3 (.tup [.str (Str.ofString "other"),.int (1+z),.ref q,.ref tl])):=tkE.trans (TK.new hp3)
      have hF3:SqT K (upd HE p3 (.tup [.str (Str.ofString "other"),.int (1+z),.ref q,.ref tl])) p3 [.str (Str.ofString "other"),.int (1+z),.ref q,.ref tl]:=SqT.of aE
      generalize upd HE p3 (.tup [.str (Str.ofString "other"),.int (1+z),.ref q,.ref tl])=HF at sF tkF hF3 hL1 ⊢
      have hqF:=(sF.tk s0C.st).sq hqA
      have RqF:Rep K HF (pD A) (.ref q):=lT hqF
      have RtF:=ST0 HF sF
      have RF:RepL K HF [.tup [.str (Str.ofString "other"),.int d,pD A,.tup (rows.map rwD)],.tup [.str (Str.ofString "other"),.int d,pD (x,y),.tup (rows.map rwD)],.tup [.str (Str.ofString "other"),.int (1+z),pD A,.tup (rows.map rwD)]] [.ref u,.ref p2,.ref p3] :=
        ⟨_,_,rfl,SP0 HF sF,_,_,rfl,lU (tkF.sq hD2) (lT (tkF.sq hD1)) RtF,_,_,rfl,lU hF3 RqF RtF,rfl⟩
      have nF:noLL [.tup [.str (Str.ofString "other"),.int d,pD A,.tup (rows.map rwD)],.tup [.str (Str.ofString "other"),.int d,pD (x,y),.tup (rows.map rwD)],.tup [.str (Str.ofString "other"),.int (1+z),pD A,.tup (rows.map rwD)]]=true:=by
        show (noL _&&(noL _&&(noL _&&true)))=true
        rw[nl4 rfl rn.nl,nl4 rfl rn.nl,nl4 rfl rn.nl];rfl
      have niF:∀e∈[Dt.tup [.str (Str.ofString "other"),.int d,pD A,.tup (rows.map rwD)],.tup [.str (Str.ofString "other"),.int d,pD (x,y),.tup (rows.map rwD)],.tup [.str (Str.ofString "other"),.int (1+z),pD A,.tup (rows.map rwD)]],Nice e:=by
        intro e he
        simp only[List.mem_cons,List.not_mem_nil,or_false] at he
        rcases he with rfl | rfl | rfl
        · exact nP
        · exact nN hd100 (fL (A:=(x,y)) (tI x0 x1 hn90) (tI y0 y1 hn90)).1 rn
        · exact nN (by omega) xnP rn
      have D1n:[Dt.tup [.str (Str.ofString "other"),.int d,pD A,.tup (rows.map rwD)],.tup [.str (Str.ofString "other"),.int d,pD (x,y),.tup (rows.map rwD)],.tup [.str (Str.ofString "other"),.int (1+z),pD A,.tup (rows.map rwD)]].length=3:=rfl
      generalize [Dt.tup [.str (Str.ofString "other"),.int d,pD A,.tup (rows.map rwD)],.tup [.str (Str.ofString "other"),.int d,pD (x,y),.tup (rows.map rwD)],.tup [.str (Str.ofString "other"),.int (1+z),pD A,.tup (rows.map rwD)]]=D1 at RF nF niF D1n
      generalize [V.ref u,V.ref p2,V.ref p3]=X1 at RF ⊢
      have s0F:=s0C.trans sF
      have fL1:=s0F.nn hL1
      have nL1:L1≠a:=s0F.st.ne hL1
      have tkG:TK HF (upd HF L1 (.lst X1)):=TK.new hL1
      have s0G:Step a H2 (upd HF L1 (.lst X1)):=s0F.new hL1
      have hG1:(upd HF L1 (.lst X1)) L1=some (.lst X1):=aE
      generalize upd HF L1 (.lst X1)=HG at tkG s0G hG1 ⊢
      have RG:=RF.mono tkG _ nF
      have hqG:=tkG.sq hqF
      have RtG:=Rep.mono tkG _ rn.nl RtF
      have SPG:Rep K HG (.tup [.str (Str.ofString "other"),.int d,pD A,.tup (rows.map rwD)]) (.ref u):=Rep.mono tkG _ nld (SP0 HF sF)
      clear sF sE sD hD1 hD2 hF3 tkF tkE hp1 hp2 hp3 RF hqF RqF RtF tkG hL1 ST0 SP0 hqA s0F
      subst hR
      refine aM fun R hR=>?_
      bv_omega
      have X1l:X1.length=3:=by rw[<- RG.length];exact D1n
      have Al:A.2<=(pN:Int)-1:=c1
      refine⟨.inl ⟨_,SqL.of hG1⟩,q,_,_,_,rfl,rfl,hqG,rfl,q,_,_,_,rfl,rfl,hqG,rfl,_,rfl,hn0,by show 2<=sizeLine;decide,fun p4 hp4=>⟨by show 4<=sizeLine;decide,fun p5 hp5=>?_⟩⟩
      have e0:=Int.emod_nonneg ((pN:Int)-A.2) (Int.ne_of_gt hn0)
      have e1:=Int.emod_lt_of_pos ((pN:Int)-A.2) hn0
      generalize ((pN:Int)-A.2)%(pN:Int)=m3 at e0 e1 hp5 ⊢
      have hG5:(upd (upd HG p4 (.tup [.int A.1,.int m3])) p5 (.tup [.str (Str.ofString "other"),.int d,.ref p4,.ref tl])) L1=some (.lst X1):=aW (aW hG1 hp4) hp5
      have n4:L1≠p4:=aI hG1 hp4
      have n5:L1≠p5:=aI (aW hG1 hp4) hp5
      refine⟨X1,hG5,bK (by rw[X1l];decide),?_⟩
      have tkH:TK HG (upd (upd (upd HG p4 (.tup [.int A.1,.int m3])) p5 (.tup [.str (Str.ofString "other"),.int d,.ref p4,.ref tl])) L1 (.lst (X1++[.ref p5]))):=(TK.new hp4).trans ((TK.new hp5).trans (TK.lst hG5))
      have s0H:Step a H2 (upd (upd (upd HG p4 (.tup [.int A.1,.int m3])) p5 (.tup [.str (Str.ofString "other"),.int d,.ref p4,.ref tl])) L1 (.lst (X1++[.ref p5]))):=((s0G.new hp4).new hp5).put fL1 nL1
      have hH1:(upd (upd (upd HG p4 (.tup [.int A.1,.int m3])) p5 (.tup [.str (Str.ofString "other"),.int d,.ref p4,.ref tl])) L1 (.lst (X1++[.ref p5]))) L1=some (.lst (X1++[.ref p5])):=aE
      have hH4:SqT K (upd (upd (upd HG p4 (.tup [.int A.1,.int m3])) p5 (.tup [.str (Str.ofString "other"),.int d,.ref p4,.ref tl])) L1 (.lst (X1++[.ref p5]))) p4 [.int A.1,.int m3]:=SqT.of (by rw[aO n4.symm];exact aW aE hp5)
      have hH5:SqT K (upd (upd (upd HG p4 (.tup [.int A.1,.int m3])) p5 (.tup [.str (Str.ofString "other"),.int d,.ref p4,.ref tl])) L1 (.lst (X1++[.ref p5]))) p5 [.str (Str.ofString "other"),.int d,.ref p4,.ref tl]:=SqT.of (by rw[aO n5.symm];exact aE)
      generalize upd (upd (upd HG p4 (.tup [.int A.1,.int m3])) p5 (.tup [.str (Str.ofString "other"),.int d,.ref p4,.ref tl])) L1 (.lst (X1++[.ref p5]))=HH at tkH s0H hH1 hH4 hH5 ⊢
      have RtH:=Rep.mono tkH _ rn.nl RtG
      have RH:RepL K HH (D1++[.tup [.str (Str.ofString "other"),.int d,pD (A.1,m3),.tup (rows.map rwD)]]) (X1++[.ref p5]):=(RG.mono tkH _ nF).append ⟨_,[],rfl,lU hH5 (lT hH4) RtH,rfl⟩
      have nH:noLL (D1++[.tup [.str (Str.ofString "other"),.int d,pD (A.1,m3),.tup (rows.map rwD)]])=true:=pB nF (nl4 rfl rn.nl)
      have niH:∀e∈D1++[.tup [.str (Str.ofString "other"),.int d,pD (A.1,m3),.tup (rows.map rwD)]],Nice e:=by
        intro e he
        rcases List.mem_append.mp he with h | h
        · exact niF e h
        · rw[List.mem_singleton.mp h]
          exact nN hd100 (fL (A:=(A.1,m3)) (bG hA1) (tI e0 e1 hn90)).1 rn
      have hqH:=tkH.sq hqG
      have SPH:=Rep.mono tkH _ nld SPG
      have D1l:=RG.length
      generalize D1++[.tup [.str (Str.ofString "other"),.int d,pD (A.1,m3),.tup (rows.map rwD)]]=D2 at RH nH niH
      have X2l:(X1++[V.ref p5]).length=4:=by rw[List.length_append,X1l];rfl
      generalize X1++[V.ref p5]=X2 at RH hH1 X2l ⊢
      clear hH4 hH5 tkH n4 n5 hG5 hp4 hp5 RG hqG RtG SPG hG1 niF nF s0G X1l
      subst hR
      refine aM fun R hR=>?_
      bv_omega
      have sm:Sm A:=⟨hA1,hA2⟩
      refine⟨.inl ⟨_,SqL.of hH1⟩,q,q,A,A,d,pN,rfl,hqH,hqH,⟨sm,sm,hd31,hn0,hn30⟩,fun p6 hp6=>⟨by show 4<=sizeLine;decide,fun p7 hp7=>?_⟩⟩
      have smB:=Sm.rp (n:=(pN:Int)) hn0 hn30 (MM.pm d A A)
      generalize MM.rp (pN:Int) (MM.pm d A A)=B at smB hp7 ⊢
      have hH7:(upd (upd HH p6 (.tup (pzV B))) p7 (.tup [.str (Str.ofString "other"),.int d,.ref p6,.ref tl])) L1=some (.lst X2):=aW (aW hH1 hp6) hp7
      have n6:L1≠p6:=aI hH1 hp6
      have n7:L1≠p7:=aI (aW hH1 hp6) hp7
      refine⟨X2,hH7,bK (by rw[X2l];decide),?_⟩
      have tkI:TK HH (upd (upd (upd HH p6 (.tup (pzV B))) p7 (.tup [.str (Str.ofString "other"),.int d,.ref p6,.ref tl])) L1 (.lst (X2++[.ref p7]))):=(TK.new hp6).trans ((TK.new hp7).trans (TK.lst hH7))
      have s0I:Step a H2 (upd (upd (upd HH p6 (.tup (pzV B))) p7 (.tup [.str (Str.ofString "other"),.int d,.ref p6,.ref tl])) L1 (.lst (X2++[.ref p7]))):=((s0H.new hp6).new hp7).put fL1 nL1
      have hI1:(upd (upd (upd HH p6 (.tup (pzV B))) p7 (.tup [.str (Str.ofString "other"),.int d,.ref p6,.ref tl])) L1 (.lst (X2++[.ref p7]))) L1=some (.lst (X2++[.ref p7])):=aE
      have hI6:SqT K (upd (upd (upd HH p6 (.tup (pzV B))) p7 (.tup [.str (Str.ofString "other"),.int d,.ref p6,.ref tl])) L1 (.lst (X2++[.ref p7]))) p6 [.int B.1,.int B.2]:=SqT.of (by rw[aO n6.symm];exact aW aE hp7)
      have hI7:SqT K (upd (upd (upd HH p6 (.tup (pzV B))) p7 (.tup [.str (Str.ofString "other"),.int d,.ref p6,.ref tl])) L1 (.lst (X2++[.ref p7]))) p7 [.str (Str.ofString "other"),.int d,.ref p6,.ref tl]:=SqT.of (by rw[aO n7.symm];exact aE)
      generalize upd (upd (upd HH p6 (.tup (pzV B))) p7 (.tup [.str (Str.ofString "other"),.int d,.ref p6,.ref tl])) L1 (.lst (X2++[.ref p7]))=HI at tkI s0I hI1 hI6 hI7 ⊢
      have RtI:=Rep.mono tkI _ rn.nl RtH
      have RI:RepL K HI (D2++[.tup [.str (Str.ofString "other"),.int d,pD B,.tup (rows.map rwD)]]) (X2++[.ref p7]):=(RH.mono tkI _ nH).append ⟨_,[],rfl,lU hI7 (lT hI6) RtI,rfl⟩
      have nI:noLL (D2++[.tup [.str (Str.ofString "other"),.int d,pD B,.tup (rows.map rwD)]])=true:=pB nH (nl4 rfl rn.nl)
      have niI:∀e∈D2++[.tup [.str (Str.ofString "other"),.int d,pD B,.tup (rows.map rwD)]],Nice e:=by
        intro e he
        rcases List.mem_append.mp he with h | h
        · exact niH e h
        · rw[List.mem_singleton.mp h]
          exact nN hd100 (fL (A:=B) (bG smB.a) (bG smB.b)).1 rn
      have hqI:=tkI.sq hqH
      have SPI:=Stab.of s0I.st nld (Rep.mono tkI _ nld SPH)
      have STI:=Stab.of s0I.st rn.nl RtI
      have LI:StabL a K HI (D2++[.tup [.str (Str.ofString "other"),.int d,pD B,.tup (rows.map rwD)]]) (X2++[.ref p7]):=fun H' s=>RI.mono (s.tk s0I.st) _ nI
      generalize D2++[.tup [.str (Str.ofString "other"),.int d,pD B,.tup (rows.map rwD)]]=D3 at LI niI
      have X3l:(X2++[V.ref p7]).length=5:=by rw[List.length_append,X2l];rfl
      generalize X2++[V.ref p7]=X3 at LI hI1 X3l ⊢
      clear hI6 hI7 tkI n6 n7 hH7 hp6 hp7 RI RH nI nH niH hqH RtH SPH hH1 s0H X2l RtI
      subst hR
      refine aM fun R hR=>?_
      bv_omega
      refine⟨by show 2<=sizeLine;decide,fun p8 hp8=>⟨by show 4<=sizeLine;decide,fun p9 hp9=>⟨by show 2<=sizeLine;decide,fun pa hpa=>⟨by show 4<=sizeLine;decide,fun pb hpb=>?_⟩⟩⟩⟩
      have sJ:Step a HI (upd (upd (upd (upd HI p8 (.tup [.int 1,.int 0])) p9 (.tup [.str (Str.ofString "other"),.int d,.ref p8,.ref tl])) pa (.tup [.int ((pN:Int)-1),.int 0])) pb (.tup [.str (Str.ofString "other"),.int d,.ref pa,.ref tl])):=(((((Step.refl s0I.st).new hp8).new hp9).new hpa).new hpb)
      have h8:SqT K (upd (upd (upd (upd HI p8 (.tup [.int 1,.int 0])) p9 (.tup [.str (Str.ofString "other"),.int d,.ref p8,.ref tl])) pa (.tup [.int ((pN:Int)-1),.int 0])) pb (.tup [.str (Str.ofString "other"),.int d,.ref pa,.ref tl])) p8 [.int 1,.int 0]:=SqT.of (aW (aW (aW aE hp9) hpa) hpb)
      have h9:SqT K (upd (upd (upd (upd HI p8 (.tup [.int 1,.int 0])) p9 (.tup [.str (Str.ofString "other"),.int d,.ref p8,.ref tl])) pa (.tup [.int ((pN:Int)-1),.int 0])) pb (.tup [.str (Str.ofString "other"),.int d,.ref pa,.ref tl])) p9 [.str (Str.ofString "other"),.int d,.ref p8,.ref tl]:=SqT.of (aW (aW aE hpa) hpb)
      have hA':SqT K (upd (upd (upd (upd HI p8 (.tup [.int 1,.int 0])) p9 (.tup [.str (Str.ofString "other"),.int d,.ref p8,.ref tl])) pa (.tup [.int ((pN:Int)-1),.int 0])) pb (.tup [.str (Str.ofString "other"),.int d,.ref pa,.ref tl])) pa [.int ((pN:Int)-1),.int 0]:=SqT.of (aW aE hpb)
      have hB':SqT K (upd (upd (upd (upd HI p8 (.tup [.int 1,.int 0])) p9 (.tup [.str (Str.ofString "other"),.int d,.ref p8,.ref tl])) pa (.tup [.int ((pN:Int)-1),.int 0])) pb (.tup [.str (Str.ofString "other"),.int d,.ref pa,.ref tl])) pb [.str (Str.ofString "other"),.int d,.ref pa,.ref tl]:=SqT.of aE
      generalize upd (upd (upd (upd HI p8 (.tup [.int 1,.int 0])) p9 (.tup [.str (Str.ofString "other"),.int d,.ref p8,.ref tl])) pa (.tup [.int ((pN:Int)-1),.int 0])) pb (.tup [.str (Str.ofString "other"),.int d,.ref pa,.ref tl])=HJ at sJ h8 h9 hA' hB' ⊢
      have hqJ:=(sJ.tk s0I.st).sq hqI
      refine⟨_,.inr hqJ,fun lq hlq=>⟨by show 4<=sizeLine;decide,fun pc hpc=>⟨by show 3<=sizeLine;decide,fun q3 hq3=>?_⟩⟩⟩
      have nlq:lq≠a:=sJ.st.ne hlq
      have sK:Step a HJ (upd (upd (upd HJ lq (.lst (pzV A))) pc (.tup [.str (Str.ofString "other"),.int d,.ref lq,.ref tl])) q3 (.lst [.ref p9,.ref pb,.ref pc])):=((((Step.refl sJ.st).new hlq).new hpc).new hq3)
      have hKl:(upd (upd (upd HJ lq (.lst (pzV A))) pc (.tup [.str (Str.ofString "other"),.int d,.ref lq,.ref tl])) q3 (.lst [.ref p9,.ref pb,.ref pc])) lq=some (.lst [.int A.1,.int A.2]):=aW (aW aE hpc) hq3
      have hKc:SqT K (upd (upd (upd HJ lq (.lst (pzV A))) pc (.tup [.str (Str.ofString "other"),.int d,.ref lq,.ref tl])) q3 (.lst [.ref p9,.ref pb,.ref pc])) pc [.str (Str.ofString "other"),.int d,.ref lq,.ref tl]:=SqT.of (aW aE hq3)
      have hKq:(upd (upd (upd HJ lq (.lst (pzV A))) pc (.tup [.str (Str.ofString "other"),.int d,.ref lq,.ref tl])) q3 (.lst [.ref p9,.ref pb,.ref pc])) q3=some (.lst [.ref p9,.ref pb,.ref pc]):=aE
      generalize upd (upd (upd HJ lq (.lst (pzV A))) pc (.tup [.str (Str.ofString "other"),.int d,.ref lq,.ref tl])) q3 (.lst [.ref p9,.ref pb,.ref pc])=HK at sK hKl hKc hKq ⊢
      have sIK:=sJ.trans sK
      have hK1:=sIK.but _ _ nL1 hI1
      have tkK:=sK.tk sJ.st
      refine⟨X3,hK1,_,hKq,Nat.le_of_lt (bK (by rw[X3l];show 5+3<=1000;decide)),fun L2 hL2=>?_⟩
      have s0K:=s0I.trans sIK
      have STK:=STI.step sIK
      have LK:StabL a K HK (D3++[.tup [.str (Str.ofString "other"),.int d,pD (1,0),.tup (rows.map rwD)],.tup [.str (Str.ofString "other"),.int d,pD ((pN:Int)-1,0),.tup (rows.map rwD)],.tup [.str (Str.ofString "other"),.int d,.lst [.int A.1,.int A.2],.tup (rows.map rwD)]]) (X3++[.ref p9,.ref pb,.ref pc]) :=
        (LI.step sIK).app (.cons (iV s0K.st (tkK.sq h9) (kS s0K.st (tkK.sq h8)) STK) (.cons (iV s0K.st (tkK.sq hB') (kS s0K.st (tkK.sq hA')) STK) (.cons (iV s0K.st hKc (aB0 nlq hKl) STK) .nil)))
      have niK:∀e∈D3++[.tup [.str (Str.ofString "other"),.int d,pD (1,0),.tup (rows.map rwD)],.tup [.str (Str.ofString "other"),.int d,pD ((pN:Int)-1,0),.tup (rows.map rwD)],.tup [.str (Str.ofString "other"),.int d,.lst [.int A.1,.int A.2],.tup (rows.map rwD)]],Nice e:=by
        intro e he
        rcases List.mem_append.mp he with h | h
        · exact niI e h
        simp only[List.mem_cons,List.not_mem_nil,or_false] at h
        rcases h with rfl | rfl | rfl
        · exact nN hd100 (fL (A:=(1,0)) (by decide) (by decide)).1 rn
        · exact nN hd100 (fL (A:=((pN:Int)-1,0)) (tI (x:=(pN:Int)-1) (Int.sub_nonneg_of_le hn0) (Int.sub_lt_self _ (by decide)) hn90) (by show (0:Int).natAbs<_;decide)).1 rn
        · exact nN hd100 xnL rn
      generalize D3++[.tup [.str (Str.ofString "other"),.int d,pD (1,0),.tup (rows.map rwD)],.tup [.str (Str.ofString "other"),.int d,pD ((pN:Int)-1,0),.tup (rows.map rwD)],.tup [.str (Str.ofString "other"),.int d,.lst [.int A.1,.int A.2],.tup (rows.map rwD)]]=D4 at LK niK
      have X4l:(X3++[V.ref p9,V.ref pb,V.ref pc]).length=8:=by rw[List.length_append,X3l];rfl
      generalize X3++[V.ref p9,V.ref pb,V.ref pc]=X4 at LK X4l ⊢
      have sM:Step a HK (upd HK L2 (.lst X4)):=(Step.refl s0K.st).new hL2
      have nL2:L2≠a:=s0K.st.ne hL2
      have hM2:(upd HK L2 (.lst X4)) L2=some (.lst X4):=aE
      generalize upd HK L2 (.lst X4)=HM at sM hM2 ⊢
      have s0M:=s0K.trans sM
      have LM:=LK.step sM
      have STM:=STK.step sM
      have SPM:=(SPI.step sIK).step sM
      have hqM:=(sM.tk s0K.st).sq (tkK.sq hqJ)
      clear sM LK STK sIK tkK hK1 hKl hKc hKq sK sJ h8 h9 hA' hB' hqJ LI STI SPI hqI niI hI1 s0I hlq hpc hq3 hp8 hp9 hpa hpb hL2 s0K X3l
      subst hR
      refine aM fun R hR=>?_
      bv_omega
      refine⟨by show 4<=sizeLine;decide,fun pd hpd=>⟨q,_,_,_,rfl,rfl,(TK.new hpd).sq hqM,rfl,_,rfl,q,_,_,_,rfl,rfl,(TK.new hpd).sq hqM,rfl,by show 2<=sizeLine;decide,fun pe hpe=>⟨by show 4<=sizeLine;decide,fun pf hpf=>?_⟩⟩⟩
      have sN:Step a HM (upd (upd (upd HM pd (.tup [.str (Str.ofString "other"),.int (d+(pN:Int)),.ref q,.ref tl])) pe (.tup [.int (A.1+(pN:Int)),.int A.2])) pf (.tup [.str (Str.ofString "other"),.int d,.ref pe,.ref tl])):=(((Step.refl s0M.st).new hpd).new hpe).new hpf
      have hNd:SqT K (upd (upd (upd HM pd (.tup [.str (Str.ofString "other"),.int (d+(pN:Int)),.ref q,.ref tl])) pe (.tup [.int (A.1+(pN:Int)),.int A.2])) pf (.tup [.str (Str.ofString "other"),.int d,.ref pe,.ref tl])) pd [.str (Str.ofString "other"),.int (d+(pN:Int)),.ref q,.ref tl]:=SqT.of (aW (aW aE hpe) hpf)
      have hNe:SqT K (upd (upd (upd HM pd (.tup [.str (Str.ofString "other"),.int (d+(pN:Int)),.ref q,.ref tl])) pe (.tup [.int (A.1+(pN:Int)),.int A.2])) pf (.tup [.str (Str.ofString "other"),.int d,.ref pe,.ref tl])) pe [.int (A.1+(pN:Int)),.int A.2]:=SqT.of (aW aE hpf)
      have hNf:SqT K (upd (upd (upd HM pd (.tup [.str (Str.ofString "other"),.int (d+(pN:Int)),.ref q,.ref tl])) pe (.tup [.int (A.1+(pN:Int)),.int A.2])) pf (.tup [.str (Str.ofString "other"),.int d,.ref pe,.ref tl])) pf [.str (Str.ofString "other"),.int d,.ref pe,.ref tl]:=SqT.of aE
      generalize upd (upd (upd HM pd (.tup [.str (Str.ofString "other"),.int (d+(pN:Int)),.ref q,.ref tl])) pe (.tup [.int (A.1+(pN:Int)),.int A.2])) pf (.tup [.str (Str.ofString "other"),.int d,.ref pe,.ref tl])=HN at sN hNd hNe hNf ⊢
      refine⟨a,rfl,sN.st,fun dq vq HO nco sO Ro=>⟨by show 3<=sizeLine;decide,fun q4 hq4=>?_⟩⟩
      have tkO:=sO.tk sN.st
      have sMO:=sN.trans sO
      have Sod:Stab a K HO dq vq:=fun H' s=>Rep.sm (s.fr sN.st) _ Ro
      have sW:Step a HO (upd HO q4 (.lst [.ref pd,.ref pf,vq])):=(Step.refl sO.st).new hq4
      have hWq:(upd HO q4 (.lst [.ref pd,.ref pf,vq])) q4=some (.lst [.ref pd,.ref pf,vq]):=aE
      generalize upd HO q4 (.lst [.ref pd,.ref pf,vq])=HW at sW hWq ⊢
      have sMW:=sMO.trans sW
      have tkW:=tkO.trans (sW.tk sO.st)
      have s0W:=s0M.trans sMW
      refine⟨X4,sMW.but _ _ nL2 hM2,_,hWq,Nat.le_of_lt (bK (by rw[X4l];show 8+3<=1000;decide)),fun L3 hL3=>?_⟩
      have hqW:=(sMW.tk s0M.st).sq hqM
      have STW:=STM.step sMW
      have SQW:Stab a K HW (pD A) (.ref q):=kS s0W.st hqW
      have LW:StabL a K HW (D4++[.tup [.str (Str.ofString "other"),.int (d+(pN:Int)),pD A,.tup (rows.map rwD)],.tup [.str (Str.ofString "other"),.int d,pD (A.1+(pN:Int),A.2),.tup (rows.map rwD)],dq]) (X4++[.ref pd,.ref pf,vq]) :=
        (LM.step sMW).app (.cons (iV s0W.st (tkW.sq hNd) SQW STW) (.cons (iV s0W.st (tkW.sq hNf) (kS s0W.st (tkW.sq hNe)) STW) (.cons (Sod.step sW) .nil)))
      have niW:∀e∈D4++[.tup [.str (Str.ofString "other"),.int (d+(pN:Int)),pD A,.tup (rows.map rwD)],.tup [.str (Str.ofString "other"),.int d,pD (A.1+(pN:Int),A.2),.tup (rows.map rwD)],dq],Nice e:=by
        intro e he
        rcases List.mem_append.mp he with h | h
        · exact niK e h
        simp only[List.mem_cons,List.not_mem_nil,or_false] at h
        rcases h with rfl | rfl | rfl
        · exact nN (aAp hd0 hdn hn90 (Int.le_of_lt hn0) (Int.le_refl _)) xnP rn
        · exact nN hd100 (fL (A:=(A.1+(pN:Int),A.2)) (aAp a0 hA1n hn90 (Int.le_of_lt hn0) (Int.le_refl _)) (bG hA2)).1 rn
        · exact nco
      generalize D4++[.tup [.str (Str.ofString "other"),.int (d+(pN:Int)),pD A,.tup (rows.map rwD)],.tup [.str (Str.ofString "other"),.int d,pD (A.1+(pN:Int),A.2),.tup (rows.map rwD)],dq]=D5 at LW niW
      have X5l:(X4++[V.ref pd,V.ref pf,vq]).length=11:=by rw[List.length_append,X4l];rfl
      generalize X4++[V.ref pd,V.ref pf,vq]=X5 at LW X5l ⊢
      have sZ:Step a HW (upd HW L3 (.lst X5)):=(Step.refl s0W.st).new hL3
      have nL3:L3≠a:=s0W.st.ne hL3
      have hZ3:(upd HW L3 (.lst X5)) L3=some (.lst X5):=aE
      generalize upd HW L3 (.lst X5)=HZ at sZ hZ3 ⊢
      have s0Z:=s0W.trans sZ
      have LZ:=LW.step sZ
      have STZ:=STW.step sZ
      have SQZ:=SQW.step sZ
      have SPZ:=(SPM.step sMW).step sZ
      clear sZ LW STW SQW hqW s0W tkW sMW hWq sW Sod sMO tkO Ro sO hNd hNe hNf sN LM STM SPM hqM niK hM2 s0M hpd hpe hpf hq4 hL3 X4l
      subst hR
      refine aM fun R hR=>?_
      bv_omega
      refine⟨by show 5<=sizeLine;decide,fun pg hpg=>⟨by show 3<=sizeLine;decide,fun ph hph=>⟨by show 2<=sizeLine;decide,fun q5 hq5=>?_⟩⟩⟩
      have sA:Step a HZ (upd (upd (upd HZ pg (.tup [.str (Str.ofString "other"),.int d,.ref q,.ref tl,.int 1])) ph (.tup [.str (Str.ofString "other"),.int d,.ref q])) q5 (.lst [.ref pg,.ref ph])):=(((Step.refl s0Z.st).new hpg).new hph).new hq5
      have hAg:SqT K (upd (upd (upd HZ pg (.tup [.str (Str.ofString "other"),.int d,.ref q,.ref tl,.int 1])) ph (.tup [.str (Str.ofString "other"),.int d,.ref q])) q5 (.lst [.ref pg,.ref ph])) pg [.str (Str.ofString "other"),.int d,.ref q,.ref tl,.int 1]:=SqT.of (aW (aW aE hph) hq5)
      have hAh:SqT K (upd (upd (upd HZ pg (.tup [.str (Str.ofString "other"),.int d,.ref q,.ref tl,.int 1])) ph (.tup [.str (Str.ofString "other"),.int d,.ref q])) q5 (.lst [.ref pg,.ref ph])) ph [.str (Str.ofString "other"),.int d,.ref q]:=SqT.of (aW aE hq5)
      have hAq:(upd (upd (upd HZ pg (.tup [.str (Str.ofString "other"),.int d,.ref q,.ref tl,.int 1])) ph (.tup [.str (Str.ofString "other"),.int d,.ref q])) q5 (.lst [.ref pg,.ref ph])) q5=some (.lst [.ref pg,.ref ph]):=aE
      generalize upd (upd (upd HZ pg (.tup [.str (Str.ofString "other"),.int d,.ref q,.ref tl,.int 1])) ph (.tup [.str (Str.ofString "other"),.int d,.ref q])) q5 (.lst [.ref pg,.ref ph])=HA1 at sA hAg hAh hAq ⊢
      have s0A:=s0Z.trans sA
      refine⟨X5,sA.but _ _ nL3 hZ3,_,hAq,Nat.le_of_lt (bK (by rw[X5l];show 11+2<=1000;decide)),fun L4 hL4=>?_⟩
      have STA:=STZ.step sA
      have SQA:=SQZ.step sA
      have LA:StabL a K HA1 (D5++[.tup [.str (Str.ofString "other"),.int d,pD A,.tup (rows.map rwD),.int 1],.tup [.str (Str.ofString "other"),.int d,pD A]]) (X5++[.ref pg,.ref ph]) :=
        (LZ.step sA).app (.cons (fun H' s=>⟨pg,_,rfl,(s.tk s0A.st).sq hAg,_,_,rfl,rfl,_,_,rfl,rfl,_,_,rfl,SQA H' s,_,_,rfl,STA H' s,_,_,rfl,rfl,rfl⟩) (.cons (fun H' s=>⟨ph,_,rfl,(s.tk s0A.st).sq hAh,_,_,rfl,rfl,_,_,rfl,rfl,_,_,rfl,SQA H' s,rfl⟩) .nil))
      have niA:∀e∈D5++[.tup [.str (Str.ofString "other"),.int d,pD A,.tup (rows.map rwD),.int 1],.tup [.str (Str.ofString "other"),.int d,pD A]],Nice e:=by
        intro e he
        rcases List.mem_append.mp he with h | h
        · exact niW e h
        simp only[List.mem_cons,List.not_mem_nil,or_false] at h
        rcases h with rfl | rfl
        · exact aGo hd100 (by decide) xnP rn
        · exact aGp hd100 xnP
      generalize D5++[.tup [.str (Str.ofString "other"),.int d,pD A,.tup (rows.map rwD),.int 1],.tup [.str (Str.ofString "other"),.int d,pD A]]=D6 at LA niA
      have X6l:(X5++[V.ref pg,V.ref ph]).length=13:=by rw[List.length_append,X5l];rfl
      generalize X5++[V.ref pg,V.ref ph]=X6 at LA X6l ⊢
      have sB:Step a HA1 (upd HA1 L4 (.lst X6)):=(Step.refl s0A.st).new hL4
      have nL4:L4≠a:=s0A.st.ne hL4
      have hB4:(upd HA1 L4 (.lst X6)) L4=some (.lst X6):=aE
      generalize upd HA1 L4 (.lst X6)=HB1 at sB hB4 ⊢
      have s0B:=s0A.trans sB
      have LB:=LA.step sB
      have SPB:=(SPZ.step sA).step sB
      clear sB LA STA SQA hAg hAh hAq sA LZ STZ SQZ SPZ niW hZ3 s0Z hpg hph hq5 hL4 X5l s0A
      subst hR
      refine aM fun R hR=>?_
      dsimp only[eO]
      refine lM fun B hB=>?_
      refine lL (K:=K) ?_
      bv_omega
      refine⟨by show 2<=sizeLine;decide,fun k1 hk1=>?_⟩
      have sC:Step a HB1 (upd HB1 k1 (.lst [.str (Str.ofString "full"),.str (Str.ofString "share")])):=(Step.refl s0B.st).new hk1
      have kk1:Kinds a (upd HB1 k1 (.lst [.str (Str.ofString "full"),.str (Str.ofString "share")])) k1 false [Str.ofString "full",Str.ofString "share"]:=⟨aE,s0B.st.ne hk1,by decide,by decide,fun z hz=>by
        rcases List.mem_cons.mp hz with e | hz
        · exact .inl e
        · exact .inr ⟨rfl,.inl (List.mem_singleton.mp hz)⟩⟩
      refine⟨a,k1,pN,false,_,rfl,⟨hn,by omega,by omega,sC.st,kk1⟩,fun dP vP HP bpP sP RP=>⟨by show 1<=sizeLine;decide,fun q6 hq6=>?_⟩⟩
      have sBP:=sC.trans sP
      have s0P:=s0B.trans sBP
      have niP:=(bpP.nice (by decide) (by omega)).1
      refine⟨X6,aW (sBP.but _ _ nL4 hB4) hq6,_,aE,Nat.le_of_lt (bK (by rw[X6l];show 13+1<=1000;decide)),fun L5 hL5=>?_⟩
      have SQ:Same HP (upd (upd HP q6 (.lst [vP])) L5 (.lst (X6++[vP]))):=fun b o e=>aW (aW e hq6) hL5
      have hQ5:(upd (upd HP q6 (.lst [vP])) L5 (.lst (X6++[vP]))) L5=some (.lst (X6++[vP])):=aE
      generalize upd (upd HP q6 (.lst [vP])) L5 (.lst (X6++[vP]))=HQ at SQ hQ5 ⊢
      have RA:RepL K HQ (D6++[dP]) (X6++[vP]):=RepL.append (RepL.sm SQ _ (LB HP sBP)) ⟨_,_,rfl,Rep.sm SQ _ RP,rfl⟩
      have all:∀e∈D6++[dP],Nice e:=fun e he=>by
        rcases List.mem_append.mp he with h | h
        · exact niA e h
        · rw[List.mem_singleton.mp h];exact niP
      have s0Q:=s0P.same SQ
      have RU:Rep K HQ (.tup [.str (Str.ofString "other"),.int d,pD A,.tup (rows.map rwD)]) (.ref u):=Rep.sm SQ _ (SPB HP sBP)
      generalize D6++[dP]=fs at RA all
      generalize X6++[vP]=ws at RA hQ5
      clear SPB LB RP bpP sP sC kk1 hk1 sBP s0P hq6 hL5 SQ niA niP hB4 s0B
      refine⟨⟨_,SqL.of hQ5⟩,?_⟩
      have n3':(3:Int)<=pN:=n3
      generalize (pN:Int)=n at hn nB n3' ⊢
      have m3:1<=n*n:=by have:=Int.mul_le_mul (show 1<=n by omega) (show 1<=n by omega) (by decide) (by omega);omega
      have m4:n*n<=10^30:=by have:=Int.mul_le_mul (show n<=10^7 by omega) (show n<=10^7 by omega) (by omega) (by decide);omega
      obtain⟨Pt',hPt⟩:∃Pt':Nat->St->Hp->Prop,∀j σ H',Pt' j σ H'↔Same HQ H'/\∃v12 v13 v14 v15,σ=[some (.ref sa),some (.int (0+(i:Int))),some (.ref a),some (.int n),some (.ref L),some (.ref tl),some (.int d),some (.ref q),some (.ref u),some (.int x),some (.int y),some (.ref L4),v12,v13,v14,v15,v16]:=⟨_,fun _ _ _=>Iff.rfl⟩
      refine u9 (xs:=ws) Pt' ((hPt _ _ _).mpr ⟨Same.refl _,_,_,_,_,rfl⟩) (fun j σ H' _ hP=>SqL.of (((hPt _ _ _).mp hP).1 _ _ hQ5)) ?_ ?_
      · intro j t σ HJ hx hP
        obtain⟨SJ,u12,u13,u14,u15,rfl⟩:=(hPt _ _ _).mp hP
        clear hP
        obtain⟨de,hde,Re⟩:=dM (RepL.sm SJ _ RA) hx
        have N:=all de (List.mem_of_getElem? hde)
        dsimp only[eM,List.set_cons_zero,List.set_cons_succ]
        rw[hB]
        clear hB B
        refine lM fun B hB=>?_
        refine lL (K:=K) ?_
        bv_omega
        refine⟨.inr ⟨by omega,by omega⟩,by show 3<=sizeLine;decide,fun q7 hq7=>?_⟩
        have SK:Same HJ (upd HJ q7 (.lst [.int n,.int (n+2),.int (n*n)])):=fun b o e=>aW e hq7
        have hK7:(upd HJ q7 (.lst [.int n,.int (n+2),.int (n*n)])) q7=some (.lst [.int n,.int (n+2),.int (n*n)]):=aE
        generalize upd HJ q7 (.lst [.int n,.int (n+2),.int (n*n)])=HK at SK hK7 ⊢
        refine⟨⟨_,SqL.of hK7⟩,?_⟩
        obtain⟨Pn,hPn⟩:∃Pn:Nat->St->Hp->Prop,∀j' σ H',Pn j' σ H'↔Same HK H'/\∃v13 v14 v15,σ=[some (.ref sa),some (.int (0+(i:Int))),some (.ref a),some (.int n),some (.ref L),some (.ref tl),some (.int d),some (.ref q),some (.ref u),some (.int x),some (.int y),some (.ref L4),some t,v13,v14,v15,v16]:=⟨_,fun _ _ _=>Iff.rfl⟩
        refine u9 (xs:=[.int n,.int (n+2),.int (n*n)]) Pn ((hPn _ _ _).mpr ⟨Same.refl _,_,_,_,rfl⟩) (fun j σ H' _ hP=>SqL.of (((hPn _ _ _).mp hP).1 _ _ hK7)) ?_ ?_
        · intro j' xm σ HM hxm hP
          obtain⟨SM,u13,u14,u15,rfl⟩:=(hPn _ _ _).mp hP
          clear hP
          obtain⟨m,rfl,m1,m30⟩:∃m:Int,xm=.int m/\1<=m/\m<=10^30:=by
            have hm:=List.mem_of_getElem? hxm
            simp only[List.mem_cons,List.not_mem_nil,or_false] at hm
            rcases hm with rfl | rfl | rfl
            · exact⟨_,rfl,by omega,by omega⟩
            · exact⟨_,rfl,by omega,by omega⟩
            · exact⟨_,rfl,m3,m4⟩
          have ReM:=Rep.sm (SK.trans SM) _ Re
          have rr:∀ {H'} {Q:VK},Same HM H'->Q (.str (shD de)) H'->zK K [t] H' Q:=fun S q=>⟨_,de,rfl,Rep.same S _ ReM,⟨N.ok,N.r,N.len,by have:=N.dep;omega⟩,q⟩
          dsimp only[eM,List.set_cons_zero,List.set_cons_succ]
          rw[hB]
          clear hB B
          refine aM fun RR sq=>?_
          bv_omega
          refine rr (Same.refl _) ?_
          refine⟨m,de,t,rfl,⟨ReM,N.ok,N.len,N.dep,m1,m30⟩,?_,?_⟩
          all_goals
            intro yy HU SU
            rw[sq]
            bv_omega
          · refine⟨m,de,t,rfl,⟨Rep.same SU _ ReM,N.ok,m1,m30,N.cn⟩,fun _ HV SV=>?_,fun no=>absurd yy no⟩
            refine⟨true,rfl,fun HX SX=>⟨_,rfl,?_⟩⟩
            rw[if_neg (by decide)]
            refine rr (SU.trans (SV.trans SX)) ⟨rfl,?_⟩
            rw[if_neg (fun h=>h rfl)]
            exact(hPn _ _ _).mpr ⟨SM.trans (SU.trans (SV.trans SX)),_,_,_,rfl⟩
          · refine⟨m,de,t,rfl,⟨Rep.same SU _ ReM,N.ok,m1,m30,N.cn⟩,fun h=>absurd h yy,fun _ HV SV=>?_⟩
            refine⟨false,rfl,fun HX SX=>⟨_,rfl,?_⟩⟩
            rw[if_neg (by decide)]
            refine rr (SU.trans (SV.trans SX)) ⟨rfl,?_⟩
            rw[if_neg (fun h=>h rfl)]
            exact(hPn _ _ _).mpr ⟨SM.trans (SU.trans (SV.trans SX)),_,_,_,rfl⟩
        · intro σ HM hP
          obtain⟨SM,u13,u14,u15,rfl⟩:=(hPn _ _ _).mp hP
          exact(hPt _ _ _).mpr ⟨SJ.trans (SK.trans SM),_,_,_,_,rfl⟩
      · intro σ HJ hP
        obtain⟨SJ,u12,u13,u14,u15,rfl⟩:=(hPt _ _ _).mp hP
        clear hP hPt Pt'
        have s0J:=s0Q.same SJ
        subst hR
        try dsimp only
        refine aM fun R hR=>?_
        bv_omega
        refine⟨⟨by decide,by decide,by decide⟩,a,_,_,rfl,⟨by decide,by decide,by decide⟩,s0J.st,fun non HN TN yN bN=>?_⟩
        have s0N:=s0J.trans TN
        have TB3:TabOk HN Pt qL:=s0N.tab st0 TB0
        subst hR
        rename_i uJ
        refine⟨TB3,fun f1 c1 ct1 M1 hf1 sx1 tb1 lam1 cod1 b hc=>?_⟩
        have f1P:f1≠Pt:=fun z=>by
          obtain⟨ps,e3,_⟩:=tb1
          rw[z,e3] at lam1
          exact nomatch Option.some.inj lam1
        have c1P:c1≠Pt:=fun z=>by
          obtain⟨ps,e3,_⟩:=tb1
          rw[z,e3] at cod1
          exact nomatch Option.some.inj cod1
        have g1:Lm Pt Pt qL M1 f1 _ c1:=⟨f1P,f1P,c1P,c1P,lam1,cod1⟩
        obtain⟨⟨nm',ty⟩,_⟩:=yN
        have nP':∀p,non=.ref p->p≠Pt:=fun p e z=>by
          subst e
          obtain⟨o,e1,e2⟩:=TyOf.has ty
          obtain⟨ps,e3,_⟩:=TB3
          rw[z,e3] at e1
          cases e1
          exact e2 _ rfl
        have tyN:TyOf K M1 non (.type nm'):=TyOf.keepK ty fun p o e q=>sx1 p o (nP' p e) q
        refine aBr hc g1 (Same.refl M1) W0 (.inl rfl) (N:=["_law_none_here","_law_paper_here"]) (js:=[16,8]) (vs:=[non,.ref u]) rfl (gM _ _ [] (by simp) (by simp)) (fun x hx=>nC hx) rfl (fun i j v e1 e2=>match i,e1,e2 with | 0,e1,e2=>by cases e1;cases e2;rfl | 1,e1,e2=>by cases e1;cases e2;rfl | _+2,e1,_=>by cases e1) (fun _ _ _=>rfl) (sp:=fun H Q E=>spFullX K cl [non,.ref u] H Q E) (fun A outer s H Q E hr hsp=>⟨_,(aK ((B_q42 b).mono (by decide)) hr rfl D_q42.mgx D_q42.fn.kp D_q42.bd .nil (uS (fun _ _ _ h=>h)) (aA (pv 0) (aA (pv 1) aF))),⟨_,rfl,_,rfl,hsp⟩⟩) (fun R hR=>?_) (fun H'' s2'=>?_) rfl
        · exact⟨non,.ref u,_,rfl,tyN,bN,hR⟩
        · refine⟨rfl,?_⟩
          rw[if_neg (fun h=>h rfl)]
          refine⟨by show 1<=sizeLine;decide,fun p9 hp9=>?_⟩
          refine⟨2,.tup [.str (Str.ofString "two")],_,rfl,⟨⟨p9,_,rfl,SqT.of aE,_,_,rfl,rfl,rfl⟩,rfl,by decide,by decide,by decide⟩,fun h=>absurd h aE1,fun _ HW SW=>⟨false,rfl,?_⟩⟩
          rw[if_neg (by decide)]
          have s3':Same H'' HW:=fun b o e=>SW _ _ (aW e hp9)
          exact(hPl _ _ _).mpr ⟨fun b o hb e=>s3' _ _ (s2' b o (sx1 b o hb (s0N.but b o (nb b o hb e) (S0 b o hb e)))),(tb1.same s2').same s3',_,_,_,_,_,_,_,_,_,_,_,_,_,_,_,_,rfl⟩
    · intro σ H1 hP
      obtain⟨S,TB,v1,v2,v3,v4,v5,v6,v7,v8,v9,v10,v11,v12,v13,v14,v15,v16,rfl⟩:=(hPl _ _ _).mp hP
      clear hP
      subst hR0
      bv_omega
      refine⟨by show 2<=sizeLine;decide,fun p0 hp0=>⟨by show 1<=sizeLine;decide,fun p hp=>⟨by show 3<=sizeLine;decide,fun p1 hp1=>⟨by show 1<=sizeLine;decide,fun p2 hp2=>⟨by show 4<=sizeLine;decide,fun p3 hp3=>?_⟩⟩⟩⟩⟩
      exact⟨3,.tup [.str (Str.ofString "other"),.int 2,pD (0,1),.tup ([((2:Int),(2:Int),Dt.tup [.str (Str.ofString "two")])].map rwD)],_,rfl,⟨⟨p3,_,rfl,SqT.of aE,_,_,rfl,rfl,_,_,rfl,rfl,_,_,rfl,⟨p0,_,rfl,SqT.of (aW (aW (aW (aW aE hp) hp1) hp2) hp3),_,_,rfl,rfl,_,_,rfl,rfl,rfl⟩,_,_,rfl,⟨p2,_,rfl,SqT.of (aW aE hp3),_,_,rfl,⟨p1,_,rfl,SqT.of (aW (aW aE hp2) hp3),_,_,rfl,rfl,_,_,rfl,rfl,_,_,rfl,⟨p,_,rfl,SqT.of (aW (aW (aW aE hp1) hp2) hp3),_,_,rfl,rfl,rfl⟩,rfl⟩,rfl⟩,rfl⟩,rfl,by decide,by decide,by decide⟩,fun _ H2 S2=>⟨true,rfl,k _⟩,fun no=>absurd aEt no⟩
end
theorem us1 {us:List Value} (h:us.length=1):∃a,us=[a]:=by
 cases us with
 | nil=>cases h
 | cons a r=>cases r with
  | nil=>exact⟨a,rfl⟩
  | cons b s=>cases h
theorem us2 {us:List Value} (h:us.length=2):∃a b,us=[a,b]:=by
 cases us with
 | nil=>cases h
 | cons a r =>
  obtain⟨b,rfl⟩:=us1 (Nat.succ.inj h)
  exact⟨a,b,rfl⟩
theorem us3 {us:List Value} (h:us.length=3):∃a b c,us=[a,b,c]:=by
 cases us with
 | nil=>cases h
 | cons a r =>
  obtain⟨b,c,rfl⟩:=us2 (Nat.succ.inj h)
  exact⟨a,b,c,rfl⟩
theorem us4 {us:List Value} (h:us.length=4):∃a b c d,us=[a,b,c,d]:=by
 cases us with
 | nil=>cases h
 | cons a r =>
  obtain⟨b,c,d,rfl⟩:=us3 (Nat.succ.inj h)
  exact⟨a,b,c,d,rfl⟩
theorem bA {K:PySem.W.Frag} {h:Heap} {mg:Str->Option Value} {x:Str} {st:Stmt} {ps:List Str} {f:Addr} {oc:Value} {od an:Option Addr} {osl:Array (Option Value)} {kV doc pm cdv ct:Value} (X:K.In h) (G:h.Ns mainGlobals mg)
  (a:PySem.W.nsIn K mainGlobals x=some (some (.ref f))) (l:K.lookup f=some ⟨oc,od,.func (PySem.W.fnOf x x (c8 st) (cK st) (aJ st) .none kV doc pm an cdv ct),osl⟩) (c:PySem.W.codeIn K cdv x=true) (k:PySem.W.keepIn K (.ref f)=true)
  (hb:∀(kV doc pm:Value) (an:Option Addr) (cdv ct:Value) (us:List Value),us.length=ps.length->bindArgs (PySem.W.fnOf x x (c8 st) (cK st) (aJ st) .none kV doc pm an cdv ct) ⟨us,[]⟩=pure (ps.zip us)):∃fd,Def K mg x st ps f fd:=by
 have F:=aFf (st:=st) l c k
 exact⟨_,F,F.binds hb,PySem.W.mg_of X G a⟩
theorem zC {K:PySem.W.Frag} {a:Addr} {od:Option Addr} {its:Array Value} {n:Nat} {osl:Array (Option Value)} {xs:List V} (h:K.lookup a=some ⟨.type "tuple",od,.seq its n,osl⟩) (hz:its.size<=sizeLine) (r:Vals xs its.toList):∀H,SqT K H a xs:=fun H=>.inr ⟨_,its,n,h,rfl,rfl,hz,r⟩
theorem aF0 {w:World} {K:PySem.W.Frag} {cl:Cl} {t1 t2 t3 t4:Tok} {h1 h2 h3 h4:Int} {ep:Nat} (h:K.lookup cl.lk=some ⟨.type "dict",none,.dict #[⟨h1,.str (Str.ofString "two") t1,.ref cl.s2⟩,⟨h2,.str (Str.ofString "full") t2,.ref cl.sf⟩,⟨h3,.str (Str.ofString "share") t3,.ref cl.ss⟩,⟨h4,.str (Str.ofString "other") t4,.ref cl.so⟩] ep,#[]⟩)
  (e1:h1=rL w (.inr (Str.ofString "two"))) (e2:h2=rL w (.inr (Str.ofString "full"))) (e3:h3=rL w (.inr (Str.ofString "share"))) (e4:h4=rL w (.inr (Str.ofString "other"))):∀P:Program,yW P w K cl:=by
 intro P
 subst e1 e2 e3 e4
 refine⟨_,_,_,[(.inr (Str.ofString "two"),.ref cl.s2),(.inr (Str.ofString "full"),.ref cl.sf),(.inr (Str.ofString "share"),.ref cl.ss),(.inr (Str.ofString "other"),.ref cl.so)],h,⟨rfl,rfl,rfl⟩,rfl,?_,?_,?_,?_⟩
 ·intro e he
  have:e=⟨rL w (.inr (Str.ofString "two")),.str (Str.ofString "two") t1,.ref cl.s2⟩\/e=⟨rL w (.inr (Str.ofString "full")),.str (Str.ofString "full") t2,.ref cl.sf⟩\/e=⟨rL w (.inr (Str.ofString "share")),.str (Str.ofString "share") t3,.ref cl.ss⟩\/e=⟨rL w (.inr (Str.ofString "other")),.str (Str.ofString "other") t4,.ref cl.so⟩:=by simpa using he
  rcases this with rfl | rfl | rfl | rfl
  ·exact⟨.inr (Str.ofString "two"),dI _ t1,rfl⟩
  ·exact⟨.inr (Str.ofString "full"),dI _ t2,rfl⟩
  ·exact⟨.inr (Str.ofString "share"),dI _ t3,rfl⟩
  ·exact⟨.inr (Str.ofString "other"),dI _ t4,rfl⟩
 ·exact .cons (dI _ t1) rfl (.cons (dI _ t2) rfl (.cons (dI _ t3) rfl (.cons (dI _ t4) rfl .nil)))
 ·show ([.inr (Str.ofString "two"),.inr (Str.ofString "full"),.inr (Str.ofString "share"),.inr (Str.ofString "other")]:List Key).Nodup
  decide
 ·exact .cons ⟨rfl,rfl⟩ (.cons ⟨rfl,rfl⟩ (.cons ⟨rfl,rfl⟩ (.cons ⟨rfl,rfl⟩ .nil)))
section
variable {P:Program} {w:World} {K:PySem.W.Frag} {mg:Str->Option Value} {base:Heap}
theorem all_ok {t1:Tok} {cl:Cl} {fa c Pt:Addr} {oc kV doc pm ct:Value} {od an:Option Addr} {osl:Array (Option Value)}
  (lk:K.lookup fa=some ⟨oc,od,.func (PySem.W.fnOf "law" "law" (c8 s_law) (cK s_law) (aJ s_law) .none kV doc pm an (.ref c) ct),osl⟩) (hcd:PySem.W.codeIn K (.ref c) "law" = true) (hd:PySem.W.CodeHd base c Pt) (bm:base.BuiltinsAt mg Pt)
  (T:Txt K mg t1 cl) (W0:WordC K cl cl.nn 0) (lkk:yW P w K cl) (d_q45:∃f fd,Df_q45 K mg f fd) (d_q26:∃f fd,Df_q26 K mg f fd) (d_q13:∃f fd,Df_q13 K mg f fd) (d_q21:∃f fd,Df_q21 K mg f fd) (d_q27:∃f fd,Df_q27 K mg f fd) (d_q1:∃f fd,Df_q1 K mg f fd) (d_q10:∃f fd,Df_q10 K mg f fd) (d_q25:∃f fd,Df_q25 K mg f fd) (d_q32:∃f fd,Df_q32 K mg f fd) (d_q22:∃f fd,Df_q22 K mg f fd) (d_q50:∃f fd,Df_q50 K mg f fd) (d_q9:∃f fd,Df_q9 K mg f fd) (d_q30:∃f fd,Df_q30 K mg f fd) (d_q7:∃f fd,Df_q7 K mg f fd) (d_q24:∃f fd,Df_q24 K mg f fd) (d_q23:∃f fd,Df_q23 K mg f fd) (d_q16:∃f fd,Df_q16 K mg f fd) (d_q0:∃f fd,Df_q0 K mg f fd) (d_q2:∃f fd,Df_q2 K mg f fd) (d_q20:∃f fd,Df_q20 K mg f fd) (d_q14:∃f fd,Df_q14 K mg f fd) (d_q51:∃f fd,Df_q51 K mg f fd) (d_q49:∃f fd,Df_q49 K mg f fd) (d_q8:∃f fd,Df_q8 K mg f fd) (d_q42:∃f fd,Df_q42 K mg f fd) (d_q18:∃f fd,Df_q18 K mg f fd) (d_q37:∃f fd,Df_q37 K mg f fd) (d_q41:∃f fd,Df_q41 K mg f fd) (d_q44:∃f fd,Df_q44 K mg f fd) (d_q28:∃f fd,Df_q28 K mg f fd) (d_q39:∃f fd,Df_q39 K mg f fd) (d_q46:∃f fd,Df_q46 K mg f fd) (d_q19:∃f fd,Df_q19 K mg f fd) (d_q43:∃f fd,Df_q43 K mg f fd) (d_q33:∃f fd,Df_q33 K mg f fd) (d_q34:∃f fd,Df_q34 K mg f fd) (d_q12:∃f fd,Df_q12 K mg f fd) (d_q31:∃f fd,Df_q31 K mg f fd) (d_q17:∃f fd,Df_q17 K mg f fd) (d_q6:∃f fd,Df_q6 K mg f fd) (d_q11:∃f fd,Df_q11 K mg f fd) (d_q15:∃f fd,Df_q15 K mg f fd) (d_q5:∃f fd,Df_q5 K mg f fd) (d_q4:∃f fd,Df_q4 K mg f fd) (d_q40:∃f fd,Df_q40 K mg f fd) (d_q3:∃f fd,Df_q3 K mg f fd) (d_q38:∃f fd,Df_q38 K mg f fd) (d_q36:∃f fd,Df_q36 K mg f fd) (d_q29:∃f fd,Df_q29 K mg f fd) (d_q35:∃f fd,Df_q35 K mg f fd) (d_q47:∃f fd,Df_q47 K mg f fd) (d_q48:∃f fd,Df_q48 K mg f fd):FnOk P w K mg base CX0 39 fa (PySem.W.fnOf "law" "law" (c8 s_law) (cK s_law) (aJ s_law) .none kV doc pm an (.ref c) ct) ["_law_script"] (spLaw K Pt):=by
 obtain⟨f_q45,fd_q45,D_q45⟩:=d_q45
 obtain⟨f_q26,fd_q26,D_q26⟩:=d_q26
 obtain⟨f_q13,fd_q13,D_q13⟩:=d_q13
 obtain⟨f_q21,fd_q21,D_q21⟩:=d_q21
 obtain⟨f_q27,fd_q27,D_q27⟩:=d_q27
 obtain⟨f_q1,fd_q1,D_q1⟩:=d_q1
 obtain⟨f_q10,fd_q10,D_q10⟩:=d_q10
 obtain⟨f_q25,fd_q25,D_q25⟩:=d_q25
 obtain⟨f_q32,fd_q32,D_q32⟩:=d_q32
 obtain⟨f_q22,fd_q22,D_q22⟩:=d_q22
 obtain⟨f_q50,fd_q50,D_q50⟩:=d_q50
 obtain⟨f_q9,fd_q9,D_q9⟩:=d_q9
 obtain⟨f_q30,fd_q30,D_q30⟩:=d_q30
 obtain⟨f_q7,fd_q7,D_q7⟩:=d_q7
 obtain⟨f_q24,fd_q24,D_q24⟩:=d_q24
 obtain⟨f_q23,fd_q23,D_q23⟩:=d_q23
 obtain⟨f_q16,fd_q16,D_q16⟩:=d_q16
 obtain⟨f_q0,fd_q0,D_q0⟩:=d_q0
 obtain⟨f_q2,fd_q2,D_q2⟩:=d_q2
 obtain⟨f_q20,fd_q20,D_q20⟩:=d_q20
 obtain⟨f_q14,fd_q14,D_q14⟩:=d_q14
 obtain⟨f_q51,fd_q51,D_q51⟩:=d_q51
 obtain⟨f_q49,fd_q49,D_q49⟩:=d_q49
 obtain⟨f_q8,fd_q8,D_q8⟩:=d_q8
 obtain⟨f_q42,fd_q42,D_q42⟩:=d_q42
 obtain⟨f_q18,fd_q18,D_q18⟩:=d_q18
 obtain⟨f_q37,fd_q37,D_q37⟩:=d_q37
 obtain⟨f_q41,fd_q41,D_q41⟩:=d_q41
 obtain⟨f_q44,fd_q44,D_q44⟩:=d_q44
 obtain⟨f_q28,fd_q28,D_q28⟩:=d_q28
 obtain⟨f_q39,fd_q39,D_q39⟩:=d_q39
 obtain⟨f_q46,fd_q46,D_q46⟩:=d_q46
 obtain⟨f_q19,fd_q19,D_q19⟩:=d_q19
 obtain⟨f_q43,fd_q43,D_q43⟩:=d_q43
 obtain⟨f_q33,fd_q33,D_q33⟩:=d_q33
 obtain⟨f_q34,fd_q34,D_q34⟩:=d_q34
 obtain⟨f_q12,fd_q12,D_q12⟩:=d_q12
 obtain⟨f_q31,fd_q31,D_q31⟩:=d_q31
 obtain⟨f_q17,fd_q17,D_q17⟩:=d_q17
 obtain⟨f_q6,fd_q6,D_q6⟩:=d_q6
 obtain⟨f_q11,fd_q11,D_q11⟩:=d_q11
 obtain⟨f_q15,fd_q15,D_q15⟩:=d_q15
 obtain⟨f_q5,fd_q5,D_q5⟩:=d_q5
 obtain⟨f_q4,fd_q4,D_q4⟩:=d_q4
 obtain⟨f_q40,fd_q40,D_q40⟩:=d_q40
 obtain⟨f_q3,fd_q3,D_q3⟩:=d_q3
 obtain⟨f_q38,fd_q38,D_q38⟩:=d_q38
 obtain⟨f_q36,fd_q36,D_q36⟩:=d_q36
 obtain⟨f_q29,fd_q29,D_q29⟩:=d_q29
 obtain⟨f_q35,fd_q35,D_q35⟩:=d_q35
 obtain⟨f_q47,fd_q47,D_q47⟩:=d_q47
 obtain⟨f_q48,fd_q48,D_q48⟩:=d_q48
 have O_q45:∃f fd,Df_q45 K mg f fd/\FnOk P w K mg base CX0 1 f fd _ _:=⟨_,_,D_q45,ok_q45 D_q45 T⟩
 have O_q26:∃f fd,Df_q26 K mg f fd/\FnOk P w K mg base CX0 2 f fd _ _:=⟨_,_,D_q26,ok_q26 D_q26 T O_q45⟩
 have O_q13:∃f fd,Df_q13 K mg f fd/\FnOk P w K mg base CX0 3 f fd _ _:=⟨_,_,D_q13,ok_q13 D_q13 T O_q26⟩
 have O_q21:∃f fd,Df_q21 K mg f fd/\FnOk P w K mg base CX0 4 f fd _ _:=⟨_,_,D_q21,ok_q21 D_q21 T O_q13⟩
 have O_q27:∃f fd,Df_q27 K mg f fd/\FnOk P w K mg base CX0 1 f fd _ _:=⟨_,_,D_q27,ok_q27 D_q27 T⟩
 have O_q1:∃f fd,Df_q1 K mg f fd/\FnOk P w K mg base CX0 1 f fd _ _:=⟨_,_,D_q1,ok_q1 D_q1 T⟩
 have O_q10:∃f fd,Df_q10 K mg f fd/\FnOk P w K mg base CX0 1 f fd _ _:=⟨_,_,D_q10,ok_q10 D_q10 T⟩
 have O_q25:∃f fd,Df_q25 K mg f fd/\FnOk P w K mg base CX0 2 f fd _ _:=⟨_,_,D_q25,ok_q25 D_q25 T O_q10⟩
 have O_q32:∃f fd,Df_q32 K mg f fd/\FnOk P w K mg base CX0 1 f fd _ _:=⟨_,_,D_q32,ok_q32 D_q32 T⟩
 have O_q22:∃f fd,Df_q22 K mg f fd/\FnOk P w K mg base CX0 1 f fd _ _:=⟨_,_,D_q22,ok_q22 D_q22 T⟩
 have O_q50:∃f fd,Df_q50 K mg f fd/\FnOk P w K mg base CX0 2 f fd _ _:=⟨_,_,D_q50,ok_q50 D_q50 T O_q45⟩
 have O_q9:∃f fd,Df_q9 K mg f fd/\FnOk P w K mg base CX0 3 f fd _ _:=⟨_,_,D_q9,ok_q9 D_q9 T O_q50 O_q22⟩
 have O_q30:∃f fd,Df_q30 K mg f fd/\FnOk P w K mg base CX0 1 f fd _ _:=⟨_,_,D_q30,ok_q30 D_q30 T⟩
 have O_q7:∃f fd,Df_q7 K mg f fd/\FnOk P w K mg base CX0 1 f fd _ _:=⟨_,_,D_q7,ok_q7 D_q7 T⟩
 have O_q24:∃f fd,Df_q24 K mg f fd/\FnOk P w K mg base CX0 3 f fd _ _:=⟨_,_,D_q24,ok_q24 D_q24 T O_q26 O_q27⟩
 have O_q23:∃f fd,Df_q23 K mg f fd/\FnOk P w K mg base CX0 4 f fd _ _:=⟨_,_,D_q23,ok_q23 D_q23 T O_q9 O_q24 O_q27⟩
 have O_q16:∃f fd,Df_q16 K mg f fd/\FnOk P w K mg base CX0 4 f fd _ _:=⟨_,_,D_q16,ok_q16 D_q16 T O_q9 O_q24 O_q27 O_q7 O_q1⟩
 have O_q0:∃f fd,Df_q0 K mg f fd/\FnOk P w K mg base CX0 3 f fd _ _:=⟨_,_,D_q0,ok_q0 D_q0 T O_q26⟩
 have O_q2:∃f fd,Df_q2 K mg f fd/\FnOk P w K mg base CX0 4 f fd _ _:=⟨_,_,D_q2,ok_q2 D_q2 T O_q26 O_q1 O_q0 O_q32 O_q25⟩
 have O_q20:∃f fd,Df_q20 K mg f fd/\FnOk P w K mg base CX0 5 f fd _ _:=⟨_,_,D_q20,ok_q20 D_q20 T O_q9 O_q2 O_q25 O_q1⟩
 have O_q14:∃f fd,Df_q14 K mg f fd/\FnOk P w K mg base CX0 1 f fd _ _:=⟨_,_,D_q14,ok_q14 D_q14 T⟩
 have O_q51:∃f fd,Df_q51 K mg f fd/\FnOk P w K mg base CX0 6 f fd _ _:=⟨_,_,D_q51,ok_q51 D_q51 T lkk O_q30 O_q23 O_q16 O_q20⟩
 have O_q49:∃f fd,Df_q49 K mg f fd/\FnOk P w K mg base CX0 1 f fd _ _:=⟨_,_,D_q49,ok_q49 D_q49 T⟩
 have O_q8:∃f fd,Df_q8 K mg f fd/\FnOk P w K mg base CX0 7 f fd _ _:=⟨_,_,D_q8,ok_q8 D_q8 T O_q14 O_q51 O_q49⟩
 have O_q42:∃f fd,Df_q42 K mg f fd/\FnOk P w K mg base CX0 8 f fd _ _:=⟨_,_,D_q42,ok_q42 D_q42 T O_q21 O_q8⟩
 have O_q18:∃f fd,Df_q18 K mg f fd/\FnOk P w K mg base CX0 1 f fd _ _:=⟨_,_,D_q18,ok_q18 D_q18 T⟩
 have O_q37:∃f fd,Df_q37 K mg f fd/\FnOk P w K mg base CX0 2 f fd _ _:=⟨_,_,D_q37,ok_q37 D_q37 T O_q18⟩
 have O_q41:∃f fd,Df_q41 K mg f fd/\FnOk P w K mg base CX0 1 f fd _ _:=⟨_,_,D_q41,ok_q41 D_q41 T⟩
 have O_q44:∃f fd,Df_q44 K mg f fd/\FnOk P w K mg base CX0 1 f fd _ _:=⟨_,_,D_q44,ok_q44 D_q44 T⟩
 have O_q28:∃f fd,Df_q28 K mg f fd/\FnOk P w K mg base CX0 1 f fd _ _:=⟨_,_,D_q28,ok_q28 D_q28 T⟩
 have OB_q28:OB_q28 P w K mg:=⟨_,_,D_q28,fun b=>ok_q28 D_q28 T⟩
 have O_q39:∃f fd,Df_q39 K mg f fd/\FnOk P w K mg base CX0 12 f fd _ _:=⟨_,_,D_q39,ok_q39 D_q39 T⟩
 have OB_q39:OB_q39 P w K mg cl:=⟨_,_,D_q39,fun b=>ok_q39 D_q39 T⟩
 have O_q46:∃f fd,Df_q46 K mg f fd/\FnOk P w K mg base CX0 2 f fd _ _:=⟨_,_,D_q46,ok_q46 D_q46 T O_q41⟩
 have O_q19:∃f fd,Df_q19 K mg f fd/\FnOk P w K mg base CX0 1 f fd _ _:=⟨_,_,D_q19,ok_q19 D_q19 T⟩
 have O_q43:∃f fd,Df_q43 K mg f fd/\FnOk P w K mg base CX0 1 f fd _ _:=⟨_,_,D_q43,ok_q43 D_q43 T⟩
 have O_q33:∃f fd,Df_q33 K mg f fd/\FnOk P w K mg base CX0 2 f fd _ _:=⟨_,_,D_q33,ok_q33 D_q33 T O_q43⟩
 have OB_q33:OB_q33 P w K mg:=⟨_,_,D_q33,fun b=>ok_q33 D_q33 T ⟨_,_,D_q43,ok_q43 D_q43 T⟩⟩
 have O_q34:∃f fd,Df_q34 K mg f fd/\FnOk P w K mg base CX0 1 f fd _ _:=⟨_,_,D_q34,ok_q34 D_q34 T⟩
 have O_q12:∃f fd,Df_q12 K mg f fd/\FnOk P w K mg base CX0 2 f fd _ _:=⟨_,_,D_q12,ok_q12 D_q12 T O_q34⟩
 have O_q31:∃f fd,Df_q31 K mg f fd/\FnOk P w K mg base CX0 3 f fd _ _:=⟨_,_,D_q31,ok_q31 D_q31 T O_q41 O_q12⟩
 have O_q17:∃f fd,Df_q17 K mg f fd/\FnOk P w K mg base CX0 1 f fd _ _:=⟨_,_,D_q17,ok_q17 D_q17 T⟩
 have O_q6:∃f fd,Df_q6 K mg f fd/\FnOk P w K mg base CX0 2 f fd _ _:=⟨_,_,D_q6,ok_q6 D_q6 T O_q43 O_q17⟩
 have O_q11:∃f fd,Df_q11 K mg f fd/\FnOk P w K mg base CX0 2 f fd _ _:=⟨_,_,D_q11,ok_q11 D_q11 T O_q28⟩
 have O_q15:∃f fd,Df_q15 K mg f fd/\FnOk P w K mg base CX0 1 f fd _ _:=⟨_,_,D_q15,ok_q15 D_q15 T⟩
 have O_q5:∃f fd,Df_q5 K mg f fd/\FnOk P w K mg base CX0 3 f fd _ _:=⟨_,_,D_q5,ok_q5 D_q5 T O_q28 O_q11 O_q15 OB_q33⟩
 have O_q4:∃f fd,Df_q4 K mg f fd/\FnOk P w K mg base CX0 3 f fd _ _:=⟨_,_,D_q4,ok_q4 D_q4 T O_q28 O_q11 O_q15 O_q33 O_q19⟩
 have O_q40:∃f fd,Df_q40 K mg f fd/\FnOk P w K mg base CX0 3 f fd _ _:=⟨_,_,D_q40,ok_q40 D_q40 T O_q6 O_q19⟩
 have O_q3:∃f fd,Df_q3 K mg f fd/\FnOk P w K mg base CX0 4 f fd _ _:=⟨_,_,D_q3,ok_q3 D_q3 T OB_q28 O_q11 O_q15 O_q19 O_q40⟩
 have O_q38:O_q38 P w K mg base:=⟨_,_,D_q38,ok_q38 D_q38 T (fun b=>⟨_,_,D_q5,ok_q5 D_q5 T ⟨_,_,D_q28,ok_q28 D_q28 T⟩ ⟨_,_,D_q11,ok_q11 D_q11 T ⟨_,_,D_q28,ok_q28 D_q28 T⟩⟩ ⟨_,_,D_q15,ok_q15 D_q15 T⟩ ⟨_,_,D_q33,fun b=>ok_q33 D_q33 T ⟨_,_,D_q43,ok_q43 D_q43 T⟩⟩⟩) (fun b=>⟨_,_,D_q4,ok_q4 D_q4 T ⟨_,_,D_q28,ok_q28 D_q28 T⟩ ⟨_,_,D_q11,ok_q11 D_q11 T ⟨_,_,D_q28,ok_q28 D_q28 T⟩⟩ ⟨_,_,D_q15,ok_q15 D_q15 T⟩ ⟨_,_,D_q33,ok_q33 D_q33 T ⟨_,_,D_q43,ok_q43 D_q43 T⟩⟩ ⟨_,_,D_q19,ok_q19 D_q19 T⟩⟩) (fun b=>⟨_,_,D_q3,ok_q3 D_q3 T ⟨_,_,D_q28,fun b=>ok_q28 D_q28 T⟩ ⟨_,_,D_q11,ok_q11 D_q11 T ⟨_,_,D_q28,ok_q28 D_q28 T⟩⟩ ⟨_,_,D_q15,ok_q15 D_q15 T⟩ ⟨_,_,D_q19,ok_q19 D_q19 T⟩ ⟨_,_,D_q40,ok_q40 D_q40 T ⟨_,_,D_q6,ok_q6 D_q6 T ⟨_,_,D_q43,ok_q43 D_q43 T⟩ ⟨_,_,D_q17,ok_q17 D_q17 T⟩⟩ ⟨_,_,D_q19,ok_q19 D_q19 T⟩⟩⟩) 33 base⟩
 have O_q36:∃f fd,Df_q36 K mg f fd/\FnOk P w K mg base CX0 3 f fd _ _:=⟨_,_,D_q36,ok_q36 D_q36 T O_q41 OB_q33⟩
 have O_q29:∃f fd,Df_q29 K mg f fd/\FnOk P w K mg base CX0 4 f fd _ _:=⟨_,_,D_q29,ok_q29 D_q29 T O_q41 O_q33 O_q40⟩
 have O_q35:O_q35 P w K mg base:=⟨_,_,D_q35,ok_q35 D_q35 T (fun b=>⟨_,_,D_q41,ok_q41 D_q41 T⟩) (fun b=>⟨_,_,D_q34,ok_q34 D_q34 T⟩) (fun b=>⟨_,_,D_q29,ok_q29 D_q29 T ⟨_,_,D_q41,ok_q41 D_q41 T⟩ ⟨_,_,D_q33,ok_q33 D_q33 T ⟨_,_,D_q43,ok_q43 D_q43 T⟩⟩ ⟨_,_,D_q40,ok_q40 D_q40 T ⟨_,_,D_q6,ok_q6 D_q6 T ⟨_,_,D_q43,ok_q43 D_q43 T⟩ ⟨_,_,D_q17,ok_q17 D_q17 T⟩⟩ ⟨_,_,D_q19,ok_q19 D_q19 T⟩⟩⟩) (fun b=>⟨_,_,D_q36,ok_q36 D_q36 T ⟨_,_,D_q41,ok_q41 D_q41 T⟩ ⟨_,_,D_q33,fun b=>ok_q33 D_q33 T ⟨_,_,D_q43,ok_q43 D_q43 T⟩⟩⟩) 20 base⟩
 have OB_q35:OB_q35 P w K mg:=⟨_,_,D_q35,fun b=>ok_q35 D_q35 T (fun b=>⟨_,_,D_q41,ok_q41 D_q41 T⟩) (fun b=>⟨_,_,D_q34,ok_q34 D_q34 T⟩) (fun b=>⟨_,_,D_q29,ok_q29 D_q29 T ⟨_,_,D_q41,ok_q41 D_q41 T⟩ ⟨_,_,D_q33,ok_q33 D_q33 T ⟨_,_,D_q43,ok_q43 D_q43 T⟩⟩ ⟨_,_,D_q40,ok_q40 D_q40 T ⟨_,_,D_q6,ok_q6 D_q6 T ⟨_,_,D_q43,ok_q43 D_q43 T⟩ ⟨_,_,D_q17,ok_q17 D_q17 T⟩⟩ ⟨_,_,D_q19,ok_q19 D_q19 T⟩⟩⟩) (fun b=>⟨_,_,D_q36,ok_q36 D_q36 T ⟨_,_,D_q41,ok_q41 D_q41 T⟩ ⟨_,_,D_q33,fun b=>ok_q33 D_q33 T ⟨_,_,D_q43,ok_q43 D_q43 T⟩⟩⟩) 20 b⟩
 have O_q47:∃f fd,Df_q47 K mg f fd/\FnOk P w K mg base CX0 2 f fd _ _:=⟨_,_,D_q47,ok_q47 D_q47 T O_q41⟩
 have O_q48:∃f fd,Df_q48 K mg f fd/\FnOk P w K mg base CX0 38 f fd _ _:=⟨_,_,D_q48,ok_q48 D_q48 T O_q38⟩
 have OX_is_other:OX_is_other P w K mg base cl:=⟨_,_,D_q42,ok_q42 D_q42 T O_q21 O_q8,fun b=>ok_is_otherX D_q42 T D_q21 (ok_want_numberX D_q21 T D_q13 (ok_want_betweenX D_q13 T ⟨_,_,D_q26,ok_q26 D_q26 T ⟨_,_,D_q45,ok_q45 D_q45 T⟩⟩)) ⟨_,_,D_q8,ok_q8 D_q8 T ⟨_,_,D_q14,ok_q14 D_q14 T⟩ ⟨_,_,D_q51,ok_q51 D_q51 T lkk ⟨_,_,D_q30,ok_q30 D_q30 T⟩ ⟨_,_,D_q23,ok_q23 D_q23 T ⟨_,_,D_q9,ok_q9 D_q9 T ⟨_,_,D_q50,ok_q50 D_q50 T ⟨_,_,D_q45,ok_q45 D_q45 T⟩⟩ ⟨_,_,D_q22,ok_q22 D_q22 T⟩⟩ ⟨_,_,D_q24,ok_q24 D_q24 T ⟨_,_,D_q26,ok_q26 D_q26 T ⟨_,_,D_q45,ok_q45 D_q45 T⟩⟩ ⟨_,_,D_q27,ok_q27 D_q27 T⟩⟩ ⟨_,_,D_q27,ok_q27 D_q27 T⟩⟩ ⟨_,_,D_q16,ok_q16 D_q16 T ⟨_,_,D_q9,ok_q9 D_q9 T ⟨_,_,D_q50,ok_q50 D_q50 T ⟨_,_,D_q45,ok_q45 D_q45 T⟩⟩ ⟨_,_,D_q22,ok_q22 D_q22 T⟩⟩ ⟨_,_,D_q24,ok_q24 D_q24 T ⟨_,_,D_q26,ok_q26 D_q26 T ⟨_,_,D_q45,ok_q45 D_q45 T⟩⟩ ⟨_,_,D_q27,ok_q27 D_q27 T⟩⟩ ⟨_,_,D_q27,ok_q27 D_q27 T⟩ ⟨_,_,D_q7,ok_q7 D_q7 T⟩ ⟨_,_,D_q1,ok_q1 D_q1 T⟩⟩ ⟨_,_,D_q20,ok_q20 D_q20 T ⟨_,_,D_q9,ok_q9 D_q9 T ⟨_,_,D_q50,ok_q50 D_q50 T ⟨_,_,D_q45,ok_q45 D_q45 T⟩⟩ ⟨_,_,D_q22,ok_q22 D_q22 T⟩⟩ ⟨_,_,D_q2,ok_q2 D_q2 T ⟨_,_,D_q26,ok_q26 D_q26 T ⟨_,_,D_q45,ok_q45 D_q45 T⟩⟩ ⟨_,_,D_q1,ok_q1 D_q1 T⟩ ⟨_,_,D_q0,ok_q0 D_q0 T ⟨_,_,D_q26,ok_q26 D_q26 T ⟨_,_,D_q45,ok_q45 D_q45 T⟩⟩⟩ ⟨_,_,D_q32,ok_q32 D_q32 T⟩ ⟨_,_,D_q25,ok_q25 D_q25 T ⟨_,_,D_q10,ok_q10 D_q10 T⟩⟩⟩ ⟨_,_,D_q25,ok_q25 D_q25 T ⟨_,_,D_q10,ok_q10 D_q10 T⟩⟩ ⟨_,_,D_q1,ok_q1 D_q1 T⟩⟩⟩ ⟨_,_,D_q49,ok_q49 D_q49 T⟩⟩⟩
 exact ok_law lk hcd hd bm T W0 O_q37 O_q41 O_q31 O_q34 OB_q35 O_q29 O_q47 O_q48 O_q44 OX_is_other O_q46 OB_q39 O_q17
theorem cl_mk {w:World} {KK:PySem.W.Frag} {h:Heap} {mg:Str->Option Value} {pe nn np pa pp nb nt nl nm nd tg fw aw lk s2 sf ss so:Addr} (X:KK.In h) (G:h.Ns mainGlobals mg) (a0:PySem.W.nsIn KK mainGlobals "PrimeError" = some (some (.ref pe))) (a1:PySem.W.nsIn KK mainGlobals "NoNumber" = some (some (.ref nn))) (a2:PySem.W.nsIn KK mainGlobals "NoPrime" = some (some (.ref np))) (a3:PySem.W.nsIn KK mainGlobals "NoPair" = some (some (.ref pa))) (a4:PySem.W.nsIn KK mainGlobals "NoPaper" = some (some (.ref pp))) (a5:PySem.W.nsIn KK mainGlobals "NoBases" = some (some (.ref nb))) (a6:PySem.W.nsIn KK mainGlobals "NoText" = some (some (.ref nt))) (a7:PySem.W.nsIn KK mainGlobals "NoLine" = some (some (.ref nl))) (a8:PySem.W.nsIn KK mainGlobals "NoName" = some (some (.ref nm))) (a9:PySem.W.nsIn KK mainGlobals "NoDeed" = some (some (.ref nd))) (a10:PySem.W.nsIn KK mainGlobals "TooGreat" = some (some (.ref tg))) (a11:PySem.W.nsIn KK mainGlobals "FULL_WORDS" = some (some (.ref fw))) (a12:PySem.W.nsIn KK mainGlobals "ALL_WORDS" = some (some (.ref aw))) (a13:PySem.W.nsIn KK mainGlobals "LOOKS" = some (some (.ref lk))) (a14:PySem.W.nsIn KK mainGlobals "shows_two" = some (some (.ref s2))) (a15:PySem.W.nsIn KK mainGlobals "shows_full" = some (some (.ref sf))) (a16:PySem.W.nsIn KK mainGlobals "shows_share" = some (some (.ref ss))) (a17:PySem.W.nsIn KK mainGlobals "shows_other" = some (some (.ref so))) (x0:vG KK nn) (w0:WordC KK ⟨pe,nn,np,pa,pp,nb,nt,nl,nm,nd,tg,fw,aw,lk,s2,sf,ss,so⟩ nn 0) (y0:(∀H,SqT KK H (⟨pe,nn,np,pa,pp,nb,nt,nl,nm,nd,tg,fw,aw,lk,s2,sf,ss,so⟩:Cl).fw [V.str (Str.ofString "two"),V.str (Str.ofString "full")])) (y1:(∀H,SqT KK H (⟨pe,nn,np,pa,pp,nb,nt,nl,nm,nd,tg,fw,aw,lk,s2,sf,ss,so⟩:Cl).aw [V.str (Str.ofString "two"),V.str (Str.ofString "full"),V.str (Str.ofString "share"),V.str (Str.ofString "other")])) (y2:(∀P:Program,yW P w KK (⟨pe,nn,np,pa,pp,nb,nt,nl,nm,nd,tg,fw,aw,lk,s2,sf,ss,so⟩:Cl))):∃cl:Cl,(mg "PrimeError" = some (.ref cl.pe)/\mg "NoNumber" = some (.ref cl.nn)/\mg "NoPrime" = some (.ref cl.np)/\mg "NoPair" = some (.ref cl.pa)/\mg "NoPaper" = some (.ref cl.pp)/\mg "NoBases" = some (.ref cl.nb)/\mg "NoText" = some (.ref cl.nt)/\mg "NoLine" = some (.ref cl.nl)/\mg "NoName" = some (.ref cl.nm)/\mg "NoDeed" = some (.ref cl.nd)/\mg "TooGreat" = some (.ref cl.tg)/\mg "FULL_WORDS" = some (.ref cl.fw)/\mg "ALL_WORDS" = some (.ref cl.aw)/\mg "LOOKS" = some (.ref cl.lk)/\mg "shows_two" = some (.ref cl.s2)/\mg "shows_full" = some (.ref cl.sf)/\mg "shows_share" = some (.ref cl.ss)/\mg "shows_other" = some (.ref cl.so))/\vG KK cl.nn/\WordC KK cl cl.nn 0/\(∀H,SqT KK H cl.fw [V.str (Str.ofString "two"),V.str (Str.ofString "full")])/\(∀H,SqT KK H cl.aw [V.str (Str.ofString "two"),V.str (Str.ofString "full"),V.str (Str.ofString "share"),V.str (Str.ofString "other")])/\(∀P:Program,yW P w KK cl) :=
 ⟨⟨pe,nn,np,pa,pp,nb,nt,nl,nm,nd,tg,fw,aw,lk,s2,sf,ss,so⟩,⟨PySem.W.mg_of X G a0,PySem.W.mg_of X G a1,PySem.W.mg_of X G a2,PySem.W.mg_of X G a3,PySem.W.mg_of X G a4,PySem.W.mg_of X G a5,PySem.W.mg_of X G a6,PySem.W.mg_of X G a7,PySem.W.mg_of X G a8,PySem.W.mg_of X G a9,PySem.W.mg_of X G a10,PySem.W.mg_of X G a11,PySem.W.mg_of X G a12,PySem.W.mg_of X G a13,PySem.W.mg_of X G a14,PySem.W.mg_of X G a15,PySem.W.mg_of X G a16,PySem.W.mg_of X G a17⟩,x0,w0,y0,y1,y2⟩
theorem fin_of {Pr:Program} {w:World} {KK:PySem.W.Frag} {mg:Str->Option Value} {fa fl c Pt:Addr} {oc kV doc pm ct:Value} {od an:Option Addr} {osl:Array (Option Value)} (hmg:mg "law" = some (.ref fa)) (hm:mg "law" = some (.ref fl))
  (hl:KK.lookup fl=some ⟨oc,od,.func (PySem.W.fnOf "law" "law" (c8 s_law) (cK s_law) (aJ s_law) .none kV doc pm an (.ref c) ct),osl⟩) (hc:PySem.W.codeIn KK (.ref c) "law" = true) (hh:PySem.W.codeHdIn KK c Pt=true) (hn:KK.lookup Pt=none)
  (all:∀base:Heap,KK.In base->base.BuiltinsAt mg Pt->KK.lookup fl=some ⟨oc,od,.func (PySem.W.fnOf "law" "law" (c8 s_law) (cK s_law) (aJ s_law) .none kV doc pm an (.ref c) ct),osl⟩->PySem.W.codeIn KK (.ref c) "law" = true->PySem.W.CodeHd base c Pt->FnOk Pr w KK mg base CX0 39 fl (PySem.W.fnOf "law" "law" (c8 s_law) (cK s_law) (aJ s_law) .none kV doc pm an (.ref c) ct) ["_law_script"] (spLaw KK Pt)) :
  ∃(fd:FuncData) (c:Addr),PySem.W.codeHdIn KK c Pt=true/\KK.lookup Pt=none/\(∀(s:Shared) (u:Value),BindsTo s fd ⟨[u],[]⟩ [("_law_script",u)])/\∀base:Heap,KK.In base->base.Ns mainGlobals mg->base.BuiltinsAt mg Pt->FnOk Pr w KK mg base CX0 39 fa fd ["_law_script"] (spLaw KK Pt):=by
 have e0:=hmg.symm.trans hm
 cases e0
 exact⟨_,c,hh,hn,fun s u=>.of_eq rfl,fun base kb nb bm=>all base kb bm hl hc (PySem.W.codeHd_of_K kb hh)⟩
end
end PP
set_option maxHeartbeats 0
noncomputable def OP.lo:List PySem.Str:=[PySem.Str.ofString "__name__",PySem.Str.ofString "PrimeError",PySem.Str.ofString "NoNumber",PySem.Str.ofString "NoPrime",PySem.Str.ofString "NoPair",PySem.Str.ofString "NoPaper",PySem.Str.ofString "NoBases",PySem.Str.ofString "NoText",PySem.Str.ofString "NoLine",PySem.Str.ofString "NoName",PySem.Str.ofString "NoDeed",PySem.Str.ofString "TooGreat",PySem.Str.ofString "MOST",PySem.Str.ofString "is_whole",PySem.Str.ofString "is_between",PySem.Str.ofString "want_between",PySem.Str.ofString "want_number",PySem.Str.ofString "power_rest",PySem.Str.ofString "greatest_in_both",PySem.Str.ofString "pair_product",PySem.Str.ofString "pair_power",PySem.Str.ofString "norm_rest",PySem.Str.ofString "FULL_WORDS",PySem.Str.ofString "ALL_WORDS",PySem.Str.ofString "is_paper_with",PySem.Str.ofString "begins_with",PySem.Str.ofString "rows_of",PySem.Str.ofString "rows_product",PySem.Str.ofString "is_row",PySem.Str.ofString "multiplied",PySem.Str.ofString "shows_two",PySem.Str.ofString "shows_full",PySem.Str.ofString "shows_share",PySem.Str.ofString "is_great_share",PySem.Str.ofString "comes_home",PySem.Str.ofString "shows_other",PySem.Str.ofString "pair_comes_home",PySem.Str.ofString "is_pair_of_rests",PySem.Str.ofString "LOOKS",PySem.Str.ofString "shows",PySem.Str.ofString "is_other",PySem.Str.ofString "_law_cell_at",PySem.Str.ofString "_law_state",PySem.Str.ofString "_law_take",PySem.Str.ofString "_law_same",PySem.Str.ofString "_law_whole",PySem.Str.ofString "_law_word",PySem.Str.ofString "_law_none",PySem.Str.ofString "_law_divisor",PySem.Str.ofString "_law_bits",PySem.Str.ofString "_law_power",PySem.Str.ofString "_law_parts",PySem.Str.ofString "_law_is_prime",PySem.Str.ofString "_law_prime",PySem.Str.ofString "_law_pair_by",PySem.Str.ofString "_law_pair_power",PySem.Str.ofString "_law_are_rows",PySem.Str.ofString "_law_product",PySem.Str.ofString "_law_full_holds",PySem.Str.ofString "_law_share_holds",PySem.Str.ofString "_law_home",PySem.Str.ofString "_law_other_holds",PySem.Str.ofString "_law_holds",PySem.Str.ofString "_law_based",PySem.Str.ofString "_law_homed",PySem.Str.ofString "_law_paper",PySem.Str.ofString "_law_odd",PySem.Str.ofString "_law_due"]
theorem OP.pwe:PySem.Challenge.pw_primepapers_k41_pair_papers_looked_at=PySem.Challenge.pw_primepapers_k41_pair_papers_looked_at:=rfl
name_quick pT for PySem.Challenge.pw_primepapers_k41_pair_papers_looked_at by OP.pwe
section
local macro_rules | `(tactic| o_head $H)=>`(tactic| contradiction)
set_option maxRecDepth 100000 in
open PySem PySem.W PyProof.Rows in
theorem OP.pre (f:False):PySem.Challenge.rw_primepapers_k41_pair_papers_looked_at.Holds:=by
 w_on;o_law;k_head
end
noncomputable def OP.as_:List Nat:=[2,3,15,22,23,24,25,28,35,36,37,40,47,48,49,52,59,60,61,64,71,72,73,76,83,84,85,88,95,96,97,100,107,108,109,112,119,120,121,124,131,132,133,136,143,145,146,148,149,150,151,152,155,157,158,160,161,162,164,165,167,168,169,171,172,174,175,176,178,179,181,182,183,185,186,188,189,190,192,193,195,196,197,199,200,202,203,204,206,207,209,210,211,213,214,216,217,218,219,220,222,223,225,226,227,229,230,232,233,234,236,237,239,240,241,243,244,246,247,248,250,251,253,254,255,257,258,260,261,262,264,265,267,268,269,271,272,274,275,276,278,279,281,282,283,285,286,288,289,290,292,293,295,296,297,299,300,302,303,304,306,307,309,310,311,313,314,316,317,318,319,321,322,324,325,326,328,329,331,332,333,335,336,338,339,340,342,343,345,346,347,349,350,352,353,354,357,358,359,361,362,364,365,366,368,369,371,372,373,375,376,378,379,380,382,383,385,386,387,389,390,392,393,394,396,397,399,400,401,403,404,406,407,408,410,411,413,414,415,417,418,420,421,422,424,425,427,428,429,431,432,434,435,436,438,439,441,442,443,445,446,448,449,450,453,454,455,457,458,460,461,462,464,465,467,468,469,472,473,474,476,477,479,480,481,484,485,486,488,489,491,492,493,496,497,498,500,501,503,504,505,507,508,510,511,512,515,516]
open PySem PySem.W PySem.Calls PyProof.Rows in
theorem OP.run_false (w:PySem.World) (os:PySem.OsState):PySem.W.Fast.tw9285885503168683399 (boot_heap (w.withFollow "special-get-raises" false).params) (OP.annOf (w.withFollow "special-get-raises" false).params) (OP.bootS (w.withFollow "special-get-raises" false).params os) PySem.W.Fast.pT (OP.qOf 74 PySem.W.Fast.pT) OP.lo (fun s=>PySem.W.xlAt (OP.qOf 74 PySem.W.Fast.pT) ([("MOST",PySem.W.WData.int 1000000000000000000000000000000)]:List (PySem.Str×PySem.W.WData)) s&&PySem.W.recOk (PySem.Challenge.rw_primepapers_k41_pair_papers_looked_at.row.records) s) (PySem.W.Hook.obs (PySem.W.kmHook OP.pre.heap_39 OP.as_ (fun _=>by kernel_rfl) [513])) 20000 (w.withFollow "special-get-raises" false)=some (true,PySem.W.openGood (OP.qOf 74 PySem.W.Fast.pT) OP.lo,PySem.W.Hook.val (PySem.W.kmHook OP.pre.heap_39 OP.as_ (fun _=>by kernel_rfl) [513]) (w.withFollow "special-get-raises" false)):=by kernel_rfl
open PySem PySem.W PySem.Calls PyProof.Rows in
theorem OP.run_true (w:PySem.World) (os:PySem.OsState):PySem.W.Fast.tw9285885503168683399 (boot_heap (w.withFollow "special-get-raises" true).params) (OP.annOf (w.withFollow "special-get-raises" true).params) (OP.bootS (w.withFollow "special-get-raises" true).params os) PySem.W.Fast.pT (OP.qOf 74 PySem.W.Fast.pT) OP.lo (fun s=>PySem.W.xlAt (OP.qOf 74 PySem.W.Fast.pT) ([("MOST",PySem.W.WData.int 1000000000000000000000000000000)]:List (PySem.Str×PySem.W.WData)) s&&PySem.W.recOk (PySem.Challenge.rw_primepapers_k41_pair_papers_looked_at.row.records) s) (PySem.W.Hook.obs (PySem.W.kmHook OP.pre.heap_39 OP.as_ (fun _=>by kernel_rfl) [513])) 20000 (w.withFollow "special-get-raises" true)=some (true,PySem.W.openGood (OP.qOf 74 PySem.W.Fast.pT) OP.lo,PySem.W.Hook.val (PySem.W.kmHook OP.pre.heap_39 OP.as_ (fun _=>by kernel_rfl) [513]) (w.withFollow "special-get-raises" true)):=by kernel_rfl
open PySem PySem.W PyProof.Rows in
local macro_rules | `(tactic| o_head $H)=>`(tactic| (
 refine PySem.W.holds_open (q:=(OP.qOf 74 PySem.Challenge.pw_primepapers_k41_pair_papers_looked_at)) (loose:=OP.lo) (Xt:=fun s=>xlAt (OP.qOf 74 PySem.Challenge.pw_primepapers_k41_pair_papers_looked_at) ([("MOST",PySem.W.WData.int 1000000000000000000000000000000)]:List (PySem.Str×PySem.W.WData)) s&&recOk (PySem.Challenge.rw_primepapers_k41_pair_papers_looked_at.row.records) s) (XP:=XL (OP.qOf 74 PySem.Challenge.pw_primepapers_k41_pair_papers_looked_at) ([("MOST",PySem.W.WData.int 1000000000000000000000000000000)]:List (PySem.Str×PySem.W.WData))) (Yf:=Hook.obs $H) (Ya:=Hook.val $H) (YP:=Hook.says $H) (N:=20000)
  (OP.left_tw2 "special-get-raises" 20000 PySem.W.Fast.pT_eq (by kernel_rfl) (by decide) (fun s=>by kernel_rfl) (by decide) OP.run_false OP.run_true)
  (Hook.of $H) (Hook.keeps $H) (fun s e=>xl_of s (Bool.and_eq_true_iff.mp e).1) XL.keeps (by rfl) (by rfl) (by rfl) (fun s e=>recFacts_of (Bool.and_eq_true_iff.mp e).2) (by rfl) (by first | assumption | decide +kernel) (by decide +kernel) ⟨rfl,rfl,rfl,rfl,rfl,by decide +kernel⟩ ?hw ?hc))
open PySem PySem.W PyProof.Rows
set_option maxRecDepth 100000 in
set_option maxHeartbeats 0 in
theorem PySem.Challenge.cw_primepapers_k41_pair_papers_looked_at_holds : PySem.Challenge.rw_primepapers_k41_pair_papers_looked_at.Holds := by
 w_on;o_law;k_head;(case hw=>w_witness2)
 k_fill
 refine L2.y4 (l:=PySem.Challenge.rw_primepapers_k41_pair_papers_looked_at) (n:=63) (k:=39) (x := "_law_script") (CX:=fun _=>L2.CX0) (sp:=fun Pt _ K=>PP.spLaw K Pt) rfl (by decide) rfl ⟨rfl,by decide,by decide,rfl⟩ (fun w h Y=>⟨PySem.W.km_in_of Y,PySem.W.km_tabs_of Y _ (List.Mem.head _)⟩) ?F ?S ?C
 case S=>exact fun w K H a ns hl _ hS hT=>⟨a,ns,rfl,hS,hl,hT,fun _=>rfl⟩
 case C=>exact fun _ _ _ _ _ z=>z
 case F =>
  intro w mg fa h KX G hX hmg
  have d_q45:∃f fd,PP.Df_q45 (L2.KOf KX) mg f fd:=by
   dsimp only[L2.KOf]
   refine' ⟨_,PP.bA KX G ?a ?l ?c ?k ?b⟩
   (case a=>k_is);(case l=>k_is);(case c=>k_is);(case k=>k_is)
   case b=>intro _ _ _ _ _ _ us hl;obtain⟨a0,rfl⟩:=PP.us1 hl;rfl
  have d_q26:∃f fd,PP.Df_q26 (L2.KOf KX) mg f fd:=by
   dsimp only[L2.KOf]
   refine' ⟨_,PP.bA KX G ?a ?l ?c ?k ?b⟩
   (case a=>k_is);(case l=>k_is);(case c=>k_is);(case k=>k_is)
   case b=>intro _ _ _ _ _ _ us hl;obtain⟨a0,a1,a2,rfl⟩:=PP.us3 hl;rfl
  have d_q13:∃f fd,PP.Df_q13 (L2.KOf KX) mg f fd:=by
   dsimp only[L2.KOf]
   refine' ⟨_,PP.bA KX G ?a ?l ?c ?k ?b⟩
   (case a=>k_is);(case l=>k_is);(case c=>k_is);(case k=>k_is)
   case b=>intro _ _ _ _ _ _ us hl;obtain⟨a0,a1,a2,a3,rfl⟩:=PP.us4 hl;rfl
  have d_q21:∃f fd,PP.Df_q21 (L2.KOf KX) mg f fd:=by
   dsimp only[L2.KOf]
   refine' ⟨_,PP.bA KX G ?a ?l ?c ?k ?b⟩
   (case a=>k_is);(case l=>k_is);(case c=>k_is);(case k=>k_is)
   case b=>intro _ _ _ _ _ _ us hl;obtain⟨a0,a1,rfl⟩:=PP.us2 hl;rfl
  have d_q27:∃f fd,PP.Df_q27 (L2.KOf KX) mg f fd:=by
   dsimp only[L2.KOf]
   refine' ⟨_,PP.bA KX G ?a ?l ?c ?k ?b⟩
   (case a=>k_is);(case l=>k_is);(case c=>k_is);(case k=>k_is)
   case b=>intro _ _ _ _ _ _ us hl;obtain⟨a0,a1,a2,rfl⟩:=PP.us3 hl;rfl
  have d_q1:∃f fd,PP.Df_q1 (L2.KOf KX) mg f fd:=by
   dsimp only[L2.KOf]
   refine' ⟨_,PP.bA KX G ?a ?l ?c ?k ?b⟩
   (case a=>k_is);(case l=>k_is);(case c=>k_is);(case k=>k_is)
   case b=>intro _ _ _ _ _ _ us hl;obtain⟨a0,a1,rfl⟩:=PP.us2 hl;rfl
  have d_q10:∃f fd,PP.Df_q10 (L2.KOf KX) mg f fd:=by
   dsimp only[L2.KOf]
   refine' ⟨_,PP.bA KX G ?a ?l ?c ?k ?b⟩
   (case a=>k_is);(case l=>k_is);(case c=>k_is);(case k=>k_is)
   case b=>intro _ _ _ _ _ _ us hl;obtain⟨a0,a1,a2,a3,rfl⟩:=PP.us4 hl;rfl
  have d_q25:∃f fd,PP.Df_q25 (L2.KOf KX) mg f fd:=by
   dsimp only[L2.KOf]
   refine' ⟨_,PP.bA KX G ?a ?l ?c ?k ?b⟩
   (case a=>k_is);(case l=>k_is);(case c=>k_is);(case k=>k_is)
   case b=>intro _ _ _ _ _ _ us hl;obtain⟨a0,a1,a2,a3,rfl⟩:=PP.us4 hl;rfl
  have d_q32:∃f fd,PP.Df_q32 (L2.KOf KX) mg f fd:=by
   dsimp only[L2.KOf]
   refine' ⟨_,PP.bA KX G ?a ?l ?c ?k ?b⟩
   (case a=>k_is);(case l=>k_is);(case c=>k_is);(case k=>k_is)
   case b=>intro _ _ _ _ _ _ us hl;obtain⟨a0,a1,a2,rfl⟩:=PP.us3 hl;rfl
  have d_q22:∃f fd,PP.Df_q22 (L2.KOf KX) mg f fd:=by
   dsimp only[L2.KOf]
   refine' ⟨_,PP.bA KX G ?a ?l ?c ?k ?b⟩
   (case a=>k_is);(case l=>k_is);(case c=>k_is);(case k=>k_is)
   case b=>intro _ _ _ _ _ _ us hl;obtain⟨a0,a1,a2,a3,rfl⟩:=PP.us4 hl;rfl
  have d_q50:∃f fd,PP.Df_q50 (L2.KOf KX) mg f fd:=by
   dsimp only[L2.KOf]
   refine' ⟨_,PP.bA KX G ?a ?l ?c ?k ?b⟩
   (case a=>k_is);(case l=>k_is);(case c=>k_is);(case k=>k_is)
   case b=>intro _ _ _ _ _ _ us hl;obtain⟨a0,rfl⟩:=PP.us1 hl;rfl
  have d_q9:∃f fd,PP.Df_q9 (L2.KOf KX) mg f fd:=by
   dsimp only[L2.KOf]
   refine' ⟨_,PP.bA KX G ?a ?l ?c ?k ?b⟩
   (case a=>k_is);(case l=>k_is);(case c=>k_is);(case k=>k_is)
   case b=>intro _ _ _ _ _ _ us hl;obtain⟨a0,a1,rfl⟩:=PP.us2 hl;rfl
  have d_q30:∃f fd,PP.Df_q30 (L2.KOf KX) mg f fd:=by
   dsimp only[L2.KOf]
   refine' ⟨_,PP.bA KX G ?a ?l ?c ?k ?b⟩
   (case a=>k_is);(case l=>k_is);(case c=>k_is);(case k=>k_is)
   case b=>intro _ _ _ _ _ _ us hl;obtain⟨a0,a1,rfl⟩:=PP.us2 hl;rfl
  have d_q7:∃f fd,PP.Df_q7 (L2.KOf KX) mg f fd:=by
   dsimp only[L2.KOf]
   refine' ⟨_,PP.bA KX G ?a ?l ?c ?k ?b⟩
   (case a=>k_is);(case l=>k_is);(case c=>k_is);(case k=>k_is)
   case b=>intro _ _ _ _ _ _ us hl;obtain⟨a0,a1,rfl⟩:=PP.us2 hl;rfl
  have d_q24:∃f fd,PP.Df_q24 (L2.KOf KX) mg f fd:=by
   dsimp only[L2.KOf]
   refine' ⟨_,PP.bA KX G ?a ?l ?c ?k ?b⟩
   (case a=>k_is);(case l=>k_is);(case c=>k_is);(case k=>k_is)
   case b=>intro _ _ _ _ _ _ us hl;obtain⟨a0,a1,rfl⟩:=PP.us2 hl;rfl
  have d_q23:∃f fd,PP.Df_q23 (L2.KOf KX) mg f fd:=by
   dsimp only[L2.KOf]
   refine' ⟨_,PP.bA KX G ?a ?l ?c ?k ?b⟩
   (case a=>k_is);(case l=>k_is);(case c=>k_is);(case k=>k_is)
   case b=>intro _ _ _ _ _ _ us hl;obtain⟨a0,a1,rfl⟩:=PP.us2 hl;rfl
  have d_q16:∃f fd,PP.Df_q16 (L2.KOf KX) mg f fd:=by
   dsimp only[L2.KOf]
   refine' ⟨_,PP.bA KX G ?a ?l ?c ?k ?b⟩
   (case a=>k_is);(case l=>k_is);(case c=>k_is);(case k=>k_is)
   case b=>intro _ _ _ _ _ _ us hl;obtain⟨a0,a1,rfl⟩:=PP.us2 hl;rfl
  have d_q0:∃f fd,PP.Df_q0 (L2.KOf KX) mg f fd:=by
   dsimp only[L2.KOf]
   refine' ⟨_,PP.bA KX G ?a ?l ?c ?k ?b⟩
   (case a=>k_is);(case l=>k_is);(case c=>k_is);(case k=>k_is)
   case b=>intro _ _ _ _ _ _ us hl;obtain⟨a0,a1,rfl⟩:=PP.us2 hl;rfl
  have d_q2:∃f fd,PP.Df_q2 (L2.KOf KX) mg f fd:=by
   dsimp only[L2.KOf]
   refine' ⟨_,PP.bA KX G ?a ?l ?c ?k ?b⟩
   (case a=>k_is);(case l=>k_is);(case c=>k_is);(case k=>k_is)
   case b=>intro _ _ _ _ _ _ us hl;obtain⟨a0,a1,a2,rfl⟩:=PP.us3 hl;rfl
  have d_q20:∃f fd,PP.Df_q20 (L2.KOf KX) mg f fd:=by
   dsimp only[L2.KOf]
   refine' ⟨_,PP.bA KX G ?a ?l ?c ?k ?b⟩
   (case a=>k_is);(case l=>k_is);(case c=>k_is);(case k=>k_is)
   case b=>intro _ _ _ _ _ _ us hl;obtain⟨a0,a1,rfl⟩:=PP.us2 hl;rfl
  have d_q14:∃f fd,PP.Df_q14 (L2.KOf KX) mg f fd:=by
   dsimp only[L2.KOf]
   refine' ⟨_,PP.bA KX G ?a ?l ?c ?k ?b⟩
   (case a=>k_is);(case l=>k_is);(case c=>k_is);(case k=>k_is)
   case b=>intro _ _ _ _ _ _ us hl;obtain⟨a0,a1,rfl⟩:=PP.us2 hl;rfl
  have d_q51:∃f fd,PP.Df_q51 (L2.KOf KX) mg f fd:=by
   dsimp only[L2.KOf]
   refine' ⟨_,PP.bA KX G ?a ?l ?c ?k ?b⟩
   (case a=>k_is);(case l=>k_is);(case c=>k_is);(case k=>k_is)
   case b=>intro _ _ _ _ _ _ us hl;obtain⟨a0,a1,rfl⟩:=PP.us2 hl;rfl
  have d_q49:∃f fd,PP.Df_q49 (L2.KOf KX) mg f fd:=by
   dsimp only[L2.KOf]
   refine' ⟨_,PP.bA KX G ?a ?l ?c ?k ?b⟩
   (case a=>k_is);(case l=>k_is);(case c=>k_is);(case k=>k_is)
   case b=>intro _ _ _ _ _ _ us hl;obtain⟨a0,rfl⟩:=PP.us1 hl;rfl
  have d_q8:∃f fd,PP.Df_q8 (L2.KOf KX) mg f fd:=by
   dsimp only[L2.KOf]
   refine' ⟨_,PP.bA KX G ?a ?l ?c ?k ?b⟩
   (case a=>k_is);(case l=>k_is);(case c=>k_is);(case k=>k_is)
   case b=>intro _ _ _ _ _ _ us hl;obtain⟨a0,a1,a2,rfl⟩:=PP.us3 hl;rfl
  have d_q42:∃f fd,PP.Df_q42 (L2.KOf KX) mg f fd:=by
   dsimp only[L2.KOf]
   refine' ⟨_,PP.bA KX G ?a ?l ?c ?k ?b⟩
   (case a=>k_is);(case l=>k_is);(case c=>k_is);(case k=>k_is)
   case b=>intro _ _ _ _ _ _ us hl;obtain⟨a0,a1,rfl⟩:=PP.us2 hl;rfl
  have d_q18:∃f fd,PP.Df_q18 (L2.KOf KX) mg f fd:=by
   dsimp only[L2.KOf]
   refine' ⟨_,PP.bA KX G ?a ?l ?c ?k ?b⟩
   (case a=>k_is);(case l=>k_is);(case c=>k_is);(case k=>k_is)
   case b=>intro _ _ _ _ _ _ us hl;obtain⟨a0,a1,rfl⟩:=PP.us2 hl;rfl
  have d_q37:∃f fd,PP.Df_q37 (L2.KOf KX) mg f fd:=by
   dsimp only[L2.KOf]
   refine' ⟨_,PP.bA KX G ?a ?l ?c ?k ?b⟩
   (case a=>k_is);(case l=>k_is);(case c=>k_is);(case k=>k_is)
   case b=>intro _ _ _ _ _ _ us hl;obtain⟨a0,a1,rfl⟩:=PP.us2 hl;rfl
  have d_q41:∃f fd,PP.Df_q41 (L2.KOf KX) mg f fd:=by
   dsimp only[L2.KOf]
   refine' ⟨_,PP.bA KX G ?a ?l ?c ?k ?b⟩
   (case a=>k_is);(case l=>k_is);(case c=>k_is);(case k=>k_is)
   case b=>intro _ _ _ _ _ _ us hl;obtain⟨a0,a1,rfl⟩:=PP.us2 hl;rfl
  have d_q44:∃f fd,PP.Df_q44 (L2.KOf KX) mg f fd:=by
   dsimp only[L2.KOf]
   refine' ⟨_,PP.bA KX G ?a ?l ?c ?k ?b⟩
   (case a=>k_is);(case l=>k_is);(case c=>k_is);(case k=>k_is)
   case b=>intro _ _ _ _ _ _ us hl;obtain⟨a0,a1,rfl⟩:=PP.us2 hl;rfl
  have d_q28:∃f fd,PP.Df_q28 (L2.KOf KX) mg f fd:=by
   dsimp only[L2.KOf]
   refine' ⟨_,PP.bA KX G ?a ?l ?c ?k ?b⟩
   (case a=>k_is);(case l=>k_is);(case c=>k_is);(case k=>k_is)
   case b=>intro _ _ _ _ _ _ us hl;obtain⟨a0,rfl⟩:=PP.us1 hl;rfl
  have d_q39:∃f fd,PP.Df_q39 (L2.KOf KX) mg f fd:=by
   dsimp only[L2.KOf]
   refine' ⟨_,PP.bA KX G ?a ?l ?c ?k ?b⟩
   (case a=>k_is);(case l=>k_is);(case c=>k_is);(case k=>k_is)
   case b=>intro _ _ _ _ _ _ us hl;obtain⟨a0,rfl⟩:=PP.us1 hl;rfl
  have d_q46:∃f fd,PP.Df_q46 (L2.KOf KX) mg f fd:=by
   dsimp only[L2.KOf]
   refine' ⟨_,PP.bA KX G ?a ?l ?c ?k ?b⟩
   (case a=>k_is);(case l=>k_is);(case c=>k_is);(case k=>k_is)
   case b=>intro _ _ _ _ _ _ us hl;obtain⟨a0,a1,a2,rfl⟩:=PP.us3 hl;rfl
  have d_q19:∃f fd,PP.Df_q19 (L2.KOf KX) mg f fd:=by
   dsimp only[L2.KOf]
   refine' ⟨_,PP.bA KX G ?a ?l ?c ?k ?b⟩
   (case a=>k_is);(case l=>k_is);(case c=>k_is);(case k=>k_is)
   case b=>intro _ _ _ _ _ _ us hl;obtain⟨a0,a1,rfl⟩:=PP.us2 hl;rfl
  have d_q43:∃f fd,PP.Df_q43 (L2.KOf KX) mg f fd:=by
   dsimp only[L2.KOf]
   refine' ⟨_,PP.bA KX G ?a ?l ?c ?k ?b⟩
   (case a=>k_is);(case l=>k_is);(case c=>k_is);(case k=>k_is)
   case b=>intro _ _ _ _ _ _ us hl;obtain⟨a0,rfl⟩:=PP.us1 hl;rfl
  have d_q33:∃f fd,PP.Df_q33 (L2.KOf KX) mg f fd:=by
   dsimp only[L2.KOf]
   refine' ⟨_,PP.bA KX G ?a ?l ?c ?k ?b⟩
   (case a=>k_is);(case l=>k_is);(case c=>k_is);(case k=>k_is)
   case b=>intro _ _ _ _ _ _ us hl;obtain⟨a0,a1,a2,rfl⟩:=PP.us3 hl;rfl
  have d_q34:∃f fd,PP.Df_q34 (L2.KOf KX) mg f fd:=by
   dsimp only[L2.KOf]
   refine' ⟨_,PP.bA KX G ?a ?l ?c ?k ?b⟩
   (case a=>k_is);(case l=>k_is);(case c=>k_is);(case k=>k_is)
   case b=>intro _ _ _ _ _ _ us hl;obtain⟨a0,rfl⟩:=PP.us1 hl;rfl
  have d_q12:∃f fd,PP.Df_q12 (L2.KOf KX) mg f fd:=by
   dsimp only[L2.KOf]
   refine' ⟨_,PP.bA KX G ?a ?l ?c ?k ?b⟩
   (case a=>k_is);(case l=>k_is);(case c=>k_is);(case k=>k_is)
   case b=>intro _ _ _ _ _ _ us hl;obtain⟨a0,rfl⟩:=PP.us1 hl;rfl
  have d_q31:∃f fd,PP.Df_q31 (L2.KOf KX) mg f fd:=by
   dsimp only[L2.KOf]
   refine' ⟨_,PP.bA KX G ?a ?l ?c ?k ?b⟩
   (case a=>k_is);(case l=>k_is);(case c=>k_is);(case k=>k_is)
   case b=>intro _ _ _ _ _ _ us hl;obtain⟨a0,a1,rfl⟩:=PP.us2 hl;rfl
  have d_q17:∃f fd,PP.Df_q17 (L2.KOf KX) mg f fd:=by
   dsimp only[L2.KOf]
   refine' ⟨_,PP.bA KX G ?a ?l ?c ?k ?b⟩
   (case a=>k_is);(case l=>k_is);(case c=>k_is);(case k=>k_is)
   case b=>intro _ _ _ _ _ _ us hl;obtain⟨a0,a1,a2,a3,rfl⟩:=PP.us4 hl;rfl
  have d_q6:∃f fd,PP.Df_q6 (L2.KOf KX) mg f fd:=by
   dsimp only[L2.KOf]
   refine' ⟨_,PP.bA KX G ?a ?l ?c ?k ?b⟩
   (case a=>k_is);(case l=>k_is);(case c=>k_is);(case k=>k_is)
   case b=>intro _ _ _ _ _ _ us hl;obtain⟨a0,a1,a2,a3,rfl⟩:=PP.us4 hl;rfl
  have d_q11:∃f fd,PP.Df_q11 (L2.KOf KX) mg f fd:=by
   dsimp only[L2.KOf]
   refine' ⟨_,PP.bA KX G ?a ?l ?c ?k ?b⟩
   (case a=>k_is);(case l=>k_is);(case c=>k_is);(case k=>k_is)
   case b=>intro _ _ _ _ _ _ us hl;obtain⟨a0,rfl⟩:=PP.us1 hl;rfl
  have d_q15:∃f fd,PP.Df_q15 (L2.KOf KX) mg f fd:=by
   dsimp only[L2.KOf]
   refine' ⟨_,PP.bA KX G ?a ?l ?c ?k ?b⟩
   (case a=>k_is);(case l=>k_is);(case c=>k_is);(case k=>k_is)
   case b=>intro _ _ _ _ _ _ us hl;obtain⟨a0,a1,rfl⟩:=PP.us2 hl;rfl
  have d_q5:∃f fd,PP.Df_q5 (L2.KOf KX) mg f fd:=by
   dsimp only[L2.KOf]
   refine' ⟨_,PP.bA KX G ?a ?l ?c ?k ?b⟩
   (case a=>k_is);(case l=>k_is);(case c=>k_is);(case k=>k_is)
   case b=>intro _ _ _ _ _ _ us hl;obtain⟨a0,a1,rfl⟩:=PP.us2 hl;rfl
  have d_q4:∃f fd,PP.Df_q4 (L2.KOf KX) mg f fd:=by
   dsimp only[L2.KOf]
   refine' ⟨_,PP.bA KX G ?a ?l ?c ?k ?b⟩
   (case a=>k_is);(case l=>k_is);(case c=>k_is);(case k=>k_is)
   case b=>intro _ _ _ _ _ _ us hl;obtain⟨a0,a1,rfl⟩:=PP.us2 hl;rfl
  have d_q40:∃f fd,PP.Df_q40 (L2.KOf KX) mg f fd:=by
   dsimp only[L2.KOf]
   refine' ⟨_,PP.bA KX G ?a ?l ?c ?k ?b⟩
   (case a=>k_is);(case l=>k_is);(case c=>k_is);(case k=>k_is)
   case b=>intro _ _ _ _ _ _ us hl;obtain⟨a0,a1,a2,a3,rfl⟩:=PP.us4 hl;rfl
  have d_q3:∃f fd,PP.Df_q3 (L2.KOf KX) mg f fd:=by
   dsimp only[L2.KOf]
   refine' ⟨_,PP.bA KX G ?a ?l ?c ?k ?b⟩
   (case a=>k_is);(case l=>k_is);(case c=>k_is);(case k=>k_is)
   case b=>intro _ _ _ _ _ _ us hl;obtain⟨a0,a1,rfl⟩:=PP.us2 hl;rfl
  have d_q38:∃f fd,PP.Df_q38 (L2.KOf KX) mg f fd:=by
   dsimp only[L2.KOf]
   refine' ⟨_,PP.bA KX G ?a ?l ?c ?k ?b⟩
   (case a=>k_is);(case l=>k_is);(case c=>k_is);(case k=>k_is)
   case b=>intro _ _ _ _ _ _ us hl;obtain⟨a0,a1,a2,rfl⟩:=PP.us3 hl;rfl
  have d_q36:∃f fd,PP.Df_q36 (L2.KOf KX) mg f fd:=by
   dsimp only[L2.KOf]
   refine' ⟨_,PP.bA KX G ?a ?l ?c ?k ?b⟩
   (case a=>k_is);(case l=>k_is);(case c=>k_is);(case k=>k_is)
   case b=>intro _ _ _ _ _ _ us hl;obtain⟨a0,a1,a2,rfl⟩:=PP.us3 hl;rfl
  have d_q29:∃f fd,PP.Df_q29 (L2.KOf KX) mg f fd:=by
   dsimp only[L2.KOf]
   refine' ⟨_,PP.bA KX G ?a ?l ?c ?k ?b⟩
   (case a=>k_is);(case l=>k_is);(case c=>k_is);(case k=>k_is)
   case b=>intro _ _ _ _ _ _ us hl;obtain⟨a0,a1,a2,rfl⟩:=PP.us3 hl;rfl
  have d_q35:∃f fd,PP.Df_q35 (L2.KOf KX) mg f fd:=by
   dsimp only[L2.KOf]
   refine' ⟨_,PP.bA KX G ?a ?l ?c ?k ?b⟩
   (case a=>k_is);(case l=>k_is);(case c=>k_is);(case k=>k_is)
   case b=>intro _ _ _ _ _ _ us hl;obtain⟨a0,a1,a2,rfl⟩:=PP.us3 hl;rfl
  have d_q47:∃f fd,PP.Df_q47 (L2.KOf KX) mg f fd:=by
   dsimp only[L2.KOf]
   refine' ⟨_,PP.bA KX G ?a ?l ?c ?k ?b⟩
   (case a=>k_is);(case l=>k_is);(case c=>k_is);(case k=>k_is)
   case b=>intro _ _ _ _ _ _ us hl;obtain⟨a0,rfl⟩:=PP.us1 hl;rfl
  have d_q48:∃f fd,PP.Df_q48 (L2.KOf KX) mg f fd:=by
   dsimp only[L2.KOf]
   refine' ⟨_,PP.bA KX G ?a ?l ?c ?k ?b⟩
   (case a=>k_is);(case l=>k_is);(case c=>k_is);(case k=>k_is)
   case b=>intro _ _ _ _ _ _ us hl;obtain⟨a0,a1,rfl⟩:=PP.us2 hl;rfl
  have c_MOST:∃t,mg "MOST" = some (.int 1000000000000000000000000000000 t):=by
   exact L2.yA hX (by simp)
  have n_len:mg "len" = none:=by
   refine' PySem.W.mg_none_of KX G ?a
   (case a=>k_is)
  have n_isinstance:mg "isinstance" = none:=by
   refine' PySem.W.mg_none_of KX G ?a
   (case a=>k_is)
  have n_int:mg "int" = none:=by
   refine' PySem.W.mg_none_of KX G ?a
   (case a=>k_is)
  have n_bool:mg "bool" = none:=by
   refine' PySem.W.mg_none_of KX G ?a
   (case a=>k_is)
  have n_range:mg "range" = none:=by
   refine' PySem.W.mg_none_of KX G ?a
   (case a=>k_is)
  have n_abs:mg "abs" = none:=by
   refine' PySem.W.mg_none_of KX G ?a
   (case a=>k_is)
  have n_max:mg "max" = none:=by
   refine' PySem.W.mg_none_of KX G ?a
   (case a=>k_is)
  have n_min:mg "min" = none:=by
   refine' PySem.W.mg_none_of KX G ?a
   (case a=>k_is)
  have n_tuple:mg "tuple" = none:=by
   refine' PySem.W.mg_none_of KX G ?a
   (case a=>k_is)
  have n_str:mg "str" = none:=by
   refine' PySem.W.mg_none_of KX G ?a
   (case a=>k_is)
  have n_all:mg "all" = none:=by
   refine' PySem.W.mg_none_of KX G ?a
   (case a=>k_is)
  have n_repr:mg "repr" = none:=by
   refine' PySem.W.mg_none_of KX G ?a
   (case a=>k_is)
  have n_sorted:mg "sorted" = none:=by
   refine' PySem.W.mg_none_of KX G ?a
   (case a=>k_is)
  have n_list:mg "list" = none:=by
   refine' PySem.W.mg_none_of KX G ?a
   (case a=>k_is)
  have n_zip:mg "zip" = none:=by
   refine' PySem.W.mg_none_of KX G ?a
   (case a=>k_is)
  have n_ValueError:mg "ValueError" = none:=by
   refine' PySem.W.mg_none_of KX G ?a
   (case a=>k_is)
  have d_cl:∃cl:PP.Cl,(mg "PrimeError" = some (.ref cl.pe)/\mg "NoNumber" = some (.ref cl.nn)/\mg "NoPrime" = some (.ref cl.np)/\mg "NoPair" = some (.ref cl.pa)/\mg "NoPaper" = some (.ref cl.pp)/\mg "NoBases" = some (.ref cl.nb)/\mg "NoText" = some (.ref cl.nt)/\mg "NoLine" = some (.ref cl.nl)/\mg "NoName" = some (.ref cl.nm)/\mg "NoDeed" = some (.ref cl.nd)/\mg "TooGreat" = some (.ref cl.tg)/\mg "FULL_WORDS" = some (.ref cl.fw)/\mg "ALL_WORDS" = some (.ref cl.aw)/\mg "LOOKS" = some (.ref cl.lk)/\mg "shows_two" = some (.ref cl.s2)/\mg "shows_full" = some (.ref cl.sf)/\mg "shows_share" = some (.ref cl.ss)/\mg "shows_other" = some (.ref cl.so))/\L2.vG (L2.KOf KX) cl.nn/\PP.WordC (L2.KOf KX) cl cl.nn 0/\(∀H,L2.SqT (L2.KOf KX) H cl.fw [L2.V.str (Str.ofString "two"),L2.V.str (Str.ofString "full")])/\(∀H,L2.SqT (L2.KOf KX) H cl.aw [L2.V.str (Str.ofString "two"),L2.V.str (Str.ofString "full"),L2.V.str (Str.ofString "share"),L2.V.str (Str.ofString "other")])/\(∀P:Program,PP.yW P w (L2.KOf KX) cl):=by
   dsimp only[L2.KOf]
   refine' PP.cl_mk KX G ?a0 ?a1 ?a2 ?a3 ?a4 ?a5 ?a6 ?a7 ?a8 ?a9 ?a10 ?a11 ?a12 ?a13 ?a14 ?a15 ?a16 ?a17 ?x0 ?w0 ?y0 ?y1 ?y2
   (case a0=>k_is)
   (case a1=>k_is)
   (case a2=>k_is)
   (case a3=>k_is)
   (case a4=>k_is)
   (case a5=>k_is)
   (case a6=>k_is)
   (case a7=>k_is)
   (case a8=>k_is)
   (case a9=>k_is)
   (case a10=>k_is)
   (case a11=>k_is)
   (case a12=>k_is)
   (case a13=>k_is)
   (case a14=>k_is)
   (case a15=>k_is)
   (case a16=>k_is)
   (case a17=>k_is)
   (case x0=>kernel_rfl)
   case w0 =>
    refine⟨⟨?_,?_,?_,?_,?_,?_,?_,?_⟩,?_,?_,?_,?_,?_,?_,?_,?_,?_,?_,?_,?_⟩ <;> kernel_rfl
   case y0 =>
    refine' PP.zC ?h ?z ?r
    (case h=>k_is)
    (case z=>decide)
    case r=>exact(.cons ⟨_,rfl⟩ (.cons ⟨_,rfl⟩ .nil))
   case y1 =>
    refine' PP.zC ?h ?z ?r
    (case h=>k_is)
    (case z=>decide)
    case r=>exact(.cons ⟨_,rfl⟩ (.cons ⟨_,rfl⟩ (.cons ⟨_,rfl⟩ (.cons ⟨_,rfl⟩ .nil))))
   case y2 =>
    refine' PP.aF0 ?h ?e1 ?e2 ?e3 ?e4
    (case h=>k_is)
    all_goals kernel_rfl
  obtain⟨t_MOST,c_MOST⟩:=c_MOST
  obtain⟨cl,⟨m_PrimeError,m_NoNumber,m_NoPrime,m_NoPair,m_NoPaper,m_NoBases,m_NoText,m_NoLine,m_NoName,m_NoDeed,m_TooGreat,m_FULL_WORDS,m_ALL_WORDS,m_LOOKS,m_shows_two,m_shows_full,m_shows_share,m_shows_other⟩,x_NoNumber,W0,Y0,Y1,Y2⟩:=d_cl
  have T:PP.Txt (L2.KOf KX) mg t_MOST cl:={ mg_MOST:=c_MOST,no_len:=n_len,no_isinstance:=n_isinstance,no_int:=n_int,no_bool:=n_bool,no_range:=n_range,no_abs:=n_abs,no_max:=n_max,no_min:=n_min,no_tuple:=n_tuple,no_str:=n_str,no_all:=n_all,no_repr:=n_repr,no_sorted:=n_sorted,no_list:=n_list,no_zip:=n_zip,no_ValueError:=n_ValueError,mg_PrimeError:=m_PrimeError,mg_NoNumber:=m_NoNumber,mg_NoPrime:=m_NoPrime,mg_NoPair:=m_NoPair,mg_NoPaper:=m_NoPaper,mg_NoBases:=m_NoBases,mg_NoText:=m_NoText,mg_NoLine:=m_NoLine,mg_NoName:=m_NoName,mg_NoDeed:=m_NoDeed,mg_TooGreat:=m_TooGreat,mg_FULL_WORDS:=m_FULL_WORDS,mg_ALL_WORDS:=m_ALL_WORDS,mg_LOOKS:=m_LOOKS,mg_shows_two:=m_shows_two,mg_shows_full:=m_shows_full,mg_shows_share:=m_shows_share,mg_shows_other:=m_shows_other,xc_NoNumber:=x_NoNumber,fw:=Y0,aw:=Y1 }
  try dsimp only[L2.KOf]
  dsimp only[L2.KOf] at T W0 d_q45 d_q26 d_q13 d_q21 d_q27 d_q1 d_q10 d_q25 d_q32 d_q22 d_q50 d_q9 d_q30 d_q7 d_q24 d_q23 d_q16 d_q0 d_q2 d_q20 d_q14 d_q51 d_q49 d_q8 d_q42 d_q18 d_q37 d_q41 d_q44 d_q28 d_q39 d_q46 d_q19 d_q43 d_q33 d_q34 d_q12 d_q31 d_q17 d_q6 d_q11 d_q15 d_q5 d_q4 d_q40 d_q3 d_q38 d_q36 d_q29 d_q35 d_q47 d_q48
  refine' PP.fin_of hmg (PySem.W.mg_of KX G ?a) ?l ?c ?d ?e (fun base kb bm lk hcd hd=>PP.all_ok lk hcd hd bm T W0 (Y2 _) d_q45 d_q26 d_q13 d_q21 d_q27 d_q1 d_q10 d_q25 d_q32 d_q22 d_q50 d_q9 d_q30 d_q7 d_q24 d_q23 d_q16 d_q0 d_q2 d_q20 d_q14 d_q51 d_q49 d_q8 d_q42 d_q18 d_q37 d_q41 d_q44 d_q28 d_q39 d_q46 d_q19 d_q43 d_q33 d_q34 d_q12 d_q31 d_q17 d_q6 d_q11 d_q15 d_q5 d_q4 d_q40 d_q3 d_q38 d_q36 d_q29 d_q35 d_q47 d_q48)
  (case a=>k_is);(case l=>k_is);(case c=>k_is)
  case d=>kernel_rfl
  case e=>kernel_rfl
