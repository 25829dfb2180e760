import PyProof.Rows.All
import Wide.All
import OpenK.AllK
import Wide.FinOn
import Lean
import PyProof.EqAt
import PyProof.EqKinds
import PyProof.TupleCall
import KE.KLam
import PyProof.NeKinds
import KE.KNestM
import PyProof.ReprRoads
import PyProof.ReprLen
import PyProof.CompUse
import PyProof.Conv_int_bool
import PyProof.WalkInts
import PyProof.Rows.Range3
import PyProof.Rows.SortWalk
import PyProof.Rows.SortShell
import PySem.Challenge.RW_primepapers_k52_numbers_fooled
set_option compiler.extract_closed false
set_option genSizeOfSpec false
set_option genSizeOf false
set_option Elab.async false
set_option linter.all false
set_option maxRecDepth 100000
set_option maxHeartbeats 8000000
noncomputable section
open PySem.W renaming Frag->γ,kitOne->ι,fnOf->AJ,mg_of->AW,nsIn->Ai,findIn->Al,keepIn->Am,codeIn->At,kla_fn->Au,envX->Av,boot_heap->BI,hideAll_none->Ba,WData->Bh,OpenLaw->Bp,CodeHd->C8,tabObj->C9,cellsFrom_some->CH,codeHdIn->CU,hideAll_size->Cd,kia_one->Cs,callWith_K->DC,methodObj->DO,specialIn->DQ,kitx_list->DR,looks_findIn->Df,instObj->Dl,kla_obj->Dn,lookIn->Dp,InstAt->Dq
open PySem renaming Value->δ,Addr->ε,Shared->η,wpAny_bind->θ,Program->ρ,wpAny->τ,wpAny_pure->υ,model->χ,sizeLine->ψ,Heap->ω,World->Γ,Expr->Δ,starEach->Θ,mainGlobals->A4,eval->A5,mem_of_lookup->A7,wpAny_mono->AB,FuncData->AC,Stmt->AD,Scope->Ac,call->Ag,wpAny_holding->Aj,wpAny_newObj_type->An,foldedSetIterable->Ao,compareOp->Aq,wpAny_truthy_bool->Ay,binaryOp->B0,backTo->B4,rawInt->B6,wpAny_Call_Name_kw->B8,wpAny_passesOwn->BA,attributeBase->BD,bootBuiltins->BJ,sizeLine_eq->BX,cLine->BY,bindName->Bc,behindInMarks->Bf,wpAny_field->Bj,sliceBounds->Bk,isTrue->Br,swapsWith->Bs,codeAny_mono->Bu,Arguments->Bv,TriplesOk->Bz,assignEach->C3,wpAny_bindName->C4,wpAny_call->C5,IsRangeIter->CD,wpAny_pyNext_range_end->CF,wpAny_pyIter_rangeiter->CG,assignInOrder->CJ,wpAny_standAt->CK,swapsWithSole->CL,swappedStores->CM,NameKind->CO,holding->CZ,codeAmong->Cc,wpAny_Name->Ce,wpAny_loadName_local->Cf,wpAny_execs_nil->Ch,assign->Ci,letOwnedTupleGo->Cj,IsPart->Cn,call_meets->Cq,closureFor->Cu,getAttrByItsOwn->Cw,wpAny_loadName_cell->D2,BindsTo->D5,codeAny->D6,callerA->D7,boundAndCalled->D8,withoutEnding?->D9,wpAny_pyIter_range->DB,typeOf->DD,Params->DE,sysModules->DS,builtinsNs->DT,PlainAttrs->DV,Keyword->DZ,leaving->Da,getItem->Db,boot_len->Dr
open PySem.Str renaming ofString->ζ,empty->Ca
open PySem.Heap renaming get?_push_of_some->μ,lt_size->ξ,get?_push_size->A9,get?_update_other->AT,get?_none_of_le->Ak,get?_update_self->Cb
open List renaming size_toArray->ν,length_map->Ω,getElem?_eq_some_iff->A0,mem_append_right->A2,replicate->A6,getElem?_eq_getElem->AH,mem_cons_self->AL,length_append->AM,mem_cons_of_mem->AQ,mem_of_getElem?->AR,mem_cons->AV,mem_map->Aa,getElem?_map->Ae,mem_append->Af,mem_filter->Ap,map_append->Aw,length_cons->B1,getElem?_set_self->B3,mem_singleton->B9,append_nil->BB,nodup_cons->BC,getElem?_set_ne->BG,lookup_cons->BL,all_eq_true->BM,cons_append->BO,replicate_succ->BP,all_cons->BR,length_singleton->BZ,mem_append_left->Bb,map_cons->Bg,nil_append->Bo,getElem?_zip_eq_some->Bq,mem_filterMap->Bt,range->C0,mem_range->C1,flatten_cons->CC,length_take->CQ,mem_reverse->CS,not_mem_nil->CY,of_mem_zip->Cm,length_set->Co,filterMap_cons->D1,set_cons_zero->DG,set_cons_succ->DH,set_comm->DJ,take_length->Dg
open Nat renaming le_refl->ο,lt_of_lt_of_le->Ψ,ne_of_lt->A3,le_trans->AN,lt_of_le_of_lt->AS,le_of_lt->AX,zero_le->AY,dvd_of_mod_eq_zero->Ad,le_add_right->BN,not_lt->Bd,lt_irrefl->Be,beq->Bl,mul_comm->Cr,mul_assoc->DN,le_of_eq->Dc
open Bool renaming false_ne_true->Λ,and_eq_true->Ξ,and_eq_true_iff->AK,true_and->BS,or_eq_true->BV,and_false->C7,and_true->CN,eq_iff_iff->Ck,false_and->D4
open PyProof.Rows renaming boot_isinstance->Φ,slot_tuple_getitem->AO,boot_repr->Ar,assignInOrder_cons->B5,callWith_type1->B7,envOfC->BU,AllBare->C2,IntsAre->C6,assignInOrder_nil->DP,boot_tuple->Dj,boot_max->Ds
open Int renaming emod_lt_of_pos->A8,emod_nonneg->AI,pow_succ->Ab,mul_le_mul_of_nonneg_right->Ah,natCast_mul->Ax,eq_ofNat_of_zero_le->CB,natCast_emod->CV,pow_zero->Cy,ediv_nonneg->Cz,le_refl->DA
open Option.some renaming inj->AA
open PySem.PassesOwn renaming never->AE
open PySem.W.WData renaming int->AF
open False renaming elim->AG
open Classical renaming byContradiction->AU,propDecidable->Di
open PySem.Builtin.Range renaming rangeSize->AZ,small->Bm,rangeFitsLong->DF
open PySem.Value renaming ref->As,none->B2,bool->BF,int->Dk,type->Du
open PySem.F renaming plainAttrs_list->Az,args_tuple_add_2->Bw,slot_list_append->By,entry_tuple_add->CA,slot_tuple_add->CI,type_list_append->Dh
open Array renaming getElem?_eq_some_iff->BE,length_toList->D3,mk->Dx
open PySem.Builtin.Slice renaming slicePlaces->BH,sliceAdjust->Bn,sliceApplied->DK
open PySem.Builtin.Tuple renaming tupleExact->BK,tupleItemsOf->DL
open Ne renaming symm->BQ
open PySem.PyData renaming shownAll->BW,depthAll->Cv
open PySem.NameKind renaming free->Bi,cell->DM
open PySem.Builtin.List renaming listTooLong->Bx
open PySem.SeqAt.EqAt renaming bool_bool->Cp
open ForInStep renaming yield->Ct
open PySem.Calls renaming Name_function_global->DI
open PySem.Obj renaming mapSeq->DU
open True renaming intro->DW
open Sum renaming inl->DX,inr->DY
open Option renaming bind_some->De
open PyProof.Rows.IsTup renaming new->Dm
open PySem.SeqAt renaming EqAt->Dw
local macro_rules | `('A')=>`(by decide)| `('B')=>`(by lia)| `('C')=>`(by simp)| `('D')=>`(by rfl)
section
open PySem
variable {s:Shared}{aa:List (Addr×Obj)}{pos py pos' px spos:Pos}{us its:List Value}{i j t':Nat}{b p C Pt fa fl:Addr}{e l iter:Expr}{Q:Value->Shared->Prop}{qual q y:Str}{hi m left d often square:Int}{pm doc oc cd cdv vl vu:Value}{o:Obj}{an od dx:Option Addr}{osl sl:Array (Option Value)}{kb:List Bool}{vs:Array Value}{loose:List Str}{B:Prop}{h' h1:Heap}{fp:List Addr}{XP:(Str->Option Value)->Heap->Prop}{YP:World->Heap->Prop}
namespace L2
open PySem PySem.Spec PyProof.Rows
theorem au0 (h : True := by first | exact .inl rfl | exact .inr rfl | assumption) : True := trivial
theorem au1 (h : True := by decide) : True := trivial
theorem au2 (h : True := by intro _;rfl) : True := trivial
theorem au3 (h : True := by rfl) : True := trivial
theorem au4 (h : True := by with_unfolding_all rfl) : True := trivial
theorem au5 (h : True := by first | exact Or.inl rfl | exact Or.inr (Or.inl rfl) | exact Or.inr (Or.inr rfl)) : True := trivial
noncomputable abbrev Key:=Sum Int Str
noncomputable def wR:Key->δ->Bool
 | .inl k,v=>Value.isInt k v
 | .inr x,v=>Value.isStrOf x v
noncomputable def zJ (w:Γ):Key->Int
 | .inl k=>hashInt k
 | .inr x=>hashStr w x
theorem bD:∀ {k:Key} {v:δ},wR k v=true->(∃i t,k=DX i/\v=Dk i t)\/(∃x t,k=DY x/\v=Value.str x t)
 | .inl i,v,h=>by obtain⟨t,e⟩:=Value.isInt_shape (k:=i) (v:=v) h;exact .inl ⟨i,t,rfl,e⟩
 | .inr x,v,h=>by obtain⟨t,e⟩:=Value.isStrOf_shape (x:=x) (v:=v) h;exact .inr ⟨x,t,rfl,e⟩
theorem x6 (a b:Int):decide ((DX a:Key)=DX b)=(a==b):=by
 by_cases e:a=b
 ·subst e;simp
 ·have h:¬ (DX a:Key)=DX b:=λq=>e (Sum.inl.inj q);rw[decide_eq_false h];exact(beq_eq_false_iff_ne.mpr e).symm
theorem x3 (a b:Str):decide ((DY a:Key)=DY b)=decide (a=b):=by
 by_cases e:a=b
 ·subst e;simp
 ·have h:¬ (DY a:Key)=DY b:=λq=>e (Sum.inr.inj q);rw[decide_eq_false h,decide_eq_false e]
theorem x5 (a:Int)(b:Str):decide ((DX a:Key)=DY b)=false:=decide_eq_false (λq=>nomatch q)
theorem x4 (a:Str)(b:Int):decide ((DY a:Key)=DX b)=false:=decide_eq_false (λq=>nomatch q)
noncomputable def kJ (prog:ρ)(w:Γ):PySem.KeyKind prog w Key where
 is:=wR
 hash:=zJ w
 inj:=λv a b ha hb=>by
  rcases bD ha with ⟨i,t,rfl,rfl⟩ | ⟨x,t,rfl,rfl⟩
  ·rcases bD hb with ⟨j,u,rfl,e⟩ | ⟨y,u,rfl,e⟩
   ·injection e with e1 _;rw[e1]
   ·exact nomatch e
  ·rcases bD hb with ⟨j,u,rfl,e⟩ | ⟨y,u,rfl,e⟩
   ·exact nomatch e
   ·injection e with e1 _;rw[e1]
 byValue:=λk v h=>by rcases bD h with ⟨i,t,rfl,rfl⟩ | ⟨x,t,rfl,rfl⟩ <;> rfl
 pyHash:=λhv h=>by
  rcases bD hv with ⟨i,t,rfl,rfl⟩ | ⟨x,t,rfl,rfl⟩
  ·exact wpAny_pyHash_int h
  ·exact wpAny_pyHash_str h
 eqBool:=λhu hv h=>by
  rcases bD hu with ⟨i,t,rfl,rfl⟩ | ⟨x,t,rfl,rfl⟩
  ·rcases bD hv with ⟨j,u,rfl,rfl⟩ | ⟨y,u,rfl,rfl⟩
   ·rw[x6] at h;exact wpAny_eqBool_int h
   ·rw[x5] at h;exact SeqAt.EqAt.int_str i t y u _ _ _ _ h
  ·rcases bD hv with ⟨j,u,rfl,rfl⟩ | ⟨y,u,rfl,rfl⟩
   ·rw[x4] at h;exact SeqAt.EqAt.str_int x t j u _ _ _ _ h
   ·rw[x3] at h;exact wpAny_eqBool_str h
 «strs»:=λk x t v h=>by
  rcases bD h with ⟨i,u,rfl,e⟩ | ⟨y,u,rfl,e⟩
  ·exact nomatch e
  ·injection e with e1 _
   subst e1;cases v <;> rfl
inductive V where
 | non | bl (b:Bool) | int (i:Int) | str (x:Str) | byt (b:Array UInt8) | flt (b:UInt64) | ref (a:ε) | ty (n:String)
 deriving DecidableEq
def RelV:V->δ->Prop
 | .non,u=>u=B2
 | .bl b,u=>u=BF b
 | .int i,u=>∃t,u=Dk i t
 | .str x,u=>∃t,u=Value.str x t
 | .byt b,u=>∃t,u=Value.bytes b t
 | .flt b,u=>∃t,u=Value.float b t
 | .ref a,u=>u=As a
 | .ty n,u=>u=Du n
noncomputable abbrev Vals:List V->List δ->Prop:=Paired RelV
theorem Vals.length {xs:List V}(r:Vals xs us):xs.length=us.length:=Paired.length r
theorem Vals.get:∀ {xs:List V} {us:List δ} {i:Nat} {x:V},Vals xs us->xs[i]? = some x->∃u,us[i]? = some u/\RelV x u
 | _,_,_,_,.nil,e=>by simp at e
 | _,_,0,_,.cons r _,e=>by simp at e;subst e;exact⟨_,rfl,r⟩
 | _,_,i+1,x,.cons _ t,e=>by obtain⟨u,h1,h2⟩:=Vals.get (i:=i) (x:=x) t (by simpa using e);exact⟨u,by simpa using h1,h2⟩
theorem Vals.set {x:V}{u:δ}(r:RelV x u):∀ {xs:List V} {us:List δ} (i:Nat),Vals xs us->Vals (xs.set i x) (us.set i u)
 | _,_,_,.nil=>.nil
 | _,_,0,.cons _ t=>.cons r t
 | _,_,i+1,.cons q t=>.cons q (Vals.set r i t)
theorem Vals.append:∀ {xs ys:List V} {us ws:List δ},Vals xs us->Vals ys ws->Vals (xs++ys) (us++ws)
 | _,_,_,_,.nil,s=>s
 | _,_,_,_,.cons r t,s=>.cons r (Vals.append t s)
theorem Vals.take:∀ {xs:List V} {us:List δ} (n:Nat),Vals xs us->Vals (xs.take n) (us.take n)
 | _,_,0,_=>.nil
 | _,_,_+1,.nil=>.nil
 | _,_,n+1,.cons r t=>.cons r (Vals.take n t)
theorem Vals.drop:∀ {xs:List V} {us:List δ} (n:Nat),Vals xs us->Vals (xs.drop n) (us.drop n)
 | _,_,0,r=>r
 | _,_,_+1,.nil=>.nil
 | _,_,n+1,.cons _ t=>Vals.drop n t
noncomputable def RelO:Option V->Option δ->Prop
 | some v,some u=>RelV v u
 | none,none=>True
 | _,_=>False
noncomputable def KV {κ:Type}:List (κ×V)->List (κ×δ)->Prop:=Paired λ(p:κ×V) (q:κ×δ)=>p.1=q.1/\RelV p.2 q.2
noncomputable def kV:Key->V
 | .inl i=>.int i
 | .inr x=>.str x
inductive HO where
 
 | lst (xs:List V)
 
 | tup (xs:List V)
 
 | dK (kvs:List (Key×V)) | dT (kvs:List (List Key×V))
 
 | set (S:Int->Bool) (n:Nat)
 
 | ins (C dx:ε) (fs:List (Str×V))
 
 | own (x:ε)
 
 | xd (fs:List (Str×V))
 
 | met (f x:ε)
 
 | rng (lo hi:Int)
 
 | frz (o:Obj) (u:HO)
 
 | tbl (ps:Array δ)
 
 | ext (φ:ω->Prop)
noncomputable abbrev Hp:=ε->Option HO
noncomputable def upd (H:Hp)(a:ε)(o:HO):Hp:=λb=>if b=a then some o else H b
theorem aD {H:Hp}{a:ε}{o:HO}:upd H a o a=some o:=by unfold upd;rw[if_pos rfl]
theorem aJ {H:Hp}{a:ε}{o:HO}(h:b≠a):upd H a o b=H b:=by unfold upd;rw[if_neg h]
theorem aM {H:Hp}{a:ε}{o:HO}(h:H a=some o)(h':H b=none):a≠b:=by intro e;subst e;rw[h] at h';cases h'
section
variable (P:ρ)(w:Γ)
def ObjOk (H:Hp)(h:ω)(a:ε):HO->Prop
 | .lst xs=>xs.length<=ψ/\∃(its:List δ) (n:Nat),Vals xs its/\h.get? a=some { cls:=.type "list",data:=.seq its.toArray n }
 | .tup xs=>xs.length<=ψ/\∃its:List δ,Vals xs its/\IsTup h a its.toArray
 | .dK kvs=>kvs.length<=ψ/\(a==DS)=false/\∃vs,KV kvs vs/\h.DictOf (kJ P w) a vs
 | .dT kvs=>kvs.length<=ψ/\(a==DS)=false/\∃xs:List (List Key×ε×δ),
   Paired (λ(p:List Key×V) (q:List Key×ε×δ)=>p.1=q.1/\H q.2.1=some (.tup (p.1.map kV))/\RelV p.2 q.2.2) kvs xs /\
   ∃o es ep,h.get? a=some o/\o.ExactDict/\o.data=.dict es ep/\es.toList=xs.map (entryOfKey (tupleKind (kJ P w)))/\(xs.map (·.1)).Nodup
 | .set S n=>h.SetOf (intKind P w) a S n
 | .ins C dx fs=>H dx=some (.own a)/\fs.length<=1000/\dx≠a/\h.get? a=some (Dl C dx) /\
   ∃mA,h.Ns1 dx mA/\(∀f,RelO (fs.lookup f) (mA f))/\PySem.Within mA (fs.map (·.1))
 | .own _=>∃o,h.get? a=some o
 | .xd fs=>∃mA,h.Ns1 a mA/\∀f,RelO (fs.lookup f) (mA f)
 | .rng lo hi=>∃t u v,h.get? a=some { cls:=.type "range",data:=.fields #[.int lo t,.int hi u,.int 1 v] }
 | .frz o u=>h.get? a=some o/\ObjOk H h a u
 | .tbl ps=>h.get? a=some { cls:=.none,data:=.fields ps }
 | .met f x=>h.get? a=some (DO (.ref f) (.ref x))
 | .ext φ=>φ h/\(∃o,h.get? a=some o)/\∀h1 h2:ω,φ h1->(∀o,h1.get? a=some o->h2.get? a=some o)->φ h2
def HOk (H:Hp)(h:ω):Prop:=∀a o,H a=some o->ObjOk P w H h a o
end
section
variable {P:ρ}{w:Γ}{H H':Hp}{h h':ω}{a:ε}{o:HO}
theorem ObjOk.lt (x:ObjOk P w H h a o):a<h.objs.size:=by
 cases o with
 | lst xs=>obtain⟨_,_,_,_,e⟩:=x;exact ξ e
 | tup xs=>obtain⟨_,_,_,p⟩:=x;exact p.lt
 | dK kvs=>obtain⟨_,_,_,_,o,_,_,e,_⟩:=x;exact ξ e
 | dT kvs=>obtain⟨_,_,_,_,o,_,_,e,_⟩:=x;exact ξ e
 | set S n=>obtain⟨o,_,_,_,e,_⟩:=x;exact ξ e
 | ins C dx fs=>obtain⟨_,_,_,e,_⟩:=x;exact ξ e
 | own y=>obtain⟨_,e⟩:=x;exact ξ e
 | xd fs=>obtain⟨_,⟨_,_,_,e,_⟩,_⟩:=x;exact ξ e
 | rng lo hi=>obtain⟨_,_,_,e⟩:=x;exact ξ e
 | frz ob u=>obtain⟨e,_⟩:=x;exact ξ e
 | tbl ps=>exact ξ (show h.get? a=some _ from x)
 | met f y=>exact ξ (show h.get? a=some _ from x)
 | ext φ=>obtain⟨_,⟨_,e⟩,_⟩:=x;exact ξ e
theorem Paired.mapP {α β:Type}{F G:α->β->Prop}:∀ {l₁:List α} {l₂:List β},Paired F l₁ l₂->(∀a b,F a b->G a b)->Paired G l₁ l₂
 | _,_,.nil,_=>.nil
 | _,_,.cons r t,f=>.cons (f _ _ r) (Paired.mapP t f)
theorem ObjOk.stay (x:ObjOk P w H h a o)(k:∀b u,(b=a\/H b=some (.own a))->h.get? b=some u->h'.get? b=some u)(ho:∀b,H b=some (.own a)->H' b=some (.own a))(ht:∀b xs,H b=some (.tup xs)->H' b=some (.tup xs)):ObjOk P w H' h' a o:=by
 induction o with
 | lst xs=>obtain⟨z,its,n,r,e⟩:=x;exact⟨z,its,n,r,k _ _ (.inl rfl) e⟩
 | tup xs=>obtain⟨z,its,r,ob,e,c⟩:=x;exact⟨z,its,r,ob,k _ _ (.inl rfl) e,c⟩
 | dK kvs=>obtain⟨z,y,vs,r,ob,es,ep,e,c⟩:=x;exact⟨z,y,vs,r,ob,es,ep,k _ _ (.inl rfl) e,c⟩
 | dT kvs =>
  obtain⟨z,y,xs,r,ob,es,ep,e,c⟩:=x;exact⟨z,y,xs,Paired.mapP r λp q z=>⟨z.1,ht _ _ z.2.1,z.2.2⟩,ob,es,ep,k _ _ (.inl rfl) e,c⟩
 | set S n=>obtain⟨ob,es,ep,t,e,c⟩:=x;exact⟨ob,es,ep,t,k _ _ (.inl rfl) e,c⟩
 | ins C dx fs =>
  obtain⟨d,z,ne,e,mA,⟨od,es,ep,e2,c⟩,r⟩:=x;exact⟨ho _ d,z,ne,k _ _ (.inl rfl) e,mA,⟨od,es,ep,k _ _ (.inr d) e2,c⟩,r⟩
 | own y=>obtain⟨ob,e⟩:=x;exact⟨ob,k _ _ (.inl rfl) e⟩
 | xd fs=>obtain⟨mA,⟨od,es,ep,e,c⟩,r⟩:=x;exact⟨mA,⟨od,es,ep,k _ _ (.inl rfl) e,c⟩,r⟩
 | rng lo hi=>obtain⟨t,u,v,e⟩:=x;exact⟨t,u,v,k _ _ (.inl rfl) e⟩
 | frz ob u ih=>obtain⟨e,q⟩:=x;exact⟨k _ _ (.inl rfl) e,ih q⟩
 | tbl ps =>
  have e:h.get? a=some { cls:=.none,data:=.fields ps }:=x;show h'.get? a=some { cls:=.none,data:=.fields ps };exact k a _ (.inl rfl) e
 | met f y =>
  have e:h.get? a=some (DO (.ref f) (.ref y)):=x;show h'.get? a=some (DO (.ref f) (.ref y));exact k a _ (.inl rfl) e
 | ext φ=>obtain⟨p,⟨o,e⟩,st⟩:=x;exact⟨st _ _ p λo q=>k _ _ (.inl rfl) q,⟨o,k _ _ (.inl rfl) e⟩,st⟩
theorem HOk.lt (x:HOk P w H h)(e:H a=some o):a<h.objs.size:=(x a o e).lt
theorem HOk.fresh (x:HOk P w H h)(e:h.objs.size<=a):H a=none:=by
 cases q:H a with
 | none=>rfl
 | some u=>exact absurd (Ψ (x.lt q) e) (Be _)
theorem HOk.kept (x:HOk P w H h)(k:∀b u,h.get? b=some u->h'.get? b=some u):HOk P w H h':=λa o e =>
 (x a o e).stay (λb u _ q=>k b u q) (λ_ q=>q) λ_ _ q=>q
theorem HOk.laid (x:HOk P w H h)(k:∀b u,h.get? b=some u->h'.get? b=some u)(hp:h.objs.size<=a)(new:ObjOk P w (upd H a o) h' a o):HOk P w (upd H a o) h':=λb u e=>by
 have hn:=x.fresh hp;by_cases hb:b=a
 ·subst hb;rw[aD] at e;cases e;exact new
 ·rw[aJ hb] at e;exact(x b u e).stay (λc v _ q=>k c v q) (λc q=>by rw[aJ (aM q hn)];exact q) λc xs q=>by rw[aJ (aM q hn)];exact q
end
def Rd (H:Hp)(a:ε)(u:HO):Prop:=H a=some u\/∃o,H a=some (.frz o u)
theorem Rd.ok {P:ρ}{w:Γ}{H:Hp}{h:ω}{a:ε}{u:HO}(r:Rd H a u)(x:HOk P w H h):ObjOk P w H h a u:=by
 rcases r with r | ⟨o,r⟩
 ·exact x a u r
 ·obtain⟨_,q⟩:=x a _ r;exact q
noncomputable def Mut:Option HO->Prop
 | some (.lst _)=>True
 | some (.dK _)=>True
 | some (.dT _)=>True
 | some (.set _ _)=>True
 | some (.ins _ _ _)=>True
 | some (.ext _)=>True
 | _=>False
section
variable {P:ρ}{w:Γ}{H:Hp}{h h':ω}{x e:ε}{o':HO}
theorem HOk.write (ok:HOk P w H h)(mu:Mut (H x))(he:e=x\/H e=some (.own x))(k:∀b u,b≠e->h.get? b=some u->h'.get? b=some u)(heo:∃u,h'.get? e=some u)(new:ObjOk P w (upd H x o') h' x o'):HOk P w (upd H x o') h':=λb u q=>by
 have nown:∀c y,H c=some (.own y)->c≠x:=λc y r z=>by subst z;rw[r] at mu;exact mu
 have ntup:∀c xs,H c=some (.tup xs)->c≠x:=λc xs r z=>by subst z;rw[r] at mu;exact mu
 by_cases hb:b=x
 ·subst hb;rw[aD] at q;cases q;exact new
 ·rw[aJ hb] at q;by_cases hbe:b=e
  ·have q':H b=some (.own x):=by
    rcases he with z | z
    ·exact absurd (hbe.trans z) hb
    ·rw[hbe];exact z
   rw[q] at q';cases q';obtain⟨v,hv⟩:=heo;exact⟨v,by rw[hbe];exact hv⟩
  ·refine(ok b u q).stay (λc v hc r=>k c v ?_ r) (λc r=>by rw[aJ (nown c b r)];exact r) λc xs r=>by rw[aJ (ntup c xs r)];exact r
   rcases hc with rfl | hc
   ·exact hbe
   ·rintro rfl
    rcases he with z | z
    ·exact nown c b hc z
    ·rw[hc] at z;cases z;exact hb rfl
end
structure Un (fs ex:List ε)(H H':Hp)(h h':ω):Prop where
 keep:∀b o,h.get? b=some o->H b=none->b ∉ fs->b ∉ ex->h'.get? b=some o
 slot:∀b o,h.get? b=some o->H b=none->b∈fs->b ∉ ex->∃sl,h'.get? b=some { o with slots:=sl }
 free:∀b o,h.get? b=some o->H b=none->b ∉ ex->H' b=none
 there:∀b o,h.get? b=some o->b ∉ ex->∃o',h'.get? b=some o'
 tups:∀b xs,H b=some (.tup xs)->H' b=some (.tup xs)
 frzs:∀b o u,H b=some (.frz o u)->H' b=some (.frz o u)
 tbls:∀b ps,H b=some (.tbl ps)->∃more,H' b=some (.tbl (ps++more))
section
variable {fs fs' ex ex':List ε}{H H1 H2:Hp}{h h1 h2 h':ω}{a x e:ε}{o:HO}
theorem Un.any (u:Un fs ex H H1 h h1){ob:Obj}(q:h.get? b=some ob)(n:H b=none)(hx:b ∉ ex):∃sl,h1.get? b=some { ob with slots:=sl }:=by
 by_cases hb:b∈fs
 ·exact u.slot b ob q n hb hx
 ·exact⟨ob.slots,u.keep b ob q n hb hx⟩
theorem Un.kept (k:∀b u,h.get? b=some u->h'.get? b=some u):Un fs ex H H h h' :=
 ⟨λb ob q _ _ _=>k b ob q,λb ob q _ _ _=>⟨ob.slots,k b ob q⟩,λ_ _ _ n _=>n,λb ob q _=>⟨ob,k b ob q⟩,λ_ _ q=>q,λ_ _ _ q=>q,λ_ ps q=>⟨#[],by rw[q];simp⟩⟩
theorem Un.refl:Un fs ex H H h h:=Un.kept λ_ _ q=>q
theorem Un.laid (k:∀b u,h.get? b=some u->h'.get? b=some u)(hp:h.objs.size<=a)(hn:H a=none):Un fs ex H (upd H a o) h h' where
 keep:=λb u q _ _ _=>k b u q
 slot:=λb u q _ _ _=>⟨u.slots,k b u q⟩
 free:=λb u q n _=>by rw[aJ (A3 (Ψ (ξ q) hp))];exact n
 there:=λb u q _=>⟨u,k b u q⟩
 tups:=λb xs q=>by rw[aJ (aM q hn)];exact q
 frzs:=λb u xs q=>by rw[aJ (aM q hn)];exact q
 tbls:=λb ps q=>⟨#[],by rw[aJ (aM q hn),q];simp⟩
theorem Un.write (mu:Mut (H x))(he:e=x\/H e=some (.own x))(k:∀b u,b≠e->h.get? b=some u->h'.get? b=some u)(heo:∃u,h'.get? e=some u):Un fs ex H (upd H x o) h h':=by
 have hx:∀b,H b=none->b≠x:=λb n z=>by subst z;rw[n] at mu;exact mu
 have hb:∀b,H b=none->b≠e:=λb n z=>by
  subst z;rcases he with r | r
  ·exact hx b n r
  ·rw[n] at r;cases r
 have hm:∀b u,H b=some u->¬ Mut (some u)->b≠x:=λb u q nm z=>by subst z;rw[q] at mu;exact nm mu
 refine⟨λb u q n _ _=>k b u (hb b n) q,λb u q n _ _=>⟨u.slots,k b u (hb b n) q⟩,λb u q n _=>by rw[aJ (hx b n)];exact n,λb u q _=>?_,
  λb xs q=>by rw[aJ (hm b _ q λz=>z)];exact q,λb u xs q=>by rw[aJ (hm b _ q λz=>z)];exact q,λb ps q=>⟨#[],by rw[aJ (hm b _ q λz=>z),q];simp⟩⟩
 by_cases hbe:b=e
 ·subst hbe;exact heo
 ·exact⟨u,k b u hbe q⟩
end
noncomputable def trk (h:ω)(H:Hp):List ε:=(C0 h.objs.size).filter λa=>(H a).isSome
noncomputable def iI (h:ω)(H:Hp):ω:=PySem.W.hideAll h (trk h H)
theorem qS (h:ω)(H:Hp):(iI h H).objs.size=h.objs.size:=Cd _ _
theorem tQ {h:ω}{H:Hp}(e:h.get? b=some o)(n:H b=none):(iI h H).get? b=some o :=
 PySem.W.hideAll_get _ e λhm=>by have q:(H b).isSome=true:=(Ap.mp hm).2;rw[n] at q;simp at q
theorem u0 {h:ω}{H:Hp}(e:(iI h H).get? b=some o):h.get? b=some o/\H b=none:=by
 have e':h.get? b=some o:=PySem.W.of_hideAll (trk h H) e;refine⟨e',?_⟩;cases q:H b with
 | none=>rfl
 | some x =>
  have hm:b∈trk h H:=Ap.mpr ⟨C1.mpr (ξ e'),by simp[q]⟩;have z:(iI h H).get? b=none:=Ba (trk h H) hm;rw[z] at e;cases e
noncomputable def vZ (g h:ω)(L:ε):List (ε×Obj):=(C0 h.objs.size).filterMap λa=>if a=L\/(g.get? a).isSome=true then none else (h.get? a).map λo=>(a,o)
noncomputable def rest (g h:ω)(L d:ε):List (ε×Obj):=(vZ g h L).filter λp=>decide (p.1≠d)
structure Mod (K:γ)(mg:Str->Option δ)(ad:ω):Prop where
 kin:K.In ad
 glob:ad.Ns A4 mg
 blt:∃mb,ad.Ns DT mb/\∀x:Str,x ≠ "__name__" -> mb x=BJ x
 nolimit:ad.NoLimit
structure Cx where
 prog:ρ
 w:Γ
 K:γ
 mg:Str->Option δ
 ad:ω
 A:Around
 N:List Str
 s₀:η
 H₀:Hp
 env:Env
 ae:List Env
 stack:List Env
 ex:List ε
 fn:Str->Bool
 calm:Bool
 pn:List (ε×Obj)
 xe:δ->η->Prop
noncomputable def frs (l:List Env):List ε:=l.filterMap (·.frame)
noncomputable abbrev Cx.fs (X:Cx):List ε:=frs X.ae
def Vis (sc:Ac)(x:Str):Prop:=sc.names.lookup x=some .local\/sc.names.lookup x=some .cell\/sc.names.lookup x=some .free
def Loc (sc:Ac)(x:Str):Prop:=sc.names.lookup x=some .local\/sc.names.lookup x=some .cell
def Look (env:Env)(h:ω)(m:Str->Option δ)(x:Str)(u:δ):Prop :=
 (env.kindOf x=some .local/\m x=some u)\/((env.kindOf x=some .cell\/env.kindOf x=some .free)/\∃c,env.cells.lookup x=some c/\h.IsCell c (some u))
structure Cx.Ok (X:Cx):Prop where
 mod:Mod X.K X.mg X.ad
 kind:X.env.scope.kind=.function
 glob:X.env.globals=A4
 blt:X.env.builtins=DT
 above:X.s₀.heap.objs.size<=X.env.locals
 inj:∀x y c,X.env.cells.lookup x=some c->X.env.cells.lookup y=some c->x=y
 has:∀x,(X.env.kindOf x=some .cell\/X.env.kindOf x=some .free)->∃c,X.env.cells.lookup x=some c
 cab:∀x c,X.fn x=true->X.env.cells.lookup x=some c->X.s₀.heap.objs.size<=c
 hd:X.calm=true->X.A.handled=none
 frames:X.A.frames=some X.stack
 stk:X.stack=X.ae\/(X.stack=X.env::X.ae/\X.env.frame=some X.env.locals)
 exf:∀b∈X.ex,b≠X.env.locals/\∀x c,X.env.cells.lookup x=some c->c≠b
 bs:∀b o,X.ad.get? b=some o->X.s₀.heap.get? b=some o/\X.H₀ b=none
 bsz:X.ad.objs.size<=X.s₀.heap.objs.size
 noex:∀b o,X.ad.get? b=some o->b ∉ X.ex
 exfs:∀b∈X.ex,b ∉ X.fs
 funs:X.s₀.heap.FunFrames X.ad X.ae
 frf:∀b∈X.fs,X.H₀ b=none
structure Inv (X:Cx)(aa:List (ε×Obj))(σ:List (Option V))(H:Hp)(s:η):Prop where
 ok:X.Ok
 os:s.os=X.s₀.os
 bare:C2 s.gens
 ad:Un X.fs X.ex X.H₀ H X.s₀.heap s.heap
 loc:∃m,s.heap.Ns X.env.locals m/\∀(i:Nat) (x:Str) (v:V),X.N[i]? = some x->σ[i]? = some (some v)->Vis X.env.scope x->∃u,RelV v u/\Look X.env s.heap m x u
 cell:∀x c,X.env.cells.lookup x=some c->∃v,s.heap.IsCell c v
 free:H X.env.locals=none
 freeC:∀x c,X.env.cells.lookup x=some c->H c=none
 pin:∀p∈X.pn++aa,s.heap.get? p.1=some p.2/\H p.1=none/\p.1≠X.env.locals/\p.1 ∉ X.fs/\∀v,p.2.data ≠ .cell v
 hok:HOk X.prog X.w H s.heap
 len:σ.length=X.N.length
section
variable {X:Cx}{aa:List (ε×Obj)}{σ:List (Option V)}{H H':Hp}{s:η}{h':ω}
theorem Cx.Ok.nofr (ok:X.Ok)(e:X.ad.get? b=some o):b ∉ X.fs:=λhb=>by have:=(ok.funs.mem hb).1;rw[e] at this;cases this
theorem Inv.bs (I:Inv X aa σ H s):∀b o,X.ad.get? b=some o->s.heap.get? b=some o/\H b=none:=λb o e =>
 ⟨I.ad.keep b o (I.ok.bs b o e).1 (I.ok.bs b o e).2 (I.ok.nofr e) (I.ok.noex b o e),I.ad.free b o (I.ok.bs b o e).1 (I.ok.bs b o e).2 (I.ok.noex b o e)⟩
theorem Inv.bk (I:Inv X aa σ H s):∀b o,X.ad.get? b=some o->s.heap.get? b=some o:=λb o e=>(I.bs b o e).1
theorem Inv.mod (I:Inv X aa σ H s):Mod X.K X.mg X.ad:=I.ok.mod
theorem Inv.kIn (I:Inv X aa σ H s):X.K.In s.heap:=I.ok.mod.kin.keeps I.bk
theorem Inv.lt (I:Inv X aa σ H s):X.env.locals<s.heap.objs.size:=let ⟨_,hn,_⟩:=I.loc;hn.lt
theorem Inv.sz (I:Inv X aa σ H s):X.s₀.heap.objs.size<=s.heap.objs.size:=AN I.ok.above (AX I.lt)
theorem Inv.nofs (I:Inv X aa σ H s){a:ε}(h:s.heap.objs.size<=a):a ∉ X.fs:=λhb=>by obtain⟨_,o,ho,_⟩:=I.ok.funs.mem hb;exact absurd (Ψ (ξ ho) (AN I.sz h)) (Be _)
theorem Inv.cne (I:Inv X aa σ H s):∀x c,X.env.cells.lookup x=some c->c≠X.env.locals:=λx c e z=>by obtain⟨v,o,ho,hd⟩:=I.cell x c e;obtain⟨m,⟨o',es,ep,ho',hd',_⟩,_⟩:=I.loc;rw[z,ho'] at ho;cases ho;rw[hd'] at hd;cases hd
theorem Inv.funs (I:Inv X aa σ H s):s.heap.FunFrames X.ad X.ae:=by
 have all:∀(l:List Env),(∀b∈frs l,b∈X.fs)->X.s₀.heap.FunFrames X.ad l->s.heap.FunFrames X.ad l:=by
  intro l
  induction l with
  | nil=>intro _ _;trivial
  | cons env r ih =>
   intro hs hl;obtain⟨hk,⟨L,o,hf,hn,ho,hd⟩,hr⟩:=hl;have hL:L∈X.fs:=hs L (by unfold frs;rw[D1,hf];exact AL);obtain⟨sl,e⟩:=I.ad.slot L o ho (I.ok.frf L hL) hL λz=>I.ok.exfs L z hL;exact⟨hk,⟨L,_,hf,hn,e,hd⟩,ih (λb hb=>hs b (by unfold frs;rw[D1,hf];exact AQ _ hb)) hr⟩
 exact all X.ae (λ_ hb=>hb) I.ok.funs
theorem Inv.stack (I:Inv X aa σ H s):s.heap.FunFrames X.ad X.stack:=by
 rcases I.ok.stk with e | ⟨e,hf⟩
 ·rw[e];exact I.funs
 ·rw[e];obtain⟨m,hn,_⟩:=I.loc;refine .cons (by rw[I.ok.kind];decide) hf hn ?_ I.funs;exact Ak (AN I.ok.bsz I.ok.above)
theorem Inv.stkSub (I:Inv X aa σ H s):∀b∈frs X.stack,b∈X.env.locals::X.fs:=λb hb=>by
 rcases I.ok.stk with e | ⟨e,hf⟩
 ·rw[e] at hb;exact AQ _ hb
 ·rw[e] at hb;unfold frs at hb;rw[D1,hf] at hb;exact hb
theorem Inv.stkFree (I:Inv X aa σ H s):∀b∈frs X.stack,H b=none:=λb hb=>by
 rcases AV.mp (I.stkSub b hb) with e | hb
 ·rw[e];exact I.free
 ·obtain⟨_,o,ho,_⟩:=I.ok.funs.mem hb;exact I.ad.free b o ho (I.ok.frf b hb) λz=>I.ok.exfs b z hb
theorem Inv.step {g':Array GenState}{d':Drawn}{ch:List ε}(I:Inv X aa σ H s)(hch:∀b∈ch,(b∈X.ex\/X.s₀.heap.objs.size<=b)/\b≠X.env.locals/\(∀x c,X.env.cells.lookup x=some c->c≠b)/\∀p∈X.pn++aa,p.1≠b)(keep:∀b o,b≠X.env.locals->b ∉ X.fs->b ∉ ch->s.heap.get? b=some o->H b=none->h'.get? b=some o)(slot:∀b o,b≠X.env.locals->b∈X.fs->b ∉ ch->s.heap.get? b=some o->H b=none->∃sl,h'.get? b=some { o with slots:=sl })(free:∀b o,b ∉ ch->s.heap.get? b=some o->H b=none->H' b=none)(there:∀b o,b ∉ ch->s.heap.get? b=some o->∃o',h'.get? b=some o')(tups:∀b xs,H b=some (.tup xs)->H' b=some (.tup xs))(frzs:∀b o u,H b=some (.frz o u)->H' b=some (.frz o u))(tbls:∀b ps,H b=some (.tbl ps)->∃more,H' b=some (.tbl (ps++more)))(ns:∀m,s.heap.Ns X.env.locals m->h'.Ns X.env.locals m)(hok:HOk X.prog X.w H' h')(hg:C2 g') :
  Inv X aa σ H' { s with heap:=h',gens:=g',drawn:=d',toks:=t' }:=by
 have neL:∀b o,X.s₀.heap.get? b=some o->b≠X.env.locals:=λb o e=>A3 (Ψ (ξ e) I.ok.above);have neC:∀b o,X.s₀.heap.get? b=some o->b ∉ X.ex->b ∉ ch:=λb o e hx hb=>by
  rcases (hch b hb).1 with z | z
  ·exact hx z
  ·exact absurd (Ψ (ξ e) z) (Be _)
 have cellK:∀x c,X.env.cells.lookup x=some c->∀v,s.heap.IsCell c v->h'.IsCell c v:=λx c e v ⟨o,ho,hd⟩=>by
  have nch:c ∉ ch:=λz=>(hch c z).2.2.1 x c e rfl;by_cases hc:c∈X.fs
  ·obtain⟨sl,q⟩:=slot c o (I.cne x c e) hc nch ho (I.freeC x c e);exact⟨_,q,hd⟩
  ·exact⟨o,keep c o (I.cne x c e) hc nch ho (I.freeC x c e),hd⟩
 refine⟨I.ok,I.os,hg,⟨λb o e n hb hx=>?_,λb o e n hb hx=>?_,λb o e n hx=>?_,λb o e hx=>?_,λb xs e=>tups b xs (I.ad.tups b xs e),λb o xs e=>frzs b o xs (I.ad.frzs b o xs e),λb ps e=>?_⟩,?_,λx c e=>?_,?_,λx c e=>?_,λp hp=>?_,hok,I.len⟩
 ·exact keep b o (neL b o e) hb (neC b o e hx) (I.ad.keep b o e n hb hx) (I.ad.free b o e n hx)
 ·obtain⟨sl,e1⟩:=I.ad.slot b o e n hb hx;obtain⟨sl',e2⟩:=slot b _ (neL b o e) hb (neC b o e hx) e1 (I.ad.free b o e n hx);exact⟨sl',e2⟩
 ·obtain⟨o',e1⟩:=I.ad.there b o e hx;exact free b o' (neC b o e hx) e1 (I.ad.free b o e n hx)
 ·obtain⟨o',e1⟩:=I.ad.there b o e hx;exact there b o' (neC b o e hx) e1
 ·obtain⟨m1,e1⟩:=I.ad.tbls b ps e;obtain⟨m2,e2⟩:=tbls b _ e1;exact⟨m1++m2,by rw[e2,Array.append_assoc]⟩
 ·obtain⟨m,hn,hl⟩:=I.loc;refine⟨m,ns m hn,λi x v e1 e2 e3=>?_⟩;obtain⟨u,r,l⟩:=hl i x v e1 e2 e3;refine⟨u,r,?_⟩;rcases l with l | ⟨k,c,e,z⟩
  ·exact .inl l
  ·exact .inr ⟨k,c,e,cellK x c e _ z⟩
 ·obtain⟨v,z⟩:=I.cell x c e;exact⟨v,cellK x c e v z⟩
 ·obtain⟨m,⟨o,_,_,ho,_⟩,_⟩:=I.loc;exact free _ o (λz=>(hch _ z).2.1 rfl) ho I.free
 ·obtain⟨v,o,ho,hd⟩:=I.cell x c e;exact free c o (λz=>(hch c z).2.2.1 x c e rfl) ho (I.freeC x c e)
 ·obtain⟨e,n,ne,nf,d⟩:=I.pin p hp;have nch:p.1 ∉ ch:=λz=>(hch p.1 z).2.2.2 p hp rfl;exact⟨keep p.1 p.2 ne nf nch e n,free p.1 p.2 nch e n,ne,nf,d⟩
theorem Inv.un (I:Inv X aa σ H s)(u:Un X.fs [] H H' s.heap h')(hok:HOk X.prog X.w H' h'):Inv X aa σ H' { s with heap:=h',toks:=t' }:=by
 obtain⟨m,⟨o,es,ep,ho,r⟩,_⟩:=id I.loc;obtain⟨sl,hL⟩:=u.any ho I.free 'C';exact I.step (g':=s.gens) (d':=s.drawn) (ch:=[]) (λ_ z=>nomatch z) (λb o _ hb _ e n=>u.keep b o e n hb 'C') (λb o _ hb _ e n=>u.slot b o e n hb 'C') (λb o _ e n=>u.free b o e n 'C') (λb o _ e=>u.there b o e 'C') u.tups u.frzs u.tbls (λm' hm=>by
  obtain⟨o',es',ep',ho',r'⟩:=hm;rw[ho] at ho';cases ho';exact⟨_,es',ep',hL,r'⟩) hok I.bare
theorem Inv.call {g':Array GenState}{d':Drawn}{ch:List ε}(I:Inv X aa σ H s)(u:Un (frs X.stack) ch H H' s.heap h')(hok:HOk X.prog X.w H' h')(hg:C2 g')(hch:∀b∈ch,(b∈X.ex\/X.s₀.heap.objs.size<=b)/\b≠X.env.locals/\(∀x c,X.env.cells.lookup x=some c->c≠b)/\∀p∈X.pn++aa,p.1≠b) :
  Inv X aa σ H' { s with heap:=h',gens:=g',drawn:=d',toks:=t' }:=by
 obtain⟨m,⟨o,es,ep,ho,r⟩,_⟩:=id I.loc;obtain⟨sl,hL⟩:=u.any ho I.free λz=>(hch _ z).2.1 rfl;exact I.step (ch:=ch) hch (λb o hL hb hc e n=>u.keep b o e n (λz=>(AV.mp (I.stkSub b z)).elim hL hb) hc) (λb o _ _ hc e n=>u.any e n hc) (λb o hc e n=>u.free b o e n hc) (λb o hc e=>u.there b o e hc) u.tups u.frzs u.tbls (λm' hm=>by
  obtain⟨o',es',ep',ho',r'⟩:=hm;rw[ho] at ho';cases ho';exact⟨_,es',ep',hL,r'⟩) hok hg
theorem Inv.turned {it:ε}(I:Inv X aa σ H s)(k:∀b o,b≠it->s.heap.get? b=some o->h'.get? b=some o)(hn:H it=none)(hL:it≠X.env.locals)(h1:it∈X.ex\/X.s₀.heap.objs.size<=it)(h2:∀x c,X.env.cells.lookup x=some c->c≠it)(h3:∀p∈X.pn++aa,p.1≠it):Inv X aa σ H { s with heap:=h',toks:=t' }:=by
 have nit:∀b u,H b=some u->b≠it:=λb u e z=>by rw[z,hn] at e;cases e
 refine I.step (g':=s.gens) (d':=s.drawn) (ch:=[it]) (λb hb=>?_) (λb o _ _ hc e _=>k b o (λz=>hc (by simp[z])) e) (λb o _ _ hc e _=>⟨o.slots,k b o (λz=>hc (by simp[z])) e⟩) (λ_ _ _ _ n=>n)
  (λb o hc e=>⟨o,k b o (λz=>hc (by simp[z])) e⟩) (λ_ _ e=>e) (λ_ _ _ e=>e) (λb ps e=>⟨#[],by rw[e];simp⟩) (λm hm=>?_) (λb u e=>?_) I.bare
 ·have e:b=it:=by simpa using hb
  subst e;exact⟨h1,hL,h2,h3⟩
 ·obtain⟨o,es,ep,ho,r⟩:=hm;exact⟨o,es,ep,k _ o (BQ hL) ho,r⟩
 ·refine(I.hok b u e).stay (λc v hc q=>k c v ?_ q) (λ_ q=>q) λ_ _ q=>q;rcases hc with z | z
  ·rw[z];exact nit b u e
  ·exact nit c _ z
theorem Inv.tok (I:Inv X aa σ H s)(t:Nat):Inv X aa σ H { s with toks:=t }:=I.un (h':=s.heap) (t':=t) Un.refl I.hok
theorem Inv.kept (I:Inv X aa σ H s)(k:∀b u,s.heap.get? b=some u->h'.get? b=some u):Inv X aa σ H { s with heap:=h',toks:=t' }:=I.un (Un.kept k) (I.hok.kept k)
theorem Inv.laid {a:ε}{o:HO}(I:Inv X aa σ H s)(k:∀b u,s.heap.get? b=some u->h'.get? b=some u)(hp:s.heap.objs.size<=a)(new:ObjOk X.prog X.w (upd H a o) h' a o) :
  Inv X aa σ (upd H a o) { s with heap:=h',toks:=t' }:=I.un (Un.laid k hp (I.hok.fresh hp)) (I.hok.laid k hp new)
theorem Inv.write {x e:ε}{o:HO}(I:Inv X aa σ H s)(mu:Mut (H x))(he:e=x\/H e=some (.own x))(k:∀b u,b≠e->s.heap.get? b=some u->h'.get? b=some u)(heo:∃u,h'.get? e=some u)(new:ObjOk X.prog X.w (upd H x o) h' x o):Inv X aa σ (upd H x o) { s with heap:=h',toks:=t' }:=I.un (Un.write mu he k heo) (I.hok.write mu he k heo new)
theorem Inv.pins_of {aa':List (ε×Obj)}(I:Inv X aa σ H s)(h:∀p∈aa',s.heap.get? p.1=some p.2/\H p.1=none/\p.1≠X.env.locals/\p.1 ∉ X.fs/\∀v,p.2.data ≠ .cell v):Inv X aa' σ H s :=
 ⟨I.ok,I.os,I.bare,I.ad,I.loc,I.cell,I.free,I.freeC,λp hp=>(Af.mp hp).elim (λz=>I.pin p (Bb _ z)) (h p),I.hok,I.len⟩
theorem dW {N:List Str}(hN:N.Nodup){x:Str}(a:N[i]? = some x)(b:N[j]? = some x):i=j:=by obtain⟨h1,e1⟩:=A0.mp a;obtain⟨h2,e2⟩:=A0.mp b;exact(List.getElem_inj hN).mp (e1.trans e2.symm)
theorem iW {M:Model}{A:Around}{E:δ->η->Prop}{x:Str}{v:V}{u:δ}{Q:Unit->η->Prop}(I:Inv X aa σ H s)(hN:X.N.Nodup)(hi:X.N[i]? = some x)(hx:Loc X.env.scope x)(r:RelV v u)(h:∀s',Inv X aa (σ.set i (some v)) H s'->(∃a,Heap.SameBut a s.heap s'.heap/\(a=X.env.locals\/X.env.cells.lookup x=some a))->Q () s')(hf:autoParam (X.fn x=true\/X.env.scope.names.lookup x=some .local) L2.au0._auto_1):τ M A (storeName X.env x u) Q E s:=by
 obtain⟨m,hn,hl⟩:=id I.loc;have hcls:(X.env.scope.kind == .class||(X.env.scope.kind == .module&&X.env.locals != X.env.globals))=false:=by rw[I.ok.kind];rfl
 have hiσ:i<σ.length:=by rw[I.len];exact(A0.mp hi).1
 have cne:=I.cne;have tracked:∀ {a:ε} {h':ω},(∃o,s.heap.get? a=some o/\H a=none)->Heap.SameBut a s.heap h'->HOk X.prog X.w H h':=λ{a h'} ha hs b ob e=>by
  obtain⟨_,_,hfree⟩:=ha;refine(I.hok b ob e).stay (λc w' hc q=>(hs.2 c ?_).trans q) (λ_ q=>q) λ_ _ q=>q
  rintro rfl
  rcases hc with rfl | hc
  ·rw[hfree] at e;cases e
  ·rw[hfree] at hc;cases hc
 rcases hx with hk | hk
 ·refine wpAny_storeName_local hk hn (λh' hn' hs=>?_) hcls;obtain⟨oL,_,_,hoL,_⟩:=id hn;refine h _ ⟨I.ok,I.os,I.bare,⟨λb o e n hb hx=>?_,λb o e n hb hx=>?_,I.ad.free,λb o e hx=>?_,I.ad.tups,I.ad.frzs,I.ad.tbls⟩,⟨_,hn',λj y v' e1 e2 e3=>?_⟩,λy c e=>?_,I.free,I.freeC,λp hp=>?_,tracked ⟨oL,hoL,I.free⟩ hs,by simpa using I.len⟩ ⟨_,hs,.inl rfl⟩
  ·exact(hs.2 b (A3 (Ψ (ξ e) I.ok.above))).trans (I.ad.keep b o e n hb hx)
  ·obtain⟨sl,e1⟩:=I.ad.slot b o e n hb hx;exact⟨sl,(hs.2 b (A3 (Ψ (ξ e) I.ok.above))).trans e1⟩
  ·obtain⟨o',e1⟩:=I.ad.there b o e hx;exact⟨o',(hs.2 b (A3 (Ψ (ξ e) I.ok.above))).trans e1⟩
  ·by_cases hj:j=i
   ·subst hj;rw[hi] at e1;cases e1;rw[B3 hiσ] at e2;cases e2;exact⟨u,r,.inl ⟨hk,by simp⟩⟩
   ·rw[BG (BQ hj)] at e2;obtain⟨u',r',q⟩:=hl j y v' e1 e2 e3;refine⟨u',r',?_⟩;rcases q with ⟨k,e⟩ | ⟨k,c,e,z⟩
    ·refine .inl ⟨k,?_⟩;have:y≠x:=λe=>hj (dW hN e1 (e ▸ hi));simp[this,e]
    ·exact .inr ⟨k,c,e,z.sameBut hs (cne y c e)⟩
  ·obtain⟨w',z⟩:=I.cell y c e;exact⟨w',z.sameBut hs (cne y c e)⟩
  ·obtain⟨e,n,ne,nf,d⟩:=I.pin p hp;exact⟨(hs.2 p.1 ne).trans e,n,ne,nf,d⟩
 ·have hfn:X.fn x=true:=by
   rcases hf with z | z
   ·exact z
   ·rw[z] at hk;cases hk
  obtain⟨c,hc⟩:=I.ok.has x (.inl hk);obtain⟨w',z⟩:=I.cell x c hc;refine wpAny_storeName_cell I.ok.kind hk hc z (λh' hc' hs=>?_);obtain⟨oc,hoc,hocd⟩:=id z;refine h { s with heap:=h' } ⟨I.ok,I.os,I.bare,⟨λb o e n hb hx=>?_,λb o e n hb hx=>?_,I.ad.free,λb o e hx=>?_,I.ad.tups,I.ad.frzs,I.ad.tbls⟩,⟨m,hn.sameBut hs (BQ (cne x c hc)),λj y v' e1 e2 e3=>?_⟩,λy c' e=>?_,I.free,I.freeC,λp hp=>?_,tracked ⟨oc,hoc,I.freeC x c hc⟩ hs,by simpa using I.len⟩ ⟨c,hs,.inr hc⟩
  ·exact(hs.2 b (A3 (Ψ (ξ e) (I.ok.cab x c hfn hc)))).trans (I.ad.keep b o e n hb hx)
  ·obtain⟨sl,e1⟩:=I.ad.slot b o e n hb hx;exact⟨sl,(hs.2 b (A3 (Ψ (ξ e) (I.ok.cab x c hfn hc)))).trans e1⟩
  ·obtain⟨o',e1⟩:=I.ad.there b o e hx;exact⟨o',(hs.2 b (A3 (Ψ (ξ e) (I.ok.cab x c hfn hc)))).trans e1⟩
  ·by_cases hj:j=i
   ·subst hj;rw[hi] at e1;cases e1;rw[B3 hiσ] at e2;cases e2;exact⟨u,r,.inr ⟨.inl hk,c,hc,hc'⟩⟩
   ·rw[BG (BQ hj)] at e2;obtain⟨u',r',q⟩:=hl j y v' e1 e2 e3;refine⟨u',r',?_⟩;rcases q with q | ⟨k,c',e,z'⟩
    ·exact .inl q
    ·refine .inr ⟨k,c',e,z'.sameBut hs ?_⟩
     rintro rfl
     exact hj (dW hN e1 (I.ok.inj _ _ _ e hc ▸ hi))
  ·by_cases hcc:c'=c
   ·subst hcc;exact⟨_,hc'⟩
   ·obtain⟨w2,z2⟩:=I.cell y c' e;exact⟨w2,z2.sameBut hs hcc⟩
  ·obtain⟨e,n,ne,nf,d⟩:=I.pin p hp;refine⟨(hs.2 p.1 ?_).trans e,n,ne,nf,d⟩;intro q;rw[q,hoc] at e;have q':oc=p.2:=AA e;exact d w' (by rw[<- q'];exact hocd)
theorem bQ {M:Model}{A:Around}{E:δ->η->Prop}{x:Str}{v:V}{u:δ}{Q:Unit->η->Prop}(I:Inv X aa σ H s)(hN:X.N.Nodup)(hi:X.N[i]? = some x)(hx:Loc X.env.scope x)(r:RelV v u)(h:∀s',Inv X aa (σ.set i (some v)) H s'->Q () s')(hf:autoParam (X.fn x=true\/X.env.scope.names.lookup x=some .local) L2.au0._auto_1):τ M A (storeName X.env x u) Q E s :=
 iW I hN hi hx r (λs' I' _=>h s' I') hf
theorem Inv.call' {s':η}{ch:List ε}(I:Inv X aa σ H s)(ho:s'.os=s.os)(u:Un (frs X.stack) ch H H' s.heap s'.heap)(hok:HOk X.prog X.w H' s'.heap)(hg:C2 s'.gens)(hch:∀b∈ch,(b∈X.ex\/X.s₀.heap.objs.size<=b)/\b≠X.env.locals/\(∀x c,X.env.cells.lookup x=some c->c≠b)/\∀p∈X.pn++aa,p.1≠b):Inv X aa σ H' s':=by obtain⟨h',g',d',t',o'⟩:=s';have e:o'=s.os:=ho;subst e;exact I.call (g':=g') (t':=t') (d':=d') u hok hg hch
end
abbrev XK:=δ->Option ε->Hp->Prop
noncomputable abbrev St:=List (Option V)
abbrev VK:=V->Hp->Prop
abbrev TE:=St->Hp->VK->Prop
abbrev TT:=St->Hp->(Bool->Hp->Prop)->Prop
abbrev TA:=St->Hp->(List V->Hp->Prop)->Prop
structure Ends where
 nx:St->Hp->Prop
 rt:VK
 bk:St->Hp->Prop:=λ_ _=>False
 ct:St->Hp->Prop:=λ_ _=>False
abbrev TS:=Ends->St->Hp->Prop
def EP (X:Cx)(aa:List (ε×Obj))(σ:St)(Q:VK)(u:δ)(s':η):Prop:=∃v H',Inv X aa σ H' s'/\RelV v u/\Q v H'
def TP (X:Cx)(aa:List (ε×Obj))(σ:St)(Q:Bool->Hp->Prop)(b:Bool)(s':η):Prop:=∃H',Inv X aa σ H' s'/\Q b H'
def AP (X:Cx)(aa:List (ε×Obj))(σ:St)(Q:List V->Hp->Prop)(us:List δ)(s':η):Prop:=∃vs H',Inv X aa σ H' s'/\Vals vs us/\Q vs H'
def SP (X:Cx)(aa:List (ε×Obj))(D:Ends)(f:Flow)(s':η):Prop :=
 match f with
 | .next=>∃ σ' H',Inv X aa σ' H' s'/\D.nx σ' H'
 | .brk=>∃ σ' H',Inv X aa σ' H' s'/\D.bk σ' H'
 | .cont=>∃ σ' H',Inv X aa σ' H' s'/\D.ct σ' H'
 | .ret u=>∃v σ' H',Inv X aa σ' H' s'/\RelV v u/\D.rt v H'
def PE (X:Cx)(e:Δ)(t:TE):Prop :=
 ∀(aa:List (ε×Obj)) (s:η) (σ:St) (H:Hp) (Q:VK),Inv X aa σ H s->t σ H Q->τ (χ X.prog X.w) X.A (A5 e X.env) (EP X aa σ Q) X.xe s
def PT (X:Cx)(e:Δ)(t:TT):Prop :=
 ∀(aa:List (ε×Obj)) (s:η) (σ:St) (H:Hp) (Q:Bool->Hp->Prop),Inv X aa σ H s->t σ H Q->τ (χ X.prog X.w) X.A (Br e X.env (A5 e X.env)) (TP X aa σ Q) X.xe s
def PW (X:Cx)(e:Δ)(t:TT):Prop :=
 ∀(whole:Sem δ) (aa:List (ε×Obj)) (s:η) (σ:St) (H:Hp) (Q:Bool->Hp->Prop),Inv X aa σ H s->t σ H Q->τ (χ X.prog X.w) X.A (Br e X.env whole) (TP X aa σ Q) X.xe s
theorem PW.pt {X:Cx}{t:TT}(h:PW X e t):PT X e t:=h _
def PA (X:Cx)(es:List Δ)(t:TA):Prop :=
 ∀(pos:Pos) (aa:List (ε×Obj)) (s:η) (σ:St) (H:Hp) (Q:List V->Hp->Prop),Inv X aa σ H s->t σ H Q->τ (χ X.prog X.w) X.A (spliced (B4 pos (Θ es X.env))) (AP X aa σ Q) X.xe s
def PS (X:Cx)(st:AD)(t:TS):Prop :=
 ∀(aa:List (ε×Obj)) (s:η) (σ:St) (H:Hp) (D:Ends),Inv X aa σ H s->t D σ H->τ (χ X.prog X.w) X.A (exec st X.env) (SP X aa D) X.xe s
def PSs (X:Cx)(st:List AD)(t:TS):Prop :=
 ∀(aa:List (ε×Obj)) (s:η) (σ:St) (H:Hp) (D:Ends),Inv X aa σ H s->t D σ H->τ (χ X.prog X.w) X.A (execs st X.env) (SP X aa D) X.xe s
theorem thn {α:Type}{t:Sem α}{Q Q':α->η->Prop}{M:Model}{A:Around}{E:δ->η->Prop}(h:τ M A t Q E s)(hQ:∀a s,Q a s->Q' a s):τ M A t Q' E s:=AB h hQ λ_ _ x=>x
section
variable {X:Cx}
def mO (o:Option (Option V))(P:V->Prop):Prop:=match o with | some (some v)=>P v | _=>False
def mB (x:V)(P:Bool->Prop):Prop:=match x with | .bl c=>P c | _=>False
def mI (x:V)(P:Int->Prop):Prop:=match x with | .int i=>P i | _=>False
def mT (b:Bool)(P:Prop):Prop:=match b with | true=>P | false=>False
def mN (vs:List V)(P:Prop):Prop:=match vs with | []=>P | _=>False
def mC (vs:List V)(P:V->List V->Prop):Prop:=match vs with | v::r=>P v r | []=>False
theorem mD {v:V}{P:V->Prop}:mO (some (some v)) P=P v:=rfl
theorem vD {c:Bool}{P:Bool->Prop}:mB (.bl c) P=P c:=rfl
theorem vB {i:Int}{P:Int->Prop}:mI (.int i) P=P i:=rfl
theorem u8 {P:Prop}:mT true P=P:=rfl
theorem vA {P:Prop}:mN [] P=P:=rfl
theorem vC {v:V}{r:List V}{P:V->List V->Prop}:mC (v::r) P=P v r:=rfl
theorem wO {o:Option (Option V)}{P:V->Prop}(h:mO o P):∃v,o=some (some v)/\P v:=by
 match o,h with
 | some (some v),h=>exact⟨v,rfl,h⟩
theorem gG {x:V}{P:Bool->Prop}(h:mB x P):∃c,x=.bl c/\P c:=by
 cases x with
 | bl c=>exact⟨c,rfl,h⟩
 | _=>cases h
theorem tE {x:V}{P:Int->Prop}(h:mI x P):∃i,x=.int i/\P i:=by
 cases x with
 | int c=>exact⟨c,rfl,h⟩
 | _=>cases h
theorem mI2 {x y:V}{P:Int->Int->Prop}(h:mI x λi=>mI y λj=>P i j):∃i j,x=.int i/\y=.int j/\P i j:=by obtain⟨i,e,h⟩:=tE h;obtain⟨j,e',h⟩:=tE h;exact⟨i,j,e,e',h⟩
theorem wN {b:Bool}{P:Prop}(h:mT b P):b=true/\P:=by
 cases b with
 | true=>exact⟨rfl,h⟩
 | false=>cases h
theorem wP {vs:List V}{P:Prop}(h:mN vs P):vs=[]/\P:=by
 cases vs with
 | nil=>exact⟨rfl,h⟩
 | cons _ _=>cases h
theorem tF {vs:List V}{P:V->List V->Prop}(h:mC vs P):∃v r,vs=v::r/\P v r:=by
 cases vs with
 | nil=>cases h
 | cons v r=>exact⟨v,r,rfl,h⟩
theorem mC2 {vs:List V}{P:V->V->Prop}(h:mC vs λv r=>mC r λw r'=>mN r' (P v w)):∃v w,vs=[v,w]/\P v w:=by obtain⟨v,r,e1,q2⟩:=tF h;obtain⟨w,r2,e2,q3⟩:=tF q2;obtain⟨e3,q4⟩:=wP q3;subst e3 e2 e1;exact⟨v,w,rfl,q4⟩
def dL (i:Nat):TE:=λσ H Q=>mO σ[i]? λv=>Q v H
def tC (v:V):TE:=λ_ H Q=>Q v H
theorem xP {x:Str}(hN:X.N[i]? = some x)(hv:Vis X.env.scope x)(hd:autoParam ((x==("__debug__" : Str))=false) L2.au1._auto_1)(hcd:autoParam ((x==("__classdict__" : Str))=false) L2.au1._auto_1):PE X (.Name x pos) (dL i):=by
 intro aa s σ H Q I h;obtain⟨v,e,h⟩:=wO h;obtain⟨m,hn,hl⟩:=I.loc;obtain⟨u,r,l⟩:=hl i x v hN e hv;have fin:EP X aa σ Q u s:=⟨v,H,I,r,h⟩;rcases l with ⟨hk,hm⟩ | ⟨hk,c,hc,hcell⟩
 ·exact Ce (Cf I.ok.kind hk hn hm fin) hd
 ·rcases hk with hk | hk
  ·exact Ce (D2 I.ok.kind hk hc hcell fin) hd
  ·exact Ce (wpAny_loadName_free I.ok.kind hk hc hcell fin hcd) hd
theorem aF {i j pos}:PE X (.Constant (.int i) j pos) (tC (.int i)):=λ_ _ _ H _ I h=>wpAny_Constant_int ⟨.int i,H,I.tok _,⟨_,rfl⟩,h⟩
theorem cB {b j pos}:PE X (.Constant (.bool b) j pos) (tC (.bl b)):=λ_ _ _ H _ I h=>Constant_bool ⟨.bl b,H,I,rfl,h⟩
theorem xR {j pos}:PE X (.Constant .none j pos) (tC .non):=λ_ _ _ H _ I h=>Constant_none ⟨.non,H,I,rfl,h⟩
theorem bK {x j pos}:PE X (.Constant (.str x) j pos) (tC (.str x)):=λ_ _ _ H _ I h=>Calls.Constant_str ⟨.str x,H,I.tok _,⟨_,rfl⟩,h⟩
def Gl (X:Cx)(x:Str):Prop:=X.env.kindOf x=some .globalImplicit
theorem c9 {E:δ->η->Prop}{σ:St}{H:Hp}{x:Str}{u:δ}(I:Inv X aa σ H s)(hg:Gl X x)(hm:X.mg x=some u)(h:Q u s)(hd:autoParam ((x==("__debug__" : Str))=false) L2.au1._auto_1):τ (χ X.prog X.w) X.A (A5 (.Name x pos) X.env) Q E s :=
 DI I.ok.kind hg (Calls.loadGlobal_global (by rw[I.ok.glob];exact I.mod.glob.keeps I.bk) hm h) hd
theorem eU {E:δ->η->Prop}{σ:St}{H:Hp}{x:Str}{u:δ}(I:Inv X aa σ H s)(hg:Gl X x)(hm:X.mg x=none)(hv:BJ x=some u)(h:Q u s)(hn:autoParam (x ≠ "__name__") L2.au1._auto_1)(hd:autoParam ((x==("__debug__" : Str))=false) L2.au1._auto_1):τ (χ X.prog X.w) X.A (A5 (.Name x pos) X.env) Q E s:=by obtain⟨mb,h1,h2⟩:=I.mod.blt;exact DI I.ok.kind hg (Calls.loadGlobal_builtin (by rw[I.ok.glob];exact I.mod.glob.keeps I.bk) hm (by rw[I.ok.blt];exact h1.keeps I.bk) ((h2 x hn).trans hv) h) hd
theorem bH {x:Str}{v:V}{u:δ}(hg:Gl X x)(hm:X.mg x=some u)(r:RelV v u)(hd:autoParam ((x==("__debug__" : Str))=false) L2.au1._auto_1):PE X (.Name x pos) (tC v) :=
 λ_ _ _ H _ I h=>c9 I hg hm ⟨v,H,I,r,h⟩ hd
theorem fN {x:Str}{v:V}{u:δ}(hg:Gl X x)(hm:X.mg x=none)(hv:BJ x=some u)(r:RelV v u)(hn:autoParam (x ≠ "__name__") L2.au1._auto_1)(hd:autoParam ((x==("__debug__" : Str))=false) L2.au1._auto_1):PE X (.Name x pos) (tC v) :=
 λ_ _ _ H _ I h=>eU I hg hm hv ⟨v,H,I,r,h⟩ hn hd
variable {a b:Δ}{ta tb:TE}{pos:Pos}
def uB (ta:TE):TE:=λσ H Q=>ta σ H λx H1=>Q (.bl (decide (x=.non))) H1
def oI (ta:TE):TE:=λσ H Q=>ta σ H λx H1=>Q (.bl (!decide (x=.non))) H1
def tB (t:TE):TT:=λσ H Q=>t σ H λx H1=>mB x λc=>Q c H1
theorem bZ {t:TE}(h:PE X e t)(he:autoParam (∀whole,Br e X.env whole=(do let v <- whole;standAt e.pos;CZ [v] (truthy v))) L2.au2._auto_1):PT X e (tB t):=by intro aa s σ H Q I hw;refine isTrue_plain (thn (h aa s σ H _ I hw) λv s1 ⟨x,H1,I1,r1,q1⟩=>?_) (he _);obtain⟨d,rfl,q⟩:=gG q1;cases r1;exact Ay ⟨H1,I1,q⟩
variable {tA tB':TT}{rest:List Δ}
def p9 (t u:TT):TT:=λσ H Q=>t σ H λc H1=>if c=true then u σ H1 Q else Q false H1
def tOr (t u:TT):TT:=λσ H Q=>t σ H λc H1=>if c=true then Q true H1 else u σ H1 Q
def p7 (t:TT):TT:=λσ H Q=>t σ H λc H1=>Q (!c) H1
theorem oV (ha:PT X a tA):PW X (.BoolOp .And [a] pos) tA:=by
 intro wh aa s σ H Q I h;refine isTrue_and (thn (ha aa s σ H Q I h) λc s1 e=>?_);cases c with
 | true=>exact isTrue_and_nil e
 | false=>exact e
theorem nE (ha:PT X a tA):PW X (.BoolOp .Or [a] pos) tA:=by
 intro wh aa s σ H Q I h;refine isTrue_or (thn (ha aa s σ H Q I h) λc s1 e=>?_);cases c with
 | false=>exact isTrue_or_nil e
 | true=>exact e
theorem sD (ha:PT X a tA)(hb:PW X (.BoolOp .And (b::rest) pos) tB'):PW X (.BoolOp .And (a::b::rest) pos) (p9 tA tB'):=by
 intro wh aa s σ H Q I h;refine isTrue_and (thn (ha aa s σ H _ I h) λc s1 ⟨H1,I1,q1⟩=>?_);cases c with
 | true=>exact hb wh aa s1 σ H1 Q I1 q1
 | false=>exact⟨H1,I1,q1⟩
theorem r9 (ha:PT X a tA)(hb:PW X (.BoolOp .Or (b::rest) pos) tB'):PW X (.BoolOp .Or (a::b::rest) pos) (tOr tA tB'):=by
 intro wh aa s σ H Q I h;refine isTrue_or (thn (ha aa s σ H _ I h) λc s1 ⟨H1,I1,q1⟩=>?_);cases c with
 | true=>exact⟨H1,I1,q1⟩
 | false=>exact hb wh aa s1 σ H1 Q I1 q1
theorem cG (ha:PT X a tA):PT X (.UnaryOp .Not a pos) (p7 tA):=by intro aa s σ H Q I h;exact isTrue_not (ha aa s σ H (λc H1=>Q (!c) H1) I h)
def iV (ta tb:TE):TE:=λσ H Q=>ta σ H λx H1=>mB x λc=>if c=true then tb σ H1 Q else Q (.bl false) H1
def uA (ta tb:TE):TE:=λσ H Q=>ta σ H λx H1=>mB x λc=>if c=true then Q (.bl true) H1 else tb σ H1 Q
def lL (ta:TE):TE:=λσ H Q=>ta σ H λx H1=>mB x λc=>Q (.bl (!c)) H1
theorem f8 {op}{t:TE}(h:PE X a t):PE X (.BoolOp op [a] pos) t:=λaa s σ H Q I hw=>BoolOp_one (h aa s σ H Q I hw)
theorem f9 (ha:PE X a ta)(hb:PE X (.BoolOp .And (b::rest) pos) tb):PE X (.BoolOp .And (a::b::rest) pos) (iV ta tb):=by
 intro aa s σ H Q I h;refine BoolOp_and (thn (ha aa s σ H _ I h) λv s1 ⟨x,H1,I1,r1,q1⟩=>?_);obtain⟨c,rfl,q1⟩:=gG q1;cases r1;refine Ay ?_;cases c with
 | true=>exact hb aa s1 σ H1 Q I1 q1
 | false=>exact⟨.bl false,H1,I1,rfl,q1⟩
theorem xQ (ha:PE X a ta):PE X (.UnaryOp .Not a pos) (lL ta):=by intro aa s σ H Q I h;refine UnaryOp_ (thn (ha aa s σ H _ I h) λv s1 ⟨x,H1,I1,r1,q1⟩=>?_);obtain⟨c,rfl,q1⟩:=gG q1;cases r1;exact not_of (Ay ⟨.bl (!c),H1,I1,rfl,q1⟩)
def tIf (t:TT)(ta tb:TE):TE:=λσ H Q=>t σ H λc H1=>if c=true then ta σ H1 Q else tb σ H1 Q
end
def SqL (K:γ)(H:Hp)(a:ε)(xs:List V):Prop :=
 Rd H a (.lst xs) \/
  ∃(o:Obj) (its:Array δ) (n:Nat),K.lookup a=some o/\o.cls=.type "list" /\ o.dict=none/\o.data=.seq its n/\its.size<=ψ/\Vals xs its.toList
def SqT (K:γ)(H:Hp)(a:ε)(xs:List V):Prop :=
 Rd H a (.tup xs) \/
  ∃(o:Obj) (its:Array δ) (n:Nat),K.lookup a=some o/\o.cls=.type "tuple" /\ o.data=.seq its n/\its.size<=ψ/\Vals xs its.toList
noncomputable def zN:δ->Option V
 | .none=>some .non
 | .bool b=>some (.bl b)
 | .int i _=>some (.int i)
 | .str x _=>some (.str x)
 | .bytes b _=>some (.byt b)
 | .float b _=>some (.flt b)
 | .ref a=>some (.ref a)
 | .type n=>some (.ty n)
 | _=>none
theorem RelV.abs {x:V}{u:δ}(r:RelV x u):zN u=some x:=by
 cases x with
 | non=>cases r;rfl
 | bl _=>cases r;rfl
 | int _=>obtain⟨t,rfl⟩:=r;rfl
 | str _=>obtain⟨t,rfl⟩:=r;rfl
 | byt _=>obtain⟨t,rfl⟩:=r;rfl
 | flt _=>obtain⟨t,rfl⟩:=r;rfl
 | ref _=>cases r;rfl
 | ty _=>cases r;rfl
theorem RelV.inj {x y:V}{u:δ}(r:RelV x u)(q:RelV y u):x=y:=AA (r.abs.symm.trans q.abs)
theorem Vals.inj:∀ {xs ys:List V} {us:List δ},Vals xs us->Vals ys us->xs=ys
 | _,_,_,.nil,.nil=>rfl
 | _,_,_,.cons r t,.cons r' t'=>by rw[r.inj r',Vals.inj t t']
section
variable {X:Cx}{aa:List (ε×Obj)}{σ:St}{H:Hp}{s:η}{a:ε}{xs ys:List V}
theorem SqL.of {K:γ}(h:H a=some (.lst xs)):SqL K H a xs:=.inl (.inl h)
theorem SqT.of {K:γ}(h:H a=some (.tup xs)):SqT K H a xs:=.inl (.inl h)
theorem Inv.list (I:Inv X aa σ H s)(h:SqL X.K H a xs):∃its:List δ,Vals xs its/\PlainL s.heap a its.toArray/\xs.length<=ψ:=by
 rcases h with h | ⟨o,its,n,hk,hc,hd,hs,hz,r⟩
 ·obtain⟨z,its,n,r,e⟩:=h.ok I.hok;exact⟨its,r,⟨_,n,e,rfl,rfl,rfl⟩,z⟩
 ·refine⟨its.toList,r,⟨o,n,I.kIn a o hk,hc,hd,by simpa using hs⟩,?_⟩;have e:=r.length;simp only[D3] at e;lia
theorem Inv.tuple (I:Inv X aa σ H s)(h:SqT X.K H a xs):∃its:List δ,Vals xs its/\IsTup s.heap a its.toArray/\xs.length<=ψ:=by
 rcases h with h | ⟨o,its,n,hk,hc,hs,hz,r⟩
 ·obtain⟨z,its,r,p⟩:=h.ok I.hok;exact⟨its,r,p,z⟩
 ·refine⟨its.toList,r,⟨o,I.kIn a o hk,hc,n,by simpa using hs⟩,?_⟩;have e:=r.length;simp only[D3] at e;lia
theorem Inv.list_inj (I:Inv X aa σ H s)(h:SqL X.K H a xs)(h':SqL X.K H a ys):xs=ys:=by
 obtain⟨its,r,⟨o,n,e,_,_,d⟩,_⟩:=I.list h;obtain⟨its',r',⟨o',n',e',_,_,d'⟩,_⟩:=I.list h';rw[e] at e';cases e';rw[d] at d'
 injection d' with d1 _
 have:its=its':=by simpa using congrArg Array.toList d1
 subst this;exact r.inj r'
theorem Inv.tuple_inj (I:Inv X aa σ H s)(h:SqT X.K H a xs)(h':SqT X.K H a ys):xs=ys:=by
 obtain⟨its,r,⟨o,e,_,n,d⟩,_⟩:=I.tuple h;obtain⟨its',r',⟨o',e',_,n',d'⟩,_⟩:=I.tuple h';rw[e] at e';cases e';rw[d] at d'
 injection d' with d1 _
 have:its=its':=by simpa using congrArg Array.toList d1
 subst this;exact r.inj r'
end
noncomputable abbrev Cx.wish (X:Cx)(E:δ->η->Prop):Cx:={ X with xe:=E }
noncomputable abbrev Cx.nox (X:Cx):Cx:=X.wish λ_ _=>False
theorem Cx.Ok.wish {X:Cx}(ok:X.Ok)(E:δ->η->Prop):(X.wish E).Ok :=
 ⟨ok.mod,ok.kind,ok.glob,ok.blt,ok.above,ok.inj,ok.has,ok.cab,ok.hd,ok.frames,ok.stk,ok.exf,ok.bs,ok.bsz,ok.noex,ok.exfs,ok.funs,ok.frf⟩
theorem Cx.Ok.unwish {X:Cx}{E:δ->η->Prop}(ok:(X.wish E).Ok):X.Ok :=
 ⟨ok.mod,ok.kind,ok.glob,ok.blt,ok.above,ok.inj,ok.has,ok.cab,ok.hd,ok.frames,ok.stk,ok.exf,ok.bs,ok.bsz,ok.noex,ok.exfs,ok.funs,ok.frf⟩
section
variable {X:Cx}{aa:List (ε×Obj)}{σ:St}{H:Hp}{s:η}{E:δ->η->Prop}
theorem Inv.wish (I:Inv X aa σ H s)(E:δ->η->Prop):Inv (X.wish E) aa σ H s:=⟨I.ok.wish E,I.os,I.bare,I.ad,I.loc,I.cell,I.free,I.freeC,I.pin,I.hok,I.len⟩
theorem Inv.unwish (I:Inv (X.wish E) aa σ H s):Inv X aa σ H s:=⟨I.ok.unwish,I.os,I.bare,I.ad,I.loc,I.cell,I.free,I.freeC,I.pin,I.hok,I.len⟩
theorem SP.unwish {D:Ends}{f:Flow}{s':η}(h:SP (X.wish E) aa D f s'):SP X aa D f s':=by
 cases f with
 | next=>obtain⟨σ',H',I,q⟩:=h;exact⟨σ',H',I.unwish,q⟩
 | brk=>obtain⟨σ',H',I,q⟩:=h;exact⟨σ',H',I.unwish,q⟩
 | cont=>obtain⟨σ',H',I,q⟩:=h;exact⟨σ',H',I.unwish,q⟩
 | ret u=>obtain⟨v,σ',H',I,r,q⟩:=h;exact⟨v,σ',H',I.unwish,r,q⟩
theorem PSs.nox {st:List AD}{t:TS}(h:PSs X.nox st t):PSs X st t:=λaa s σ H D I hw =>
 AB (h aa s σ H D (I.wish _) hw) (λ_ _ q=>q.unwish) λ_ _ z=>AG z
end
section
variable {X:Cx}{st:AD}{rest:List AD}{t u:TS}{e:Δ}{te:TE}{pos:Pos}
def iS:TS:=λD σ H=>D.nx σ H
def dM (t u:TS):TS:=λD σ H=>t { D with nx:=u D } σ H
theorem bC:PSs X [] iS:=λ_ _ σ H _ I h=>Ch ⟨σ,H,I,h⟩
theorem aE (h1:PS X st t)(h2:PSs X rest u):PSs X (st::rest) (dM t u):=by
 intro aa s σ H D I h;refine wpAny_execs_cons (thn (h1 aa s σ H { D with nx:=u D } I h) λf s1 q=>?_);cases f with
 | next =>
  obtain⟨σ',H',I',q⟩:=q;exact h2 aa s1 σ' H' D I' q
 | ret v=>exact q
 | brk=>exact q
 | cont=>exact q
theorem aH (h1:PS X st t):PSs X [st] t:=by
 intro aa s σ H D I h;refine wpAny_execs_cons (thn (h1 aa s σ H D I h) λf s1 q=>?_);cases f with
 | next=>exact Ch q
 | ret v=>exact q
 | brk=>exact q
 | cont=>exact q
def jZ:TS:=λD σ H=>D.bk σ H
def oK:TS:=λD σ H=>D.ct σ H
theorem Inv.quiet {σ:St}{H:Hp}(I:Inv X aa σ H s):interactive X.env=false:=by simp[interactive,I.ok.kind]
def iU (te:TE):TS:=λD σ H=>te σ H λ_ H1=>D.nx σ H1
theorem fM (he:PE X e te)(hs:autoParam (Bs e none pos.line X.env=pure false) L2.au3._auto_1):PS X (.Expr e pos) (iU te):=by intro aa s σ H D I h;exact wpAny_Expr_any (thn (he aa s σ H _ I h) λv s1 ⟨x,H1,I1,r1,q1⟩=>⟨σ,H1,I1,q1⟩) I.quiet hs
def pZ (te:TE):TS:=λD σ H=>te σ H D.rt
theorem aR (he:PE X e te):PS X (.Return (some e) pos) (pZ te):=by intro aa s σ H D I h;exact wpAny_Return_some (thn (he aa s σ H _ I h) λv s1 ⟨x,H1,I1,r1,q1⟩=>⟨x,σ,H1,I1,r1,q1⟩)
def oG:TS:=λD _ H=>D.rt .non H
def p8 (c:TT)(t u:TS):TS:=λD σ H=>c σ H λb H1=>if b=true then t D σ H1 else u D σ H1
theorem bW {c:Δ}{a b:List AD}{tc:TT}(hc:PT X c tc)(ha:PSs X a t)(hb:PSs X b u):PS X (.If c a b pos) (p8 tc t u):=by
 intro aa s σ H D I h;refine wpAny_If (thn (hc aa s σ H _ I h) λd s1 ⟨H1,I1,q1⟩=>?_);cases d with
 | true=>exact ha aa s1 σ H1 D I1 q1
 | false=>exact hb aa s1 σ H1 D I1 q1
def wW:TS:=λ_ _ _=>False
theorem sF:PS X st wW:=λ_ _ _ _ _ _ h=>h.elim
end
abbrev TG:=V->St->Hp->(St->Hp->Prop)->Prop
abbrev TGs:=List V->St->Hp->(St->Hp->Prop)->Prop
def PG (X:Cx)(target:Δ)(t:TG):Prop :=
 ∀(aa:List (ε×Obj)) (s:η) (σ:St) (H:Hp) (v:V) (u:δ) (Q:St->Hp->Prop),Inv X aa σ H s->RelV v u->t v σ H Q ->
  τ (χ X.prog X.w) X.A (Ci target X.env u) (λ_ s'=>∃ σ' H',Inv X aa σ' H' s'/\Q σ' H') X.xe s
def PGs (X:Cx)(ts:List Δ)(t:TGs):Prop :=
 ∀(aa:List (ε×Obj)) (s:η) (σ:St) (H:Hp) (vs:List V) (us:List δ) (Q:St->Hp->Prop),Inv X aa σ H s->Vals vs us->t vs σ H Q ->
  τ (χ X.prog X.w) X.A (CJ ((C3 ts X.env).map (·.2)) us) (λ_ s'=>∃ σ' H',Inv X aa σ' H' s'/\Q σ' H') X.xe s
abbrev wA:=V->V->V->Hp->(Hp->Prop)->Prop
def yM (X:Cx)(t:wA):Prop :=
 ∀(aa:List (ε×Obj)) (s:η) (σ:St) (H:Hp) (o i v:V) (ov iv u:δ) (Q:Hp->Prop),Inv X aa σ H s->RelV o ov->RelV i iv->RelV v u->t o i v H Q ->
  τ (χ X.prog X.w) X.A (setItem ov iv u) (λ_ s'=>∃H',Inv X aa σ H' s'/\Q H') X.xe s
abbrev TIp:=V->V->Hp->VK->Prop
def PIp (X:Cx)(op:Operator)(t:TIp):Prop :=
 ∀(aa:List (ε×Obj)) (s:η) (σ:St) (H:Hp) (x y:V) (v u:δ) (Q:VK),Inv X aa σ H s->RelV x v->RelV y u->t x y H Q ->
  τ (χ X.prog X.w) X.A (inplaceOp op v u) (EP X aa σ Q) X.xe s
section
variable {X:Cx}{pos:Pos}
def cW (i:Nat):TG:=λv σ H Q=>Q (σ.set i (some v)) H
theorem bG {x:Str}(hN:X.N.Nodup)(hi:X.N[i]? = some x)(hx:Loc X.env.scope x)(hf:autoParam (X.fn x=true\/X.env.scope.names.lookup x=some .local) L2.au0._auto_1):PG X (.Name x pos) (cW i):=by intro aa s σ H v u Q I r h;exact wpAny_assign_Name (bQ I hN hi hx r (λs' I'=>⟨_,H,I',h⟩) hf)
def tS:TGs:=λvs σ H Q=>mN vs (Q σ H)
def mR (t:TG)(u:TGs):TGs:=λvs σ H Q=>mC vs λv r=>t v σ H λσ' H'=>u r σ' H' Q
theorem uV:PGs X [] tS:=by intro aa s σ H vs us Q I r h;obtain⟨e,h⟩:=wP h;subst e;cases r;exact DP ⟨σ,H,I,h⟩
theorem lZ {es:List Δ}{t:TG}{u:TGs}(h1:PG X e t)(h2:PGs X es u)(hs:autoParam ((C3 (e::es) X.env).map (·.2)=Ci e X.env::(C3 es X.env).map (·.2)) L2.au3._auto_1):PGs X (e::es) (mR t u):=by
 intro aa s σ H vs us Q I r h;obtain⟨v,vr,e1,h⟩:=tF h;subst e1;cases r with
 | cons r rr =>
  rw[hs];refine B5 (thn (h1 aa s σ H _ _ _ I r h) λ_ s1 ⟨σ1,H1,I1,q1⟩=>?_);exact h2 aa s1 σ1 H1 _ _ Q I1 rr q1
def tR (K:γ)(n:Nat)(t:TGs):TG:=λv σ H Q=>∃a xs,v=.ref a/\SqT K H a xs/\xs.length=n/\t xs σ H Q
theorem xO {es:List Δ}{k:Nat}{t:TGs}{n:Nat}(hc:X.calm=true)(h:PGs X es t)(hn:autoParam ((C3 es X.env).length=n) L2.au3._auto_1)(hst:autoParam ((C3 es X.env).findIdx? (·.1)=none) L2.au3._auto_1):PG X (.Tuple es k pos) (tR X.K n t):=by intro aa s σ H v u Q I r hw;obtain⟨a,xs,e1,hq,hl,hw⟩:=hw;subst e1;cases r;obtain⟨its,rv,ht,hz⟩:=I.tuple hq;refine assign_Tuple_tuple (I.ok.hd hc) ht (by simp[hn,<- hl,rv.length]) hst λh' hx=>?_;have I1:Inv X aa σ H { s with heap:=h' }:=I.kept (t':=s.toks) λb o e=>hx b o (A3 (ξ e)) e;exact h aa _ σ H xs _ Q I1 (by simpa using rv) hw
def qV (to ti:TE)(t:wA):TG:=λv σ H Q=>to σ H λo H1=>ti σ H1 λi H2=>t o i v H2 λH3=>Q σ H3
theorem nH {o i:Δ}{to ti:TE}{t:wA}(ho:PE X o to)(hi:PE X i ti)(hs:yM X t)(ha:autoParam (∀v,Ci (.Subscript o i pos) X.env v=(do
   let ov <- CZ [v] (A5 o X.env)
   let iv <- CZ [v,ov] (A5 i X.env)
   standAt pos
   CZ [v,ov,iv] (setItem ov iv v)
   release [v,ov,iv] [])) L2.au2._auto_1):PG X (.Subscript o i pos) (qV to ti t):=by
 intro aa s σ H v u Q I r h;rw[ha];refine θ (Aj (thn (ho aa s σ H _ I h) λov s1 ⟨x,H1,I1,r1,q1⟩=>?_));refine θ (Aj (thn (hi aa s1 σ H1 _ I1 q1) λiv s2 ⟨y,H2,I2,r2,q2⟩=>?_));refine θ (CK (θ (Aj (thn (hs aa s2 σ H2 x y v ov iv u _ I2 r1 r2 r q2) λ_ s3 ⟨H3,I3,q3⟩=>?_))));exact wpAny_release ⟨σ,H3,I3,q3⟩
def dP (te:TE)(g:TG):TS:=λD σ H=>te σ H λx H1=>g x σ H1 D.nx
theorem kB {tg:Δ}{te:TE}{g:TG}(he:PE X e te)(hg:PG X tg g)(hs:autoParam (CL [tg] e pos.line X.env=pure false) L2.au3._auto_1)(hw:autoParam (CM [tg] e X.env=pure none) L2.au3._auto_1)(h1:autoParam ((C3 [tg] X.env).map (·.2)=[Ci tg X.env]) L2.au3._auto_1):PS X (.Assign [tg] e pos) (dP te g):=by intro aa s σ H D I h;refine wpAny_Assign_stores (thn (he aa s σ H _ I h) λv s1 ⟨x,H1,I1,r1,q1⟩=>?_) hs hw;rw[h1];exact thn (hg aa s1 σ H1 x v _ I1 r1 q1) λ_ s2 q=>q
theorem aV {x:Str}{te:TE}(hN:X.N.Nodup)(hi:X.N[i]? = some x)(hx:Loc X.env.scope x)(he:PE X e te)(hs:autoParam (Bs e (some (.Name x pos')) pos.line X.env=pure false) L2.au3._auto_1)(hf:autoParam (X.fn x=true\/X.env.scope.names.lookup x=some .local) L2.au0._auto_1) :
  PS X (.Assign [.Name x pos'] e pos) (dP te (cW i)):=by
 intro aa s σ H D I h;refine wpAny_Assign_Name (thn (he aa s σ H _ I h) λv s1 ⟨y,H1,I1,r1,q1⟩=>?_) hs;exact bQ I1 hN hi hx r1 (λs2 I2=>⟨_,H1,I2,q1⟩) hf
def p5 (i j:Nat)(ta:TA):TS:=λD σ H=>ta σ H λvs H1=>mC vs λv r=>mC r λw r'=>mN r' (D.nx ((σ.set i (some v)).set j (some w)) H1)
theorem kA {x:Str}{a b:Δ}{ta:TA}{pt:Pos}{kt k2 pt2}(hc:X.calm=true)(hN:X.N.Nodup)(hi:X.N[i]? = some x)(hj:X.N[j]? = some y)(hij:i≠j)(hx:X.env.scope.names.lookup x=some .local)(hy:X.env.scope.names.lookup y=some .local)(ha:PA X [a,b] ta)(hw:CM [.Tuple [.Name x px,.Name y py] kt pt] (.Tuple [a,b] k2 pt2) X.env=pure (some [x,y]))(hs:autoParam (CL [.Tuple [.Name x px,.Name y py] kt pt] (.Tuple [a,b] k2 pt2) pos.line X.env=pure false) L2.au3._auto_1) :
  PS X (.Assign [.Tuple [.Name x px,.Name y py] kt pt] (.Tuple [a,b] k2 pt2) pos) (p5 i j ta):=by
 intro aa s σ H D I h;rw[exec_Assign_arm];refine θ (CK ?_);rw[hs];refine θ (υ ?_);rw[if_neg 'A'];refine θ (Tuple_ (thn (ha _ aa s σ H _ I h) λus s1 ⟨vs,H1,I1,r1,q1⟩=>?_));obtain⟨v,w,e1,q1⟩:=mC2 q1;subst e1;obtain⟨u1,u2,rfl,rv,rw'⟩:∃u1 u2,us=[u1,u2]/\RelV v u1/\RelV w u2:=by
  cases r1 with
  | cons p q =>
   cases q with
   | cons p' q' =>
    cases q';exact⟨_,_,rfl,p,p'⟩
 refine An ?_ (by show 2<=ψ;decide);have I2:Inv X aa σ H1 { s1 with heap:=s1.heap.push { cls:=.type "tuple",data:=.seq [u1,u2].toArray } }:=I1.kept (t':=s1.toks) λb o e=>μ _ e;rw[hw];refine θ (υ ?_);show τ (χ X.prog X.w) X.A (do rule "assign.swapped-stores";let items <- unpackItems (.ref s1.heap.objs.size) 2 none;CJ [λv=>Bc X.env y v,λv=>Bc X.env x v] items.reverse;pure Flow.next) _ _ _;refine θ (wpAny_rule (θ (unpackItems_tuple (items:=#[u1,u2]) (I.ok.hd hc) (Dm s1.heap _) λh' hx'=>?_)));have I3:=I2.kept (h':=h') (t':=s1.toks) λb o e=>hx' b o (A3 (ξ e)) e;show τ _ _ (CJ [λv=>Bc X.env y v,λv=>Bc X.env x v] [u2,u1] >>= λ_=>pure Flow.next) _ _ _;refine θ (B5 (C4 (bQ I3 hN hj (.inl hy) rw' (λs2 I4=>?_) (.inr hy))));refine B5 (C4 (bQ I4 hN hi (.inl hx) rv (λs3 I5=>DP (υ ?_)) (.inr hx)));rw[DJ _ _ (BQ hij)] at I5;exact⟨_,H1,I5,q1⟩
def rN (i:Nat)(te:TE)(ti:TIp):TS:=λD σ H=>mO σ[i]? λx=>te σ H λy H1=>ti x y H1 λz H2=>D.nx (σ.set i (some z)) H2
theorem sG {x:Str}{te:TE}{op:Operator}{ti:TIp}(hN:X.N.Nodup)(hi:X.N[i]? = some x)(hx:Loc X.env.scope x)(he:PE X e te)(ho:PIp X op ti)(hf:autoParam (X.fn x=true\/X.env.scope.names.lookup x=some .local) L2.au0._auto_1) :
  PS X (.AugAssign (.Name x pos') op e pos) (rN i te ti):=by
 intro aa s σ H D I h;obtain⟨v,e1,h⟩:=wO h;obtain⟨m,hn,hl⟩:=I.loc;have vis:Vis X.env.scope x:=by rcases hx with k | k;exact .inl k;exact .inr (.inl k)
 obtain⟨u,r,l⟩:=hl i x v hi e1 vis;refine wpAny_AugAssign_Name ?_;have go:τ (χ X.prog X.w) X.A (A5 e X.env) (λw s₂=>τ (χ X.prog X.w) X.A (inplaceOp op u w) (λr s₃=>τ (χ X.prog X.w) X.A (storeName X.env x r) (λ_=>SP X aa D .next) X.xe s₃) X.xe s₂) X.xe s:=by refine thn (he aa s σ H _ I h) λw s1 ⟨y,H1,I1,r1,q1⟩=>?_;refine thn (ho aa s1 σ H1 v y u w _ I1 r r1 q1) λz s2 ⟨zv,H2,I2,r2,q2⟩=>?_;exact bQ I2 hN hi hx r2 (λs3 I3=>⟨_,H2,I3,q2⟩) hf
 rcases l with ⟨hk,hm⟩ | ⟨hk,c,hc,hcell⟩
 ·exact Cf I.ok.kind hk hn hm go
 ·rcases hk with hk | hk
  ·exact D2 I.ok.kind hk hc hcell go
  ·rcases hx with k | k
   ·have:X.env.scope.names.lookup x=some .free:=hk;rw[k] at this;cases this
   ·have:X.env.scope.names.lookup x=some .free:=hk;rw[k] at this;cases this
def ipI (f:Int->Int->Int):TIp:=λx y H Q=>mI x λi=>mI y λj=>Q (.int (f i j)) H
theorem tL:PIp X .Add (ipI λi j=>i+j):=by intro aa s σ H x y v u Q I r1 r2 h;obtain⟨i,j,e1,e2,q⟩:=mI2 h;subst e1;subst e2;obtain⟨t,rfl⟩:=r1;obtain⟨t',rfl⟩:=r2;exact iadd_int ⟨.int _,H,I.tok _,⟨_,rfl⟩,q⟩
end
section
variable {X:Cx}{pos:Pos}
def wV (c:TT)(tb:TS):TS:=λD σ H=>∃W:Nat->St->Hp->Prop,(∃m,W m σ H)/\∀m σ H,W m σ H ->
 c σ H λb H1=>if b=true then ∃N:St->Hp->Prop,(∀ σ' H',N σ' H'->∃m',m'<m/\W m' σ' H')/\tb { D with nx:=N,ct:=N,bk:=D.nx } σ H1 else D.nx σ H1
theorem cZ {c:Δ}{body:List AD}{tc:TT}{tb:TS}(hp:PassesOwn (χ X.prog X.w) X.A X.env X.xe)(hc:PT X c tc)(hb:PSs X body tb):PS X (.While c body [] pos) (wV tc tb):=by
 intro aa s σ H D I h;obtain⟨W,⟨m0,w0⟩,turn⟩:=h;refine wpAny_While (codeAny_whileLoop (λn s'=>∃ σ' H',Inv X aa σ' H' s'/\W n σ' H') ?_ m0 ⟨σ,H,I,w0⟩)
 rintro n s1 ⟨σ1,H1,I1,w1⟩
 refine BA hp (thn (hc aa s1 σ1 H1 _ I1 (turn n σ1 H1 w1)) λb s2 ⟨H2,I2,q2⟩=>?_);cases b with
 | true =>
  obtain⟨N,hN,q2⟩:=q2;rw[if_pos rfl];refine BA hp (thn (hb aa s2 σ1 H2 _ I2 q2) λf s3 q3=>?_);cases f with
  | next =>
   obtain⟨σ3,H3,I3,n3⟩:=q3;obtain⟨m',hm,w3⟩:=hN σ3 H3 n3;exact⟨m',hm,σ3,H3,I3,w3⟩
  | cont =>
   obtain⟨σ3,H3,I3,n3⟩:=q3;obtain⟨m',hm,w3⟩:=hN σ3 H3 n3;exact⟨m',hm,σ3,H3,I3,w3⟩
  | brk=>exact q3
  | ret v=>exact q3
 | false =>
  rw[if_neg Λ];exact Ch ⟨σ1,H2,I2,q2⟩
end
structure It where
 go:Nat->Hp->Prop
 yld:Nat->Hp->V->Hp->Prop
 stop:Nat->Hp->Prop
def lG (X:Cx)(aa:List (ε×Obj))(H:Hp)(b:ε):Prop :=
 H b=none/\b≠X.env.locals/\b ∉ X.fs/\(b∈X.ex\/X.s₀.heap.objs.size<=b)/\(∀x c,X.env.cells.lookup x=some c->c≠b)/\∀p∈X.pn++aa,p.1≠b
theorem Inv.fpOk {X:Cx}{σ:St}{H H':Hp}(I:Inv X aa σ H s)(hb:s.heap.objs.size<=b)(hn:H' b=none):lG X aa H' b:=by
 refine⟨hn,Nat.ne_of_gt (Ψ I.lt hb),I.nofs hb,.inr (AN I.sz hb),λx c e z=>?_,λp hp z=>?_⟩
 ·obtain⟨v,q⟩:=I.cell x c e;exact absurd (Ψ q.lt (by rw[z];exact hb)) (Be _)
 ·exact absurd (Ψ (ξ (I.pin p hp).1) (by rw[z];exact hb)) (Be _)
structure Turn (P:ρ)(w:Γ)(K:γ)(tg:Δ)(J:It)(fp:List ε)(it:ε)(tn:Nat->ω->Prop):Prop where
 mem:it∈fp
 obj:∀i h,tn i h->∀b∈fp,∃o,h.get? b=some o/\∀v,o.data ≠ .cell v
 keep:∀i h h',tn i h->(∀b∈fp,∀o,h.get? b=some o->h'.get? b=some o)->tn i h'
 item:∀(X:Cx),X.prog=P->X.w=w->X.K=K->X.calm=true->∀(i:Nat) (aa:List (ε×Obj)) (s:η) (σ:St) (H:Hp) (E:δ->η->Prop),Inv X aa σ H s->(∀b∈fp,lG X aa H b)->tn i s.heap->J.go i H ->
  τ (χ P w) X.A (pyNext (.ref it)) (λr s1=>∃u,r=some u /\
   τ (χ P w) X.A (Cj tg (.ref it) u) (λ_ s2=>∃x H',Inv X aa σ H' s2/\RelV x u/\J.yld i H x H'/\tn (i+1) s2.heap/\∀b∈fp,H' b=none) E s1) E s
 done:∀(X:Cx),X.prog=P->X.w=w->X.K=K->X.calm=true->∀(i:Nat) (aa:List (ε×Obj)) (s:η) (σ:St) (H:Hp) (E:δ->η->Prop),Inv X aa σ H s->(∀b∈fp,lG X aa H b)->tn i s.heap->J.stop i H ->
  τ (χ P w) X.A (pyNext (.ref it)) (λr s1=>r=none/\Inv X aa σ H s1) E s
 self:∀(A:Around) (i:Nat) (s:η) (Q:δ->η->Prop) (E:δ->η->Prop),tn i s.heap->Q (.ref it) s->τ (χ P w) A (pyIter (.ref it)) Q E s
abbrev TI:=St->Hp->(It->Hp->Prop)->Prop
def PIE (X:Cx)(aa:List (ε×Obj))(σ:St)(tg:Δ)(R:It->Hp->Prop)(itv:δ)(s2:η):Prop :=
 ∃(it:ε) (fp:List ε) (tn:Nat->ω->Prop) (J:It) (H':Hp),itv=.ref it/\Inv X aa σ H' s2/\Turn X.prog X.w X.K tg J fp it tn/\tn 0 s2.heap/\(∀b∈fp,lG X aa H' b)/\R J H'
def PI (X:Cx)(tg iter:Δ)(wi:TI):Prop :=
 ∀(aa:List (ε×Obj)) (s:η) (σ:St) (H:Hp) (R:It->Hp->Prop),Inv X aa σ H s->wi σ H R ->
  τ (χ X.prog X.w) X.A (A5 iter X.env) (λv s1=>τ (χ X.prog X.w) X.A (pyIter v) (PIE X aa σ tg R) X.xe s1) X.xe s
theorem mQ {M:Model}{A:Around}{E:δ->η->Prop}{tg:Δ}{it:ε}{u:δ}{n:String}{Q:Unit->η->Prop}(ho:s.heap.get? it=some o)(hc:o.cls=.type n)(hd:o.data=.fields vs)(hn:["enumerate","zip","dict_itemiterator","dict_reverseitemiterator","odict_iterator","itertools.zip_longest","itertools.pairwise"].contains n=false)(hQ:Q () s):τ M A (Cj tg (.ref it) u) Q E s:=by
  unfold Cj;cases tg <;> first
    | exact υ hQ
    | (cases u <;> first
        | exact υ hQ
        | (refine θ (wpAny_load ho ?_)
           rw[hc,hd];show τ M A (if (["enumerate","zip","dict_itemiterator","dict_reverseitemiterator","odict_iterator","itertools.zip_longest","itertools.pairwise"].contains n&&vs[0]? == some (B6 _))=true then _ else _) Q E s;rw[if_neg (by intro h;rw[hn,D4] at h;cases h)];exact υ hQ))
noncomputable def Itl (K:γ)(a:ε):It :=
 ⟨λi H=>∃xs x,SqL K H a xs/\xs[i]? = some x,λi H x H'=>H'=H/\∀xs,SqL K H a xs->xs[i]? = some x,λi H=>∃xs,SqL K H a xs/\xs.length<=i⟩
noncomputable def Itt (K:γ)(a:ε):It :=
 ⟨λi H=>∃xs x,SqT K H a xs/\xs[i]? = some x,λi H x H'=>H'=H/\∀xs,SqT K H a xs->xs[i]? = some x,λi H=>∃xs,SqT K H a xs/\xs.length<=i⟩
noncomputable def Itr (lo:Int)(n:Nat):It:=⟨λi _=>i<n,λi H x H'=>H'=H/\x=.int (lo+i),λi _=>n<=i⟩
theorem pX {P:ρ}{w:Γ}{K:γ}{tg:Δ}(a it:ε):Turn P w K tg (Itl K a) [it] it (λi h=>h.IsListIter it a i) where
 mem:=by simp
 obj:=λi h st b hb=>by
  have e:b=it:=by simpa using hb
  subst e;obtain⟨o,e,c,d⟩:=st;exact⟨o,e,λv z=>by rw[d] at z;cases z⟩
 keep:=λi h h' st k=>st.at λo e=>k it 'C' o e
 item:=by intro X hP hw hK hc i aa s σ H E I hf st hg;subst hP hw hK;obtain⟨xs,x,hq,hx⟩:=hg;obtain⟨its,rv,p,hz⟩:=I.list hq;obtain⟨u,hu,ru⟩:=rv.get hx;obtain⟨f0,f1,f2,f3,f4,f5⟩:=hf it 'C';refine wpAny_pyNext_list_item st p.isList (x:=u) (by simpa using hu) λh' st' sb=>?_;have I1:Inv X aa σ H { s with heap:=h' }:=I.turned (t':=s.toks) (λb o hb e=>(sb.2 b hb).trans e) f0 f1 f3 f4 f5;obtain⟨o,e,c,d⟩:=id st';exact⟨u,rfl,mQ (s:={ s with heap:=h' }) e c d 'A' ⟨x,H,I1,ru,⟨rfl,λys hy=>by rw[I.list_inj hy hq];exact hx⟩,st',λb hb=>(hf b hb).1⟩⟩
 done:=by intro X hP hw hK hc i aa s σ H E I hf st hg;subst hP hw hK;obtain⟨xs,hq,hx⟩:=hg;obtain⟨its,rv,p,hz⟩:=I.list hq;obtain⟨f0,f1,f2,f3,f4,f5⟩:=hf it 'C';have hl:=rv.length;exact wpAny_pyNext_list_end (I.ok.hd hc) st p.isList (by simp;lia) λh' eb=>⟨rfl,I.turned (t':=s.toks) (λb o hb e=>eb b o hb e) f0 f1 f3 f4 f5⟩
 self:=λ_ _ _ _ _ st h=>wpAny_pyIter_listiter st h
theorem nB {P:ρ}{w:Γ}{K:γ}{tg:Δ}(a it:ε):Turn P w K tg (Itt K a) [it] it (λi h=>h.IsTupleIter it a i) where
 mem:=by simp
 obj:=λi h st b hb=>by
  have e:b=it:=by simpa using hb
  subst e;obtain⟨o,e,c,d⟩:=st;exact⟨o,e,λv z=>by rw[d] at z;cases z⟩
 keep:=λi h h' st k=>st.at λo e=>k it 'C' o e
 item:=by intro X hP hw hK hc i aa s σ H E I hf st hg;subst hP hw hK;obtain⟨xs,x,hq,hx⟩:=hg;obtain⟨its,rv,p,hz⟩:=I.tuple hq;obtain⟨u,hu,ru⟩:=rv.get hx;obtain⟨f0,f1,f2,f3,f4,f5⟩:=hf it 'C';refine wpAny_pyNext_tuple_item st (show s.heap.IsTuple a its.toArray from p) (x:=u) (by simpa using hu) λh' st' sb=>?_;have I1:Inv X aa σ H { s with heap:=h' }:=I.turned (t':=s.toks) (λb o hb e=>(sb.2 b hb).trans e) f0 f1 f3 f4 f5;obtain⟨o,e,c,d⟩:=id st';exact⟨u,rfl,mQ (s:={ s with heap:=h' }) e c d 'A' ⟨x,H,I1,ru,⟨rfl,λys hy=>by rw[I.tuple_inj hy hq];exact hx⟩,st',λb hb=>(hf b hb).1⟩⟩
 done:=by intro X hP hw hK hc i aa s σ H E I hf st hg;subst hP hw hK;obtain⟨xs,hq,hx⟩:=hg;obtain⟨its,rv,p,hz⟩:=I.tuple hq;obtain⟨f0,f1,f2,f3,f4,f5⟩:=hf it 'C';have hl:=rv.length;exact wpAny_pyNext_tuple_end (I.ok.hd hc) st (show s.heap.IsTuple a its.toArray from p) (by simp;lia) λh' eb=>⟨rfl,I.turned (t':=s.toks) (λb o hb e=>eb b o hb e) f0 f1 f3 f4 f5⟩
 self:=λ_ _ _ _ _ st h=>wpAny_pyIter_tupleiter st h
theorem nC {P:ρ}{w:Γ}{K:γ}{tg:Δ}(it:ε)(lo:Int)(n:Nat):Turn P w K tg (Itr lo n) [it] it (λi h=>CD h it (lo+(i:Nat)*1) ((n:Int)-(i:Nat)) 1) where
 mem:=by simp
 obj:=λi h st b hb=>by
  have e:b=it:=by simpa using hb
  subst e;exact⟨_,st,λv z=>by
   have z':Data.fields _=Data.cell v:=z;cases z'⟩
 keep:=λi h h' st k=>k it 'C' _ st
 item:=by intro X hP hw hK hc i aa s σ H E I hf st hg;subst hP hw hK;obtain⟨f0,f1,f2,f3,f4,f5⟩:=hf it 'C';have W:=Walks.range (prog:=X.prog) (w:=X.w) (I.ok.hd hc) it lo 1 n;refine W.item i s _ _ hg st λv h' tk hv st' kk=>?_;obtain⟨t,rfl⟩:=hv;have I1:Inv X aa σ H { s with heap:=h',toks:=tk }:=I.turned (λb o hb e=>kk b o (by simpa using hb) e) f0 f1 f3 f4 f5;refine⟨_,rfl,mQ (s:={ s with heap:=h',toks:=tk }) (n := "range_iterator") st' rfl rfl 'A' ⟨.int (lo+i),H,I1,⟨t,?_⟩,⟨rfl,rfl⟩,st',λb hb=>(hf b hb).1⟩⟩;rw[Int.mul_one]
 done:=by intro X hP hw hK hc i aa s σ H E I hf st hg;subst hP hw hK;obtain⟨f0,f1,f2,f3,f4,f5⟩:=hf it 'C';exact CF (I.ok.hd hc) st (by have:n<=i:=hg;lia) λh' eb=>⟨rfl,I.turned (t':=s.toks) (λb o hb e=>eb b o hb e) f0 f1 f3 f4 f5⟩
 self:=λ_ _ _ _ _ st h=>CG st h
section
variable {X:Cx}{tg:Δ}
def tO (K:γ)(tl:TE):TI:=λσ H R=>tl σ H λx H1=>∃a,x=.ref a/\(∃xs,SqL K H1 a xs)/\R (Itl K a) H1
def yB (K:γ)(tl:TE):TI:=λσ H R=>tl σ H λx H1=>∃a,x=.ref a/\(∃xs,SqT K H1 a xs)/\R (Itt K a) H1
theorem uU {tl:TE}(hl:PE X l tl):PI X tg l (tO X.K tl):=by
 intro aa s σ H R I h;refine thn (hl aa s σ H _ I h) λv s1 ⟨x,H1,I1,r1,q1⟩=>?_;obtain⟨a,e,⟨xs,hq⟩,q⟩:=q1;subst e;cases r1;obtain⟨its,rv,p,hz⟩:=I1.list hq;refine wpAny_pyIter_list p.isList ?_;refine⟨s1.heap.objs.size,[s1.heap.objs.size],_,_,H1,rfl,I1.kept (t':=s1.toks) λb o e=>μ _ e,pX a _,⟨_,A9 _ rfl,rfl,rfl⟩,λb hb=>?_,q⟩;have e:b=s1.heap.objs.size:=by simpa using hb
 subst e;exact I1.fpOk (ο _) (I1.hok.fresh (ο _))
theorem nG {tl:TE}(hl:PE X l tl):PI X tg l (yB X.K tl):=by
 intro aa s σ H R I h;refine thn (hl aa s σ H _ I h) λv s1 ⟨x,H1,I1,r1,q1⟩=>?_;obtain⟨a,e,⟨xs,hq⟩,q⟩:=q1;subst e;cases r1;obtain⟨its,rv,p,hz⟩:=I1.tuple hq;refine wpAny_pyIter_tuple (show s1.heap.IsTuple a its.toArray from p) ?_;refine⟨s1.heap.objs.size,[s1.heap.objs.size],_,_,H1,rfl,I1.kept (t':=s1.toks) λb o e=>μ _ e,nB a _,⟨_,A9 _ rfl,rfl,rfl⟩,λb hb=>?_,q⟩;have e:b=s1.heap.objs.size:=by simpa using hb
 subst e;exact I1.fpOk (ο _) (I1.hok.fresh (ο _))
theorem rY {σ:St}{H:Hp}{R:It->Hp->Prop}{E:δ->η->Prop}{lo:Int}{t u v:Tok}{tk:Nat}(I:Inv X aa σ H s)(h1 : -(2^62)<=lo)(h2:lo<2^62)(h3 : -(2^62)<=hi)(h4:hi<2^62)(q:R (Itr lo (hi-lo).toNat) H):τ (χ X.prog X.w) X.A (pyIter (.ref s.heap.objs.size)) (PIE X aa σ tg R) E { s with heap:=s.heap.push { cls:=.type "range",data:=.fields #[.int lo t,.int hi u,.int 1 v] },toks:=tk }:=by
 refine DB (IsRange.new ..) (small_one h1 h2 h3 h4) ?_;have I1:Inv X aa σ H { s with heap:=s.heap.push { cls:=.type "range",data:=.fields #[.int lo t,.int hi u,.int 1 v] },toks:=tk }:=I.kept λb o e=>μ _ e;refine⟨(s.heap.push { cls:=.type "range",data:=.fields #[.int lo t,.int hi u,.int 1 v] }).objs.size,[(s.heap.push { cls:=.type "range",data:=.fields #[.int lo t,.int hi u,.int 1 v] }).objs.size],_,_,H,rfl,
  I1.kept (t':=tk) λb o e=>μ _ e,nC _ lo (hi-lo).toNat,?_,λb hb=>?_,q⟩
 ·have e1:lo+((0:Nat):Int)*1=lo:=by simp
  have e2:(((hi-lo).toNat:Nat):Int)-((0:Nat):Int)=AZ lo hi 1:=by rw[rangeSize_one];split <;> lia
  show CD _ _ (lo+((0:Nat):Int)*1) ((((hi-lo).toNat:Nat):Int)-((0:Nat):Int)) 1;rw[e1,e2];exact A9 _ rfl
 ·have e:b=(s.heap.push { cls:=.type "range",data:=.fields #[.int lo t,.int hi u,.int 1 v] }).objs.size:=by simpa using hb
  subst e;exact I1.fpOk (ο _) (I1.hok.fresh (ο _))
def tN (ta:TA):TI:=λσ H R=>ta σ H λvs H1=>∃j:Int,vs=[.int j] /\ -(2^62)<=j/\j<2^62/\R (Itr 0 j.toNat) H1
theorem eP {a:Δ}{ta:TA}{p:Pos}(hg:Gl X "range")(hm:X.mg "range" = none)(ha:PA X [a] ta)(hs:autoParam (Θ [a] X.env=[(false,A5 a X.env)]) L2.au3._auto_1):PI X tg (.Call (.Name "range" p) [a] [] pos) (tN ta):=by
 intro aa s σ H R I h;refine Call_ (eU I hg hm boot_range (B7 (thn (ha pos aa s σ H _ I h) λus s1 ⟨vs,H1,I1,r1,q1⟩=>?_) hs rfl));obtain⟨j,e,q1,q2,q⟩:=q1;subst e;cases r1 with
 | cons r rr =>
  cases rr;obtain⟨t,rfl⟩:=r;exact call_range_1 (rY I1 'B' 'B' q1 q2 (by simpa using q))
def lN (wi:TI)(g:TG)(tb:TS):TS:=λD σ H=>wi σ H λJ H1=>∃W:Nat->Nat->St->Hp->Prop,(∃m,W 0 m σ H1)/\∀i m σ H,W i m σ H ->
 (J.stop i H/\D.nx σ H)\/(J.go i H/\∃N:St->Hp->Prop,(∀ σ' H',N σ' H'->∃m',m'<m/\W (i+1) m' σ' H')/\∀x H',J.yld i H x H'->g x σ H' λσ2 H2=>tb { D with nx:=N,ct:=N,bk:=D.nx } σ2 H2)
noncomputable def kC (fp:List ε)(h:ω):List (ε×Obj):=fp.filterMap λb=>(h.get? b).map λo=>(b,o)
theorem cR {h:ω}(hb:b∈fp)(e:h.get? b=some o):(b,o)∈kC fp h:=Bt.mpr ⟨b,hb,by rw[e];rfl⟩
theorem qJ {h:ω}{p:ε×Obj}(hp:p∈kC fp h):p.1∈fp/\h.get? p.1=some p.2:=by
 obtain⟨b,hb,e⟩:=Bt.mp hp;cases q:h.get? b with
 | none=>rw[q] at e;cases e
 | some o =>
  rw[q] at e;have e':(b,o)=p:=AA e;subst e';exact⟨hb,q⟩
theorem Inv.pinned {σ:St}{H:Hp}(I:Inv X aa σ H s)(hf:∀b∈fp,lG X aa H b)(ho:∀b∈fp,∃o,s.heap.get? b=some o/\∀v,o.data ≠ .cell v):Inv X (aa++kC fp s.heap) σ H s :=
 I.pins_of λp hp=>(Af.mp hp).elim (λz=>I.pin p (A2 _ z)) λz=>by obtain⟨hb,e⟩:=qJ z;obtain⟨f0,f1,f2,_⟩:=hf p.1 hb;obtain⟨o,e',d⟩:=ho p.1 hb;rw[e] at e';cases e';exact⟨e,f0,f1,f2,d⟩
theorem Inv.unpinned {pl:List (ε×Obj)}{σ:St}{H:Hp}(I:Inv X (aa++pl) σ H s):Inv X aa σ H s:=I.pins_of λp hp=>I.pin p (A2 _ (Bb _ hp))
theorem f6 {body:List AD}{wi:TI}{g:TG}{tb:TS}(hp:PassesOwn (χ X.prog X.w) X.A X.env X.xe)(hc:X.calm=true)(hi:PI X tg iter wi)(hg:PG X tg g)(hb:PSs X body tb)(hs:autoParam (∀x,Ao iter X.env x=pure x) L2.au2._auto_1):PS X (.For tg iter body [] pos) (lN wi g tb):=by
 intro aa s σ H D I h;refine wpAny_For (thn (hi aa s σ H _ I h) λv s1 h1=>thn h1 λitv s2 h2=>?_) hs;obtain⟨it,fp,tn,J,H2,e,I2,T,st2,f2,W,⟨m0,w0⟩,turn⟩:=h2;subst e;have stat:∀ {H':Hp},(∀b∈fp,H' b=none)->∀b∈fp,lG X aa H' b:=λhn b hb=>⟨hn b hb,(f2 b hb).2⟩;refine codeAny_forLoop_any (λn s'=>∃i σ' H',Inv X aa σ' H' s'/\tn i s'.heap/\(∀b∈fp,H' b=none)/\W i n σ' H') ?_ m0 ⟨0,σ,H2,I2,st2,λb hb=>(f2 b hb).1,w0⟩
 rintro n s3 ⟨i,σ3,H3,I3,st3,fr3,w3⟩
 rcases turn i n σ3 H3 w3 with ⟨stop,qn⟩ | ⟨go,N,hN,step⟩
 ·refine BA hp (thn (T.done X rfl rfl rfl hc i aa s3 σ3 H3 X.xe I3 (stat fr3) st3 stop) λr s4 ⟨hr,I4⟩=>?_);subst hr;exact Ch ⟨σ3,H3,I4,qn⟩
 ·refine BA hp (thn (T.item X rfl rfl rfl hc i aa s3 σ3 H3 X.xe I3 (stat fr3) st3 go) λr s4 ⟨u,hr,h4⟩=>?_);subst hr;refine BA hp (thn h4 λ_ s5 ⟨x,H5,I5,r5,y5,st5,fr5⟩=>?_);have I5':=I5.pinned (stat fr5) (T.obj _ _ st5);refine BA hp (thn (hg _ s5 σ3 H5 x u _ I5' r5 (step x H5 y5)) λ_ s6 ⟨σ6,H6,I6,q6⟩=>?_);refine BA hp (thn (hb _ s6 σ6 H6 _ I6 q6) λf s7 q7=>?_);have again:∀ {σ7:St} {H7:Hp},Inv X (aa++kC fp s5.heap) σ7 H7 s7->N σ7 H7->∃m,m<n/\∃i σ' H',Inv X aa σ' H' s7/\tn i s7.heap/\(∀b∈fp,H' b=none)/\W i m σ' H':=λ{σ7 H7} I7 n7=>by
   obtain⟨m',hm,w7⟩:=hN σ7 H7 n7;refine⟨m',hm,i+1,σ7,H7,I7.unpinned,T.keep _ _ _ st5 λb hb o e=>(I7.pin (b,o) (A2 _ (A2 _ (cR hb e)))).1,λb hb=>?_,w7⟩;obtain⟨o,e,d⟩:=T.obj _ _ st5 b hb;exact(I7.pin (b,o) (A2 _ (A2 _ (cR hb e)))).2.1
  cases f with
  | next=>obtain⟨σ7,H7,I7,n7⟩:=q7;exact again I7 n7
  | cont=>obtain⟨σ7,H7,I7,n7⟩:=q7;exact again I7 n7
  | brk=>obtain⟨σ7,H7,I7,q7⟩:=q7;exact⟨σ7,H7,I7.unpinned,q7⟩
  | ret v=>obtain⟨x7,σ7,H7,I7,r7,q7⟩:=q7;exact⟨x7,σ7,H7,I7.unpinned,r7,q7⟩
end
theorem kZ {K:γ}{a:ε}{xs:List V}{g:TG}{tb:TS}{D:Ends}{σ:St}{H:Hp}(Pv:Nat->St->Hp->Prop)(h0:Pv 0 σ H)(hl:∀i σ H,i<=xs.length->Pv i σ H->SqT K H a xs)(hs:∀i x σ H,xs[i]? = some x->Pv i σ H->g x σ H λσ2 H2=>tb { D with nx:=Pv (i+1),ct:=Pv (i+1),bk:=D.nx } σ2 H2)(hd:∀ σ H,Pv xs.length σ H->D.nx σ H) :
  ∃W:Nat->Nat->St->Hp->Prop,(∃m,W 0 m σ H)/\∀i m σ H,W i m σ H ->
   ((Itt K a).stop i H/\D.nx σ H)\/((Itt K a).go i H/\∃N:St->Hp->Prop,(∀ σ' H',N σ' H'->∃m',m'<m/\W (i+1) m' σ' H')/\∀x H',(Itt K a).yld i H x H'->g x σ H' λσ2 H2=>tb { D with nx:=N,ct:=N,bk:=D.nx } σ2 H2):=by
 refine⟨λi m σ H=>m=xs.length-i/\i<=xs.length/\Pv i σ H,⟨xs.length,by simp,AY _,h0⟩,?_⟩
 rintro i m σ H ⟨rfl,hi,p⟩
 have q:=hl i σ H hi p;by_cases hlt:i<xs.length
 ·refine .inr ⟨⟨xs,xs[i],q,by simp[hlt]⟩,Pv (i+1),λσ' H' p'=>⟨xs.length-(i+1),by lia,rfl,hlt,p'⟩,λx H' y=>?_⟩;obtain⟨e,y⟩:=y;subst e;exact hs i x σ _ (y xs q) p
 ·have e:i=xs.length:=by lia
  subst e;exact .inl ⟨⟨xs,q,ο _⟩,hd σ H p⟩
theorem jL {lo:Int}{n:Nat}{g:TG}{tb:TS}{D:Ends}{σ:St}{H:Hp}(Pv:Nat->St->Hp->Prop)(h0:Pv 0 σ H)(hs:∀i σ H,i<n->Pv i σ H->g (.int (lo+i)) σ H λσ2 H2=>tb { D with nx:=Pv (i+1),ct:=Pv (i+1),bk:=D.nx } σ2 H2)(hd:∀ σ H,Pv n σ H->D.nx σ H) :
  ∃W:Nat->Nat->St->Hp->Prop,(∃m,W 0 m σ H)/\∀i m σ H,W i m σ H ->
   ((Itr lo n).stop i H/\D.nx σ H)\/((Itr lo n).go i H/\∃N:St->Hp->Prop,(∀ σ' H',N σ' H'->∃m',m'<m/\W (i+1) m' σ' H')/\∀x H',(Itr lo n).yld i H x H'->g x σ H' λσ2 H2=>tb { D with nx:=N,ct:=N,bk:=D.nx } σ2 H2):=by
 refine⟨λi m σ H=>m=n-i/\i<=n/\Pv i σ H,⟨n,by simp,AY _,h0⟩,?_⟩
 rintro i m σ H ⟨rfl,hi,p⟩
 by_cases hlt:i<n
 ·refine .inr ⟨hlt,Pv (i+1),λσ' H' p'=>⟨n-(i+1),by lia,rfl,hlt,p'⟩,λx H' y=>?_⟩;obtain⟨e,y⟩:=y;subst e y;exact hs i σ _ hlt p
 ·have e:i=n:=by lia
  subst e;exact .inl ⟨ο _,hd σ H p⟩
abbrev R2:=V->V->Hp->VK->Prop
def OpR (X:Cx)(f:δ->δ->Sem δ)(r:R2):Prop :=
 ∀(aa:List (ε×Obj)) (s:η) (σ:St) (H:Hp) (x y:V) (v u:δ) (Q:VK),Inv X aa σ H s->RelV x v->RelV y u->r x y H Q ->
  τ (χ X.prog X.w) X.A (f v u) (EP X aa σ Q) X.xe s
def UnR (X:Cx)(f:δ->Sem δ)(r:V->Hp->VK->Prop):Prop :=
 ∀(aa:List (ε×Obj)) (s:η) (σ:St) (H:Hp) (x:V) (v:δ) (Q:VK),Inv X aa σ H s->RelV x v->r x H Q ->
  τ (χ X.prog X.w) X.A (f v) (EP X aa σ Q) X.xe s
def bY (X:Cx)(f:δ)(r:List V->Hp->VK->Prop):Prop :=
 ∀(aa:List (ε×Obj)) (s:η) (σ:St) (H:Hp) (xs:List V) (us:List δ) (Q:VK),Inv X aa σ H s->Vals xs us->r xs H Q ->
  τ (χ X.prog X.w) X.A (call f us) (EP X aa σ Q) X.xe s
def tOp (r:R2)(ta tb:TE):TE:=λσ H Q=>ta σ H λx H1=>tb σ H1 λy H2=>r x y H2 Q
def tUn (r:V->Hp->VK->Prop)(ta:TE):TE:=λσ H Q=>ta σ H λx H1=>r x H1 Q
def rI (C:Int->Int->Prop)(g:Int->Int->V):R2:=λx y H Q=>mI x λi=>mI y λj=>C i j/\Q (g i j) H
def rI0 (g:Int->Int->V):R2:=λx y H Q=>mI x λi=>mI y λj=>Q (g i j) H
def rU (g:Int->V):V->Hp->VK->Prop:=λx H Q=>mI x λi=>Q (g i) H
section
variable {X:Cx}{a b c:Δ}{ta tb tc:TE}{pos:Pos}
theorem yI (ha:PE X a ta)(hb:PE X b tb){σ:St}{H:Hp}{R:V->V->Hp->Prop}(I:Inv X aa σ H s)(h:ta σ H λx H1=>tb σ H1 λy H2=>R x y H2){f:δ->δ->Sem δ}(hf:∀v u s2 x y H2,Inv X aa σ H2 s2->RelV x v->RelV y u->R x y H2->τ (χ X.prog X.w) X.A (f v u) Q X.xe s2) :
  τ (χ X.prog X.w) X.A (A5 a X.env) (λv s₁=>τ (χ X.prog X.w) X.A (A5 b X.env) (λu s₂=>τ (χ X.prog X.w) X.A (f v u) Q X.xe s₂) X.xe s₁) X.xe s:=by
 refine thn (ha aa s σ H _ I h) λv s1 ⟨x,H1,I1,r1,q1⟩=>?_;refine thn (hb aa s1 σ H1 _ I1 q1) λu s2 ⟨y,H2,I2,r2,q2⟩=>?_;exact hf v u s2 x y H2 I2 r1 r2 q2
theorem aN {op:Operator}{r:R2}(ho:OpR X (B0 op) r)(ha:PE X a ta)(hb:PE X b tb):PE X (.BinOp a op b pos) (tOp r ta tb):=by intro aa s σ H Q I h;exact wpAny_BinOp (yI ha hb I h λv u s2 x y H2 I2 rx ry q=>ho aa s2 σ H2 x y v u Q I2 rx ry q)
theorem y4 {op:UnaryOp}{r:V->Hp->VK->Prop}(ho:UnR X (unaryOp op) r)(ha:PE X a ta):PE X (.UnaryOp op a pos) (tUn r ta):=by intro aa s σ H Q I h;exact UnaryOp_ (thn (ha aa s σ H _ I h) λv s1 ⟨x,H1,I1,r1,q1⟩=>ho aa s1 σ H1 x v Q I1 r1 q1)
theorem opI {f:δ->δ->Sem δ}{C:Int->Int->Prop}{g:Int->Int->Int}(rule:∀(i j:Int) (t u:Tok) (s:η) (Q:δ->η->Prop) (E:δ->η->Prop),C i j->Q (.int (g i j) s.toks) { s with toks:=s.toks+1 }->τ (χ X.prog X.w) X.A (f (.int i t) (.int j u)) Q E s) :
  OpR X f (rI C λi j=>.int (g i j)):=by
 intro aa s σ H x y v u Q I rx ry h;obtain⟨i,j,rfl,rfl,hc,q⟩:=mI2 h;obtain⟨t,rfl⟩:=rx;obtain⟨t',rfl⟩:=ry;exact rule i j t t' s _ _ hc ⟨.int (g i j),H,I.tok _,⟨_,rfl⟩,q⟩
theorem y8 {f:δ->δ->Sem δ}{g:Int->Int->Int}(rule:∀(i j:Int) (t u:Tok) (s:η) (Q:δ->η->Prop) (E:δ->η->Prop),Q (.int (g i j) s.toks) { s with toks:=s.toks+1 }->τ (χ X.prog X.w) X.A (f (.int i t) (.int j u)) Q E s) :
  OpR X f (rI0 λi j=>.int (g i j)):=by
 intro aa s σ H x y v u Q I rx ry h;obtain⟨i,j,rfl,rfl,q⟩:=mI2 h;obtain⟨t,rfl⟩:=rx;obtain⟨t',rfl⟩:=ry;exact rule i j t t' s _ _ ⟨.int (g i j),H,I.tok _,⟨_,rfl⟩,q⟩
theorem xV {f:δ->δ->Sem δ}{g:Int->Int->Bool}(rule:∀(i j:Int) (t u:Tok) (s:η) (Q:δ->η->Prop) (E:δ->η->Prop),Q (.bool (g i j)) s->τ (χ X.prog X.w) X.A (f (.int i t) (.int j u)) Q E s) :
  OpR X f (rI0 λi j=>.bl (g i j)):=by
 intro aa s σ H x y v u Q I rx ry h;obtain⟨i,j,rfl,rfl,q⟩:=mI2 h;obtain⟨t,rfl⟩:=rx;obtain⟨t',rfl⟩:=ry;exact rule i j t t' s _ _ ⟨.bl (g i j),H,I,rfl,q⟩
def zP (i j:Int):Prop:=0<=j/\j<=1000000/\i.natAbs<2^64
def CMul (i j:Int):Prop:=(-(2^64)<i/\i<2^64)\/(-(2^64)<j/\j<2^64)
theorem CMul.ok {i j:Int}(h:CMul i j):IntMulOk i j:=by
 rcases h with ⟨h1,h2⟩ | ⟨h1,h2⟩
 ·exact .of_left (intBits_le_64 h1 h2)
 ·exact .of_right (intBits_le_64 h1 h2)
theorem bR:OpR X (B0 .Add) (rI0 λi j=>.int (i+j)):=y8 λ_ _ _ _ _ _ _ q=>add_int q
theorem eS:OpR X (B0 .Sub) (rI0 λi j=>.int (i-j)):=y8 λ_ _ _ _ _ _ _ q=>sub_int q
theorem aZ:OpR X (B0 .Mod) (rI (λ_ j=>0<j) λi j=>.int (i%j)):=opI λi j _ _ _ _ _ hc q=>by have h1:(0:Int)<j:=hc;exact mod_int' 'B' (by rw[Int.fmod_eq_emod_of_nonneg i 'B'];exact q)
theorem sS:OpR X (B0 .Pow) (rI zP λi j=>.int (i^j.toNat)):=opI λ_ _ _ _ _ _ _ hc q=>pow_int_small hc.1 hc.2.1 hc.2.2 q
theorem unI {f:δ->Sem δ}{g:Int->Int}(rule:∀(i:Int) (t:Tok) (s:η) (Q:δ->η->Prop) (E:δ->η->Prop),Q (.int (g i) s.toks) { s with toks:=s.toks+1 }->τ (χ X.prog X.w) X.A (f (.int i t)) Q E s) :
  UnR X f (rU λi=>.int (g i)):=by
 intro aa s σ H x v Q I rx h;obtain⟨i,rfl,q⟩:=tE h;obtain⟨t,rfl⟩:=rx;exact rule i t s _ _ ⟨.int (g i),H,I.tok _,⟨_,rfl⟩,q⟩
theorem rH:UnR X (unaryOp .USub) (rU λi=>.int (-i)):=unI λ_ _ _ _ _ q=>neg_int q
end
noncomputable def scal:V->V->Bool
 | .non,.non=>true | .non,.int _=>true | .int _,.non=>true | .non,.bl _=>true | .bl _,.non=>true | .non,.str _=>true | .str _,.non=>true
 | .int _,.int _=>true | .bl _,.bl _=>true | .str _,.str _=>true | .byt _,.byt _=>true
 | .int _,.str _=>true | .str _,.int _=>true | .bl _,.str _=>true | .str _,.bl _=>true
 | _,_=>false
def rEq:R2:=λx y H Q=>mT (scal x y) (Q (.bl (decide (x=y))) H)
def rNe:R2:=λx y H Q=>mT (scal x y) (Q (.bl (!decide (x=y))) H)
theorem pO {i j:Int}:decide (V.int i=V.int j)=(i==j):=by rw[Ck];simp
theorem tX {i j:Bool}:decide (V.bl i=V.bl j)=(i==j):=by rw[Ck];simp
theorem pN {i j:Str}:decide (V.str i=V.str j)=(i==j):=by rw[Ck];simp
theorem pP {i j:Array UInt8}:decide (V.byt i=V.byt j)=(i.toList==j.toList):=by rw[Ck];cases i;cases j;simp
section
variable {X:Cx}{a b c:Δ}{ta tb tc:TE}{pos:Pos}
theorem aT {σ:St}{H:Hp}{Q:VK}{k k':Bool}(I:Inv X aa σ H s)(q:Q (.bl k) H)(e:k=k'):EP X aa σ Q (.bool k') s:=by subst e;exact⟨.bl k,H,I,rfl,q⟩
theorem op_eq:OpR X (Aq .Eq) rEq:=by
 intro aa s σ H x y v u Q I rx ry h;obtain⟨hs,q⟩:=wN h;cases x with
 | non =>
  cases rx;cases y with
  | non=>cases ry;exact PySem.EqNone.eq_none_none (aT I q 'C')
  | bl j=>cases ry;exact PySem.EqNone.eq_none_bool (aT I q 'C')
  | int j=>obtain⟨t',rfl⟩:=ry;exact PySem.EqNone.eq_none_int (aT I q 'C')
  | str j=>obtain⟨t',rfl⟩:=ry;exact PySem.EqNone.eq_none_str (aT I q 'C')
  | _=>exact absurd (show false=true from hs) Λ
 | bl i =>
  cases rx;cases y with
  | non=>cases ry;exact PySem.EqNone.eq_bool_none (aT I q 'C')
  | bl j=>cases ry;exact eq_bool (aT I q tX)
  | str j=>obtain⟨t',rfl⟩:=ry;exact PySem.EqMixed.eq_bool_str (aT I q 'C')
  | _=>exact absurd (show false=true from hs) Λ
 | int i =>
  obtain⟨t,rfl⟩:=rx;cases y with
  | non=>cases ry;exact PySem.EqNone.eq_int_none (aT I q 'C')
  | int j=>obtain⟨t',rfl⟩:=ry;exact eq_int (aT I q pO)
  | str j=>obtain⟨t',rfl⟩:=ry;exact PySem.EqMixed.eq_int_str (aT I q 'C')
  | _=>exact absurd (show false=true from hs) Λ
 | str i =>
  obtain⟨t,rfl⟩:=rx;cases y with
  | non=>cases ry;exact PySem.EqNone.eq_str_none (aT I q 'C')
  | bl j=>cases ry;exact PySem.EqMixed.eq_str_bool (aT I q 'C')
  | int j=>obtain⟨t',rfl⟩:=ry;exact PySem.EqMixed.eq_str_int (aT I q 'C')
  | str j=>obtain⟨t',rfl⟩:=ry;exact eq_str (aT I q pN)
  | _=>exact absurd (show false=true from hs) Λ
 | byt i =>
  obtain⟨t,rfl⟩:=rx;cases y with
  | byt j=>obtain⟨t',rfl⟩:=ry;exact PySem.W.eq_bytes (aT I q pP)
  | _=>exact absurd (show false=true from hs) Λ
 | _=>cases y <;> exact absurd (show false=true from hs) Λ
theorem jA:OpR X (Aq .NotEq) rNe:=by
 intro aa s σ H x y v u Q I rx ry h;obtain⟨hs,q⟩:=wN h;cases x with
 | non =>
  cases rx;cases y with
  | non=>cases ry;exact PySem.EqNone.ne_none_none (aT I q 'C')
  | bl j=>cases ry;exact PySem.EqNone.ne_none_bool (aT I q 'C')
  | int j=>obtain⟨t',rfl⟩:=ry;exact PySem.EqNone.ne_none_int (aT I q 'C')
  | str j=>obtain⟨t',rfl⟩:=ry;exact PySem.EqNone.ne_none_str (aT I q 'C')
  | _=>exact absurd (show false=true from hs) Λ
 | bl i =>
  cases rx;cases y with
  | non=>cases ry;exact PySem.EqNone.ne_bool_none (aT I q 'C')
  | bl j=>cases ry;exact ne_bool (aT I q (congrArg not tX))
  | str j=>obtain⟨t',rfl⟩:=ry;exact PySem.EqMixed.ne_bool_str (aT I q 'C')
  | _=>exact absurd (show false=true from hs) Λ
 | int i =>
  obtain⟨t,rfl⟩:=rx;cases y with
  | non=>cases ry;exact PySem.EqNone.ne_int_none (aT I q 'C')
  | int j=>obtain⟨t',rfl⟩:=ry;exact ne_int (aT I q (congrArg not pO))
  | str j=>obtain⟨t',rfl⟩:=ry;exact PySem.EqMixed.ne_int_str (aT I q 'C')
  | _=>exact absurd (show false=true from hs) Λ
 | str i =>
  obtain⟨t,rfl⟩:=rx;cases y with
  | non=>cases ry;exact PySem.EqNone.ne_str_none (aT I q 'C')
  | bl j=>cases ry;exact PySem.EqMixed.ne_str_bool (aT I q 'C')
  | int j=>obtain⟨t',rfl⟩:=ry;exact PySem.EqMixed.ne_str_int (aT I q 'C')
  | str j=>obtain⟨t',rfl⟩:=ry;exact ne_str (aT I q (congrArg not pN))
  | _=>exact absurd (show false=true from hs) Λ
 | byt i =>
  obtain⟨t,rfl⟩:=rx;cases y with
  | byt j=>obtain⟨t',rfl⟩:=ry;exact PySem.W.ne_bytes (aT I q (congrArg not pP))
  | _=>exact absurd (show false=true from hs) Λ
 | _=>cases y <;> exact absurd (show false=true from hs) Λ
theorem y6:OpR X (Aq .Lt) (rI0 λi j=>.bl (decide (i<j))):=xV λ_ _ _ _ _ _ _ q=>lt_int q
theorem jB:OpR X (Aq .LtE) (rI0 λi j=>.bl (decide (i<=j))):=xV λ_ _ _ _ _ _ _ q=>le_int q
theorem oZ:OpR X (Aq .Gt) (rI0 λi j=>.bl (decide (j<i))):=xV λ_ _ _ _ _ _ _ q=>gt_int q
theorem nomark (b:Δ){op:CmpOp}(h:autoParam (op ≠ .In) L2.au1._auto_1)(h2:autoParam (op ≠ .NotIn) L2.au1._auto_1):Bf op b=false:=by
 have e1:(op==CmpOp.In)=false:=by cases op <;> first | rfl | exact absurd rfl h
 have e2:(op==CmpOp.NotIn)=false:=by cases op <;> first | rfl | exact absurd rfl h2
 cases b <;> simp[Bf,e1,e2]
theorem dU {op:CmpOp}{r:R2}(ho:OpR X (Aq op) r)(ha:PE X a ta)(hb:PE X b tb)(hm:Bf op b=false):PE X (.Compare a [op] [b] pos) (tOp r ta tb):=by intro aa s σ H Q I h;exact wpAny_Compare1 (yI ha hb I h λv u s2 x y H2 I2 rx ry q=>ho aa s2 σ H2 x y v u Q I2 rx ry q) hm
def fR (t:TE):TT:=λσ H Q=>t σ H λx H'=>mB x λk=>Q k H'
theorem bE {op:CmpOp}{r:R2}(ho:OpR X (Aq op) r)(ha:PE X a ta)(hb:PE X b tb)(hm:Bf op b=false):PT X (.Compare a [op] [b] pos) (fR (tOp r ta tb)):=by
 intro aa s σ H Q I h;refine wpAny_isTrue_Compare1 (thn (ha aa s σ H _ I h) λv s1 ⟨x,H1,I1,r1,q1⟩=>thn (hb aa s1 σ H1 _ I1 q1) λu s2 ⟨y,H2,I2,r2,q2⟩ =>
  thn (ho aa s2 σ H2 x y v u _ I2 r1 r2 q2) λc s3 ⟨z,H3,I3,r3,q3⟩=>?_) hm
 obtain⟨k,e,q3⟩:=gG q3;subst e;cases r3;exact Ay ⟨H3,I3,q3⟩
def eJ (r r':R2)(ta tb tc:TE):TE:=λσ H Q=>ta σ H λx H1=>tb σ H1 λy H2=>r x y H2 λz H3=>mB z λk =>
 (if k=true then tc σ H3 λw' H4=>r' y w' H4 Q else Q (.bl false) H3)
theorem sO {op op':CmpOp}{r r':R2}(ho:OpR X (Aq op) r)(ho':OpR X (Aq op') r')(ha:PE X a ta)(hb:PE X b tb)(hc:PE X c tc)(hm:autoParam (lastMarks [op,op'] [b,c]=false) L2.au4._auto_1):PE X (.Compare a [op,op'] [b,c] pos) (eJ r r' ta tb tc):=by
 intro aa s σ H Q I h;refine Compare_chain (thn (ha aa s σ H _ I h) λv s1 ⟨x,H1,I1,r1,q1⟩=>chain_link (thn (hb aa s1 σ H1 _ I1 q1) λu s2 ⟨y,H2,I2,r2,q2⟩ =>
  thn (ho aa s2 σ H2 x y v u _ I2 r1 r2 q2) λd s3 ⟨z,H3,I3,r3,q3⟩=>?_)) hm
 obtain⟨k,e,q3⟩:=gG q3;subst e;cases r3;refine Ay ?_;cases k with
 | false=>exact ite_ff ⟨.bl false,H3,I3,rfl,q3⟩
 | true=>exact ite_tt (chain_last (thn (hc aa s3 σ H3 _ I3 q3) λw' s4 ⟨z',H4,I4,r4,q4⟩=>ho' aa s4 σ H4 y z' u w' Q I4 r2 r4 q4))
theorem sE {op op':CmpOp}{r r':R2}(ho:OpR X (Aq op) r)(ho':OpR X (Aq op') r')(ha:PE X a ta)(hb:PE X b tb)(hc:PE X c tc)(hm:autoParam (lastMarks [op,op'] [b,c]=false) L2.au4._auto_1):PT X (.Compare a [op,op'] [b,c] pos) (fR (eJ r r' ta tb tc)):=by
 intro aa s σ H Q I h;refine isTrue_chain (thn (ha aa s σ H _ I h) λv s1 ⟨x,H1,I1,r1,q1⟩=>test_link (thn (hb aa s1 σ H1 _ I1 q1) λu s2 ⟨y,H2,I2,r2,q2⟩ =>
  thn (ho aa s2 σ H2 x y v u _ I2 r1 r2 q2) λd s3 ⟨z,H3,I3,r3,q3⟩=>?_)) hm
 obtain⟨k,e,q3⟩:=gG q3;subst e;cases r3;refine Ay ?_;cases k with
 | false =>
  exact ite_ff ⟨H3,I3,q3⟩
 | true =>
  refine ite_tt (test_last (thn (hc aa s3 σ H3 _ I3 q3) λw' s4 ⟨z',H4,I4,r4,q4⟩=>thn (ho' aa s4 σ H4 y z' u w' _ I4 r2 r4 q4) λd' s5 ⟨z2,H5,I5,r5,q5⟩=>?_));obtain⟨k2,e2,q5⟩:=gG q5;subst e2;cases r5;exact Ay ⟨H5,I5,q5⟩
theorem nU:(ψ:Nat)<2^63:=by rw[BX];decide
theorem lH {x:V}(r:Vals [x] us):∃u,us=[u]/\RelV x u:=by
 cases r with
 | cons r1 r2=>cases r2;exact⟨_,rfl,r1⟩
theorem iO {x y:V}(r:Vals [x,y] us):∃u w',us=[u,w']/\RelV x u/\RelV y w':=by
 cases r with
 | cons r1 r2 =>
  cases r2 with
  | cons r3 r4=>cases r4;exact⟨_,_,rfl,r1,r3⟩
theorem jO (hc:X.calm=true):bY X (.builtin "max") (λxs H Q=>∃i j,xs=[.int i,.int j]/\Q (.int (if j>i then j else i)) H):=by
 intro aa s σ H xs us Q I r h;obtain⟨i,j,rfl,q⟩:=h;obtain⟨u,w',rfl,⟨t,rfl⟩,⟨t',rfl⟩⟩:=iO r;refine max_two_ints (I.ok.hd hc) λh' tk k=>⟨_,H,I.kept k,?_,q⟩;by_cases hj:j>i
 ·rw[if_pos hj,if_pos hj];exact⟨_,rfl⟩
 ·rw[if_neg hj,if_neg hj];exact⟨_,rfl⟩
theorem qZ (hc:X.calm=true):bY X (.builtin "min") (λxs H Q=>∃i j,xs=[.int i,.int j]/\Q (.int (if j<i then j else i)) H):=by
 intro aa s σ H xs us Q I r h;obtain⟨i,j,rfl,q⟩:=h;obtain⟨u,w',rfl,⟨t,rfl⟩,⟨t',rfl⟩⟩:=iO r;refine min_two_ints (I.ok.hd hc) λh' tk k=>⟨_,H,I.kept k,?_,q⟩;by_cases hj:j<i
 ·rw[if_pos hj,if_pos hj];exact⟨_,rfl⟩
 ·rw[if_neg hj,if_neg hj];exact⟨_,rfl⟩
end
structure ObjM (h:ω)(x dx C:ε)(mA:Str->Option δ):Prop where
 obj:h.get? x=some (Dl C dx)
 ns:h.Ns1 dx mA
 ne:dx≠x
theorem jF {h:ω}{dx:ε}{mA:Str->Option δ}(n:h.Ns1 dx mA):∃od,h.get? dx=some od/\∀name,Dp name od=some (mA name):=by
 obtain⟨o,es,ep,ho,hd,hk,_,hm⟩:=n;refine⟨o,ho,λname=>?_⟩;have e:=hm name;unfold nsFind findBy at e;rw[<- Array.find?_toList] at e;unfold Dp;rw[hd];dsimp only
 split
 ·rename_i y q;rw[q] at e;exact congrArg some e
 ·rename_i q;rw[q] at e;have a:es.toList.any (·.refKey)=false:=by
   rw[List.any_eq_false];intro y hy;obtain⟨z,t,hkey⟩:=hk y (Array.mem_toList_iff.mp hy);simp[DictEntry.refKey,hkey]
  have a':¬ es.toList.any (·.refKey)=true:=by rw[a];exact Λ
  rw[if_neg a'];exact congrArg some e
theorem ObjM.look {h:ω}{x dx:ε}{mA:Str->Option δ}(I:ObjM h x dx C mA):∃od,Dq h x (Dl C dx) C (some od)/\∀name,Dp name od=some (mA name) :=
 let ⟨od,ho,hl⟩:=jF I.ns
 ⟨od,⟨I.obj,rfl,rfl,ho⟩,hl⟩
section
variable {prog:ρ}{w:Γ}{A:Around}{E:δ->η->Prop}{s:η}{K:γ}{x dx C f:ε}{mA:Str->Option δ}{name:Str}{v:δ}
end
theorem RelO.some_of {v:V}{o:Option δ}(r:RelO (some v) o):∃u,o=some u/\RelV v u:=by
 cases o with
 | none=>exact(show False from r).elim
 | some u=>exact⟨u,rfl,r⟩
theorem qT {v:V}{u:δ}(r:RelV v u):PySem.W.handedIn u=true:=by
 cases v with
 | non=>cases (show u=B2 from r);rfl
 | bl b=>cases (show u=BF b from r);rfl
 | int i=>obtain⟨t,e⟩:=(show ∃t,u=Dk i t from r);cases e;rfl
 | str x=>obtain⟨t,e⟩:=(show ∃t,u=Value.str x t from r);cases e;rfl
 | byt b=>obtain⟨t,e⟩:=(show ∃t,u=Value.bytes b t from r);cases e;rfl
 | flt b=>obtain⟨t,e⟩:=(show ∃t,u=Value.float b t from r);cases e;rfl
 | ref a=>cases (show u=As a from r);rfl
 | ty n=>cases (show u=Du n from r);rfl
section
variable {P:ρ}{w:Γ}{H H':Hp}{h h':ω}{a C dx:ε}{fs fs':List (Str×V)}
theorem vL (hok:HOk P w H h)(e:H a=some (.ins C dx fs)):∃mA,ObjM h a dx C mA/\(∀f,RelO (fs.lookup f) (mA f))/\PySem.Within mA (fs.map (·.1))/\fs.length<=1000/\H dx=some (.own a):=by obtain⟨d,z,ne,ob,mA,n,r,q⟩:=(show ObjOk P w H h a (.ins C dx fs) from hok a _ e);exact⟨mA,⟨ob,n,ne⟩,r,q,z,d⟩
end
structure Cls (K:γ)(C:ε):Prop where
 pg:PySem.W.plainGet K C Ca=true
 hd:PySem.W.hasDictIn K C=true
 po:PySem.W.plainOver K C=true
 sa:Al K (.ref C) "__setattr__" = some (some (.builtin "object.__setattr__"))
theorem Cls.get {K:γ}(c:Cls K C)(f:Str):PySem.W.plainGet K C f=true:=c.pg
structure Con (K:γ)(C:ε)(f:Str)(v:V)(u:δ):Prop where
 at_:Al K (.ref C) f=some (some u)
 rel:RelV v u
 get:DQ K u "__get__" = some none
 cp:PySem.W.copiedNames.contains f=false
structure Meth (K:γ)(C:ε)(m:Str)(f:ε):Prop where
 at_:Al K (.ref C) m=some (some (.ref f))
 fn:PySem.W.isFn K (.ref f)=true
 kp:Am K (.ref f)=true
section
variable {X:Cx}{aa:List (ε×Obj)}{σ:St}{H:Hp}{s:η}{a C dx:ε}{fs:List (Str×V)}{f:Str}{v:V}{A:Around}{E:δ->η->Prop}
theorem vX {prog:ρ}{w:Γ}{env:Env}{f:Str}{s:η}(hb:BD e f env (A5 e env)=A5 e env)(h:τ (χ prog w) A (A5 e env) (λo s₁=>τ (χ prog w) A (getAttr o f true) Q E s₁) E s):τ (χ prog w) A (A5 (.Attribute e f pos) env) Q E s :=
 Attribute_any_ h (by rw[arm_eval_Attribute,hb])
end
section
variable {X:Cx}{o e value:Δ}{f:Str}{pos pos' tpos:Pos}{ta tv:TE}
end
section
variable {X:Cx}{aa:List (ε×Obj)}{σ:St}{H:Hp}{s:η}{A:Around}{E:δ->η->Prop}{Q:δ->η->Prop}{c:δ}{b:Bool}
inductive TyOf (K:γ) (H:Hp):V->δ->Prop where
 | non:TyOf K H .non (.type "NoneType")
 | bl (x:Bool):TyOf K H (.bl x) (.type "bool")
 | int (i:Int):TyOf K H (.int i) (.type "int")
 | str (x:Str):TyOf K H (.str x) (.type "str")
 | flt (x:UInt64):TyOf K H (.flt x) (.type "float")
 | lst {a:ε} {xs:List V} (e:H a=some (.lst xs)):TyOf K H (.ref a) (.type "list")
 | frz {a:ε} {o:Obj} {xs:List V} (e:H a=some (.frz o (.lst xs))):TyOf K H (.ref a) (.type "list")
 | tup {a:ε} {xs:List V} (e:H a=some (.tup xs)):TyOf K H (.ref a) (.type "tuple")
 | dK {a:ε} {kvs:List (Key×V)} (e:H a=some (.dK kvs)):TyOf K H (.ref a) (.type "dict")
 | dT {a:ε} {kvs:List (List Key×V)} (e:H a=some (.dT kvs)):TyOf K H (.ref a) (.type "dict")
 | ins {a C dx:ε} {fs:List (Str×V)} (e:H a=some (.ins C dx fs)) (cl:Cls K C) (ha:Al K (.ref C) "__class__" = some (some (.builtin "object.__class__")))
   (hn:DQ K (.builtin "object.__class__") "__get__" = some (some (.builtin "getset_descriptor.__get__"))) (htk:PySem.W.takesIn K (.builtin "object.__class__")=some true)
   (hm:PySem.W.mroIn K C (.type "object")=some true):TyOf K H (.ref a) (.ref C)
end
structure Room (k:Nat)(A:Around):Prop where
 hd:A.handled=none
 dp:A.depth+3*k+5<recursionLimit
 un:A.units+16*k+200<BY
 gd:A.guards=some []
theorem Room.mono {k:Nat}{A:Around}(r:Room k A)(h:j<=k):Room j A:=⟨r.hd,by have:=r.dp;lia,by have:=r.un;lia,r.gd⟩
theorem Room.deeper {k:Nat}{A:Around}(r:Room (k+1) A)(env:Env):Room k (A.deeper env) :=
 ⟨r.hd,by have:=r.dp;show A.depth+1+3*k+5<_;lia,by have:=r.un;show A.units+3+16*k+200<_;lia,r.gd⟩
theorem Room.depth {k:Nat}{A:Around}(r:Room k A):A.depth<recursionLimit:=by have:=r.dp;lia
def jW:TA:=λ_ H Q=>Q [] H
def dO (ta:TE)(tr:TA):TA:=λσ H Q=>ta σ H λx H1=>tr σ H1 λxs H2=>Q (x::xs) H2
section
variable {X:Cx}{e:Δ}{es:List Δ}{te:TE}{t:TA}{pos:Pos}
theorem aI:PA X [] jW:=λ_ _ _ _ H Q I h=>Calls.spliced_nil ⟨[],H,I,.nil,h⟩
theorem aA (ha:PE X e te)(hr:PA X es t)(hs:autoParam (Θ (e::es) X.env=(false,A5 e X.env)::Θ es X.env) L2.au3._auto_1):PA X (e::es) (dO te t):=by intro pos aa s σ H Q I h;rw[hs];show τ _ _ (spliced ((false,A5 e X.env)::B4 pos (Θ es X.env))) _ _ s;refine Calls.spliced_cons (thn (ha aa s σ H _ I h) λu s1 ⟨x,H1,I1,r1,q1⟩=>?_);exact thn (hr pos aa s1 σ H1 _ I1 q1) λus s2 ⟨xs,H2,I2,r2,q2⟩=>⟨x::xs,H2,I2,.cons r1 r2,q2⟩
def nD (t:TA):TE:=λσ H Q=>t σ H λxs H1=>xs.length<=ψ/\∀p,H1 p=none->Q (.ref p) (upd H1 p (.tup xs))
def lM (t:TA):TE:=λσ H Q=>t σ H λxs H1=>xs.length<=ψ/\∀p,H1 p=none->Q (.ref p) (upd H1 p (.lst xs))
theorem nI {x1}(h:PA X es t):PE X (.Tuple es x1 pos) (nD t):=by intro aa s σ H Q I hq;refine wpAny_Tuple_spliced (thn (h pos aa s σ H _ I hq) λus s1 ⟨xs,H1,I1,r,z,q⟩=>⟨by rw[<- r.length];exact z,?_⟩);have hf:H1 s1.heap.objs.size=none:=I1.hok.fresh (ο _);refine⟨.ref s1.heap.objs.size,upd H1 s1.heap.objs.size (.tup xs),I1.laid (t':=s1.toks) (λb u e=>μ _ e) (ο _) ?_,rfl,q _ hf⟩;exact⟨z,us,r,⟨_,A9 _ rfl,rfl,_,rfl⟩⟩
theorem eQ (h:PA X es t):PE X (.List es pos) (lM t):=by intro aa s σ H Q I hq;refine wpAny_List_spliced (thn (h pos aa s σ H _ I hq) λus s1 ⟨xs,H1,I1,r,z,q⟩=>⟨by rw[<- r.length];exact z,?_⟩);have hf:H1 s1.heap.objs.size=none:=I1.hok.fresh (ο _);refine⟨.ref s1.heap.objs.size,upd H1 s1.heap.objs.size (.lst xs),I1.laid (t':=s1.toks) (λb u e=>μ _ e) (ο _) ?_,rfl,q _ hf⟩;exact⟨z,us,0,r,A9 _ rfl⟩
end
abbrev Sp:=List V->Hp->VK->XK->Prop
abbrev CXT:=List Env->Hp->η->XK->δ->η->Prop
structure Env0 (P:ρ)(w:Γ)(K:γ)(mg:Str->Option δ)(ad:ω)(A:Around)(ae:List Env)(s:η)(H:Hp):Prop where
 frames:A.frames=some ae
 mod:Mod K mg ad
 bs:∀b o,ad.get? b=some o->s.heap.get? b=some o/\H b=none
 bsz:ad.objs.size<=s.heap.objs.size
 funs:s.heap.FunFrames ad ae
 frf:∀b∈frs ae,H b=none
 hok:HOk P w H s.heap
 bare:C2 s.gens
def CE (ae:List Env)(P:ρ)(w:Γ)(H:Hp)(s:η)(Q:VK)(u:δ)(s':η):Prop :=
 ∃v H',s'.os=s.os/\C2 s'.gens/\Un (frs ae) [] H H' s.heap s'.heap/\HOk P w H' s'.heap/\RelV v u/\Q v H'
def CR (CX:CXT)(ae:List Env)(P:ρ)(w:Γ)(H:Hp)(s:η)(Q:VK)(E:XK)(r:Result)(s':η):Prop :=
 match r with
 | .ok (.ret u)=>CE ae P w H s Q u s'
 | .ok _=>False
 | .error e=>CX ae H s E e s'
structure FnOk (P:ρ)(w:Γ)(K:γ)(mg:Str->Option δ)(ad:ω)(CX:CXT)(k:Nat)(f:ε)(fd:AC)(ps:List Str)(sp:Sp):Prop where
 len:∀vs H Q E,sp vs H Q E->vs.length=ps.length
 run:∀(A:Around) (ae:List Env) (s:η) (H:Hp) (args:Args) (us:List δ) (vs:List V) (Q:VK) (E:XK),Room k A->Env0 P w K mg ad A ae s H->D5 s fd args (ps.zip us)->Vals vs us->sp vs H Q E ->
  D6 (χ P w) A (.call (.ref f) args) (CR CX ae P w H s Q E) s
theorem FnOk.mono {P:ρ}{w:Γ}{K:γ}{mg:Str->Option δ}{ad:ω}{CX:CXT}{k:Nat}{f:ε}{fd:AC}{ps:List Str}{sp:Sp}(F:FnOk P w K mg ad CX j f fd ps sp)(h:j<=k) :
  FnOk P w K mg ad CX k f fd ps sp:=⟨F.len,λA ae s H args us vs Q E hr=>F.run A ae s H args us vs Q E (hr.mono h)⟩
section
variable {X:Cx}{aa:List (ε×Obj)}{σ:St}{H:Hp}{s s':η}
theorem Inv.env0 (I:Inv X aa σ H s):Env0 X.prog X.w X.K X.mg X.ad X.A X.stack s H :=
 ⟨I.ok.frames,I.ok.mod,I.bs,AN I.ok.bsz I.sz,I.stack,I.stkFree,I.hok,I.bare⟩
theorem Inv.after {Q:VK}{u:δ}(I:Inv X aa σ H s)(h:CE X.stack X.prog X.w H s Q u s'):EP X aa σ Q u s':=by obtain⟨v,H',os,bare,un,hok,r,q⟩:=h;obtain⟨hh,g,d,t,os'⟩:=s';obtain rfl:os'=s.os:=os;exact⟨v,H',I.call (h':=hh) (g':=g) (d':=d) (t':=t) (ch:=[]) un hok bare (λb z=>absurd z 'C'),r,q⟩
end
def fT (sp:Sp)(dvs:List V)(E:XK)(t:TA):TE:=λσ H Q=>t σ H λvs H1=>sp (vs++dvs) H1 Q E
def Binds (K:γ)(fd:AC)(ps:List Str)(ds:List δ):Prop :=
 ∀(s:η) (us:List δ),K.In s.heap->(us++ds).length=ps.length->D5 s fd ⟨us,[]⟩ (ps.zip (us++ds))
theorem Binds.all {K:γ}{fd:AC}{ps:List Str}(h:∀us:List δ,us.length=ps.length->bindArgs fd ⟨us,[]⟩=pure (ps.zip us)):Binds K fd ps []:=λs us _ hl=>by rw[BB] at hl ⊢;exact .of_eq (h us hl)
def Passes (CX:CXT)(X:Cx)(E:XK):Prop:=∀(aa:List (ε×Obj)) (σ:St) (H:Hp) (s:η) (e:δ) (s':η),Inv X aa σ H s->CX X.stack H s E e s'->X.xe e s'
section
variable {X:Cx}{CX:CXT}{k:Nat}{f C:ε}{fd:AC}{ps:List Str}{sp:Sp}{dvs:List V}{ds:List δ}{E:XK}{x m:Str}{p pos apos:Pos}{e o:Δ}{es:List Δ}{ta:TE}{t:TA}
theorem xJ {σ:St}{H:Hp}{Q:VK}{vs:List V}(F:FnOk X.prog X.w X.K X.mg X.ad CX k f fd ps sp)(hr:Room k X.A)(hb:Binds X.K fd ps ds)(hd:Vals dvs ds)(hx:Passes CX X E)(I:Inv X aa σ H s)(r:Vals vs us)(h:sp (vs++dvs) H Q E):τ (χ X.prog X.w) X.A (call (.ref f) us) (EP X aa σ Q) X.xe s:=by
 have r2:Vals (vs++dvs) (us++ds):=r.append hd;have hl:(us++ds).length=ps.length:=by rw[<- r2.length];exact F.len _ _ _ _ h
 refine C5 (Bu (F.run X.A X.stack s H ⟨us,[]⟩ (us++ds) (vs++dvs) Q E hr I.env0 (hb s us I.kIn hl) r2 h) λr s' hq=>?_);cases r with
 | error e=>exact hx aa σ H s e s' I hq
 | ok fl =>
  cases fl with
  | ret u=>exact I.after hq
  | next=>exact AG hq
  | brk=>exact AG hq
  | cont=>exact AG hq
theorem aX (F:FnOk X.prog X.w X.K X.mg X.ad CX k f fd ps sp)(hr:Room k X.A)(hg:Gl X x)(hm:X.mg x=some (.ref f))(hk:Am X.K (.ref f)=true)(hb:Binds X.K fd ps ds)(hd:Vals dvs ds)(hx:Passes CX X E)(ha:PA X (e::es) t)(hdb:autoParam ((x==("__debug__" : Str))=false) L2.au1._auto_1)(he:autoParam (Θ (e::es) X.env=(false,A5 e X.env)::Θ es X.env) L2.au3._auto_1)(hpl:autoParam ((B4 pos (Θ es X.env)).any (·.1)=false) L2.au3._auto_1) :
  PE X (.Call (.Name x p) (e::es) [] pos) (fT sp dvs E t):=by
 intro aa s σ H Q I h;refine B8 (c9 I hg hm ?_ hdb);refine DC (h₀:=X.ad) I.ok.mod.kin hk (thn (ha pos aa s σ H _ I h) λus s1 ⟨vs,H1,I1,r,q⟩=>⟨I1.kIn,?_⟩) he hpl;exact xJ F hr hb hd hx I1 r q
structure Mk (K:γ)(C f:ε):Prop where
 makes:PySem.W.makesIn K C=true
 init:Al K (.ref C) "__init__" = some (some (.ref f))
 fn:PySem.W.isFn K (.ref f)=true
 kp:Am K (.ref C)=true
end
section
variable {X:Cx}{CX:CXT}{k:Nat}{f C:ε}{fd:AC}{ps ks:List Str}{sp:Sp}{E:XK}{x m:Str}{p pos apos kpos:Pos}{e o:Δ}{es:List Δ}{kws:List DZ}{te ta:TE}{t tk:TA}{nm:Option Str}
structure KBinds (K:γ)(fd:AC)(ps ks:List Str)(g:List δ->List δ->List δ)(gV:List V->List V->List V):Prop where
 to:∀(s:η) (us ws:List δ),K.In s.heap->(g us ws).length=ps.length->D5 s fd ⟨us,ks.zip ws⟩ (ps.zip (g us ws))
 rel:∀ {vs:List V} {us:List δ} {zs:List V} {ws:List δ},Vals vs us->Vals zs ws->Vals (gV vs zs) (g us ws)
variable {g:List δ->List δ->List δ}{gV:List V->List V->List V}
end
structure FnScope (N P:List Str)(sc:Ac):Prop where
 kind:sc.kind=.function
 co:sc.isCoroutine=false
 gen:sc.isGenerator=false
 nd:N.Nodup
 pre:N.take P.length=P
 par:∀x∈P,sc.names.lookup x=some .local\/sc.names.lookup x=some .cell
 nofree:∀y∈sc.names,y.2 ≠ .free
theorem jP {kindOf:Str->Option CO}{x:Str}:∀ {binds:List (Str×δ)} {m:Str->Option δ},(∀v,(x,v) ∉ binds)->bindL kindOf binds m x=m x
 | [],_,_=>rfl
 | (n,v)::r,m,h=>by
  unfold bindL;rw[jP λw hw=>h w (AQ _ hw)]
  split
  ·have:x≠n:=by rintro rfl;exact h v AL
   simp[this]
  ·rfl
theorem jR {kindOf:Str->Option CO}{x:Str}:∀ {binds:List (Str×δ)} {m:Str->Option δ},(∀v,(x,v) ∉ binds)->bindC kindOf binds m x=m x
 | [],_,_=>rfl
 | (n,v)::r,m,h=>by
  unfold bindC;rw[jR λw hw=>h w (AQ _ hw)]
  split
  ·rfl
  ·have:x≠n:=by rintro rfl;exact h v AL
   simp[this]
theorem jQ {kindOf:Str->Option CO}{x:Str}{v:δ}:∀ {P:List Str} {vs:List δ} {i:Nat} {m:Str->Option δ},P.Nodup->P[i]? = some x->vs[i]? = some v->kindOf x=some .local ->
  bindL kindOf (P.zip vs) m x=some v
 | [],_,_,_,_,h,_,_=>by simp at h
 | _::_,[],_,_,_,_,h,_=>by simp at h
 | p::P,w::vs,0,m,nd,h1,h2,hk=>by simp at h1 h2;subst h1;subst h2;show bindL kindOf ((p,w)::P.zip vs) m p=_;unfold bindL;rw[jP λv hv=>(BC.mp nd).1 (Cm hv).1,if_pos hk];simp
 | p::P,w::vs,i+1,m,nd,h1,h2,hk=>by show bindL kindOf ((p,w)::P.zip vs) m x=_;unfold bindL;exact jQ (i:=i) (BC.mp nd).2 (by simpa using h1) (by simpa using h2) hk
theorem jS {kindOf:Str->Option CO}{x:Str}{v:δ}:∀ {P:List Str} {vs:List δ} {i:Nat} {m:Str->Option δ},P.Nodup->P[i]? = some x->vs[i]? = some v->kindOf x≠some .local ->
  bindC kindOf (P.zip vs) m x=some v
 | [],_,_,_,_,h,_,_=>by simp at h
 | _::_,[],_,_,_,_,h,_=>by simp at h
 | p::P,w::vs,0,m,nd,h1,h2,hk=>by simp at h1 h2;subst h1;subst h2;show bindC kindOf ((p,w)::P.zip vs) m p=_;unfold bindC;rw[jR λv hv=>(BC.mp nd).1 (Cm hv).1,if_neg hk];simp
 | p::P,w::vs,i+1,m,nd,h1,h2,hk=>by show bindC kindOf ((p,w)::P.zip vs) m x=_;unfold bindC;exact jS (i:=i) (BC.mp nd).2 (by simpa using h1) (by simpa using h2) hk
noncomputable def start (N:List Str)(vs:List V):St:=vs.map some++A6 (N.length-vs.length) none
noncomputable def fC (CX:CXT)(P:ρ)(w:Γ)(K:γ)(mg:Str->Option δ)(ad:ω)(N:List Str)(qual:Str)(scope:Ac)(f:ε)(cd:δ)(A:Around)(ae:List Env)(s:η)(H:Hp)(E:XK):Cx where
 prog:=P
 w:=w
 K:=K
 mg:=mg
 ad:=ad
 A:=A.deeper (BU qual scope s.heap.objs.size f cd)
 N:=N
 s₀:=s
 H₀:=H
 env:=BU qual scope s.heap.objs.size f cd
 ae:=ae
 stack:=BU qual scope s.heap.objs.size f cd::ae
 ex:=[]
 calm:=true
 fn:=λ_=>true
 pn:=[]
 xe:=λe s'=>τ (χ P w) (A.deeper (BU qual scope s.heap.objs.size f cd)) (Da (BU qual scope s.heap.objs.size f cd) e) (λ_ s''=>CX ae H s E e s'') (λe' s''=>CX ae H s E e' s'') s'
theorem eE {sc:Ac}{n:Nat}{x:Str}(h:sc.names.lookup x=some .cell):∃c,(cellsFrom n sc.names []).lookup x=some c:=by have q:=CH sc.names n [] (.inl h);exact Option.isSome_iff_exists.mp q
theorem jJ {CX:CXT}{P:ρ}{w:Γ}{K:γ}{mg:Str->Option δ}{ad:ω}{N ps:List Str}{scope:Ac}{f:ε}{A:Around}{ae:List Env}{s1:η}{H:Hp}{E:XK}{vs:List V}(S:FnScope N ps scope)(hd:A.handled=none)(e0:Env0 P w K mg ad A ae s H)(hl:vs.length=ps.length)(r:Vals vs us)(x:InCallC s s.heap.objs.size (bindL (BU qual scope s.heap.objs.size f cd).kindOf (ps.zip us) λ_=>none) (cellsFrom (s.heap.objs.size+1) scope.names []) (bindC (BU qual scope s.heap.objs.size f cd).kindOf (ps.zip us) λ_=>none) s1) :
  Inv (fC CX P w K mg ad N qual scope f cd A ae s H E) [] (start N vs) H s1:=by
 have hpl:ps.length<=N.length:=by have:=congrArg List.length S.pre;rw[CQ] at this;lia
 obtain⟨h1,tk,rfl,hk⟩:=x.done;have noA:∀b:ε,b ∉ (fC CX P w K mg ad N qual scope f cd A ae s H E).ex:=λb z=>absurd (show b∈([]:List ε) from z) 'C';refine⟨⟨e0.mod,S.kind,rfl,rfl,ο _,λy z c h1 h2=>?_,λy hy=>?_,λy c _ h=>?_,λ_=>hd,Around.frames_deeper e0.frames,.inr ⟨rfl,rfl⟩,λb z=>absurd z (noA b),e0.bs,e0.bsz,λb _ _=>noA b,λb z=>absurd z (noA b),e0.funs,e0.frf⟩,
  rfl,e0.bare,Un.kept hk,⟨_,x.toInCall.ns,λi y v h1 h2 h3=>?_⟩,λy c h=>⟨_,x.cell y c h⟩,e0.hok.fresh (ο _),λy c h=>?_,λp hp=>absurd (show p∈([]:List (ε×Obj)) from hp) 'C',e0.hok.kept hk,?_⟩
 ·exact name_of_addr x.apart (A7 h1) (A7 h2)
 ·have hy:scope.names.lookup y=some .cell\/scope.names.lookup y=some .free:=hy;rcases hy with hy | hy
  ·exact eE hy
  ·exact absurd rfl (S.nofree _ (A7 hy))
 ·exact AX (x.above y c (A7 h))
 ·have hi:i<vs.length:=by
   unfold start at h2;by_cases hi:i<vs.length
   ·exact hi
   ·rw[List.getElem?_append_right (by simpa using hi)] at h2;rw[List.getElem?_replicate] at h2
    split at h2 <;> cases h2
  have ha:vs[i]? = some v:=by
   unfold start at h2;rw[List.getElem?_append_left (by simpa using hi),Ae] at h2;cases e:vs[i]? with
   | none=>rw[e] at h2;cases h2
   | some a=>rw[e] at h2;cases h2;rfl
  obtain⟨u,hu,rv⟩:=r.get ha;have hp:ps[i]? = some y:=by rw[<- S.pre,List.getElem?_take_of_lt 'B'];exact h1
  have ndP:ps.Nodup:=by rw[<- S.pre];exact S.nd.sublist (List.take_sublist _ _)
  refine⟨u,rv,?_⟩;rcases S.par y (AR hp) with k | k
  ·exact .inl ⟨k,jQ ndP hp hu k⟩
  ·obtain⟨c,e⟩:=eE (n:=s.heap.objs.size+1) k;refine .inr ⟨.inl k,c,e,?_⟩;have q:=x.cell y c e;rw[jS ndP hp hu (by show scope.names.lookup y≠_;rw[k];decide)] at q;exact q
 ·exact e0.hok.fresh (AX (x.above y c (A7 h)))
 ·unfold start;show _=N.length;rw[AM,Ω,List.length_replicate];lia
theorem tU {CX:CXT}{P:ρ}{w:Γ}{K:γ}{mg:Str->Option δ}{ad:ω}{k:Nat}{f:ε}{name:Str}{params:Bv}{body:List AD}{scope:Ac}{dV kV ct:δ}{N ps:List Str}{sp:Sp}(lk:K.lookup f=some ⟨oc,od,.func (AJ name qual params body scope dV kV doc pm an cdv ct),osl⟩)(hcd:At K cdv qual=true)(S:FnScope N ps scope)(len:∀vs H Q E,sp vs H Q E->vs.length=ps.length)(hbody:∀(A:Around) (ae:List Env) (s:η) (H:Hp) (vs:List V) (Q:VK) (E:XK),Room k (A.deeper (BU qual scope s.heap.objs.size f cdv))->sp vs H Q E ->
   ∃t,PSs (fC CX P w K mg ad N qual scope f cdv A ae s H E) body t/\t { nx:=λ_ H'=>Q .non H',rt:=Q } (start N vs) H) :
  FnOk P w K mg ad CX (k+1) f (AJ name qual params body scope dV kV doc pm an cdv ct) ps sp:=by
 refine⟨len,λA ae s H args us vs Q E hr e0 hb r hsp=>?_⟩;have hl:=len _ _ _ _ hsp;have KX:K.In s.heap:=e0.mod.kin.keeps λb o e=>(e0.bs b o e).1;have lim:s.heap.NoLimit:=e0.mod.nolimit.keeps λb o e=>(e0.bs b o e).1;have hkind:∀y∈ps.zip us,scope.names.lookup y.1=some .local\/(scope.names.lookup y.1=some .cell/\((cellsFrom (s.heap.objs.size+1) scope.names []).lookup y.1).isSome=true):=λ⟨n,v⟩ hy=>by
  rcases S.par n (Cm hy).1 with q | q
  ·exact .inl q
  ·exact .inr ⟨q,CH _ _ _ (.inl q)⟩
 refine codeAny_call_function hr.depth (KX _ _ lk) rfl S.co S.gen rfl (PySem.W.codeRec_of KX hcd) (hb _ _ _ _ ?_);refine wpAny_newFunctionEnv_cells S.kind hkind λenv he s1 x=>?_;subst he;refine⟨lim.keeps x.toInCall.keep,codeAny_func ?_⟩;obtain⟨t,ht,hq⟩:=hbody A ae s H vs Q E (hr.deeper _) hsp;have I:Inv (fC CX P w K mg ad N qual scope f cdv A ae s H E) [] (start N vs) H s1:=jJ S hr.hd e0 hl r x;refine AB (ht [] s1 (start N vs) H _ I hq) (λfl s' hs=>?_) λe s' hs=>hs;have fin:∀ {σ':St} {H':Hp} {v:V} {u:δ},Inv (fC CX P w K mg ad N qual scope f cdv A ae s H E) [] σ' H' s'->RelV v u->Q v H'->CE ae P w H s Q u s' :=
  λ{σ' H' v u} J rv q=>⟨v,H',J.os,J.bare,J.ad,J.hok,rv,q⟩
 cases fl with
 | ret u =>
  obtain⟨v,σ',H',J,rv,q⟩:=hs;exact fin J rv q
 | next =>
  obtain⟨σ',H',J,q⟩:=hs;exact fin (v:=V.non) (u:=B2) J rfl q
 | brk =>
  obtain⟨_,_,_,q⟩:=hs;exact AG q
 | cont =>
  obtain⟨_,_,_,q⟩:=hs;exact AG q
section
variable {X:Cx}{x:Str}{p pos:Pos}{e:Δ}{es:List Δ}{t:TA}{id T:String}{r:List V->Hp->VK->Prop}
def tCB (r:List V->Hp->VK->Prop)(t:TA):TE:=λσ H Q=>t σ H λvs H1=>r vs H1 Q
theorem aS (hc:bY X (.builtin id) r)(hg:Gl X x)(hm:X.mg x=none)(hv:BJ x=some (.builtin id))(ha:PA X (e::es) t)(hn:autoParam (x ≠ "__name__") L2.au1._auto_1)(hdb:autoParam ((x==("__debug__" : Str))=false) L2.au1._auto_1)(he:autoParam (Θ (e::es) X.env=(false,A5 e X.env)::Θ es X.env) L2.au3._auto_1)(hpl:autoParam ((B4 pos (Θ es X.env)).any (·.1)=false) L2.au3._auto_1):PE X (.Call (.Name x p) (e::es) [] pos) (tCB r t):=by intro aa s σ H Q I h;refine B8 (eU I hg hm hv ?_ hn hdb);exact PyProof.Rows.callWith_builtin1 (thn (ha pos aa s σ H _ I h) λus s1 ⟨vs,H1,I1,r1,q1⟩=>hc aa s1 σ H1 vs us Q I1 r1 q1) he hpl
theorem qI (hc:bY X (.type T) r)(hg:Gl X x)(hm:X.mg x=none)(hv:BJ x=some (.type T))(ha:PA X (e::es) t)(hn:autoParam (x ≠ "__name__") L2.au1._auto_1)(hdb:autoParam ((x==("__debug__" : Str))=false) L2.au1._auto_1)(he:autoParam (Θ (e::es) X.env=(false,A5 e X.env)::Θ es X.env) L2.au3._auto_1)(hpl:autoParam ((B4 pos (Θ es X.env)).any (·.1)=false) L2.au3._auto_1):PE X (.Call (.Name x p) (e::es) [] pos) (tCB r t):=by intro aa s σ H Q I h;refine B8 (eU I hg hm hv ?_ hn hdb);exact B7 (thn (ha pos aa s σ H _ I h) λus s1 ⟨vs,H1,I1,r1,q1⟩=>hc aa s1 σ H1 vs us Q I1 r1 q1) he hpl
end
end L2
namespace HT
open PySem PyProof.Rows
section
open PySem.SeqAt
open PySem.AutoSeq1 (wpAny_loadPart')
open PySem.MeetsSeq PySem.MeetsSeq2 PySem.MeetsSeq3
end
section
variable {prog:ρ}{w:Γ}{A:Around}{E:δ->η->Prop}{s:η}
theorem vW {t:ε}{vs ws:List δ}(ht:IsTup s.heap t vs.toArray)(hb:IsTup s.heap b ws.toArray)(hv:vs≠[])(h1:ws=[]->Q (.ref t) s)(h2:ws≠[]->Q (.ref s.heap.objs.size) { s with heap:=s.heap.push { cls:=.type "tuple",data:=.seq (vs++ws).toArray } })(hsz:vs.length+ws.length<=ψ):τ (χ prog w) A (B0 .Add (.ref t) (.ref b)) Q E s:=by
 obtain⟨⟨cls,dd,data,sl⟩,ho,hc,n,hd⟩:=id ht;obtain⟨⟨cls2,dd2,data2,sl2⟩,ho2,hc2,n2,hd2⟩:=id hb;simp only at hc hd hc2 hd2;subst hc hd hc2 hd2;have e:vs.toArray++ws.toArray=(vs++ws).toArray:=by simp
 by_cases hw:ws=[]
 ·exact concat_meets ⟨_,ho,rfl⟩ ⟨_,ho2,rfl⟩ noFill_tuple_add seq_tuple_add CI CA (Bw _ _)
   (tuple_addW1 t b vs.toArray ws.toArray n n2 dd dd2 sl sl2 (by simpa using hv) (by simp[hw])) ⟨ho,ho2,h1 hw⟩
 ·refine concat_meets ⟨_,ho,rfl⟩ ⟨_,ho2,rfl⟩ noFill_tuple_add seq_tuple_add CI CA (Bw _ _)
   (tuple_addW2 t b vs.toArray ws.toArray n n2 dd dd2 sl sl2 (by simpa using hv) (by simpa using hw) (by rw[ν,ν];exact hsz)) ⟨ho,ho2,?_⟩
  rw[e];exact h2 hw
noncomputable def sIx (n d:Nat):Option Int->Nat
 | none=>d
 | some v=>if v<0 then (v+(n:Int)).toNat else min v.toNat n
theorem xI (n d:Nat)(hd:d<=n)(o:Option Int):sIx n d o<=n:=by
 cases o with
 | none=>exact hd
 | some v =>
  show (if v<0 then (v+(n:Int)).toNat else min v.toNat n)<=n;by_cases hv:v<0
  ·rw[if_pos hv];lia
  ·rw[if_neg hv];exact Nat.min_le_right _ _
theorem pQ (v:Int)(n d:Nat):(if v<0 then max (v+(n:Int)) 0 else min v (n:Int))=((sIx n d (some v):Nat):Int):=by
 show (if v<0 then max (v+(n:Int)) 0 else min v (n:Int))=(((if v<0 then (v+(n:Int)).toNat else min v.toNat n):Nat):Int);by_cases hv:v<0
 ·simp only[if_pos hv];lia
 ·simp only[if_neg hv];lia
theorem oA (lo hi:Option Int)(n:Nat):Bn lo hi 1 (n:Int)=(((sIx n 0 lo:Nat):Int),((sIx n n hi:Nat):Int)):=by
 have h1:¬ ((1:Int)<0):=by lia
 unfold Bn;simp only[h1,if_false];refine Prod.ext ?_ ?_
 ·cases lo with
  | none=>rfl
  | some v=>exact pQ v n 0
 ·cases hi with
  | none=>rfl
  | some v=>exact pQ v n n
theorem nF (i j:Nat):BH (i:Int) (j:Int) 1=j-i:=by
 unfold BH;have h1:(1:Int)>0:=by lia
 simp only[h1,if_true,Int.ediv_one]
 split <;> lia
theorem fV {v:δ}{o:Option Int}{Q:Option Int->η->Prop}(p:Cn v o)(h:Q o s):τ (χ prog w) A (Builtin.Slice.slicePartIndex v) Q E s:=by
 cases p with
 | none=>exact slicePart_none h
 | int i t=>exact slicePart_int h
theorem cH {sl:ε}{lo hi:Option Int}{n:Nat}{Q:Int×Int×Nat->η->Prop}(hs:s.heap.IsSliceOf sl vl vu .none)(pl:Cn vl lo)(pu:Cn vu hi)(h:Q (((sIx n 0 lo:Nat):Int),1,sIx n n hi-sIx n 0 lo) s):τ (χ prog w) A (DK (.ref sl) (pure (n:Int))) Q E s:=by obtain⟨os,hos,hcs,hds⟩:=id hs;unfold DK Builtin.Slice.sliceFields;refine θ (θ (Bj hos hds (x:=vl) rfl (θ (Bj hos hds (x:=vu) rfl (θ (Bj hos hds (x:=.none) rfl (υ ?_)))))));refine θ (slicePart_none ?_);show τ _ _ (if ((1:Int)==0)=true then _ else _) _ _ s;rw[if_neg 'A'];refine θ (fV pl (θ (fV pu (θ (υ ?_)))));show τ _ _ (match Bn lo hi 1 (n:Int) with | (lo,hi)=>pure (lo,(1:Int),BH lo hi 1)) _ _ s;rw[oA lo hi n];show τ _ _ (pure (((sIx n 0 lo:Nat):Int),(1:Int),BH ((sIx n 0 lo:Nat):Int) ((sIx n n hi:Nat):Int) 1)) _ _ s;rw[nF];exact υ h
theorem sJ (xs:Array δ)(i k:Nat):((C0 k).filterMap λ(m:Nat)=>xs[((i:Int)+(m:Int)*1).toNat]?).toArray=((xs.toList.drop i).take k).toArray:=by
 have e:(λ(m:Nat)=>xs[((i:Int)+(m:Int)*1).toNat]?)=λm=>xs[i+m]? := by
  funext m
  have:((i:Int)+(m:Int)*1).toNat=i+m:=by lia
  rw[this]
 rw[e];have:=pick_run xs i k;rw[List.filterMap_map] at this;have e2:((λx=>xs[x]?) ∘ λx=>i+x)=λm=>xs[i+m]? := rfl;rw[e2] at this;rw[this]
theorem d8 {t sl:ε}{items:Array δ}{lo hi:Option Int}(ht:IsTup s.heap t items)(hs:s.heap.IsSliceOf sl vl vu .none)(pl:Cn vl lo)(pu:Cn vu hi)(hw:¬ (sIx items.size 0 lo=0/\sIx items.size items.size hi=items.size))(h:Q (.ref s.heap.objs.size) { s with heap:=s.heap.push { cls:=.type "tuple",data:=.seq ((items.toList.drop (sIx items.size 0 lo)).take (sIx items.size items.size hi-sIx items.size 0 lo)).toArray } })(hsz:items.size<=ψ):τ (χ prog w) A (Db (.ref t) (.ref sl)) Q E s:=by
 have htake:sizeOk (.seq ((items.toList.drop (sIx items.size 0 lo)).take (sIx items.size items.size hi-sIx items.size 0 lo)).toArray):=by show ((items.toList.drop (sIx items.size 0 lo)).take (sIx items.size items.size hi-sIx items.size 0 lo)).toArray.size<=ψ;rw[ν,CQ,List.length_drop,D3];lia
 have hj:sIx items.size items.size hi<=items.size:=xI _ _ (ο _) hi;obtain⟨os,hos,hcs,hds⟩:=id hs;have hTs:s.TypeIs (.ref sl) "slice" := ⟨os,hos,hcs⟩;unfold Db
 try with_reducible refine Aj ?_
 first | refine θ (υ ?_) | skip
 refine θ (wpAny_sequenceKey ht.typeIs 'A' ?_);refine θ (wpAny_callSpecial?_slot (name:=ζ "__getitem__") ht.typeIs AO
  (wpAny_call_entry AO ht.typeIs entry_tuple_getitem ?_ (args_tuple_getitem _ _)))
 show τ _ _ (DL (.ref t) >>= _) _ _ s;refine θ (tupleItemsOf_ ht ?_);refine θ (wpAny_typeOf hTs ?_);rw[if_pos 'A'];refine θ (cH hs pl pu ?_);have hno:¬ ((((sIx items.size 0 lo:Nat):Int)==0&&(1:Int)==1&&(sIx items.size items.size hi-sIx items.size 0 lo)==items.size)=true):=by intro q;rw[Ξ,Ξ] at q;have q1:((sIx items.size 0 lo:Nat):Int)=0:=eq_of_beq q.1.1;have q2:sIx items.size items.size hi-sIx items.size 0 lo=items.size:=eq_of_beq q.2;exact hw ⟨by lia,by lia⟩
 show τ _ _ (if (((sIx items.size 0 lo:Nat):Int)==0&&(1:Int)==1&&(sIx items.size items.size hi-sIx items.size 0 lo)==items.size)=true then _ else _) _ _ s;rw[if_neg hno,sJ]
 first
  | exact θ (m:=BK _) (An (υ ⟨_,rfl,υ h⟩) htake)
  | exact θ (m:=BK _) (An (θ (υ (υ ⟨_,rfl,υ h⟩))) htake)
  | exact θ (θ (m:=BK _) (An (υ (υ ⟨_,rfl,υ h⟩)) htake))
  | exact θ (θ (m:=BK _) (An (υ ⟨_,rfl,υ h⟩) htake))
end
end HT
namespace L2
open PySem PySem.Spec PyProof.Rows
abbrev TO:=St->Hp->(Option Int->Hp->Prop)->Prop
def PO (X:Cx)(e:Option Δ)(t:TO):Prop :=
 ∀(aa:List (ε×Obj)) (s:η) (σ:St) (H:Hp) (Q:Option Int->Hp->Prop),Inv X aa σ H s->t σ H Q ->
  τ (χ X.prog X.w) X.A (evalPart e X.env) (λu s'=>∃o H',Inv X aa σ H' s'/\Cn u o/\Q o H') X.xe s
def fF:TO:=λ_ H Q=>Q none H
def oH (t:TE):TO:=λσ H Q=>t σ H λx H1=>∃i,x=.int i/\Q (some i) H1
section
variable {X:Cx}{e:Δ}{te:TE}{lo hi:Option Δ}{tl th:TO}{pos p2:Pos}
theorem uT:PO X none fF:=by intro aa s σ H Q I h;rw[evalPart_none];exact υ ⟨none,H,I,.none,h⟩
theorem uS (h:PE X e te):PO X (some e) (oH te):=by intro aa s σ H Q I hw;rw[evalPart_some];refine thn (h aa s σ H _ I hw) λu s1 ⟨x,H1,I1,r1,q1⟩=>?_;obtain⟨i,rfl,q⟩:=q1;obtain⟨t,rfl⟩:=r1;exact⟨some i,H1,I1,.int i t,q⟩
def SlR (X:Cx)(r:V->Option Int->Option Int->Hp->VK->Prop):Prop :=
 ∀(aa:List (ε×Obj)) (s:η) (σ:St) (H:Hp) (x:V) (v vl vu:δ) (lo hi:Option Int) (sl:ε) (Q:VK),Inv X aa σ H s->RelV x v->s.heap.IsSliceOf sl vl vu .none->Cn vl lo->Cn vu hi->r x lo hi H Q ->
  ∃T id,typeLookup (.type T) "__getitem__" = pure (some (.builtin id))/\s.TypeIs v T/\τ (χ X.prog X.w) X.A (Db v (.ref sl)) (EP X aa σ Q) X.xe s
def tSl (r:V->Option Int->Option Int->Hp->VK->Prop)(te:TE)(tl th:TO):TE:=λσ H Q=>te σ H λx H1=>tl σ H1 λl H2=>th σ H2 λu H3=>r x l u H3 Q
theorem sK {r:V->Option Int->Option Int->Hp->VK->Prop}(hr:SlR X r)(he:PE X e te)(hl:PO X lo tl)(hu:PO X hi th):PE X (.Subscript e (.Slice lo hi none p2) pos) (tSl r te tl th):=by intro aa s σ H Q I h;refine Subscript_ (thn (he aa s σ H _ I h) λv s1 ⟨x,H1,I1,r1,q1⟩=>?_);refine wpAny_Slice (thn (hl aa s1 σ H1 _ I1 q1) λvl s2 ⟨l,H2,I2,pl,q2⟩=>thn (hu aa s2 σ H2 _ I2 q2) λvu s3 ⟨u,H3,I3,pu,q3⟩=>?_);rw[evalPart_none];refine υ ?_;have I4:Inv X aa σ H3 { s3 with heap:=s3.heap.push { cls:=.type "slice",data:=.fields #[vl,vu,.none] } }:=I3.kept (t':=s3.toks) λb ob q=>μ _ q;obtain⟨T,id,hT,ht,hg⟩:=hr aa { s3 with heap:=s3.heap.push { cls:=.type "slice",data:=.fields #[vl,vu,.none] } } σ H3 x v vl vu l u s3.heap.objs.size Q I4 r1 (Heap.IsSliceOf.new ..) pl pu q3;show τ (χ X.prog X.w) X.A (subscriptTail e (.Slice lo hi none p2) v (.ref s3.heap.objs.size)) (EP X aa σ Q) X.xe { s3 with heap:=s3.heap.push { cls:=.type "slice",data:=.fields #[vl,vu,.none] } };exact tail_any (ops:=[.ref s3.heap.objs.size,v]) ht hT hg (by with_unfolding_all rfl)
noncomputable def iJ (xs:List V)(lo hi:Option Int):List V:=(xs.drop (HT.sIx xs.length 0 lo)).take (HT.sIx xs.length xs.length hi-HT.sIx xs.length 0 lo)
theorem e7 (xs:List V)(lo hi:Option Int):(iJ xs lo hi).length<=xs.length:=by unfold iJ;rw[CQ,List.length_drop];lia
noncomputable def zE (K:γ):V->Option Int->Option Int->Hp->VK->Prop:=λx lo hi H Q=>∃a xs,x=.ref a/\SqT K H a xs /\
 ¬ (HT.sIx xs.length 0 lo=0/\HT.sIx xs.length xs.length hi=xs.length)/\∀p,H p=none->Q (.ref p) (upd H p (.tup (iJ xs lo hi)))
theorem xC:SlR X (zE X.K):=by
 intro aa s σ H x v vl vu lo hi sl Q I rx hs pl pu h;obtain⟨a,xs,rfl,hx,hw,q⟩:=h;cases rx;obtain⟨its,r,ht,hz⟩:=I.tuple hx;have hlen:its.toArray.size=xs.length:=by rw[ν];exact r.length.symm
 refine⟨"tuple",_,AO.lookup,ht.typeIs,?_⟩;refine HT.d8 ht hs pl pu (by rw[hlen];exact hw) ?_ (by rw[hlen];exact hz);rw[hlen];refine⟨.ref s.heap.objs.size,_,I.laid (t':=s.toks) (o:=.tup (iJ xs lo hi)) (λb ob q=>μ _ q) (ο _) ?_,rfl,q _ (I.hok.fresh (ο _))⟩;exact⟨AN (e7 xs lo hi) hz,_,(r.drop (HT.sIx xs.length 0 lo)).take (HT.sIx xs.length xs.length hi-HT.sIx xs.length 0 lo),Dm _ _⟩
def yR (K:γ):R2:=λx y H Q=>∃a b xs ys,x=.ref a/\y=.ref b/\SqT K H a xs/\SqT K H b ys/\xs≠[]/\xs.length+ys.length<=ψ /\
 (ys=[]->Q (.ref a) H)/\(ys≠[]->∀p,H p=none->Q (.ref p) (upd H p (.tup (xs++ys))))
theorem Vals.nil_iff {xs:List V}(r:Vals xs us):us=[]↔xs=[]:=by
 cases r with
 | nil=>simp
 | cons _ _=>simp
theorem uY:OpR X (B0 .Add) (yR X.K):=by intro aa s σ H x y v u Q I rx ry h;obtain⟨a,b,xs,ys,rfl,rfl,ha,hb,hx,hz,q1,q2⟩:=h;cases rx;cases ry;obtain⟨its,r1,p1,_⟩:=I.tuple ha;obtain⟨its2,r2,p2,_⟩:=I.tuple hb;refine HT.vW p1 p2 (λz=>hx (r1.nil_iff.mp z)) (λz=>⟨.ref a,H,I,rfl,q1 (r2.nil_iff.mp z)⟩) (λz=>?_) (by rw[<- r1.length,<- r2.length];exact hz);refine⟨.ref s.heap.objs.size,_,I.laid (t':=s.toks) (o:=.tup (xs++ys)) (λb ob q=>μ _ q) (ο _) ?_,rfl,q2 (λw=>z (r2.nil_iff.mpr w)) _ (I.hok.fresh (ο _))⟩;exact⟨by rw[AM];exact hz,_,r1.append r2,Dm _ _⟩
end
noncomputable def ixN (n:Nat)(i:Int):Option Nat:=if 0<=i then (if i<n then some i.toNat else none) else if -(n:Int)<=i then some (i+n).toNat else none
noncomputable def atI {α:Type}(xs:List α)(i:Int):Option α:=(ixN xs.length i).bind λj=>xs[j]?
theorem pE {n:Nat}{i:Int}(h:ixN n i=some j):seqIndex? i n=some j/\j<n /\ -(n:Int)<=i/\i<n:=by
 unfold ixN at h;by_cases h0:0<=i
 ·rw[if_pos h0] at h;by_cases h1:i<n
  ·rw[if_pos h1] at h;have e:i.toNat=j:=AA h;exact⟨by rw[seqIndex_of h0 h1,e],by lia,by lia,h1⟩
  ·rw[if_neg h1] at h;cases h
 ·rw[if_neg h0] at h;by_cases h1 : -(n:Int)<=i
  ·rw[if_pos h1] at h;have e:(i+n).toNat=j:=AA h;exact⟨by rw[seqIndex_neg 'B' h1,e],by lia,h1,by lia⟩
  ·rw[if_neg h1] at h;cases h
theorem vY {α:Type}{xs:List α}{i:Int}{v:α}(h:atI xs i=some v):∃j,seqIndex? i xs.length=some j/\xs[j]? = some v/\j<xs.length /\ -(xs.length:Int)<=i/\i<xs.length:=by
 unfold atI at h;cases e:ixN xs.length i with
 | none=>rw[e] at h;cases h
 | some j =>
  rw[e] at h;obtain⟨h1,h2,h3,h4⟩:=pE e;exact⟨j,h1,h,h2,h3,h4⟩
theorem eF {α:Type}{xs:List α}{v:α}(h:xs[j]? = some v):atI xs (j:Int)=some v:=by
 have hj:j<xs.length:=(A0.mp h).1;have e:ixN xs.length (j:Int)=some j:=by unfold ixN;rw[if_pos 'B',if_pos 'B'];simp
 unfold atI;rw[e];exact h
def pU (b:Δ):Prop:=∀o i,subscripted b false o i=operate [o,i] (Db o i)
def IxR (X:Cx)(r:R2):Prop :=
 ∀(value slice:Δ) (aa:List (ε×Obj)) (s:η) (σ:St) (H:Hp) (x y:V) (v u:δ) (Q:VK),Inv X aa σ H s->RelV x v->RelV y u->r x y H Q ->
  subscripted slice false v u=operate [v,u] (Db v u)->τ (χ X.prog X.w) X.A (subscriptTail value slice v u) (EP X aa σ Q) X.xe s
def MtR (X:Cx)(id:String)(r:V->List V->Hp->VK->Prop):Prop :=
 ∀(aa:List (ε×Obj)) (s:η) (σ:St) (H:Hp) (x:V) (xs:List V) (v:δ) (us:List δ) (Q:VK),Inv X aa σ H s->RelV x v->Vals xs us->r x xs H Q ->
  τ (χ X.prog X.w) X.A (call (.builtin id) (v::us)) (EP X aa σ Q) X.xe s
section
variable {X:Cx}{a b:Δ}{ta tb:TE}{pos:Pos}
theorem cU {r:R2}(hr:IxR X r)(ha:PE X a ta)(hb:PE X b tb)(hs:pU b):PE X (.Subscript a b pos) (tOp r ta tb):=by intro aa s σ H Q I h;exact Subscript_ (yI ha hb I h λv u s2 x y H2 I2 rx ry q=>hr a b aa s2 σ H2 x y v u Q I2 rx ry q (hs _ _))
def lV (K:γ):R2:=λx y H Q=>∃p xs i v,x=.ref p/\y=.int i/\SqL K H p xs/\atI xs i=some v/\Q v H
theorem bO:IxR X (lV X.K):=by
 intro value slice aa s σ H x y v u Q I rx ry h hs;obtain⟨p,xs,i,z,rfl,rfl,hq,he,q⟩:=h;cases rx;obtain⟨t,rfl⟩:=ry;obtain⟨its,r,pl,hz⟩:=I.list hq;obtain⟨j,h1,h2,h3,h4,h5⟩:=vY he;obtain⟨w,ew,rw'⟩:=r.get h2;have hl:=r.length;have hn:=nU;have fin:EP X aa σ Q w s:=⟨z,H,I,rw',q⟩;by_cases h0:0<=i
 ·have hj:i.toNat=j:=by
   rw[seqIndex_of h0 h5] at h1;exact AA h1
  exact item_listR pl.isList h0 'B' (by rw[hj];simpa using ew) fin hs
 ·have hj:(i+(its.toArray.size:Int)).toNat=j:=by
   rw[seqIndex_neg 'B' h4] at h1;rw[ν,<- hl];exact AA h1
  exact subscriptTail_builtinR (x:=w) pl.isList.typeIs slot_list_getitem.lookup
   (wpAny_getItem_list_neg (Q:=λr s'=>r=w/\EP X aa σ Q r s') pl.isList 'B' (by rw[ν] <;> lia) 'B' (by rw[hj];simpa using ew) ⟨rfl,fin⟩) hs
theorem nT (its:List δ)(n j:Nat)(u:δ):DU (·.setIfInBounds j u) { cls:=.type "list",data:=.seq its.toArray n }={ cls:=.type "list",data:=.seq (its.set j u).toArray n }:=by simp[DU]
theorem Inv.lst {σ:St}{H:Hp}{xs:List V}(I:Inv X aa σ H s)(h:H p=some (.lst xs)) :
  ∃(its:List δ) (n:Nat),Vals xs its/\s.heap.get? p=some { cls:=.type "list",data:=.seq its.toArray n }/\xs.length<=ψ:=by
 obtain⟨z,its,n,r,e⟩:=I.hok p _ h;exact⟨its,n,r,e,z⟩
theorem Inv.lstUpd {σ:St}{H:Hp}{xs ys:List V}{its':List δ}{n n':Nat}{f:Obj->Obj}(I:Inv X aa σ H s)(h:H p=some (.lst xs))(ho:s.heap.get? p=some { cls:=.type "list",data:=.seq its.toArray n })(hf:f { cls:=.type "list",data:=.seq its.toArray n }={ cls:=.type "list",data:=.seq its'.toArray n' })(r:Vals ys its')(hz:ys.length<=ψ)(t:Nat) :
  Inv X aa σ (upd H p (.lst ys)) { s with heap:=s.heap.update p f,toks:=t }:=by
 have e:(s.heap.update p f).get? p=some { cls:=.type "list",data:=.seq its'.toArray n' }:=by rw[Cb f ho (by rw[hf] <;> rfl),hf]
 refine I.write (x:=p) (e:=p) (by rw[h];trivial) (.inl rfl) (λb u hb q=>(AT _ _ (BQ hb)).trans q) ⟨_,e⟩ ?_;exact⟨hz,its',n',r,e⟩
noncomputable def lT:V->V->V->Hp->(Hp->Prop)->Prop:=λo i v H Q=>∃p xs k j,o=.ref p/\i=.int k/\H p=some (.lst xs)/\ixN xs.length k=some j/\Q (upd H p (.lst (xs.set j v)))
theorem fW:yM X lT:=by
 intro aa s σ H o i v ov iv u Q I ro ri rv h;obtain⟨p,xs,k,j,rfl,rfl,hp,hj,q⟩:=h;cases ro;obtain⟨t,rfl⟩:=ri;obtain⟨its,n,r,ho,hz⟩:=I.lst hp;obtain⟨h1,h2,h3,h4⟩:=pE hj;have hl:=r.length;have hn:=nU;have I':Inv X aa σ (upd H p (.lst (xs.set j v))) { s with heap:=s.heap.update p (DU (·.setIfInBounds j u)) } :=
  I.lstUpd hp ho (nT its n j u) (r.set rv j) (by rw[Co];exact hz) s.toks
 by_cases h0:0<=k
 ·have hk:k.toNat=j:=by
   rw[seqIndex_of h0 h4] at h1;exact AA h1
  exact PySem.W.ki_setAt ho h0 'B' (by rw[ν,<- hl];exact h4) (by rw[hk];exact⟨_,I',q⟩)
 ·have hk:(k+(its.toArray.size:Int)).toNat=j:=by
   rw[seqIndex_neg 'B' h3] at h1;rw[ν,<- hl];exact AA h1
  exact PySem.W.ki_setBack ho 'B' (by rw[ν,<- hl];exact h3) 'B' (by rw[hk];exact⟨_,I',q⟩)
theorem j6 (lo hi:Option Int)(n:Nat):(Bk lo hi none n).1=((HT.sIx n 0 lo:Nat):Int)/\(Bk lo hi none n).2.1=((HT.sIx n n hi:Nat):Int)/\(Bk lo hi none n).2.2=1:=by
 refine⟨?_,?_,rfl⟩
 ·cases lo with
  | none=>simp[Bk,HT.sIx]
  | some i =>
   simp only[Bk,HT.sIx,Option.getD_none,show (1:Int)>0 by decide,if_true];by_cases h:i<0
   ·simp only[h,if_true] <;> lia
   ·simp only[h,if_false] <;> lia
 ·cases hi with
  | none=>simp[Bk,HT.sIx]
  | some i =>
   simp only[Bk,HT.sIx,Option.getD_none,show (1:Int)>0 by decide,if_true];by_cases h:i<0
   ·simp only[h,if_true] <;> lia
   ·simp only[h,if_false] <;> lia
theorem hG (its:List δ)(lo hi:Option Int):slicePick its.toArray lo hi none=((its.drop (HT.sIx its.length 0 lo)).take (HT.sIx its.length its.length hi-HT.sIx its.length 0 lo)).toArray:=by obtain⟨h1,h2,h3⟩:=j6 lo hi its.toArray.size;unfold slicePick;rw[h1,h2,h3];simp only[sliceRange_one,pick_run,ν] <;> rfl
noncomputable def zF (K:γ):V->Option Int->Option Int->Hp->VK->Prop:=λx lo hi H Q=>∃a xs,x=.ref a/\SqL K H a xs/\∀p,H p=none->Q (.ref p) (upd H p (.lst (iJ xs lo hi)))
theorem uJ:SlR X (zF X.K):=by intro aa s σ H x v vl vu lo hi sl Q I rx hs pl pu h;obtain⟨a,xs,rfl,hx,q⟩:=h;cases rx;obtain⟨its,r,ht,hz⟩:=I.list hx;have hlen:=r.length;refine⟨"list",_,slot_list_getitem.lookup,ht.isList.typeIs,?_⟩;refine wpAny_getItem_list_slice ht.isList hs pl pu .none 'C' ?_ (by rw[ν] <;> lia);rw[hG,<- hlen];refine⟨.ref s.heap.objs.size,_,I.laid (t':=s.toks) (o:=.lst (iJ xs lo hi)) (λb ob q=>μ _ q) (ο _) ?_,rfl,q _ (I.hok.fresh (ο _))⟩;exact⟨AN (e7 xs lo hi) hz,_,0,(r.drop (HT.sIx xs.length 0 lo)).take (HT.sIx xs.length xs.length hi-HT.sIx xs.length 0 lo),A9 _ rfl⟩
noncomputable def eB:V->Bool
 | .non=>true
 | .bl _=>true
 | .int _=>true
 | .str _=>true
 | _=>false
noncomputable def eqV:V->V->Bool
 | .non,.non=>true
 | .bl a,.bl b=>a==b
 | .bl a,.int b=>(if a then 1 else 0)==b
 | .int a,.bl b=>a==(if b then 1 else 0)
 | .int a,.int b=>a==b
 | .str a,.str b=>a==b
 | _,_=>false
theorem yG {A:Around}{y x:V}{u v:δ}(ry:RelV y u)(rx:RelV x v)(fy:eB y=true)(fx:eB x=true):Dw A s u v (eqV y x):=by
 cases y with
 | non =>
  cases ry;cases x with
  | non=>cases rx;exact SeqAt.EqAt.same _
  | bl b=>cases rx;exact SeqAt.EqAt.none_bool b
  | int b=>obtain⟨t,rfl⟩:=rx;exact SeqAt.EqAt.none_int b t
  | str b=>obtain⟨t,rfl⟩:=rx;exact SeqAt.EqAt.none_str b t
  | _=>exact absurd (show false=true from fx) Λ
 | bl a =>
  cases ry;cases x with
  | non=>cases rx;exact SeqAt.EqAt.bool_none a
  | bl b=>cases rx;exact Cp a b
  | int b=>obtain⟨t,rfl⟩:=rx;exact SeqAt.EqAt.bool_int a b t
  | str b=>obtain⟨t,rfl⟩:=rx;exact SeqAt.EqAt.bool_str a b t
  | _=>exact absurd (show false=true from fx) Λ
 | int a =>
  obtain⟨t',rfl⟩:=ry;cases x with
  | non=>cases rx;exact SeqAt.EqAt.int_none a t'
  | bl b=>cases rx;exact SeqAt.EqAt.int_bool a t' b
  | int b=>obtain⟨t,rfl⟩:=rx;exact SeqAt.EqAt.int_int a t' b t
  | str b=>obtain⟨t,rfl⟩:=rx;exact SeqAt.EqAt.int_str a t' b t
  | _=>exact absurd (show false=true from fx) Λ
 | str a =>
  obtain⟨t',rfl⟩:=ry;cases x with
  | non=>cases rx;exact SeqAt.EqAt.str_none a t'
  | bl b=>cases rx;exact SeqAt.EqAt.str_bool a t' b
  | int b=>obtain⟨t,rfl⟩:=rx;exact SeqAt.EqAt.str_int a t' b t
  | str b=>obtain⟨t,rfl⟩:=rx;exact SeqAt.EqAt.str_str a t' b t
  | _=>exact absurd (show false=true from fx) Λ
 | _=>exact absurd (show false=true from fy) Λ
noncomputable def eqU (x:V)(u:δ):Bool:=match u with
 | .none=>eqV .non x
 | .bool b=>eqV (.bl b) x
 | .int i _=>eqV (.int i) x
 | .str z _=>eqV (.str z) x
 | _=>false
theorem tV {x y:V}{u:δ}(r:RelV y u)(f:eB y=true):eqU x u=eqV y x:=by
 cases y with
 | non=>cases r;rfl
 | bl b=>cases r;rfl
 | int i=>obtain⟨t,rfl⟩:=r;rfl
 | str z=>obtain⟨t,rfl⟩:=r;rfl
 | _=>exact absurd (show false=true from f) Λ
theorem lF {x:V}:∀ {xs:List V} {us:List δ},Vals xs us->xs.all eB=true->us.any (eqU x)=xs.any λy=>eqV y x
 | _,_,.nil,_=>rfl
 | y::xs,u::us,.cons r t,f=>by rw[BR,Ξ] at f;rw[List.any_cons,List.any_cons,tV r f.1,lF t f.2]
theorem gE {A:Around}{s:η}{x:V}{v:δ}(rx:RelV x v)(fx:eB x=true):∀ {xs:List V} {us:List δ},Vals xs us->xs.all eB=true->∀u∈us,Dw A s u v (eqU x u)
 | _,_,.nil,_=>λu hu=>by cases hu
 | y::xs,u::us,.cons r t,f=>λu' hu=>by
  rw[BR,Ξ] at f;rcases AV.mp hu with rfl | hu
  ·rw[tV r f.1];exact yG r rx f.1 fx
  ·exact gE rx fx t f.2 u' hu
noncomputable def inV (x:V)(xs:List V):Bool:=xs.any λy=>eqV y x
def rIn (K:γ)(neg:Bool):R2:=λx y H Q=>∃p xs,y=.ref p/\(SqL K H p xs\/SqT K H p xs)/\eB x=true/\xs.all eB=true/\Q (.bl (if neg then !inV x xs else inV x xs)) H
theorem kG:OpR X (Aq .NotIn) (rIn X.K true):=by
 intro aa s σ H x y v u Q I rx ry h;obtain⟨p,xs,rfl,hq,fx,fs,q⟩:=h;cases ry;rcases hq with hq | hq
 ·obtain⟨its,r,pl,hz⟩:=I.list hq;refine SeqAt.notIn_listAt (eqU x) pl.isList (λw hw=>gE rx fx r fs w (by simpa using hw)) ⟨.bl _,H,I,rfl,?_⟩;rw[show its.toArray.any (eqU x)=its.any (eqU x) by simp,lF r fs];exact q
 ·obtain⟨its,r,pl,hz⟩:=I.tuple hq;refine SeqAt.notIn_tupleAt (eqU x) pl (λw hw=>gE rx fx r fs w (by simpa using hw)) ⟨.bl _,H,I,rfl,?_⟩;rw[show its.toArray.any (eqU x)=its.any (eqU x) by simp,lF r fs];exact q
theorem cS:bY X (.builtin "len") (λxs H Q=>∃p ys,xs=[.ref p]/\(SqL X.K H p ys\/SqT X.K H p ys)/\Q (.int ys.length) H):=by
 intro aa s σ H xs us Q I r h;obtain⟨p,ys,rfl,hq,q⟩:=h;obtain⟨u,rfl,rx⟩:=lH r;cases rx;have hn:=nU;rcases hq with hq | hq
 ·obtain⟨its,r',pl,hz⟩:=I.list hq;have hlen:=r'.length;exact Calls.call_len_list pl.isList (by simp only[ν] <;> lia) ⟨.int ys.length,H,I.tok _,⟨s.toks+1,by rw[ν,hlen]⟩,q⟩
 ·obtain⟨its,r',pl,hz⟩:=I.tuple hq;have hlen:=r'.length;exact len_tuple pl (by simp only[ν] <;> lia) ⟨.int ys.length,H,I.tok _,⟨s.toks+1,by rw[ν,hlen]⟩,q⟩
theorem lD:bY X (.type "list") (λxs H Q=>∃p ys,xs=[.ref p]/\(SqL X.K H p ys\/SqT X.K H p ys)/\∀l,H l=none->Q (.ref l) (upd H l (.lst ys))):=by
 intro aa s σ H xs us Q I r h;obtain⟨p,ys,rfl,hq,q⟩:=h;obtain⟨u,rfl,rx⟩:=lH r;cases rx;have fin:∀(its:List δ),Vals ys its->ys.length<=ψ->∀(h':ω) (c':Nat),(∀b o',s.heap.get? b=some o'->h'.get? b=some o') ->
   h'.get? s.heap.objs.size=some { cls:=.type "list",dict:=none,data:=.seq its.toArray c',slots:=#[] }->EP X aa σ Q (.ref s.heap.objs.size) { s with heap:=h' }:=λits r' hz h' c' kp e =>
  ⟨.ref s.heap.objs.size,_,I.laid (t':=s.toks) kp (ο _) (show ObjOk X.prog X.w _ h' _ (.lst ys) from ⟨hz,its,c',r',e⟩),rfl,q _ (I.hok.fresh (ο _))⟩
 rcases hq with hq | hq
 ·obtain⟨its,r',pl,hz⟩:=I.list hq;have hlen:=r'.length;obtain⟨o,ho,hc,n,hd⟩:=pl.isList;exact call_list_seq p (.inl rfl) ho hc hd (λh' c' kp e=>fin its r' hz h' c' kp e) (by simp only[ν] <;> lia)
 ·obtain⟨its,r',pl,hz⟩:=I.tuple hq;have hlen:=r'.length;obtain⟨o,ho,hc,n,hd⟩:=pl;exact call_list_seq p (.inr rfl) ho hc hd (λh' c' kp e=>fin its r' hz h' c' kp e) (by simp only[ν] <;> lia)
theorem iK:bY X (.type "tuple") (λxs H Q=>∃p ys,xs=[.ref p]/\((SqL X.K H p ys/\∀l,H l=none->Q (.ref l) (upd H l (.tup ys)))\/(SqT X.K H p ys/\Q (.ref p) H))):=by
 intro aa s σ H xs us Q I r h;obtain⟨p,ys,rfl,h⟩:=h;obtain⟨u,rfl,rx⟩:=lH r;cases rx;rcases h with ⟨hq,q⟩ | ⟨hq,q⟩
 ·obtain⟨its,r',pl,hz⟩:=I.list hq;have hlen:=r'.length;refine call_tuple_list pl.isList (λh' kp=>?_) (by simp only[ν] <;> lia);have I1:Inv X aa σ H { s with heap:=h' }:=I.kept (t':=s.toks) kp;have I2:Inv X aa σ (upd H h'.objs.size (.tup ys)) { s with heap:=h'.push { cls:=.type "tuple",data:=.seq its.toArray } } :=
   I1.laid (t':=s.toks) (λb o e=>μ _ e) (ο _) (show ObjOk X.prog X.w _ _ _ (.tup ys) from ⟨hz,its,r',Dm _ _⟩)
  exact⟨.ref h'.objs.size,_,I2,rfl,q _ (I1.hok.fresh (ο _))⟩
 ·obtain⟨its,r',pl,hz⟩:=I.tuple hq;exact call_tuple_same pl ⟨.ref p,H,I,rfl,q⟩
def tyV (K:γ)(T:String)(x:V)(H:Hp):Prop:=match x with
 | .str _=>T = "str"
 | .int _=>T = "int"
 | .ref p=>(T = "list" /\ ∃xs,SqL K H p xs)\/(T = "tuple" /\ ∃o,K.lookup p=some o/\o.cls=.type "tuple" /\ o.dict=none) \/
   (T = "dict" /\ ((∃kvs,H p=some (.dK kvs))\/∃kvs,H p=some (.dT kvs)))\/(T = "set" /\ ∃S n,H p=some (.set S n))
 | _=>False
theorem rJ {σ:St}{H:Hp}{T:String}{x:V}{v:δ}(I:Inv X aa σ H s)(r:RelV x v)(ty:tyV X.K T x H) :
  s.TypeIs v T/\∀a,v=.ref a->∃ob,s.heap.get? a=some ob/\ob.dict=none:=by
 cases x with
 | str z =>
  obtain⟨t,rfl⟩:=r;cases (show T = "str" from ty);exact⟨typeIs_str s z t,λ_ e=>nomatch e⟩
 | int i =>
  obtain⟨t,rfl⟩:=r;cases (show T = "int" from ty);exact⟨typeIs_int s i t,λ_ e=>nomatch e⟩
 | ref p =>
  cases r;rcases ty with ⟨rfl,xs,hq⟩ | ⟨rfl,o,hk,hc,hd⟩ | ⟨rfl,hk⟩ | ⟨rfl,S,n,hk⟩
  ·obtain⟨its,_,pl,_⟩:=I.list hq;refine⟨pl.isList.typeIs,λa e=>?_⟩;cases e;obtain⟨o,n,e,c,hd,_⟩:=pl;exact⟨o,e,hd⟩
  ·refine⟨⟨o,I.kIn p o hk,hc⟩,λa e=>?_⟩;cases e;exact⟨o,I.kIn _ o hk,hd⟩
  ·have z:∃o,s.heap.get? p=some o/\o.ExactDict:=by
    rcases hk with ⟨kvs,hk⟩ | ⟨kvs,hk⟩
    ·obtain⟨_,_,_,_,o,_,_,e,ex,_⟩:=I.hok p _ hk;exact⟨o,e,ex⟩
    ·obtain⟨_,_,_,_,o,_,_,e,ex,_⟩:=I.hok p _ hk;exact⟨o,e,ex⟩
   obtain⟨o,e,ex⟩:=z;refine⟨⟨o,e,ex.1⟩,λa e2=>?_⟩;cases e2;exact⟨o,e,ex.2.1⟩
  ·obtain⟨o,_,_,_,e,ex,_⟩:=I.hok p _ hk;refine⟨⟨o,e,ex.1⟩,λa e2=>?_⟩;cases e2;exact⟨o,e,ex.2.1⟩
 | _=>exact AG ty
def wY (K:γ)(T:String)(r:V->List V->Hp->VK->Prop)(to:TE):TE:=λσ H Q=>to σ H λx H1=>tyV K T x H1/\r x [] H1 Q
def tBM (K:γ)(T:String)(r:V->List V->Hp->VK->Prop)(to:TE)(t:TA):TE:=λσ H Q=>to σ H λx H1=>tyV K T x H1/\t σ H1 λxs H2=>r x xs H2 Q
variable {o e:Δ}{es:List Δ}{to:TE}{t:TA}{name:Str}{apos cpos:Pos}{T id:String}{r:V->List V->Hp->VK->Prop}
theorem xT (pa:DV T)(slot:Slot T name id)(hty:DD (.builtin id)=pure (.type "method_descriptor"))(hm:MtR X id r)(ho:PE X o to)(hbase:autoParam (BD o name X.env (A5 o X.env)=A5 o X.env) L2.au3._auto_1)(hline:autoParam ((apos.endLine==cpos.line)=true) L2.au3._auto_1):PE X (.Call (.Attribute o name apos) [] [] cpos) (wY X.K T r to):=by intro aa s σ H Q I h;refine wpAny_Call_method0_late hbase hline (thn (ho aa s σ H _ I h) λv s1 ⟨x,H1,I1,r1,ty,q1⟩=>?_);obtain⟨h1,h2⟩:=rJ I1 r1 ty;exact⟨T,id,pa,slot,hty,h1,h2,Calls.callWith_builtin rfl (PySem.evalArgs_none (hm aa s1 σ H1 x [] v [] Q I1 r1 .nil q1))⟩
theorem wM (pa:DV T)(slot:Slot T name id)(hty:DD (.builtin id)=pure (.type "method_descriptor"))(hm:MtR X id r)(ho:PE X o to)(ha:PA X (e::es) t)(hbase:autoParam (BD o name X.env (A5 o X.env)=A5 o X.env) L2.au3._auto_1)(hfew:autoParam (((B4 cpos (Θ (e::es) X.env)).all (λx => !x.1)&&(backToKw cpos (keywordEach [] X.env)).all (λx=>x.1.isSome)
   && decide ((e::es).length+([]:List DZ).length+(if ([]:List DZ).isEmpty then 0 else 1)<30))=true) L2.au3._auto_1)(hline:autoParam ((apos.endLine==cpos.line)=true) L2.au3._auto_1)(hs:autoParam (Θ (e::es) X.env=(false,A5 e X.env)::Θ es X.env) L2.au3._auto_1)(hplain:autoParam ((B4 cpos (Θ es X.env)).any (·.1)=false) L2.au3._auto_1) :
  PE X (.Call (.Attribute o name apos) (e::es) [] cpos) (tBM X.K T r to t):=by
 intro aa s σ H Q I h;refine wpAny_Call_method_late hbase hfew hline rfl (thn (ho aa s σ H _ I h) λv s1 ⟨x,H1,I1,r1,ty,q1⟩=>?_);obtain⟨h1,h2⟩:=rJ I1 r1 ty;refine⟨T,id,pa,slot,hty,h1,h2,?_⟩;have hA:=ha cpos aa s1 σ H1 _ I1 q1;rw[hs] at hA ⊢;refine Calls.callWith_builtin (by show (false||(B4 cpos (Θ es X.env)).any (·.1))=false;rw[hplain] <;> rfl) (Calls.evalArgs_plain ?_);exact thn hA λus s2 ⟨vs,H2,I2,r2,q2⟩=>hm aa s2 σ H2 x vs v us Q I2 r1 r2 q2
end
def MtM (X:Cx)(id:String)(r:V->List V->Hp->VK->Prop):Prop :=
 ∀(aa:List (ε×Obj)) (s:η) (σ:St) (H:Hp) (x:V) (xs:List V) (v:δ) (us:List δ) (Q:VK),Inv X aa σ H s->RelV x v->Vals xs us->r x xs H Q ->
  τ (χ X.prog X.w) X.A (call (.builtin id) (v::us)) (EP X aa σ Q) X.xe s
theorem Vals.one {x:V}(h:Vals [x] us):∃u,us=[u]/\RelV x u:=by
 cases h with
 | cons r t=>cases t;exact⟨_,rfl,r⟩
theorem Vals.zero:∀ {us:List δ},Vals [] us->us=[]
 | _,.nil=>rfl
theorem Vals.reverse {xs:List V}(h:Vals xs us):Vals xs.reverse us.reverse:=by
 induction h with
 | nil=>exact .nil
 | cons r t ih=>rw[List.reverse_cons,List.reverse_cons];exact Vals.append ih (.cons r .nil)
theorem Vals.rep {xs:List V}{us:List δ}(h:Vals xs us):∀k:Nat,Vals (A6 k xs).flatten (A6 k us).flatten
 | 0=>.nil
 | k+1=>by rw[BP,BP,CC,CC];exact Vals.append h (Vals.rep h k)
theorem jM (its:List δ):∀(k:Nat) (acc:List δ),
  List.foldl (λx1 x2=>x1++x2) acc.toArray (A6 k its.toArray)=(acc++(A6 k its).flatten).toArray
 | 0,acc=>by simp
 | k+1,acc=>by
  have e:acc.toArray++its.toArray=(acc++its).toArray:=by simp
  have e2:(acc++its)++(A6 k its).flatten=acc++(A6 (k+1) its).flatten:=by rw[BP,CC,List.append_assoc]
  rw[<- e2,<- jM its k (acc++its),<- e,BP,List.foldl_cons]
section
variable {X:Cx}{aa:List (ε×Obj)}{σ:St}{H:Hp}{s:η}{l b:ε}{xs ys zs:List V}
theorem Inv.lset {its':List δ}{n:Nat}{f:Array δ->Array δ}(I:Inv X aa σ H s)(hH:H l=some (.lst xs))(e:s.heap.get? l=some { cls:=.type "list",data:=.seq its.toArray n })(hf:f its.toArray=its'.toArray)(hv:Vals ys its')(hz:ys.length<=ψ) :
  Inv X aa σ (upd H l (.lst ys)) { s with heap:=s.heap.update l (DU f),toks:=t' }:=by
 have q:=PySem.IsL.update e f;rw[hf] at q;refine I.write (x:=l) (e:=l) (by rw[hH];exact trivial) (.inl rfl) (λb' u hb hu=>(AT s.heap (DU f) (BQ hb)).trans hu) ⟨_,q⟩ ?_;exact⟨hz,its',_,hv,q⟩
theorem Inv.lnew (I:Inv X aa σ H s)(hv:Vals ys its)(hz:ys.length<=ψ) :
  Inv X aa σ (upd H s.heap.objs.size (.lst ys)) { s with heap:=s.heap.push { cls:=.type "list",data:=.seq its.toArray },toks:=t' } :=
 I.laid (λ_ _ q=>μ _ q) (ο _) ⟨hz,its,0,hv,A9 _ rfl⟩
theorem Inv.fresh (I:Inv X aa σ H s):H s.heap.objs.size=none:=I.hok.fresh (ο _)
theorem Inv.lstM (I:Inv X aa σ H s)(hH:H l=some (.lst xs)):xs.length<=ψ/\∃(its:List δ) (n:Nat),Vals xs its/\xs.length=its.length/\s.heap.get? l=some { cls:=.type "list",data:=.seq its.toArray n }:=by obtain⟨z,its,n,r,e⟩:=I.hok l _ hH;exact⟨z,its,n,r,r.length,e⟩
theorem sU {n:Nat}(h:n<=ψ):Bx n=false:=by unfold Bx;exact decide_eq_false 'B'
end
section
variable {X:Cx}
noncomputable def dS:V->List V->Hp->VK->Prop:=λx vs H Q=>∃l xs y,x=.ref l/\vs=[y]/\H l=some (.lst xs)/\xs.length<ψ/\Q .non (upd H l (.lst (xs++[y])))
theorem jE:MtM X "list.append" dS:=by intro aa s σ H x vs v us Q I rx rv h;obtain⟨l,xs,y,rfl,rfl,hH,hz,q⟩:=h;cases rx;obtain⟨u,rfl,ru⟩:=rv.one;obtain⟨z,its,n,r,hl,e⟩:=I.lstM hH;refine Cq By ⟨_,e,rfl⟩ F.entry_list_append (F.args_list_append_2 _ _) (PySem.list_append l its.toArray n u (by rw[ν];lia)) ⟨e,?_⟩;refine⟨.non,_,I.lset (its':=its++[u]) hH e 'C' (r.append (.cons ru .nil)) ?_,rfl,q⟩;rw[AM,BZ];lia
noncomputable def lU:V->List V->Hp->VK->Prop:=λx vs H Q=>∃l xs,x=.ref l/\vs=[]/\H l=some (.lst xs)/\Q .non (upd H l (.lst xs.reverse))
theorem nR:MtM X "list.reverse" lU:=by intro aa s σ H x vs v us Q I rx rv h;obtain⟨l,xs,rfl,rfl,hH,q⟩:=h;cases rx;have hus:=rv.zero;subst hus;obtain⟨z,its,n,r,hl,e⟩:=I.lstM hH;refine Cq F.slot_list_reverse ⟨_,e,rfl⟩ F.entry_list_reverse (F.args_list_reverse_1 _) (AutoSeq1.list_reverse_list_0 l its.toArray n (by rw[ν];lia)) ⟨e,?_⟩;refine⟨.non,_,I.lset (its':=its.reverse) hH e 'C' r.reverse ?_,rfl,q⟩;rw[List.length_reverse];lia
def r8:R2:=λx y H Q=>∃l b xs zs,x=.ref l/\y=.ref b/\H l=some (.lst xs)/\H b=some (.lst zs)/\xs.length+zs.length<=ψ/\∀p,H p=none->Q (.ref p) (upd H p (.lst (xs++zs)))
theorem nN:OpR X (B0 .Add) r8:=by
 intro aa s σ H x y v u Q I rx ry h;obtain⟨l,b,xs,zs,rfl,rfl,hH,hB,hz,q⟩:=h;cases rx;cases ry;obtain⟨z,its,n,r,hl,e⟩:=I.lstM hH;obtain⟨z2,its2,n2,r2,hl2,e2⟩:=I.lstM hB;refine PySem.P.add_list e e2 ?_ (by rw[ν,ν];lia);have ea:its.toArray++its2.toArray=(its++its2).toArray:=by simp
 rw[ea];exact⟨.ref _,_,I.lnew (t':=s.toks) (r.append r2) (by rw[AM];lia),rfl,q _ I.fresh⟩
def zH:R2:=λx y H Q=>∃l k xs,x=.ref l/\y=.int k/\H l=some (.lst xs) /\ -(2^63)<=k/\k<2^63/\xs.length*k.toNat<=ψ /\
 ∀p,H p=none->Q (.ref p) (upd H p (.lst (A6 k.toNat xs).flatten))
theorem vG {α:Type}(xs:List α)(k:Nat):(A6 k xs).flatten.length=k*xs.length:=by
 induction k with
 | zero=>simp
 | succ k ih=>rw[BP,CC,AM,ih,Nat.succ_mul,Nat.add_comm]
theorem xU:OpR X (B0 .Mult) zH:=by
 intro aa s σ H x y v u Q I rx ry h;obtain⟨l,k,xs,rfl,rfl,hH,h1,h2,hz,q⟩:=h;cases rx;obtain⟨t,rfl⟩:=ry;obtain⟨z,its,n,r,hl,e⟩:=I.lstM hH;have hlen:its.toArray.size*k.toNat<=ψ:=by rw[ν,<- hl];exact hz
 have hcap:¬ its.toArray.size*k.toNat>(2^63-1)/8:=by
  have:(ψ:Nat)<=(2^63-1)/8:=by decide
  lia
 have hfit:¬ (!Builtin.List.listFitsIndex k)=true:=by rw[fitsIndex_both h1 h2];exact Λ
 have hlong:¬ Bx (its.toArray.size*k.toNat)=true:=by rw[sU hlen];exact Λ
 have hnew:List.foldl (λx1 x2=>x1++x2) #[] (A6 (if its.toArray.isEmpty=true then 0 else k.toNat) its.toArray)=(A6 k.toNat its).flatten.toArray:=by
  have f0:∀m:Nat,List.foldl (λx1 x2=>x1++x2) #[] (A6 m its.toArray)=(A6 m its).flatten.toArray:=λm=>by have:=jM its m [];rw[Bo] at this;exact this
  rw[f0];cases its with
  | nil=>simp
  | cons a r'=>rw[if_neg 'C']
 refine wpAny_binaryOp_repeat_ref (T := "list") (U := "int") 'A' ⟨_,e,rfl⟩ (λs'=>typeIs_int s' k t) noFill_list_mul F.fills_int_mul F.slot_int_rmul repeat_list F.slot_int_index.lookup
  (Cq F.slot_int_rmul (typeIs_int s k t) F.entry_int_rmul (F.args_int_rmul_2 _ _) (int___rmul___int_list k t l its.toArray n)
   ⟨e,rfl,⟨_,e,rfl⟩,Cq F.slot_list_mul ⟨_,e,rfl⟩ F.entry_list_mul (F.args_list_mul_2 _ _) (AutoListH.list___mul___list_int_3 l its.toArray n k t hfit hcap hlong) ⟨e,?_⟩⟩)
 rw[hnew];exact⟨.ref _,_,I.lnew (t':=s.toks) (r.rep k.toNat) (by rw[vG,Cr];exact hz),rfl,q _ I.fresh⟩
end
section
variable {prog:ρ}{w:Γ}{A:Around}{E:δ->η->Prop}{s:η}
set_option maxRecDepth 100000 in
end
section
variable {X:Cx}
end
end L2
namespace Att
open PySem PySem.W PySem.Calls PyProof.Rows
theorem fB {P:DE}{h:ω}:∀(ns:List Int) (vs:List δ),WellAll P h vs (ns.map AF)->C6 vs ns:=by
 intro ns
 induction ns with
 | nil =>
  intro vs w;rw[List.map_nil] at w;cases w;exact .nil
 | cons n ns ih =>
  intro vs w;rw[Bg] at w;cases w with
  | cons a b =>
   cases a;exact .cons _ _ (ih _ b)
theorem qC {l:Bp}{n:Nat}(hn:l.most=some n){P:DE}{h:ω}{args:List Bh}{vals:List δ}(hpre:l.row.toRowW.claim.pre args=true)(hwl:WellAll P h vals args) :
  ∃a vs ns,vals=[As a]/\args=[WData.list (ns.map AF)]/\h.get? a=some { cls:=.type "list",data:=.seq vs.toArray }/\C6 vs ns/\ns.length<=n:=by
 have hsh:WShape.hasAll [] args [.list .int]=true:=(pre_splitW hpre).1;have hc:l.pre.holds [] { args:=args }=true:=(pre_splitW hpre).2;obtain⟨d,r,rfl,h1,h2⟩:=hasAllW_cons hsh;obtain rfl:=hasAllW_nil h2;obtain⟨xs,rfl,h3⟩:=hasW_list h1;obtain⟨ns,rfl⟩:=items_int h3;have hlen:ns.length<=n:=by
  unfold OpenLaw.pre at hc;have h4:(WTm.not (.lt (.lit (.int (n:Int))) (.len (.arg 0)))).holds [] { args:=[.list (ns.map .int)] }=true:=by have h4:=(holds_andW hc).1;rw[hn] at h4;exact h4
  have h5:=condW_of h4 (w_not (w_lt w_lit (w_len_list (w_arg rfl))));rw[Ω] at h5;refine Nat.le_of_not_lt λq=>?_;have q':(n:Int)<((ns.length:Nat):Int):=by lia
  first
   | (rw[decide_eq_true q'] at h5;exact absurd h5 'A')
   | (simp at h5;lia)
 cases hwl with
 | cons w1 w2 =>
  cases w2;cases w1 with
  | list ho hall=>exact⟨_,_,ns,rfl,rfl,ho,fB ns _ hall,hlen⟩
theorem qF (l:Bp)(args:List Bh):l.row.toRowW.claim.post args (.bool true) args=true :=
 postW_of (r:=l.row.toRowW) (X:=(true==true))
  (show WShape.has [] (.bool true) .bool=true by first | rfl | decide | simp[WShape.has,WShape.arms,WShape.armsAll])
  (show (WTm.eq .res (.lit (.bool true))).value [] { args:=args,res:=some (.bool true),after:=args }=some (.bool (true==true)) from w_eq_bool (w_res rfl) w_lit) rfl
theorem attach_call {l:Bp}{n:Nat}{q:ρ}{d:DefRec}(hn:l.most=some n)(hdf:d.params.defaults=[])(call:∀(w:Γ) (s₀ s₁:η) (mg mb:Str->Option δ) (fa:ε) (o:Obj) (pm cd doc:δ) (a:ε) (vs:List δ) (ns:List Int),
   Ground q loose [] XP w s₀ mg mb s₁.heap->YP w s₁.heap ->
   s₁.heap.get? fa=some o->o.data=.func (docDef d.name d.params d.body d.scope pm cd doc)->s₁.heap.CodeRec cd d.name->mg d.name=some (.ref fa) ->
   s₁.heap.get? a=some { cls:=.type "list",data:=.seq vs.toArray }->C6 vs ns->ns.length<=n->s₁.gens=#[] ->
   D6 (χ l.prog w) D7 (.call (.ref fa) ⟨[.ref a],[]⟩) (λr s'=>r=.ok (.ret (.bool true))/\OldK s₁.heap s'.heap/\s'.os=s₁.os/\C2 s'.gens) s₁) :
  WalkO q loose XP YP l.row.toRowW d [] (λf vs=>Ag f vs):=by
 intro w s₀ s₁ mg mb G Y fa o pm cd doc dV kV ho hd hcd hD hmg hg args vals as hpre hlay hrd hwl hlo;obtain rfl:dV=.none:=Dflts.none hD hdf;obtain rfl:kV=.none:=Dflts.noKw hD;obtain⟨a,vs,ns,rfl,rfl,hobj,hints,hlen⟩:=qC hn hpre hwl;refine enter_call (Bu (call w s₀ s₁ mg mb fa o pm cd doc a vs ns G Y ho (fd_plain hd) hcd hmg hobj hints hlen hg) λr s' hq=>?_);obtain⟨rfl,h2,h3,h4⟩:=hq;exact⟨.inl ⟨.bool true,.bool true,[],rfl,λ_=>rfl,.bool true,qF l _,λ_=>⟨List.Pairwise.nil,λ_ hm=>(nomatch hm)⟩⟩,h2,h3,h4⟩
section
variable {prog:ρ}{w:Γ}{A:Around}{E:δ->η->Prop}{s:η}{K:γ}
end
end Att
namespace L2
open PySem PySem.Spec PyProof.Rows
theorem iN:∀ {vs:List δ} {ns:List Int},C6 vs ns->Vals (ns.map V.int) vs
 | _,_,.nil=>.nil
 | _,_,.cons n t h=>.cons ⟨t,rfl⟩ (iN h)
noncomputable abbrev KOf {K:γ}{h:ω}(_:K.In h):γ:=K
noncomputable def bJ (s:AD):Bv:=match s with
 | .FunctionDef _ a _ _ _ _ _ _ _ _=>a
 | _=>{ posonlyargs:=[],args:=[],vararg:=none,kwonlyargs:=[],kw_defaults:=[],kwarg:=none,defaults:=[] }
noncomputable def aY (s:AD):List AD:=match s with
 | .FunctionDef _ _ b _ _ _ _ _ _ _=>b
 | _=>[]
noncomputable def aC (s:AD):Ac:=match s with
 | .FunctionDef _ _ _ _ _ _ sc _ _ _=>sc
 | _=>{ kind:=.function,names:=[],isGenerator:=false,isCoroutine:=false }
abbrev CX0:CXT:=λ_ _ _ _ _ _=>False
abbrev E0:XK:=λ_ _ _=>False
theorem bF {X:Cx}:Passes CX0 X E0:=λ_ _ _ _ _ _ _ h=>h.elim
structure Fun (K:γ)(x qual:Str)(st:AD)(f:ε)(fd:AC):Prop where
 ex:∃(oc:δ) (od:Option ε) (kV doc pm:δ) (an:Option ε) (cdv ct:δ) (osl:Array (Option δ)),
  fd=AJ x qual (bJ st) (aY st) (aC st) .none kV doc pm an cdv ct/\K.lookup f=some ⟨oc,od,.func fd,osl⟩/\At K cdv qual=true
 kp:Am K (.ref f)=true
section
variable {P:ρ}{w:Γ}{K:γ}{mg:Str->Option δ}{ad:ω}
theorem Fun.ok {x:Str}{st:AD}{f:ε}{fd:AC}{N ps:List Str}{k:Nat}{sp:Sp}(F:Fun K x qual st f fd)(S:FnScope N ps (aC st))(len:∀vs H Q E,sp vs H Q E->vs.length=ps.length)(hbody:∀(cdv:δ) (A:Around) (ae:List Env) (s:η) (H:Hp) (vs:List V) (Q:VK) (E:XK),Room k (A.deeper (BU qual (aC st) s.heap.objs.size f cdv))->sp vs H Q E ->
   ∃t,PSs (fC CX0 P w K mg ad N qual (aC st) f cdv A ae s H E).nox (aY st) t/\t { nx:=λ_ H'=>Q .non H',rt:=Q } (start N vs) H):FnOk P w K mg ad CX0 (k+1) f fd ps sp:=by
 obtain⟨oc,od,kV,doc,pm,an,cdv,ct,osl,rfl,lk,hcd⟩:=F.ex;refine tU lk hcd S len λA ae s H vs Q E hr hsp=>?_;obtain⟨t,h,q⟩:=hbody cdv A ae s H vs Q E hr hsp;exact⟨t,h.nox,q⟩
theorem Fun.binds {x:Str}{st:AD}{f:ε}{fd:AC}{ps:List Str}(F:Fun K x qual st f fd)(h:∀(kV doc pm:δ) (an:Option ε) (cdv ct:δ) (us:List δ),us.length=ps.length->bindArgs (AJ x qual (bJ st) (aY st) (aC st) .none kV doc pm an cdv ct) ⟨us,[]⟩=pure (ps.zip us)):Binds K fd ps []:=by obtain⟨oc,od,kV,doc,pm,an,cdv,ct,osl,rfl,lk,hcd⟩:=F.ex;exact .all (h kV doc pm an cdv ct)
theorem yC {x:Str}{st:AD}{f:ε}{kV ct:δ}(l:K.lookup f=some ⟨oc,od,.func (AJ x qual (bJ st) (aY st) (aC st) .none kV doc pm an cdv ct),osl⟩)(c:At K cdv qual=true)(k:Am K (.ref f)=true):Fun K x qual st f (AJ x qual (bJ st) (aY st) (aC st) .none kV doc pm an cdv ct):=⟨⟨oc,od,kV,doc,pm,an,cdv,ct,osl,rfl,l,c⟩,k⟩
end
theorem bP {n:Nat}(h:n<=1000):n<ψ:=AS h 'A'
section
variable {X:Cx}
theorem pv (i:Nat){x:Str}(hN:autoParam (X.N[i]? = some x) L2.au3._auto_1)(hv:autoParam (Vis X.env.scope x) L2.au5._auto_1)(hd:autoParam ((x==("__debug__" : Str))=false) L2.au1._auto_1)(hcd:autoParam ((x==("__classdict__" : Str))=false) L2.au1._auto_1):PE X (.Name x pos) (dL i):=xP hN hv hd hcd
end
theorem zL {A:Prop}(h:B):if false=true then A else B:=by rw[if_neg Λ];exact h
theorem zK {A:Prop}(h:A):if true=true then A else B:=by rw[if_pos rfl];exact h
theorem fA {c A:Prop}[Decidable c](h1:c->A)(h2:¬ c->B):if c then A else B:=by
 by_cases h:c
 ·rw[if_pos h];exact h1 h
 ·rw[if_neg h];exact h2 h
def Same (H H':Hp):Prop:=∀b o,H b=some o->H' b=some o
theorem Same.refl (H:Hp):Same H H:=λ_ _ h=>h
theorem Same.trans {H H1 H2:Hp}(a:Same H H1)(b:Same H1 H2):Same H H2:=λc o h=>b c o (a c o h)
theorem Same.seq {K:γ}{H H':Hp}{a:ε}{xs:List V}(e:Same H H')(h:SqL K H a xs):SqL K H' a xs:=by
 rcases h with (h | ⟨o,h⟩) | h
 ·exact .inl (.inl (e _ _ h))
 ·exact .inl (.inr ⟨o,e _ _ h⟩)
 ·exact .inr h
theorem ifp {c A:Prop}[Decidable c](h:c)(x:A):if c then A else B:=by rw[if_pos h];exact x
theorem ifn {c A:Prop}[Decidable c](h:¬ c)(x:B):if c then A else B:=by rw[if_neg h];exact x
theorem mbb {c:Bool}{P:Bool->Prop}(h:P c):mB (.bl c) P:=h
theorem mii {i:Int}{P:Int->Prop}(h:P i):mI (.int i) P:=h
theorem moo {o:Option (Option V)}{v:V}{P:V->Prop}(e:o=some (some v))(h:P v):mO o P:=by rw[e];exact h
theorem mtt {P:Prop}(h:P):mT true P:=h
theorem bL {t:TS}{D:Ends}{N:List Str}{vs:List V}{σ:St}{H:Hp}(e:L2.start N vs=σ)(h:t D σ H):t D (L2.start N vs) H:=e ▸ h
theorem fJ (i j:Int):scal (.int i) (.int j)=true:=rfl
theorem fK (i j:Bool):scal (.bl i) (.bl j)=true:=rfl
theorem fG (i j:Str):scal (.str i) (.str j)=true:=rfl
theorem fH (i:Int):scal .non (.int i)=true:=rfl
theorem fI (i:Int):scal (.int i) .non=true:=rfl
theorem b8 {i:Int}(h:i.natAbs<10^100):i.natAbs.log2<400:=by
 by_cases h0:i.natAbs=0
 ·rw[h0];decide
 ·exact(Nat.log2_lt h0).mpr (Ψ h (by decide +kernel))
theorem g7 {i:Int}(h:i.natAbs<10^100):Builtin.Int.intBits i<=2^20:=by
 unfold Builtin.Int.intBits
 split
 ·exact AY _
 ·have:=b8 h;have e:(2:Nat)^20=1048576:=by decide
  lia
def CMulB (i j:Int):Prop:=CMul i j\/(i.natAbs<10^100/\j.natAbs<10^100)
theorem CMulB.ok {i j:Int}(h:CMulB i j):IntMulOk i j:=by
 rcases h with h | h
 ·exact h.ok
 ·exact .of_bits (g7 h.1) (g7 h.2)
def t8 (i j:Int):Prop:=0<j/\j.natAbs<10^100
section
variable {X:Cx}
theorem bI:OpR X (B0 .Mult) (rI CMulB λi j=>.int (i*j)):=opI λ_ _ _ _ _ _ _ hc q=>mul_int q hc.ok
theorem cI:OpR X (B0 .FloorDiv) (rI t8 λi j=>.int (i/j)):=opI λi j _ _ _ _ _ hc q=>by have e:i.fdiv j=i/j:=Int.fdiv_eq_ediv_of_nonneg i (Int.le_of_lt hc.1);refine floordiv_int (by have:=hc.1;lia) ?_ (.inl (PyProof.noPylong_of_log2 (Nat.lt_trans (b8 hc.2) 'A')));rw[e];exact q
def zO (X:Cx)(aa:List (ε×Obj))(σ:St)(H:Hp)(s:η)(u t:δ):Prop:=∃Hh:ω->Prop,PySem.W.KitX X.K u t Hh/\Hh s.heap/\u ≠ .builtin "__main__.__loader__#opaque"
theorem TyOf.kit {σ:St}{H:Hp}{x:V}{u t:δ}(ty:TyOf X.K H x t)(I:Inv X aa σ H s)(rx:RelV x u):zO X aa σ H s u t:=by
 cases ty with
 | non=>cases (show u=B2 from rx);exact⟨_,PySem.W.kitx_none,DW,λz=>nomatch z⟩
 | bl y=>cases (show u=BF y from rx);exact⟨_,PySem.W.kitx_bool,DW,λz=>nomatch z⟩
 | int i=>obtain⟨t,q⟩:=(show ∃t,u=Dk i t from rx);cases q;exact⟨_,PySem.W.kitx_int,DW,λz=>nomatch z⟩
 | str y=>obtain⟨t,q⟩:=(show ∃t,u=Value.str y t from rx);cases q;exact⟨_,PySem.W.kitx_str,DW,λz=>nomatch z⟩
 | flt y=>obtain⟨t,q⟩:=(show ∃t,u=Value.float y t from rx);cases q;exact⟨_,PySem.W.kitx_float,DW,λz=>nomatch z⟩
 | @lst a xs ea =>
  cases (show u=As a from rx);obtain⟨_,_,n,_,h1⟩:=(show ObjOk X.prog X.w H s.heap a (.lst xs) from I.hok a _ ea);exact⟨_,DR,⟨_,h1,rfl⟩,λz=>nomatch z⟩
 | @frz a ob xs ea =>
  cases (show u=As a from rx);obtain⟨_,_,_,n,_,h1⟩:=(show ObjOk X.prog X.w H s.heap a (.frz ob (.lst xs)) from I.hok a _ ea);exact⟨_,DR,⟨_,h1,rfl⟩,λz=>nomatch z⟩
 | @tup a xs ea =>
  cases (show u=As a from rx);obtain⟨_,_,_,p⟩:=(show ObjOk X.prog X.w H s.heap a (.tup xs) from I.hok a _ ea);obtain⟨o,h1,h2,_⟩:=p;exact⟨_,PySem.W.kitx_tuple,⟨o,h1,h2⟩,λz=>nomatch z⟩
 | @dK a kvs ea =>
  cases (show u=As a from rx);obtain⟨_,_,vs,_,p⟩:=(show ObjOk X.prog X.w H s.heap a (.dK kvs) from I.hok a _ ea);obtain⟨o,es,ep,h1,h2,_⟩:=p;exact⟨_,PySem.W.kitx_dict,⟨o,h1,h2.1⟩,λz=>nomatch z⟩
 | @dT a kvs ea =>
  cases (show u=As a from rx);obtain⟨_,_,xs,_,o,es,ep,h1,h2,_⟩:=(show ObjOk X.prog X.w H s.heap a (.dT kvs) from I.hok a _ ea);exact⟨_,PySem.W.kitx_dict,⟨o,h1,h2.1⟩,λz=>nomatch z⟩
 | @ins a C dx fs ea cl ha hn htk hm =>
  cases (show u=As a from rx);obtain⟨mA,O,_⟩:=vL I.hok ea;obtain⟨od,J,_⟩:=O.look;exact⟨_,PySem.W.kitx_own (cl.get _) cl.hd ha hn htk hm,J,λz=>nomatch z⟩
noncomputable def vU:V->Option δ
 | .ty n=>some (.type n)
 | .ref a=>some (.ref a)
 | _=>none
theorem mX {c:V}{u u':δ}(h:vU c=some u)(r:RelV c u'):u'=u:=by
 cases c with
 | ty n=>cases h;exact r
 | ref a=>cases h;exact r
 | _=>cases h
noncomputable def yQ (K:γ):List V->Hp->VK->Prop:=λxs H Q=>∃x t c u b,xs=[x,c]/\TyOf K H x t/\vU c=some u/\ι K t u=some b/\Q (.bl b) H
theorem mY:bY X (.builtin "isinstance") (yQ X.K):=by intro aa s σ H xs us Q I r h;obtain⟨x,t,c,u',b,rfl,ty,ec,e,q⟩:=h;obtain⟨u,w',rfl,rx,rc⟩:=iO r;obtain rfl:=mX ec rc;obtain⟨Hh,Z,p,hx⟩:=ty.kit I rx;exact Cs Z I.kIn p e hx λtk=>⟨.bl b,H,I.tok tk,rfl,q⟩
theorem eW (K:γ):ι K (.type "NoneType") (.type "int")=some false:=by kernel_rfl
theorem dZ (K:γ):ι K (.type "NoneType") (.type "bool")=some false:=by kernel_rfl
theorem dG (K:γ):ι K (.type "NoneType") (.type "tuple")=some false:=by kernel_rfl
theorem dX (K:γ):ι K (.type "NoneType") (.type "list")=some false:=by kernel_rfl
theorem eV (K:γ):ι K (.type "NoneType") (.type "str")=some false:=by kernel_rfl
theorem dY (K:γ):ι K (.type "NoneType") (.type "dict")=some false:=by kernel_rfl
theorem kW (K:γ):ι K (.type "bool") (.type "int")=some true:=by kernel_rfl
theorem iH (K:γ):ι K (.type "bool") (.type "bool")=some true:=by kernel_rfl
theorem gR (K:γ):ι K (.type "bool") (.type "tuple")=some false:=by kernel_rfl
theorem iF (K:γ):ι K (.type "bool") (.type "list")=some false:=by kernel_rfl
theorem kU (K:γ):ι K (.type "bool") (.type "str")=some false:=by kernel_rfl
theorem iG (K:γ):ι K (.type "bool") (.type "dict")=some false:=by kernel_rfl
theorem mL (K:γ):ι K (.type "int") (.type "int")=some true:=by kernel_rfl
theorem kR (K:γ):ι K (.type "int") (.type "bool")=some false:=by kernel_rfl
theorem h9 (K:γ):ι K (.type "int") (.type "tuple")=some false:=by kernel_rfl
theorem kP (K:γ):ι K (.type "int") (.type "list")=some false:=by kernel_rfl
theorem mK (K:γ):ι K (.type "int") (.type "str")=some false:=by kernel_rfl
theorem kQ (K:γ):ι K (.type "int") (.type "dict")=some false:=by kernel_rfl
theorem mJ (K:γ):ι K (.type "str") (.type "int")=some false:=by kernel_rfl
theorem kM (K:γ):ι K (.type "str") (.type "bool")=some false:=by kernel_rfl
theorem hV (K:γ):ι K (.type "str") (.type "tuple")=some false:=by kernel_rfl
theorem kK (K:γ):ι K (.type "str") (.type "list")=some false:=by kernel_rfl
theorem mH (K:γ):ι K (.type "str") (.type "str")=some true:=by kernel_rfl
theorem kL (K:γ):ι K (.type "str") (.type "dict")=some false:=by kernel_rfl
theorem iB (K:γ):ι K (.type "float") (.type "int")=some false:=by kernel_rfl
theorem gN (K:γ):ι K (.type "float") (.type "bool")=some false:=by kernel_rfl
theorem e9 (K:γ):ι K (.type "float") (.type "tuple")=some false:=by kernel_rfl
theorem gL (K:γ):ι K (.type "float") (.type "list")=some false:=by kernel_rfl
theorem iA (K:γ):ι K (.type "float") (.type "str")=some false:=by kernel_rfl
theorem gM (K:γ):ι K (.type "float") (.type "dict")=some false:=by kernel_rfl
theorem kO (K:γ):ι K (.type "list") (.type "int")=some false:=by kernel_rfl
theorem h8 (K:γ):ι K (.type "list") (.type "bool")=some false:=by kernel_rfl
theorem gK (K:γ):ι K (.type "list") (.type "tuple")=some false:=by kernel_rfl
theorem hZ (K:γ):ι K (.type "list") (.type "list")=some true:=by kernel_rfl
theorem kN (K:γ):ι K (.type "list") (.type "str")=some false:=by kernel_rfl
theorem h7 (K:γ):ι K (.type "list") (.type "dict")=some false:=by kernel_rfl
theorem hU (K:γ):ι K (.type "tuple") (.type "int")=some false:=by kernel_rfl
theorem gJ (K:γ):ι K (.type "tuple") (.type "bool")=some false:=by kernel_rfl
theorem e8 (K:γ):ι K (.type "tuple") (.type "tuple")=some true:=by kernel_rfl
theorem gH (K:γ):ι K (.type "tuple") (.type "list")=some false:=by kernel_rfl
theorem hJ (K:γ):ι K (.type "tuple") (.type "str")=some false:=by kernel_rfl
theorem gI (K:γ):ι K (.type "tuple") (.type "dict")=some false:=by kernel_rfl
theorem kT (K:γ):ι K (.type "dict") (.type "int")=some false:=by kernel_rfl
theorem iE (K:γ):ι K (.type "dict") (.type "bool")=some false:=by kernel_rfl
theorem gQ (K:γ):ι K (.type "dict") (.type "tuple")=some false:=by kernel_rfl
theorem iC (K:γ):ι K (.type "dict") (.type "list")=some false:=by kernel_rfl
theorem kS (K:γ):ι K (.type "dict") (.type "str")=some false:=by kernel_rfl
theorem iD (K:γ):ι K (.type "dict") (.type "dict")=some true:=by kernel_rfl
noncomputable def eX (n c:String):Bool:=n==c||(n == "bool" && c == "int")
theorem TyOf.name {K:γ}{H:Hp}{x:V}{n:String}(ty:TyOf K H x (.type n)):n = "NoneType" \/ n = "bool" \/ n = "int" \/ n = "str" \/ n = "float" \/ n = "list" \/ n = "tuple" \/ n = "dict" := by cases ty <;> simp
theorem nW {K:γ}{n c:String}(hn:n = "NoneType" \/ n = "bool" \/ n = "int" \/ n = "str" \/ n = "float" \/ n = "list" \/ n = "tuple" \/ n = "dict")(hc:c = "int" \/ c = "bool" \/ c = "tuple" \/ c = "list" \/ c = "str" \/ c = "dict") :
  ι K (.type n) (.type c)=some (eX n c):=by
 rcases hn with rfl | rfl | rfl | rfl | rfl | rfl | rfl | rfl <;> rcases hc with rfl | rfl | rfl | rfl | rfl | rfl
 ·exact eW K
 ·exact dZ K
 ·exact dG K
 ·exact dX K
 ·exact eV K
 ·exact dY K
 ·exact kW K
 ·exact iH K
 ·exact gR K
 ·exact iF K
 ·exact kU K
 ·exact iG K
 ·exact mL K
 ·exact kR K
 ·exact h9 K
 ·exact kP K
 ·exact mK K
 ·exact kQ K
 ·exact mJ K
 ·exact kM K
 ·exact hV K
 ·exact kK K
 ·exact mH K
 ·exact kL K
 ·exact iB K
 ·exact gN K
 ·exact e9 K
 ·exact gL K
 ·exact iA K
 ·exact gM K
 ·exact kO K
 ·exact h8 K
 ·exact gK K
 ·exact hZ K
 ·exact kN K
 ·exact h7 K
 ·exact hU K
 ·exact gJ K
 ·exact e8 K
 ·exact gH K
 ·exact hJ K
 ·exact gI K
 ·exact kT K
 ·exact iE K
 ·exact gQ K
 ·exact iC K
 ·exact kS K
 ·exact iD K
theorem isi {K:γ}{H:Hp}{x:V}{n c:String}{Q:VK}(ty:TyOf K H x (.type n))(q:Q (.bl (eX n c)) H)(hc:autoParam (c = "int" \/ c = "bool" \/ c = "tuple" \/ c = "list" \/ c = "str" \/ c = "dict") L2.au1._auto_1):yQ K [x,.ty c] H Q :=
 ⟨x,_,_,_,_,rfl,ty,rfl,nW ty.name hc,q⟩
end
def lK (i j l:Nat)(ta:TA):TS:=λD σ H=>ta σ H λvs H1=>∃v w u,vs=[v,w,u]/\D.nx (((σ.set i (some v)).set j (some w)).set l (some u)) H1
theorem yN {x y z:V}(r:Vals [x,y,z] us):∃u v w,us=[u,v,w]/\RelV x u/\RelV y v/\RelV z w:=by
 cases r with
 | cons p q =>
  cases q with
  | cons p' q' =>
   cases q' with
   | cons p2 q2 =>
    cases q2;exact⟨_,_,_,rfl,p,p',p2⟩
section
variable {X:Cx}{pos:Pos}
theorem uR {l:Nat}{x z:Str}{a b c:Δ}{ta:TA}{pz pt:Pos}{kt k2 pt2}(hc:X.calm=true)(hN:X.N.Nodup)(hi:X.N[i]? = some x)(hj:X.N[j]? = some y)(hl:X.N[l]? = some z)(hij:i≠j)(hil:i≠l)(hjl:j≠l)(hx:X.env.scope.names.lookup x=some .local)(hy:X.env.scope.names.lookup y=some .local)(hz:X.env.scope.names.lookup z=some .local)(ha:PA X [a,b,c] ta)(hw:CM [.Tuple [.Name x px,.Name y py,.Name z pz] kt pt] (.Tuple [a,b,c] k2 pt2) X.env=pure (some [x,y,z]))(hs:autoParam (CL [.Tuple [.Name x px,.Name y py,.Name z pz] kt pt] (.Tuple [a,b,c] k2 pt2) pos.line X.env=pure false) L2.au3._auto_1) :
  PS X (.Assign [.Tuple [.Name x px,.Name y py,.Name z pz] kt pt] (.Tuple [a,b,c] k2 pt2) pos) (lK i j l ta):=by
 intro aa s σ H D I h;rw[exec_Assign_arm];refine θ (CK ?_);rw[hs];refine θ (υ ?_);rw[if_neg 'A'];refine θ (Tuple_ (thn (ha _ aa s σ H _ I h) λus s1 hh=>?_));obtain⟨vs,H1,I1,r1,q1⟩:=hh;obtain⟨v,w,m,e1,q1⟩:=q1;subst e1;obtain⟨u1,u2,u3,rfl,rv,rw',rm⟩:=yN r1;refine An ?_ (by show 3<=ψ;decide);have I2:Inv X aa σ H1 { s1 with heap:=s1.heap.push { cls:=.type "tuple",data:=.seq [u1,u2,u3].toArray } }:=I1.kept (t':=s1.toks) λb o e=>μ _ e;rw[hw];refine θ (υ ?_);show τ (χ X.prog X.w) X.A (do rule "assign.swapped-stores";let items <- unpackItems (.ref s1.heap.objs.size) 3 none;CJ [λv=>Bc X.env z v,λv=>Bc X.env y v,λv=>Bc X.env x v] items.reverse;pure Flow.next) _ _ _;refine θ (wpAny_rule (θ (unpackItems_tuple (items:=#[u1,u2,u3]) (I.ok.hd hc) (Dm s1.heap _) λh' hx'=>?_)));have I3:=I2.kept (h':=h') (t':=s1.toks) λb o e=>hx' b o (A3 (ξ e)) e;show τ _ _ (CJ [λv=>Bc X.env z v,λv=>Bc X.env y v,λv=>Bc X.env x v] [u3,u2,u1] >>= λ_=>pure Flow.next) _ _ _;refine θ (B5 (C4 (bQ I3 hN hl (.inl hz) rm (λs2 I4=>?_) (.inr hz))));refine B5 (C4 (bQ I4 hN hj (.inl hy) rw' (λs2 I4=>?_) (.inr hy)));refine B5 (C4 (bQ I4 hN hi (.inl hx) rv (λs3 I5=>DP (υ ?_)) (.inr hx)));rw[DJ _ _ hjl.symm,DJ _ _ hil.symm,DJ _ _ hij.symm] at I5;exact⟨_,H1,I5,q1⟩
end
section
variable {X:Cx}
end
structure Def (K:γ)(mg:Str->Option δ)(x:Str)(st:AD)(ps:List Str)(f:ε)(fd:AC):Prop where
 fn:Fun K x x st f fd
 bd:Binds K fd ps []
 mgx:mg x=some (.ref f)
noncomputable def EO (dx:Option ε)(C:δ)(vs:Array δ)(sl:Array (Option δ)):Obj:={ cls:=C,dict:=dx,data:=.fields vs,slots:=sl }
structure Flying (dx:Option ε)(h:ω)(e T:ε)(C fl:δ):Prop where
 ex:∃vs sl,h.get? e=some (EO dx C vs sl)/\vs[1]? = some (.ref T)
 tr:∃oT ts,h.get? T=some oT/\oT.data=.fields ts/\ts[3]? = some fl
 ne:T≠e
section
variable {M:Model}{A:Around}{E:δ->η->Prop}{s:η}{ad:ω}{env:Env}{ae:List Env}{L e:ε}{C:δ}{dx:Option ε}{vs:Array δ}{sl:Array (Option δ)}{Q:Unit->η->Prop}
theorem o9 (hl:s.heap.FunFrames ad (env::ae))(he:s.heap.get? e=some (EO dx C vs sl)):e ∉ frs (env::ae):=λhm=>by obtain⟨_,o,ho,hnf⟩:=hl.mem hm;rw[he] at ho;cases ho;exact hnf vs rfl
theorem tW {head:δ}{hn:Bool}(hfr:A.frames=some (env::ae))(hl:s.heap.FunFrames ad (env::ae))(hf:env.frame=some L)(he:s.heap.get? e=some (EO dx C vs sl))(hsz:1<vs.size)(h:∀h' T,s.heap.objs.size<=T->Flying dx h' e T C (B6 L)->(∀b o,b ∉ frs (env::ae)->b≠e->s.heap.get? b=some o->h'.get? b=some o) ->
   (∀b o,b∈frs (env::ae)->s.heap.get? b=some o->∃sl,h'.get? b=some { o with slots:=sl })->Q () { s with heap:=h' }) :
  τ M A (do let a <- frameOf env;let pl <- entryPlaceOf L hn;let b <- EntryCells.newEntry head a .none (B6 L) .none pl;setField (.ref e) 1 b) Q E s:=by
 have hef:=o9 hl he;refine θ (wpAny_frameOf_fun hfr hl hf λh1 S=>?_);refine θ (wpAny_entryPlaceOf λpl hpl=>?_);unfold EntryCells.newEntry newFields;refine θ (An ?_ (hpl.sizeOk5 _ _ _ _ _));generalize hO:({ cls:=.type "traceback",dict:=none,data:=.fields ([head,.ref L,.none,B6 L,.none]++(if pl.isEmpty then A6 6 B2 else pl)).toArray }:Obj)=O;have he1:h1.get? e=some (EO dx C vs sl):=(S.2.1 e hef).trans he;have hTe:h1.objs.size≠e:=Nat.ne_of_gt (ξ he1);have he2:(h1.push O).get? e=some (EO dx C vs sl):=μ O he1;have hT2:(h1.push O).get? h1.objs.size=some O:=A9 h1 (by rw[<- hO];rfl);refine wpAny_setField he2 rfl hsz (h _ h1.objs.size (Dc S.1.symm) ⟨⟨vs.setIfInBounds 1 (.ref h1.objs.size),sl,?_,by simp[hsz]⟩,⟨O,_,(AT _ _ (BQ hTe)).trans hT2,by rw[<- hO],?_⟩,hTe⟩ (λb o hb hbe q=>?_) λb o hb q=>?_)
 ·exact Cb _ he2 rfl
 ·rcases hpl with rfl | ⟨_,_,_,_,_,_,_,rfl⟩ <;> simp
 ·rw[AT _ _ (BQ hbe)];exact μ _ ((S.2.1 b hb).trans q)
 ·obtain⟨sl',z⟩:=S.2.2 b o q;have hbe:b≠e:=λw=>hef (w ▸ hb);exact⟨sl',by rw[AT _ _ (BQ hbe)];exact μ _ z⟩
structure Noted (fs:List ε)(h h':ω)(e:ε)(T0:Option ε):Prop where
 keep:∀b o,b ∉ fs->b≠e->some b≠T0->h.get? b=some o->h'.get? b=some o
 slot:∀b o,b∈fs->h.get? b=some o->∃sl,h'.get? b=some { o with slots:=sl }
theorem qK (hfr:A.frames=some (env::ae))(hl:s.heap.FunFrames ad (env::ae))(hf:env.frame=some L)(he:s.heap.get? e=some (EO dx C vs sl))(h1:vs[1]? = some .none)(h:∀h' T,s.heap.objs.size<=T->Flying dx h' e T C (B6 L)->Noted (frs (env::ae)) s.heap h' e none->Q () { s with heap:=h' }):τ M A (noteFrame (.ref e) env) Q E s:=by unfold noteFrame;simp only[hf];refine θ (Bj he rfl h1 ?_);rw[if_neg 'A'];exact tW hfr hl hf he (BE.mp h1).1 λh' T a b c d=>h h' T a b ⟨λb' o x y _ z=>c b' o x y z,d⟩
theorem o5 {T0:ε}(hfr:A.frames=some (env::ae))(hl:s.heap.FunFrames ad (env::ae))(hf:env.frame=some L)(F:Flying dx s.heap e T0 C .none)(h:∀h' T,s.heap.objs.size<=T->Flying dx h' e T C (B6 L)->Noted (frs (env::ae)) s.heap h' e (some T0)->Q () { s with heap:=h' }):τ M A (noteFrame (.ref e) env) Q E s:=by
 obtain⟨⟨vs,sl,he,h1⟩,⟨oT,ts,hT,hdT,h3⟩,ne⟩:=F;have hTf:T0 ∉ frs (env::ae):=λhm=>by obtain⟨_,o,ho,hnf⟩:=hl.mem hm;rw[hT] at ho;cases ho;exact hnf ts hdT
 unfold noteFrame;simp only[hf];refine θ (Bj he rfl h1 ?_);rw[if_pos (show (As T0 != B2)=true by simp)];refine θ (Bj hT hdT h3 ?_);rw[if_neg (show ¬ ((B2==B6 L)=true) by simp[B6])];refine θ (wpAny_setField hT hdT (BE.mp h3).1 ?_);have other:∀b,b≠T0->(s.heap.update T0 (Obj.mapFields (·.setIfInBounds 3 B2))).get? b=s.heap.get? b:=λb hb=>AT _ _ (BQ hb);have hl':(s.heap.update T0 (Obj.mapFields (·.setIfInBounds 3 B2))).FunFrames ad (env::ae):=hl.of_keeps λb o hb hnf=>⟨o,(other b λq=>by rw[q,hT] at hb;cases hb;exact hnf ts hdT).trans hb,rfl⟩;refine tW hfr hl' hf ((other e (BQ ne)).trans he) (BE.mp h1).1 λh' T a b c d=>h h' T ?_ b ⟨λb' o x y w z=>c b' o x y ((other b' λq=>w (by rw[q])).trans z),λb' o x z=>d b' o x ((other b' λq=>hTf (q ▸ x)).trans z)⟩
 rwa [Heap.size_update] at a
theorem cD {T:ε}{fl:δ}(F:Flying dx s.heap e T C fl)(h:∀h',Flying dx h' e T C .none->(∀b o,b≠T->s.heap.get? b=some o->h'.get? b=some o)->h'.objs.size=s.heap.objs.size->Q () { s with heap:=h' }) :
  τ M A (setFlight (.ref e) none) Q E s:=by
 obtain⟨⟨vs,sl,he,h1⟩,⟨oT,ts,hT,hdT,h3⟩,ne⟩:=F;have h3s:3<ts.size:=(BE.mp h3).1;unfold setFlight;refine θ (Bj he rfl h1 ?_);rw[if_pos (show (As T != B2)=true by simp)];refine wpAny_setField hT hdT h3s (h _ ⟨⟨vs,sl,(AT _ _ ne).trans he,h1⟩,⟨_,_,Cb _ hT (Obj.isFreed_of_fields (Obj.data_mapFields hdT _)),Obj.data_mapFields hdT _,by simp[h3s]⟩,ne⟩ (λb o hb z=>(AT _ _ (BQ hb)).trans z) (Heap.size_update ..))
theorem nV (hfr:A.frames=some (env::ae))(hl:s.heap.FunFrames ad (env::ae))(hf:env.frame=some L)(he:s.heap.get? e=some (EO dx C vs sl))(h1:vs[1]? = some .none)(h:∀h' T,s.heap.objs.size<=T->Flying dx h' e T C .none->Noted (frs (env::ae)) s.heap h' e none->Q () { s with heap:=h' }):τ M A (Da env (.ref e)) Q E s:=by
 have hef:=o9 hl he;refine θ (qK hfr hl hf he h1 λh' T a F N=>cD F λh2 F2 k _=>h h2 T a F2 ⟨λb o x y w z=>k b o (λq=>?_) (N.keep b o x y w z),λb o x z=>?_⟩)
 ·exact absurd (ξ z) (by rw[q];exact Bd.mpr a)
 ·obtain⟨sl',z'⟩:=N.slot b o x z;exact⟨sl',k b _ (λq=>absurd (ξ z) (by rw[q];exact Bd.mpr a)) z'⟩
theorem mG {T0:ε}(hfr:A.frames=some (env::ae))(hl:s.heap.FunFrames ad (env::ae))(hf:env.frame=some L)(F:Flying dx s.heap e T0 C .none)(h:∀h' T,s.heap.objs.size<=T->Flying dx h' e T C .none->Noted (frs (env::ae)) s.heap h' e (some T0)->Q () { s with heap:=h' }):τ M A (Da env (.ref e)) Q E s:=by
 refine θ (o5 hfr hl hf F λh' T a F N=>cD F λh2 F2 k _=>h h2 T a F2 ⟨λb o x y w z=>k b o (λq=>?_) (N.keep b o x y w z),λb o x z=>?_⟩)
 ·exact absurd (ξ z) (by rw[q];exact Bd.mpr a)
 ·obtain⟨sl',z'⟩:=N.slot b o x z;exact⟨sl',k b _ (λq=>absurd (ξ z) (by rw[q];exact Bd.mpr a)) z'⟩
end
def Fly (dx:Option ε)(g:ω)(H:Hp)(a:ε)(C:δ)(h:ω):Prop:=∃T,Flying dx h a T C .none/\g.get? a=none/\g.get? T=none/\H a=none/\H T=none
theorem HOk.there {P:ρ}{w:Γ}{H:Hp}{h:ω}(x:HOk P w H h){e:ε}{u:HO}(q:H e=some u):∃o,h.get? e=some o:=by
 have ok:=x e u q;cases u with
 | lst xs=>obtain⟨_,_,_,_,z⟩:=ok;exact⟨_,z⟩
 | tup xs=>obtain⟨_,_,_,o,z,_⟩:=ok;exact⟨_,z⟩
 | dK kvs=>obtain⟨_,_,_,_,o,_,_,z,_⟩:=ok;exact⟨_,z⟩
 | dT kvs=>obtain⟨_,_,_,_,o,_,_,z,_⟩:=ok;exact⟨_,z⟩
 | set S n=>obtain⟨o,_,_,_,z,_⟩:=ok;exact⟨_,z⟩
 | ins C dx fs=>obtain⟨_,_,_,z,_⟩:=ok;exact⟨_,z⟩
 | own x=>exact ok
 | xd fs=>obtain⟨_,⟨o,_,_,z,_⟩,_⟩:=ok;exact⟨_,z⟩
 | rng lo hi=>obtain⟨_,_,_,z⟩:=ok;exact⟨_,z⟩
 | frz o u=>exact⟨_,ok.1⟩
 | tbl ps=>exact⟨_,ok⟩
 | met f x=>exact⟨_,ok⟩
 | ext φ=>exact ok.2.1
theorem HOk.free_of {P:ρ}{w:Γ}{H:Hp}{h:ω}(x:HOk P w H h){e:ε}(q:h.get? e=none):H e=none:=by
 cases z:H e with
 | none=>rfl
 | some u =>
  obtain⟨o,y⟩:=x.there z;rw[q] at y;cases y
def CXE (P:ρ)(w:Γ):CXT:=λae H s E e s'=>∃a C dx H',e=.ref a/\Fly dx s.heap H' a C s'.heap/\s'.os=s.os/\C2 s'.gens/\Un (frs ae) [] H H' s.heap s'.heap/\HOk P w H' s'.heap/\E C dx H'
section
variable {X:Cx}{aa:List (ε×Obj)}{σ:St}{H:Hp}{s:η}
theorem Inv.noted (I:Inv X aa σ H s){e:ε}{T0:Option ε}(N:Noted (frs X.stack) s.heap h' e T0)(he:H e=none)(h0:X.s₀.heap.get? e=none)(hT:∀t,T0=some t->H t=none/\X.s₀.heap.get? t=none)(hx:X.ex=[]) :
  Un X.fs [] X.H₀ H X.s₀.heap h'/\HOk X.prog X.w H h':=by
 have neS:∀b o,X.s₀.heap.get? b=some o->b≠e/\some b≠T0/\b≠X.env.locals:=λb o q=>by
  have l:=ξ q;refine⟨λz=>?_,λz=>?_,λz=>?_⟩
  ·rw[z,h0] at q;cases q
  ·rw[(hT b z.symm).2] at q;cases q
  ·rw[z] at l;exact absurd l (Bd.mpr I.ok.above)
 have st:∀b,b ∉ X.fs->b≠X.env.locals->b ∉ frs X.stack:=λb h1 h2 h3=>by
  rcases AV.mp (I.stkSub b h3) with z | z
  ·exact h2 z
  ·exact h1 z
 have ad:=I.ad;rw[hx] at ad;refine⟨⟨λb o q n hb _=>?_,λb o q n hb _=>?_,λb o q n _=>ad.free b o q n 'C',λb o q _=>?_,ad.tups,ad.frzs,ad.tbls⟩,λa o q=>?_⟩
 ·obtain⟨z1,z2,z3⟩:=neS b o q;exact N.keep b o (st b hb z3) z1 z2 (ad.keep b o q n hb 'C')
 ·obtain⟨z1,z2,z3⟩:=neS b o q;obtain⟨sl,q1⟩:=ad.slot b o q n hb 'C';by_cases hs:b∈frs X.stack
  ·obtain⟨sl',q2⟩:=N.slot b _ hs q1;exact⟨sl',q2⟩
  ·exact⟨sl,N.keep b _ hs z1 z2 q1⟩
 ·obtain⟨z1,z2,z3⟩:=neS b o q;obtain⟨o',q1⟩:=ad.there b o q 'C';by_cases hs:b∈frs X.stack
  ·obtain⟨sl',q2⟩:=N.slot b _ hs q1;exact⟨_,q2⟩
  ·exact⟨o',N.keep b _ hs z1 z2 q1⟩
 ·have keep:∀b u,H b=some u->∀ob,s.heap.get? b=some ob->h'.get? b=some ob:=λb u z ob q'=>by
   refine N.keep b ob (λhm=>?_) (λw=>?_) (λw=>?_) q'
   ·rw[I.stkFree b hm] at z;cases z
   ·rw[w,he] at z;cases z
   ·rw[(hT b w.symm).1] at z;cases z
  refine(I.hok a o q).stay (λb u hb q'=>?_) (λ_ z=>z) λ_ _ z=>z;rcases hb with z | z
  ·exact keep b o (z ▸ q) u q'
  ·exact keep b _ z u q'
theorem bB (I:Inv X aa σ H s)(hx:X.ex=[])(h:s.heap.get? b=none):X.s₀.heap.get? b=none:=by
 cases q:X.s₀.heap.get? b with
 | none=>rfl
 | some o =>
  obtain⟨o',z⟩:=I.ad.there b o q (by rw[hx];simp);rw[h] at z;cases z
end
section
variable {P:ρ}{w:Γ}{K:γ}{mg:Str->Option δ}{ad:ω}{N:List Str}{qual:Str}{scope:Ac}{f:ε}{cd:δ}{A:Around}{ae:List Env}{s₀:η}{H₀:Hp}{E:XK}
def Raises (X:Cx)(E:XK):Prop:=∀(aa:List (ε×Obj)) (σ:St) (H:Hp) (s:η) (C e:ε) (vs:List δ) (h':ω),Inv X aa σ H s->Heap.MadeExcOf s.heap h' e (.ref C) vs->E (.ref C) none H->X.xe (.ref e) { s with heap:=h' }
theorem i7:Raises (fC (CXE P w) P w K mg ad N qual scope f cd A ae s₀ H₀ E) E:=by intro aa σ H s C e vs h' I hx hE;have J:=I.kept (h':=h') (t':=s.toks) hx.keeps;obtain⟨t,he,htn,ht⟩:=hx.there;have heH:H e=none:=I.hok.free_of hx.new;show τ (χ P w) (A.deeper (BU qual scope s₀.heap.objs.size f cd)) (Da (BU qual scope s₀.heap.objs.size f cd) (.ref e)) _ _ _;refine nV (s:={ s with heap:=h' }) (ad:=ad) J.ok.frames J.stack rfl he rfl λh2 T a F Nt=>?_;have hT:h'.get? T=none:=Ak a;obtain⟨U,ok⟩:=J.noted Nt heH (bB I rfl hx.new) (λ_ z=>nomatch z) rfl;exact⟨e,.ref C,none,H,rfl,⟨T,F,bB I rfl hx.new,bB J rfl hT,heH,J.hok.free_of hT⟩,J.os,J.bare,U,ok,hE⟩
theorem eR {E':XK}(hE:∀C d H,E' C d H->E C d H):Passes (CXE P w) (fC (CXE P w) P w K mg ad N qual scope f cd A ae s₀ H₀ E) E':=by intro aa σ H s e s' I h;obtain⟨a,C,dx,H',rfl,⟨T,F,a1,a2,a3,a4⟩,ho,hg,U,ok,hE'⟩:=h;have J:=I.call' (s':=s') (ch:=[]) ho U ok hg (λ_ z=>nomatch z);show τ (χ P w) (A.deeper (BU qual scope s₀.heap.objs.size f cd)) (Da (BU qual scope s₀.heap.objs.size f cd) (.ref a)) _ _ _;refine mG (ad:=ad) J.ok.frames J.stack rfl F λh2 T2 b F2 Nt=>?_;have hT:s'.heap.get? T2=none:=Ak b;obtain⟨U2,ok2⟩:=J.noted Nt a3 (bB I rfl a1) (λt z=>by cases z;exact⟨a4,bB I rfl a2⟩) rfl;exact⟨a,C,dx,H',rfl,⟨T2,F2,bB I rfl a1,bB J rfl hT,a3,J.hok.free_of hT⟩,J.os,J.bare,U2,ok2,hE _ _ _ hE'⟩
end
section
variable {P:ρ}{w:Γ}{K:γ}{mg:Str->Option δ}{ad:ω}
theorem Fun.okX {x:Str}{st:AD}{f:ε}{fd:AC}{N ps:List Str}{k:Nat}{sp:Sp}(F:Fun K x qual st f fd)(S:FnScope N ps (aC st))(len:∀vs H Q E,sp vs H Q E->vs.length=ps.length)(hbody:∀(cdv:δ) (A:Around) (ae:List Env) (s:η) (H:Hp) (vs:List V) (Q:VK) (E:XK),Room k (A.deeper (BU qual (aC st) s.heap.objs.size f cdv))->sp vs H Q E ->
   ∃t,PSs (fC (CXE P w) P w K mg ad N qual (aC st) f cdv A ae s H E) (aY st) t/\t { nx:=λ_ H'=>Q .non H',rt:=Q } (L2.start N vs) H):FnOk P w K mg ad (CXE P w) (k+1) f fd ps sp:=by
 obtain⟨oc,od,kV,doc,pm,an,cdv,ct,osl,rfl,lk,hcd⟩:=F.ex;exact tU lk hcd S len λA ae s H vs Q E hr hsp=>hbody cdv A ae s H vs Q E hr hsp
theorem kF {X:Cx}:Passes (CXE P w) X E0:=λ_ _ _ _ _ _ _ h=>by obtain⟨_,_,_,_,_,_,_,_,_,_,z⟩:=h;exact z.elim
end
section
variable {X:Cx}{st:AD}{t:TS}
theorem PS.nox (h:PS X.nox st t):PS X st t:=λaa s σ H D I hw =>
 AB (h aa s σ H D (I.wish _) hw) (λ_ _ q=>SP.unwish q) λ_ _ q=>q.elim
end
theorem eH {i:Int}(h:i.natAbs<10^100):(toString i:Str).length<=101:=by have e:=PySem.int_text_length_le10 (k:=100) 'A' h;show (ζ (toString i)).length<=101;rw[PySem.ofString_length];lia
section
variable {X:Cx}{e:Δ}{es:List Δ}{te:TE}{pos:Pos}
def jX (te:TE):TE:=λσ H Q=>te σ H λx H1=>(∃y,x=.str y/\y.length<=ψ/\Q (.str y) H1)\/(∃i:Int,x=.int i/\i.natAbs<10^100/\Q (.str (toString i)) H1)
theorem kD (he:PE X e te):PE X (.FormattedValue e (-1) none pos) (jX te):=by
 intro aa s σ H Q I h;refine FormattedValue_plain (thn (he aa s σ H _ I h) λv s1 hh=>?_);obtain⟨x,H1,I1,r,q⟩:=hh;rcases q with ⟨y,rfl,hy,q⟩ | ⟨i,rfl,hi,q⟩
 ·obtain⟨t,rfl⟩:=r;exact formatField_str (λt' tk=>⟨.str y,H1,I1.tok tk,⟨t',rfl⟩,q⟩) hy
 ·obtain⟨t,rfl⟩:=r;exact formatField_int_small (Nat.lt_trans (b8 hi) 'A') ⟨.str (toString i),H1,I1.tok _,⟨_,rfl⟩,q⟩
def PJ (X:Cx)(es:List Δ)(t:Str->TE):Prop :=
 ∀(acc:Str) (aa:List (ε×Obj)) (s:η) (σ:St) (H:Hp) (Q:VK),Inv X aa σ H s->t acc σ H Q->τ (χ X.prog X.w) X.A (joinParts acc (evalEach es X.env)) (EP X aa σ Q) X.xe s
def nX:Str->TE:=λacc _ H Q=>acc.length<=ψ/\Q (.str acc) H
def cV (te:TE)(t:Str->TE):Str->TE:=λacc σ H Q=>te σ H λx H1=>∃y,x=.str y/\(acc++y).length<=ψ/\t (acc++y) σ H1 Q
theorem sI:PJ X [] nX:=λacc _ _ _ H Q I h=>joinParts_nil ⟨.str acc,H,I.tok _,⟨_,rfl⟩,h.2⟩ h.1
theorem cQ {t:Str->TE}(he:PE X e te)(hr:PJ X es t)(hs:autoParam (evalEach (e::es) X.env=A5 e X.env::evalEach es X.env) L2.au3._auto_1):PJ X (e::es) (cV te t):=by intro acc aa s σ H Q I h;rw[hs];refine joinParts_cons (thn (he aa s σ H _ I h) λv s1 hh=>?_);obtain⟨x,H1,I1,r,y,e1,hz,q⟩:=hh;subst e1;obtain⟨t',rfl⟩:=r;exact⟨hz,hr (acc++y) aa s1 σ H1 Q I1 q⟩
theorem i9 {e2:Δ}{t:Str->TE}(h:PJ X (e::e2::es) t):PE X (.JoinedStr (e::e2::es) pos) (t Ca):=λaa s σ H Q I hw=>JoinedStr_many (h Ca aa s σ H Q I hw)
end
noncomputable abbrev wD:List δ:=[.type "ValueError",.type "Exception",.type "BaseException",.type "object"]
abbrev g9 (K:γ)(C:ε):Prop:=PySem.W.excIn K C wD "ValueError.__new__" = true
theorem vP {K:γ}{h:ω}(X:K.In h)(q:g9 K C):∃tl M nm qn bs hd sn sub ab col dd k0 k1 k2 k3 k5 mN,
  h.get? C=some (excClassObj nm qn C M bs tl hd sn sub ab col dd k0 k1 k2 k3 k5 "ValueError.__new__")/\h.Ns M mN/\mN "__init__" = none/\OwnTail h wD tl:=by
 unfold g9 PySem.W.excIn at q
 split at q
 ·rename_i dd cd sl ho
  split at q
  ·rename_i C' tl k0 k1 k2 k3 nid k5 hm hs;simp only[Ξ,beq_iff_eq,Bool.not_eq_true'] at q;obtain⟨⟨⟨⟨⟨rfl,rfl⟩,q1⟩,q2⟩,q3⟩,q4⟩:=q;obtain⟨nm,bs,mr,M,qn,hd,sn,sub,ab,col,dl⟩:=cd;dsimp only at hm q1 q3 q4;subst hm q1;obtain⟨ls⟩:=sl;have hs':ls=[k0,k1,k2,k3,some (.builtin "ValueError.__new__"),k5]:=hs;subst hs';exact⟨tl,M,nm,qn,bs,hd,sn,sub,ab,col,dd,k0,k1,k2,k3,k5,_,X _ _ ho,.of_isNs (PySem.W.isNs_of_in X q3),PySem.W.nsMap_none_of_in X q3 q4,PySem.W.tail_of_in X q2⟩
  ·cases q
 ·cases q
section
variable {X:Cx}{x:Str}{C:ε}{e:Δ}{te:TE}{np cpos pos:Pos}{E:XK}
def fS (C:ε)(E:XK)(te:TE):TS:=λ_ σ H=>te σ H λ_ H1=>E (.ref C) none H1
theorem lW (hX:Raises X E)(hc:X.calm=true)(hg:Gl X x)(hm:X.mg x=some (.ref C))(q:g9 X.K C)(he:PE X e te)(hd:autoParam ((x==("__debug__" : Str))=false) L2.au1._auto_1)(hs:autoParam (Θ [e] X.env=[(false,A5 e X.env)]) L2.au3._auto_1):PS X (.Raise (some (.Call (.Name x np) [e] [] cpos)) none pos) (fS C E te):=by
 intro aa s σ H D I h;obtain⟨tl,M,nm,qn,bs,hd',sn,sub,ab,col,dd,k0,k1,k2,k3,k5,mN,hC,hN,hni,hT⟩:=vP I.mod.kin q;refine wpAny_Raise_call_subT (C:=C) (nm:=nm) (q:=qn) (N:=M) (bs:=bs) (bm:=tl) (hdct:=hd') (sn:=sn) (sub:=sub) (ab:=ab) (col:=col) (dd:=dd) (k0:=k0) (k1:=k1) (k2:=k2) (k3:=k3) (k5:=k5)
  PySem.F.excBase_ValueError (mN:=mN) (hT.hasType 'A') (I.ok.hd hc) (by rw[hs];rfl) hni (c9 I hg hm ⟨rfl,?_⟩ hd)
 rw[hs];refine Calls.evalArgs_plain (Calls.spliced_cons (thn (he aa s σ H _ I h) λu s1 ⟨v,H1,I1,r,z⟩=>Calls.spliced_nil ?_));exact⟨rfl,by show 1<=ψ;decide,I1.bk _ _ hC,hN.keeps I1.bk,hT.keeps I1.bk,λh' a hm=>hX aa σ H1 s1 C a _ h' I1 hm z⟩
end
section
variable {X:Cx}{aa:List (ε×Obj)}{σ σ':St}{H:Hp}{s:η}
theorem Inv.frame {m':Str->Option δ}{t:Nat}(I:Inv X aa σ H s)(sb:∀b,b≠X.env.locals->h'.get? b=s.heap.get? b)(hn:h'.Ns X.env.locals m')(hl:∀(i:Nat) (x:Str) (v:V),X.N[i]? = some x->σ'[i]? = some (some v)->Vis X.env.scope x->∃u,RelV v u/\Look X.env h' m' x u)(len:σ'.length=σ.length):Inv X aa σ' H { s with heap:=h',toks:=t }:=by
 have neL:∀b o,X.s₀.heap.get? b=some o->b≠X.env.locals:=λb o e=>A3 (Ψ (ξ e) I.ok.above);refine⟨I.ok,I.os,I.bare,⟨λb o e n hb hx=>?_,λb o e n hb hx=>?_,I.ad.free,λb o e hx=>?_,I.ad.tups,I.ad.frzs,I.ad.tbls⟩,⟨m',hn,hl⟩,λx c e=>?_,I.free,I.freeC,λp hp=>?_,λa o e=>?_,len.trans I.len⟩
 ·exact(sb b (neL b o e)).trans (I.ad.keep b o e n hb hx)
 ·obtain⟨sl,q⟩:=I.ad.slot b o e n hb hx;exact⟨sl,(sb b (neL b o e)).trans q⟩
 ·obtain⟨o',q⟩:=I.ad.there b o e hx;exact⟨o',(sb b (neL b o e)).trans q⟩
 ·obtain⟨v,o,ho,hd⟩:=I.cell x c e;exact⟨v,o,(sb c (I.cne x c e)).trans ho,hd⟩
 ·obtain⟨e,n,ne,r⟩:=I.pin p hp;exact⟨(sb p.1 ne).trans e,n,ne,r⟩
 ·have ne:∀b u,H b=some u->b≠X.env.locals:=λb u q z=>by rw[z,I.free] at q;cases q
  refine(I.hok a o e).stay (λb u hb q=>?_) (λ_ z=>z) λ_ _ z=>z;rcases hb with z | z
  ·exact(sb b (ne b o (z ▸ e))).trans q
  ·exact(sb b (ne b _ z)).trans q
theorem Inv.after_note {e:ε}{T0:Option ε}(I:Inv X aa σ H s)(N:Noted (frs X.stack) s.heap h' e T0)(hx:X.ex=[])(he:H e=none)(h0:X.s₀.heap.get? e=none)(hT:∀t,T0=some t->H t=none/\X.s₀.heap.get? t=none)(hp:∀p∈X.pn++aa,p.1≠e/\some p.1≠T0)(hc:∀x c,X.env.cells.lookup x=some c->c≠e/\some c≠T0)(hcf:∀x c,X.env.cells.lookup x=some c->c ∉ frs X.stack)(hL:X.env.locals≠e/\some X.env.locals≠T0):Inv X aa σ H { s with heap:=h' }:=by
 obtain⟨U,ok⟩:=I.noted N he h0 hT hx;rw[<- hx] at U;obtain⟨m,hn,hl⟩:=I.loc;have cellK:∀x c,X.env.cells.lookup x=some c->∀v,s.heap.IsCell c v->h'.IsCell c v:=λx c e v ⟨o,ho,hd⟩ =>
  ⟨o,N.keep c o (hcf x c e) (hc x c e).1 (hc x c e).2 ho,hd⟩
 refine⟨I.ok,I.os,I.bare,U,⟨m,?_,λi x v e1 e2 e3=>?_⟩,λx c q=>?_,I.free,I.freeC,λp hpp=>?_,ok,I.len⟩
 ·obtain⟨o,es,ep,ho,r⟩:=hn;by_cases hs:X.env.locals∈frs X.stack
  ·obtain⟨sl,q⟩:=N.slot _ o hs ho;exact⟨_,es,ep,q,r⟩
  ·exact⟨o,es,ep,N.keep _ o hs hL.1 hL.2 ho,r⟩
 ·obtain⟨u,r,l⟩:=hl i x v e1 e2 e3;refine⟨u,r,?_⟩;rcases l with l | ⟨k,c,q,z⟩
  ·exact .inl l
  ·exact .inr ⟨k,c,q,cellK x c q _ z⟩
 ·obtain⟨v,z⟩:=I.cell x c q;exact⟨v,cellK x c q v z⟩
 ·obtain⟨q,n,ne,nf,d⟩:=I.pin p hpp;refine⟨N.keep p.1 p.2 (λhm=>?_) (hp p hpp).1 (hp p hpp).2 q,n,ne,nf,d⟩;rcases AV.mp (I.stkSub p.1 hm) with z | z
  ·exact ne z
  ·exact nf z
noncomputable abbrev Cx.marked (X:Cx)(v:Option δ):Cx:={ X with A:=X.A.mark v,calm:=false,xe:=λ_ _=>False }
theorem Inv.mark (I:Inv X aa σ H s)(v:Option δ):Inv (X.marked v) aa σ H s :=
 ⟨⟨I.ok.mod,I.ok.kind,I.ok.glob,I.ok.blt,I.ok.above,I.ok.inj,I.ok.has,I.ok.cab,(λz=>nomatch z),I.ok.frames,I.ok.stk,I.ok.exf,I.ok.bs,I.ok.bsz,I.ok.noex,I.ok.exfs,I.ok.funs,I.ok.frf⟩,I.os,I.bare,I.ad,I.loc,I.cell,I.free,I.freeC,I.pin,I.hok,I.len⟩
theorem Inv.unmark {v:Option δ}(J:X.Ok)(I:Inv (X.marked v) aa σ H s):Inv X aa σ H s:=⟨J,I.os,I.bare,I.ad,I.loc,I.cell,I.free,I.freeC,I.pin,I.hok,I.len⟩
noncomputable def dE (dx:Option ε)(a:ε)(C:δ):HO:=.ext λh=>∃vs sl,h.get? a=some (EO dx C vs sl)
noncomputable abbrev vR (a:ε)(C:δ):HO:=dE none a C
theorem vQ {P:ρ}{w:Γ}{h:ω}{a:ε}{C:δ}(e:∃vs sl,h.get? a=some (EO dx C vs sl)):ObjOk P w H h a (dE dx a C) :=
 ⟨e,let ⟨_,_,q⟩:=e;⟨_,q⟩,λh1 h2 ⟨vs,sl,q⟩ k=>⟨vs,sl,k _ q⟩⟩
theorem Inv.track {a:ε}{o:HO}(I:Inv X aa σ H s)(hf:H a=none)(h0:X.s₀.heap.get? a=none)(ok:∀H',ObjOk X.prog X.w H' s.heap a o)(hL:a≠X.env.locals)(hfs:∀x c,X.env.cells.lookup x=some c->c≠a)(hp:∀p∈X.pn++aa,p.1≠a)(hx:X.ex=[])(ho:∀ob u,o ≠ .frz ob u) :
  Inv X aa σ (upd H a o) s:=by
 have ne:∀b u,H b=some u->b≠a:=λb u q z=>by rw[z,hf] at q;cases q
 have ad:=I.ad;refine⟨I.ok,I.os,I.bare,⟨ad.keep,ad.slot,λb u q n hb=>?_,ad.there,λb xs q=>?_,λb u v q=>?_,λb ps q=>?_⟩,I.loc,I.cell,?_,λx c q=>?_,λp hpp=>?_,λb u q=>?_,I.len⟩
 ·rw[aJ (λz=>by rw[z,h0] at q;cases q)];exact ad.free b u q n hb
 ·have:=ad.tups b xs q;rw[aJ (ne _ _ this)];exact this
 ·have:=ad.frzs b u v q;rw[aJ (ne _ _ this)];exact this
 ·obtain⟨more,this⟩:=ad.tbls b ps q;exact⟨more,by rw[aJ (ne _ _ this)];exact this⟩
 ·rw[aJ hL.symm];exact I.free
 ·rw[aJ (hfs x c q)];exact I.freeC x c q
 ·obtain⟨e,n,r⟩:=I.pin p hpp;exact⟨e,by rw[aJ (hp p hpp)];exact n,r⟩
 ·by_cases z:b=a
  ·subst z;rw[aD] at q;cases q;exact ok _
  ·rw[aJ z] at q;refine(I.hok b u q).stay (λc v hc q'=>q') (λc hc=>?_) λc xs hc=>?_
   ·rw[aJ (ne _ _ hc)];exact hc
   ·rw[aJ (ne _ _ hc)];exact hc
end
theorem pL {M:Model}{h:ω}{a:ε}{C:δ}(e:h.get? a=some (EO dx C vs sl)):PySem.W.Looks M h (DD (.ref a)) C:=by intro A Q E s k q;unfold DD;exact θ (wpAny_loadPart (k _ _ e) (υ q))
section
variable {X:Cx}
abbrev TX:=St->Hp->XK->Prop
def PX (X:Cx)(body:List AD)(tb:TX):Prop:=∀(aa:List (ε×Obj)) (s:η) (σ:St) (H:Hp) (R:XK),Inv X aa σ H s->tb σ H R ->
 τ (χ X.prog X.w) X.A (execs body X.env) (λ_ _=>False) (λe s'=>∃a C dx H',e=.ref a/\Inv X aa σ H' s'/\Fly dx s.heap H' a C s'.heap/\R C dx H') s
end
noncomputable def cM (h:ω)(H:Hp)(fs:List ε):ω:=PySem.W.hideAll h (trk h H++fs)
theorem d6 {h:ω}{H:Hp}{fs:List ε}(e:h.get? b=some o)(n:H b=none)(hf:b ∉ fs):(cM h H fs).get? b=some o :=
 PySem.W.hideAll_get _ e λhm=>by
  rcases Af.mp hm with hm | hm
  ·have q:(H b).isSome=true:=(Ap.mp hm).2;rw[n] at q;simp at q
  ·exact hf hm
theorem kI {h:ω}{H:Hp}{fs:List ε}(e:(cM h H fs).get? b=some o):h.get? b=some o/\H b=none:=by
 have e':h.get? b=some o:=PySem.W.of_hideAll _ e;refine⟨e',?_⟩;cases q:H b with
 | none=>rfl
 | some x =>
  have hm:b∈trk h H++fs:=Bb _ (Ap.mpr ⟨C1.mpr (ξ e'),by simp[q]⟩);have z:(cM h H fs).get? b=none:=Ba _ hm;rw[z] at e;cases e
theorem Mod.keeps {K:γ}{mg:Str->Option δ}{b b':ω}(m:Mod K mg b)(k:∀a o,b.get? a=some o->b'.get? a=some o):Mod K mg b' :=
 ⟨m.kin.keeps k,m.glob.keeps k,let ⟨mb,h1,h2⟩:=m.blt;⟨mb,h1.keeps k,h2⟩,m.nolimit.keeps k⟩
theorem Env0.rebase {P:ρ}{w:Γ}{K:γ}{mg:Str->Option δ}{ad:ω}{A:Around}{ae:List Env}{H:Hp}(e:Env0 P w K mg ad A ae s H) :
  Env0 P w K mg (cM s.heap H (frs ae)) A ae s H where
 frames:=e.frames
 mod:=e.mod.keeps λb o q=>d6 (e.bs b o q).1 (e.bs b o q).2 λhm=>by have z:=(e.funs.mem hm).1;rw[q] at z;cases z
 bs:=λb o q=>kI q
 bsz:=Dc (Cd _ _)
 funs:=PySem.W.funFrames_hide e.funs λenv he a ha=>A2 _ (Bt.mpr ⟨env,he,ha⟩)
 frf:=e.frf
 hok:=e.hok
 bare:=e.bare
def dC (X:Cx)(σ:St)(b:ω):Prop:=∀(i:Nat) (x:Str) (v:V) (c:ε),X.N[i]? = some x->σ[i]? = some (some v)->X.env.scope.names.lookup x=some .cell->X.env.cells.lookup x=some c->∃u,RelV v u/\b.IsCell c (some u)
section
variable {X:Cx}{aa:List (ε×Obj)}{σ:St}{H:Hp}{s:η}
theorem Inv.cellsIn (I:Inv X aa σ H s)(hfn:∀x,X.fn x=true):dC X σ (cM s.heap H (frs X.stack)):=λi x v c e1 e2 e3 e4=>by
 obtain⟨m,hn,hl⟩:=I.loc;obtain⟨u,r,l⟩:=hl i x v e1 e2 (.inr (.inl e3));rcases l with ⟨l,_⟩ | ⟨_,c',e5,o,ho,hd⟩
 ·rw[show X.env.kindOf x=X.env.scope.names.lookup x from rfl,e3] at l;cases l
 ·rw[e4] at e5;cases e5;refine⟨u,r,o,d6 ho (I.freeC x c e4) λhm=>?_,hd⟩;rcases AV.mp (I.stkSub c hm) with z | z
  ·exact I.cne x c e4 z
  ·obtain⟨_,o',ho',_⟩:=I.ok.funs.mem z;exact absurd (ξ ho') (Bd.mpr (I.ok.cab x c (hfn x) e4))
end
section
variable {X:Cx}{CX:CXT}{k:Nat}{f C:ε}{fd:AC}{ps:List Str}{dvs:List V}{ds:List δ}{E:XK}{x m:Str}{p pos apos:Pos}{e o:Δ}{es:List Δ}{ta:TE}{t:TA}
theorem uL {sp:Sp}{σ:St}{H:Hp}{Q:VK}{vs:List V}(F:FnOk X.prog X.w X.K X.mg (cM s.heap H (frs X.stack)) CX k f fd ps sp)(hr:Room k X.A)(hb:Binds X.K fd ps ds)(hd:Vals dvs ds)(hx:Passes CX X E)(I:Inv X aa σ H s)(r:Vals vs us)(h:sp (vs++dvs) H Q E):τ (χ X.prog X.w) X.A (call (.ref f) us) (EP X aa σ Q) X.xe s:=by
 have r2:Vals (vs++dvs) (us++ds):=r.append hd;have hl:(us++ds).length=ps.length:=by rw[<- r2.length];exact F.len _ _ _ _ h
 refine C5 (Bu (F.run X.A X.stack s H ⟨us,[]⟩ (us++ds) (vs++dvs) Q E hr I.env0.rebase (hb s us I.kIn hl) r2 h) λr s' hq=>?_);cases r with
 | error e=>exact hx aa σ H s e s' I hq
 | ok fl =>
  cases fl with
  | ret u=>exact I.after hq
  | next=>exact AG hq
  | brk=>exact AG hq
  | cont=>exact AG hq
def jY (X:Cx)(sp:ω->Sp)(dvs:List V)(E:XK)(t:TA):TE:=λσ H Q=>t σ H λvs H1=>∀b,dC X σ b->sp b (vs++dvs) H1 Q E
theorem sP {sp:ω->Sp}(F:∀b,FnOk X.prog X.w X.K X.mg b CX k f fd ps (sp b))(hr:Room k X.A)(hfn:∀x,X.fn x=true)(hg:Gl X x)(hm:X.mg x=some (.ref f))(hk:Am X.K (.ref f)=true)(hb:Binds X.K fd ps ds)(hd:Vals dvs ds)(hx:Passes CX X E)(ha:PA X (e::es) t)(hdb:autoParam ((x==("__debug__" : Str))=false) L2.au1._auto_1)(he:autoParam (Θ (e::es) X.env=(false,A5 e X.env)::Θ es X.env) L2.au3._auto_1)(hpl:autoParam ((B4 pos (Θ es X.env)).any (·.1)=false) L2.au3._auto_1):PE X (.Call (.Name x p) (e::es) [] pos) (jY X sp dvs E t):=by intro aa s σ H Q I h;refine B8 (c9 I hg hm ?_ hdb);refine DC (h₀:=X.ad) I.ok.mod.kin hk (thn (ha pos aa s σ H _ I h) λus s1 ⟨vs,H1,I1,r,q⟩=>⟨I1.kIn,?_⟩) he hpl;exact uL (F _) hr hb hd hx I1 r (q _ (I1.cellsIn hfn))
end
noncomputable def iM (a:ε)(fd:AC):HO:=.ext λh=>h.get? a=some { cls:=.type "function",data:=.func fd }
noncomputable def mZ (c:ε)(qual:Str):HO:=.ext λh=>h.CodeRec (.ref c) qual
theorem pD {P:ρ}{w:Γ}{H:Hp}{h:ω}{a:ε}{fd:AC}(e:h.get? a=some { cls:=.type "function",data:=.func fd }):ObjOk P w H h a (iM a fd) :=
 ⟨e,⟨_,e⟩,λh1 h2 q k=>k _ q⟩
theorem vT {P:ρ}{w:Γ}{H:Hp}{h:ω}{c:ε}(e:h.CodeRec (.ref c) q):ObjOk P w H h c (mZ c q):=by
 refine⟨e,?_,λh1 h2 x k=>?_⟩
 ·obtain⟨c',o,vs,t,z,q,_⟩:=e;cases z;exact⟨_,q⟩
 ·obtain⟨c',o,vs,t,z,q,r⟩:=x;cases z;exact⟨c,o,vs,t,rfl,k _ q,r⟩
noncomputable def mU (P:ρ)(w:Γ)(K:γ)(mg:Str->Option δ)(ad:ω)(N:List Str)(qual:Str)(scope:Ac)(f:ε)(cd:δ)(cl:List (Str×ε))(A:Around)(ae:List Env)(s:η)(H:Hp)(E:XK):Cx where
 prog:=P
 w:=w
 K:=K
 mg:=mg
 ad:=ad
 A:=A.deeper (Av qual scope s.heap.objs.size f cd cl)
 N:=N
 s₀:=s
 H₀:=H
 env:=Av qual scope s.heap.objs.size f cd cl
 ae:=ae
 stack:=Av qual scope s.heap.objs.size f cd cl::ae
 ex:=[]
 calm:=true
 fn:=λ_=>false
 pn:=[]
 xe:=λe s'=>τ (χ P w) (A.deeper (Av qual scope s.heap.objs.size f cd cl)) (Da (Av qual scope s.heap.objs.size f cd cl) e) (λ_ s''=>CXE P w ae H s E e s'') (λe' s''=>CXE P w ae H s E e' s'') s'
structure LamScope (N:List Str)(sc:Ac)(cl:List (Str×ε)):Prop where
 kind:sc.kind=.function
 co:sc.isCoroutine=false
 gen:sc.isGenerator=false
 nocell:∀y∈sc.names,y.2 ≠ .cell
 nm:∀x∈N,sc.names.lookup x=some .free
 has:∀x,sc.names.lookup x=some .free->∃c,cl.lookup x=some c
 inj:∀x y c,cl.lookup x=some c->cl.lookup y=some c->x=y
section
variable {P:ρ}{w:Γ}{K:γ}{mg:Str->Option δ}{ad:ω}{N:List Str}{name qual:Str}{params:Bv}{body:Δ}{scope:Ac}{f c':ε}{pm ctv:δ}{cl:List (Str×ε)}{k:Nat}
theorem vK {A:Around}{ae:List Env}{H:Hp}{E:XK}{tk:Nat}{vs:List V}(S:LamScope N scope cl)(hd:A.handled=none)(e0:Env0 P w K mg ad A ae s H)(hlen:vs.length=N.length)(hcl:∀x c,cl.lookup x=some c->∃v,ad.IsCell c v)(hv:∀(i:Nat) x v,N[i]? = some x->vs[i]? = some v->∃c u,cl.lookup x=some c/\RelV v u/\ad.IsCell c (some u))(hns:h1.Ns s.heap.objs.size (λ_=>none))(hk:∀b o,s.heap.get? b=some o->h1.get? b=some o) :
  Inv (mU P w K mg ad N qual scope f (.ref c') cl A ae s H E) [] (vs.map some) H { s with heap:=h1,toks:=tk }:=by
 have noA:∀b:ε,b ∉ (mU P w K mg ad N qual scope f (.ref c') cl A ae s H E).ex:=λb z=>absurd (show b∈([]:List ε) from z) 'C';have bk:∀c v,ad.IsCell c v->h1.IsCell c v/\H c=none:=λc v ⟨o,ho,hd⟩=>⟨⟨o,hk _ _ (e0.bs c o ho).1,hd⟩,(e0.bs c o ho).2⟩;refine⟨⟨e0.mod,S.kind,rfl,rfl,ο _,S.inj,λy hy=>?_,λy c z _=>(nomatch z),λ_=>hd,Around.frames_deeper e0.frames,.inr ⟨rfl,rfl⟩,λb z=>absurd z (noA b),e0.bs,e0.bsz,λb _ _=>noA b,λb z=>absurd z (noA b),e0.funs,e0.frf⟩,
  rfl,e0.bare,Un.kept hk,⟨_,hns,λi y v h1 h2 h3=>?_⟩,λy c h=>?_,e0.hok.fresh (ο _),λy c h=>?_,λp hp=>absurd (show p∈([]:List (ε×Obj)) from hp) 'C',e0.hok.kept hk,?_⟩
 ·have hy:scope.names.lookup y=some .cell\/scope.names.lookup y=some .free:=hy;rcases hy with hy | hy
  ·exact absurd rfl (S.nocell _ (A7 hy))
  ·exact S.has y hy
 ·have ha:vs[i]? = some v:=by
   rw[Ae] at h2;cases e:vs[i]? with
   | none=>rw[e] at h2;cases h2
   | some a=>rw[e] at h2;cases h2;rfl
  obtain⟨c,u,q,r,z⟩:=hv i y v h1 ha;exact⟨u,r,.inr ⟨.inr (S.nm y (AR h1)),c,q,(bk c _ z).1⟩⟩
 ·obtain⟨v,z⟩:=hcl y c h;exact⟨v,(bk c v z).1⟩
 ·obtain⟨v,z⟩:=hcl y c h;exact(bk c v z).2
 ·show (vs.map some).length=N.length;rw[Ω,hlen]
theorem xZ {vs:List V}{sp:Hp->VK->XK->Prop}(S:LamScope N scope cl)(hlen:vs.length=N.length)(hcl:∀x c,cl.lookup x=some c->∃v,ad.IsCell c v)(hv:∀(i:Nat) x v,N[i]? = some x->vs[i]? = some v->∃c u,cl.lookup x=some c/\RelV v u/\ad.IsCell c (some u))(hbody:∀(A:Around) (ae:List Env) (s:η) (H:Hp) (Q:VK) (E:XK),Room k (A.deeper (Av qual scope s.heap.objs.size f (.ref c') cl))->sp H Q E ->
   ∃t,PE (mU P w K mg ad N qual scope f (.ref c') cl A ae s H E) body t/\t (vs.map some) H Q) :
  FnOk P w K mg ad (CXE P w) (k+1) f (Au name qual params body scope cl pm (.ref c') ctv) []
   (λus H Q E=>us=[]/\H f=some (iM f (Au name qual params body scope cl pm (.ref c') ctv))/\H c'=some (mZ c' qual)/\sp H Q E):=by
 refine⟨λvs H Q E h=>by rw[h.1];rfl,λA ae s H args us vs' Q E hr e0 hb r hsp=>?_⟩;obtain⟨rfl,hf,hc,hsp⟩:=hsp;have lim:s.heap.NoLimit:=e0.mod.nolimit.keeps λb o e=>(e0.bs b o e).1;obtain⟨ho,_,_⟩:=e0.hok f _ hf;obtain⟨hcd,_,_⟩:=e0.hok c' _ hc;refine PySem.W.kla_callFunE hr.depth ho rfl S.co S.gen rfl hcd (hb _ _ _ _ ?_);refine wpAny_newFunctionEnv S.nocell (λy hy=>by simp at hy) (λh₁ hns hsb=>⟨lim.fresh _ hsb,?_⟩) S.kind;have hk₁:∀b o,s.heap.get? b=some o->h₁.get? b=some o:=λb o e=>hsb.extBut b o (A3 (ξ e)) (μ _ e);show D6 _ _ (.expr body (Av qual scope s.heap.objs.size f (.ref c') cl)) _ _;obtain⟨t,ht,hq⟩:=hbody A ae s H Q E (hr.deeper _) hsp;have I:=vK (qual:=qual) (f:=f) (c':=c') (E:=E) (tk:=s.toks+(([]:List Str).zip us).length) S hr.hd e0 hlen hcl hv hns hk₁;exact PySem.W.kla_codeExpr (AB (ht [] _ _ H _ I hq) (λu s' ⟨v,H',J,rv,q⟩=>⟨v,H',J.os,J.bare,J.ad,J.hok,rv,q⟩) λe s' hs=>hs)
theorem gA {A:Around}{ae:List Env}{s₀:η}{H₀:Hp}{E E':XK}(hE:∀C d H,E' C d H->E C d H):Passes (CXE P w) (mU P w K mg ad N qual scope f cd cl A ae s₀ H₀ E) E':=by intro aa σ H s e s' I h;obtain⟨a,C,dx,H',rfl,⟨T,F,a1,a2,a3,a4⟩,ho,hg,U,ok,hE'⟩:=h;have J:=I.call' (s':=s') (ch:=[]) ho U ok hg (λ_ z=>nomatch z);show τ (χ P w) (A.deeper (Av qual scope s₀.heap.objs.size f cd cl)) (Da (Av qual scope s₀.heap.objs.size f cd cl) (.ref a)) _ _ _;refine mG (ad:=ad) J.ok.frames J.stack rfl F λh2 T2 b F2 Nt=>?_;have hT:s'.heap.get? T2=none:=Ak b;obtain⟨U2,ok2⟩:=J.noted Nt a3 (bB I rfl a1) (λt z=>by cases z;exact⟨a4,bB I rfl a2⟩) rfl;exact⟨a,C,dx,H',rfl,⟨T2,F2,bB I rfl a1,bB J rfl hT,a3,J.hok.free_of hT⟩,J.os,J.bare,U2,ok2,hE _ _ _ hE'⟩
end
section
variable {prog:ρ}{w:Γ}{A:Around}{s:η}
noncomputable def y9 (prog:ρ)(w:Γ)(A:Around)(env:Env):List Δ->η->(Bool->η->Prop)->Prop
 | [],s,Q=>Q true s
 | [c],s,Q=>τ (χ prog w) A (Br c env (A5 c env)) Q (λ_ _=>False) s
 | _,_,_=>False
theorem pW {env:Env}:∀ {ifs:List Δ} {s:η} {Q:Bool->η->Prop},y9 prog w A env ifs s Q ->
  τ (χ prog w) A (forIn ifs true λc r=>if r=true then do let ok <- Br c env (A5 c env);pure (Ct ok) else pure (Ct r)) Q (λ_ _=>False) s
 | [],s,Q,h=>wpAny_tests_nil h
 | [c],s,Q,h=>by simp only[List.forIn_cons,List.forIn_nil,if_true];refine θ (θ (AB h (λb s1 q=>υ (υ q)) λ_ _ z=>z))
 | _::_::_,_,_,h=>h.elim
theorem lB {elt tg:Δ}{ifs:List Δ}{scope:Ac}{it acc:δ}{env:Env}{R:Result->η->Prop}(I:Nat->η->Prop)(turn:∀n s,I n s->τ (χ prog w) A (pyNext it) (λr s₁=>match r with
   | none=>R (.ok .next) s₁
   | some v=>τ (χ prog w) A (Cj tg it v) (λ_ s₁'=>τ (χ prog w) A (Ci tg env v) (λ_ s₂=>y9 prog w A env ifs s₂ λok s₃ =>
     if ok=true then τ (χ prog w) A (A5 elt env) (λx s₄ =>
       τ (χ prog w) A (call (.builtin "list.append") [acc,x]) (λ_ s₅=>∃m,m<n/\I m s₅) (λ_ _=>False) s₄) (λ_ _=>False) s₃ else ∃m,m<n/\I m s₃) (λ_ _=>False) s₁') (λ_ _=>False) s₁) (λ_ _=>False) s)(n:Nat)(h:I n s):D6 (χ prog w) A (.compLoop (.ListComp elt [⟨tg,iter,ifs,0⟩] scope pos) 0 it acc env) R s:=by
 refine codeAny_loop rfl I (λn s hI=>?_) n h;show τ _ A ((compTurn (.ListComp elt [⟨tg,iter,ifs,0⟩] scope pos) 0 it acc env).onRaise (λx=>do noteFrame x env;theTreesLotGoes x)) _ _ s;refine wpAny_noted ?_;rw[compTurn_list];refine θ (CK (θ (AB (turn n s hI) (λr s₁ h₁=>?_) λ_ _ h'=>h'.elim)));cases r with
 | none=>exact υ h₁
 | some v =>
  refine θ (AB h₁ (λ_ s₁' h₁'=>?_) λ_ _ h'=>h'.elim);refine θ (AB h₁' (λ_ s₂ h₂=>θ (AB (pW h₂) (λok s₃ h₃=>?_) λ_ _ h'=>h'.elim)) λ_ _ h'=>h'.elim);cases ok with
  | true=>exact θ (θ (AB h₃ (λx s₄ h₄=>θ (AB h₄ (λ_ s₅ h₅=>υ (υ ⟨rfl,h₅⟩)) λ_ _ h'=>h'.elim)) λ_ _ h'=>h'.elim))
  | false=>exact υ ⟨rfl,h₃⟩
end
noncomputable def aO (X:Cx)(b:ω)(N:List Str)(scope:Ac)(cl:List (Str×ε))(C:ε)(fp:List ε)(s:η)(H:Hp):Cx where
 prog:=X.prog
 w:=X.w
 K:=X.K
 mg:=X.mg
 ad:=b
 A:=X.A
 N:=N
 s₀:=s
 H₀:=H
 env:=compEnvC scope cl C X.env
 ae:=X.stack
 stack:=X.stack
 ex:=fp
 calm:=true
 fn:=λ_=>false
 pn:=[]
 xe:=λ_ _=>False
noncomputable def oY (σ:St)(js:List (Option Nat)):St:=js.map λo=>match o with | none=>none | some j=>(σ[j]?).getD none
structure CompScopeC (X:Cx)(sc:Ac)(N:List Str)(cl:List (Str×ε))(js:List (Option Nat)):Prop where
 kind:sc.kind=.function
 nocell:∀y∈sc.names,y.2 ≠ .cell
 nm:∀y∈sc.names,y.2=.local->sc.names.lookup y.1=some .local
 has:∀y∈sc.names,y.2=.free->∃c,cl.lookup y.1=some c
 sub:∀y∈cl,X.env.cells.lookup y.1=some y.2
 len:js.length=N.length
 js:∀p∈N.zip js,∀j,p.2=some j->X.N[j]? = some p.1/\X.env.scope.names.lookup p.1=some .cell/\((relabel sc X.env).names.lookup p.1=some .cell\/(relabel sc X.env).names.lookup p.1=some .free)/\∃c,cl.lookup p.1=some c
section
variable {X:Cx}{aa:List (ε×Obj)}{σ:St}{H:Hp}{s:η}
theorem qR {N:List Str}{scope:Ac}{cl:List (Str×ε)}{js:List (Option Nat)}{tk:Nat}(S:CompScopeC X scope N cl js)(hc:X.calm=true)(hfn:∀x,X.fn x=true)(I:Inv X aa σ H s)(hfp:∀b∈fp,lG X aa H b)(hfo:∀b∈fp,∃o,s.heap.get? b=some o)(hns:h1.Ns s.heap.objs.size (λ_=>none))(hk:∀b o,s.heap.get? b=some o->h1.get? b=some o) :
  Inv (aO X (cM s.heap H (frs X.stack++fp)) N scope cl s.heap.objs.size fp s H) [] (oY σ js) H { s with heap:=h1,toks:=tk }:=by
 have sub:∀x c,cl.lookup x=some c->X.env.cells.lookup x=some c:=λx c q=>S.sub (x,c) (A7 q);have rel:∀y k,(relabel scope X.env).names.lookup y=some k->(k=.cell\/k=.free)->∃c,cl.lookup y=some c:=λy k q hk=>by
  have m:=A7 q;obtain⟨⟨n,k'⟩,hm,e⟩:=Aa.mp (show (y,k)∈scope.names.map _ from m);have:=S.nocell _ hm;dsimp only at e this
  split at e
  ·rename_i z;simp only[Ξ,beq_iff_eq] at z;cases e;exact S.has _ hm z.1.1
  ·cases e;rcases hk with hk | hk
   ·exact absurd hk this
   ·exact S.has _ hm hk
 have e0:=I.env0;have nfp:∀b o,X.ad.get? b=some o->b ∉ fp:=λb o q hm=>by
  rcases (hfp b hm).2.2.2.1 with z | z
  ·exact I.ok.noex b o q z
  ·exact absurd (ξ (I.ok.bs b o q).1) (Bd.mpr z)
 have nst:∀b∈fp,b ∉ frs X.stack:=λb hb hm=>by
  rcases AV.mp (I.stkSub b hm) with z | z
  ·exact(hfp b hb).2.1 z
  ·exact(hfp b hb).2.2.1 z
 have cells:∀y c,cl.lookup y=some c->(∃v,h1.IsCell c v)/\H c=none:=λy c q=>by obtain⟨v,o,ho,hd⟩:=I.cell y c (sub y c q);exact⟨⟨v,o,hk _ _ ho,hd⟩,I.freeC y c (sub y c q)⟩
 refine⟨⟨e0.mod.keeps λb o q=>d6 (e0.bs b o q).1 (e0.bs b o q).2 λhm=>?_,S.kind,I.ok.glob,I.ok.blt,ο _,λy z c q r=>I.ok.inj y z c (sub y c q) (sub z c r),λy hy=>?_,λy c z=>(nomatch z),λ_=>I.ok.hd hc,I.ok.frames,.inl rfl,λb hb=>⟨?_,λy c q=>?_⟩,λb o q=>kI q,Dc (Cd _ _),λb o q hb=>?_,nst,?_,I.stkFree⟩,
  rfl,I.bare,Un.kept hk,⟨_,hns,λi y v e1 e2 e3=>?_⟩,λy c q=>(cells y c q).1,I.hok.fresh (ο _),λy c q=>(cells y c q).2,λp hp=>absurd (show p∈([]:List (ε×Obj)) from hp) 'C',I.hok.kept hk,?_⟩
 ·rcases Af.mp hm with hm | hm
  ·have z:=(e0.funs.mem hm).1;rw[q] at z;cases z
  ·exact nfp b o q hm
 ·have hy:(relabel scope X.env).names.lookup y=some .cell\/(relabel scope X.env).names.lookup y=some .free:=hy;rcases hy with hy | hy
  ·exact rel y _ hy (.inl rfl)
  ·exact rel y _ hy (.inr rfl)
 ·obtain⟨o,q⟩:=hfo b hb;exact A3 (ξ q)
 ·exact(hfp b hb).2.2.2.2.1 y c (sub y c q)
 ·have z:(cM s.heap H (frs X.stack++fp)).get? b=none:=Ba _ (A2 _ (A2 _ hb));rw[show (aO X (cM s.heap H (frs X.stack++fp)) N scope cl s.heap.objs.size fp s H).ad.get? b=none from z] at q;cases q
 ·exact PySem.W.funFrames_hide e0.funs λenv he a ha=>A2 _ (Bb _ (Bt.mpr ⟨env,he,ha⟩))
 ·have e1:N[i]? = some y:=e1;obtain⟨j,hj,hv⟩:∃j,js[i]? = some (some j)/\σ[j]? = some (some v):=by
   unfold oY at e2;rw[Ae] at e2;cases q:js[i]? with
   | none=>rw[q] at e2;cases e2
   | some o =>
    rw[q] at e2;cases o with
    | none=>simp at e2
    | some j =>
     refine⟨j,rfl,?_⟩;have e2:some ((σ[j]?).getD none)=some (some v):=e2;cases w:σ[j]? with
     | none=>rw[w] at e2;cases e2
     | some u=>rw[w] at e2;cases e2;rfl
  have hz:(y,some j)∈N.zip js:=AR (i:=i) (by rw[Bq];exact⟨e1,hj⟩);obtain⟨f1,f2,f3,c,f4⟩:=S.js _ hz j rfl;obtain⟨m,hn,hl⟩:=I.loc;obtain⟨u,r,l⟩:=hl j y v f1 hv (.inr (.inl f2));rcases l with ⟨l,_⟩ | ⟨_,c',e5,o,ho,hd⟩
  ·rw[show X.env.kindOf y=X.env.scope.names.lookup y from rfl,f2] at l;cases l
  ·have:c'=c:=by
    have:=sub y c f4;rw[e5] at this;cases this;rfl
   subst this;exact⟨u,r,.inr ⟨f3,c',f4,o,hk _ _ ho,hd⟩⟩
 ·show (js.map _).length=N.length;rw[Ω,S.len]
end
section
variable {X:Cx}{tg iter elt:Δ}{ifs:List Δ}{scope:Ac}{pos:Pos}{wi:TI}{N:List Str}{cl:List (Str×ε)}{js:List (Option Nat)}{g:TG}{tt:ω->TT}{te:ω->TE}
noncomputable def oB (X:Cx):List Δ->TT->Prop
 | [],t=>∀ σ H Q,t σ H Q->Q true H
 | [c],t=>PT X c t
 | _,_=>False
theorem f7 {X:Cx}{c:Δ}{t:TT}(h:PT X c t):oB X [c] t:=h
def dF (X:Cx)(js:List (Option Nat))(wi:TI)(g:TG)(tt:ω->TT)(te:ω->TE):TE:=λσ H Q=>wi σ H λJ H1=>∀b D,dC X σ b->H1 D=none->∃W:Nat->Nat->St->Hp->Prop,(∃m,W 0 m (oY σ js) (upd H1 D (.lst []))) /\
 ∀i m σ' H',W i m σ' H'->(J.stop i H'/\Q (.ref D) H')\/(J.go i H'/\∃Nx:St->Hp->Prop,(∀ σ'' H'',Nx σ'' H''->∃m',m'<m/\W (i+1) m' σ'' H'')/\∀x H2,J.yld i H' x H2->g x σ' H2 λσ3 H3=>tt b σ3 H3 λok H3'=>if ok=true then te b σ3 H3' λy H4=>∃ys,H4 D=some (.lst ys)/\ys.length<ψ/\Nx σ3 (upd H4 D (.lst (ys++[y]))) else Nx σ3 H3')
structure LetGo (X:Cx)(aa:List (ε×Obj))(H:Hp)(D C:ε):Prop where
 free:H C=none
 sz:X.s₀.heap.objs.size<=C
 lt:X.env.locals≠C
 ne:D≠C
 cl:∀x c,X.env.cells.lookup x=some c->c≠C
 pin:∀p∈X.pn++aa,p.1≠C
theorem LetGo.inv {X:Cx}{σ:St}{H:Hp}{D:ε}(L:LetGo X aa H D C)(I:Inv X aa σ H s)(hs:Heap.SameBut C s.heap h'):Inv X aa σ H { s with heap:=h' }:=by
 have ne:∀b u,H b=some u->b≠C:=λb u q z=>by rw[z,L.free] at q;cases q
 refine I.call' (s':={ s with heap:=h' }) (ch:=[C]) rfl ⟨λb o q n hb hx=>(hs.2 b (λz=>hx (by rw[z];exact AL))).trans q,λb o q n hb hx=>⟨o.slots,(hs.2 b (λz=>hx (by rw[z];exact AL))).trans q⟩,λb o q n hx=>n,λb o q hx=>⟨o,(hs.2 b (λz=>hx (by rw[z];exact AL))).trans q⟩,λ_ _ z=>z,λ_ _ _ z=>z,λb ps z=>⟨#[],by simpa using z⟩⟩ (λa o q=>?_) I.bare λb hb=>?_
 ·refine(I.hok a o q).stay (λb u hb q'=>(hs.2 b ?_).trans q') (λ_ z=>z) λ_ _ z=>z;rcases hb with z | z
  ·exact ne b o (z ▸ q)
  ·exact ne b _ z
 ·have eb:b=C:=by simpa using hb
  subst eb;exact⟨.inr L.sz,λz=>L.lt z.symm,L.cl,L.pin⟩
theorem g4 {ps2:Pos}{use:Option (δ->Sem Unit)}{QP:δ->η->Prop}{σ:St}{H:Hp}{Q:VK}(S:CompScopeC X scope N cl js)(hc:X.calm=true)(hfn:∀x,X.fn x=true)(hi:PI X tg iter wi)(hclos:Cu scope X.env=pure cl)(hg:∀b C fp s H,PG (aO X b N scope cl C fp s H) tg g)(hif:∀b C fp s H,oB (aO X b N scope cl C fp s H) ifs (tt b))(he:∀b C fp s H,PE (aO X b N scope cl C fp s H) elt (te b))(hs:∀x,Ao iter X.env x=pure x)(I:Inv X aa σ H s)(h:dF X js wi g tt te σ H Q)(done:∀(s6:η) (H5:Hp) (D C:ε) (u:PySem.Flow) m6,s6.heap.Ns C m6->Inv X aa σ H5 s6->LetGo X aa H5 D C->Q (.ref D) H5->compPost (χ X.prog X.w) X.A X.xe use QP (.ref D) C (.ok u) s6) :
  τ (χ X.prog X.w) X.A (comprehension (.ListComp elt [⟨tg,iter,ifs,0⟩] scope pos) scope X.env ps2 (newList []) false (A5 iter X.env) use) QP X.xe s:=by
 refine wpAny_comprehension_free (use:=use) rfl hs hclos S.kind S.nm (thn (hi aa s σ H _ I h) λv s1 h1=>thn h1 λitv s2 h2=>?_);obtain⟨it,fp,tn,J,H2,e,I2,T,st2,f2,R⟩:=h2;subst e;have hD:H2 s2.heap.objs.size=none:=I2.fresh;have old:∀b o,s2.heap.get? b=some o->(s2.heap.push { cls:=.type "list",data:=.seq ([]:List δ).toArray }).get? b=some o:=λb o q=>μ _ q;have I3:Inv X aa σ (upd H2 s2.heap.objs.size (.lst [])) { s2 with heap:=s2.heap.push { cls:=.type "list",data:=.seq ([]:List δ).toArray } }:=I2.lnew (t':=s2.toks) (ys:=[]) (its:=[]) .nil (AY _);have fo:∀b∈fp,∃o,(s2.heap.push { cls:=.type "list",data:=.seq ([]:List δ).toArray }).get? b=some o:=λb hb=>by obtain⟨o,q,_⟩:=T.obj _ _ st2 b hb;exact⟨o,old b o q⟩
 have fne:∀b∈fp,b≠s2.heap.objs.size:=λb hb=>by obtain⟨o,q,_⟩:=T.obj _ _ st2 b hb;exact A3 (ξ q)
 have f3:∀b∈fp,lG X aa (upd H2 s2.heap.objs.size (.lst [])) b:=λb hb=>⟨by rw[aJ (fne b hb)];exact(f2 b hb).1,(f2 b hb).2⟩;have st3:tn 0 (s2.heap.push { cls:=.type "list",data:=.seq ([]:List δ).toArray }):=T.keep _ _ _ st2 λb _ o q=>old b o q;refine An (wpAny_newFunctionEnv S.nocell (λy hy=>by simp at hy) (λh₁ hns hsb=>?_) S.kind);obtain⟨s3,hs3⟩:∃s3:η,s3={ s2 with heap:=s2.heap.push { cls:=.type "list",data:=.seq ([]:List δ).toArray } }:=⟨_,rfl⟩;obtain⟨H3,hH3⟩:∃H3,H3=upd H2 s2.heap.objs.size (.lst []):=⟨_,rfl⟩;rw[<- hs3,<- hH3] at I3;rw[<- hH3] at f3;have hh3:s3.heap=s2.heap.push { cls:=.type "list",data:=.seq ([]:List δ).toArray }:=by rw[hs3]
 have hk₁:∀b o,s3.heap.get? b=some o->h₁.get? b=some o:=λb o q=>by rw[hh3] at q;exact hsb.extBut b o (A3 (ξ q)) (μ _ q)
 have hns':h₁.Ns s3.heap.objs.size (λ_=>none):=by rw[hh3];exact hns
 obtain⟨W,⟨m0,w0⟩,turn⟩:=R (cM s3.heap H3 (frs X.stack++fp)) s2.heap.objs.size (λi x v c e1 e2 e3 e4=>by
  obtain⟨u,r,o,q,d⟩:=I3.cellsIn hfn i x v c e1 e2 e3 e4;obtain⟨q1,q2⟩:=kI q;refine⟨u,r,o,d6 q1 q2 λhm=>?_,d⟩;rcases Af.mp hm with hm | hm
  ·have z:(cM s3.heap H3 (frs X.stack)).get? c=none:=Ba _ (A2 _ hm);rw[z] at q;cases q
  ·exact(f3 c hm).2.2.2.2.1 x c e4 rfl) hD
 rw[<- hH3] at w0;have J0:=qR (js:=js) (N:=N) (scope:=scope) (h1:=h₁) (tk:=s2.toks+([]:List (Str×δ)).length) S hc hfn I3 f3 (λb hb=>by rw[hh3];exact fo b hb) hns' hk₁;have st4:tn 0 h₁:=T.keep _ _ _ st3 λb hb o q=>hk₁ b o (by rw[hh3];exact q);have loop:∀s4:η,s4={ s3 with heap:=h₁,toks:=s2.toks+([]:List (Str×δ)).length } ->
   D6 (χ X.prog X.w) X.A (.compLoop (.ListComp elt [⟨tg,iter,ifs,0⟩] scope pos) 0 (.ref it) (.ref s2.heap.objs.size) (compEnvC scope cl s3.heap.objs.size X.env))
    (compPost (χ X.prog X.w) X.A X.xe use QP (.ref s2.heap.objs.size) s3.heap.objs.size) s4:=by
  rintro s4 rfl
  have stat:∀ {H':Hp},(∀b∈fp,H' b=none)->∀b∈fp,lG (aO X (cM s3.heap H3 (frs X.stack++fp)) N scope cl s3.heap.objs.size fp s3 H3) [] H' b:=λhn b hb =>
   ⟨hn b hb,by
    obtain⟨o,q⟩:=fo b hb;exact A3 (ξ (by rw[hh3];exact q)),J0.ok.exfs b hb,.inl hb,λy c q=>(J0.ok.exf b hb).2 y c q,λp hp=>absurd (show p∈([]:List (ε×Obj)) from hp) 'C'⟩
  refine lB (λn s'=>∃i σ' H',Inv (aO X (cM s3.heap H3 (frs X.stack++fp)) N scope cl s3.heap.objs.size fp s3 H3) [] σ' H' s'/\tn i s'.heap/\(∀b∈fp,H' b=none)/\W i n σ' H') ?_ m0 ⟨0,_,H3,J0,st4,λb hb=>(f3 b hb).1,w0⟩
  rintro n s5 ⟨i,σ5,H5,I5,st5,fr5,w5⟩
  rcases turn i n σ5 H5 w5 with ⟨stop,qn⟩ | ⟨go,Nx,hN,step⟩
  ·refine AB (T.done (aO X (cM s3.heap H3 (frs X.stack++fp)) N scope cl s3.heap.objs.size fp s3 H3) rfl rfl rfl rfl i [] s5 σ5 H5 (λ_ _=>False) I5 (stat fr5) st5 stop) (λr s6 ⟨hr,I6⟩=>?_) λ_ _ z=>z;subst hr;obtain⟨m6,n6,_⟩:=id I6.loc;have neC:∀b o,s3.heap.get? b=some o->b≠s3.heap.objs.size:=λb o q=>A3 (ξ q);have B:=I6.ad;exact done s6 H5 s2.heap.objs.size s3.heap.objs.size _ m6 n6 (I3.call' (s':=s6) (ch:=fp) I6.os ⟨λb o q n hb hx=>B.keep b o q n hb hx,λb o q n hb hx=>B.slot b o q n hb hx,B.free,λb o q hx=>B.there b o q hx,B.tups,B.frzs,B.tbls⟩ I6.hok I6.bare λb hb=>⟨(f3 b hb).2.2.2.1,(f3 b hb).2.1,(f3 b hb).2.2.2.2.1,(f3 b hb).2.2.2.2.2⟩)
    ⟨I6.free,I3.sz,A3 I3.lt,A3 (by rw[hh3,Heap.size_push];exact Nat.lt_succ_self _),λx c q=>by
     obtain⟨v,o,ho,_⟩:=I3.cell x c q;exact neC c o ho,λp hp=>neC _ _ (I3.pin p hp).1⟩ qn
  ·refine AB (T.item (aO X (cM s3.heap H3 (frs X.stack++fp)) N scope cl s3.heap.objs.size fp s3 H3) rfl rfl rfl rfl i [] s5 σ5 H5 (λ_ _=>False) I5 (stat fr5) st5 go) (λr s6 ⟨u,hr,h6⟩=>?_) λ_ _ z=>z;subst hr;refine AB h6 (λ_ s7 hh=>?_) λ_ _ z=>z;obtain⟨x,H7,I7,r7,y7,st7,fr7⟩:=hh;have I7':=I7.pinned (stat fr7) (T.obj _ _ st7);refine AB (hg _ _ _ _ _ _ s7 σ5 H7 x u _ I7' r7 (step x H7 y7)) (λ_ s8 ⟨σ8,H8,I8,q8⟩=>?_) λ_ _ z=>z;have fin:∀(s8:η) (H8:Hp),Inv _ _ σ8 H8 s8->(∃m',m'<n/\W (i+1) m' σ8 H8)->∃m,m<n/\(∃i σ' H',Inv (aO X (cM s3.heap H3 (frs X.stack++fp)) N scope cl s3.heap.objs.size fp s3 H3) [] σ' H' s8/\tn i s8.heap/\(∀b∈fp,H' b=none)/\W i m σ' H'):=λs8 H8 I10 ⟨m',hm,w9⟩=>by
    refine⟨m',hm,i+1,σ8,_,I10.unpinned,T.keep _ _ _ st7 λb hb o q=>(I10.pin (b,o) (A2 _ (A2 _ (cR hb q)))).1,λb hb=>?_,w9⟩;obtain⟨o,q,d⟩:=T.obj _ _ st7 b hb;exact(I10.pin (b,o) (A2 _ (A2 _ (cR hb q)))).2.1
   have rest:∀(ok:Bool) (s8:η) (H8:Hp),Inv _ _ σ8 H8 s8->(if ok=true then te (cM s3.heap H3 (frs X.stack++fp)) σ8 H8 λy H4=>∃ys,H4 s2.heap.objs.size=some (.lst ys)/\ys.length<ψ/\Nx σ8 (upd H4 s2.heap.objs.size (.lst (ys++[y]))) else Nx σ8 H8) ->
     (if ok=true then τ (χ X.prog X.w) X.A (A5 elt (compEnvC scope cl s3.heap.objs.size X.env)) (λx s₄ =>
       τ (χ X.prog X.w) X.A (call (.builtin "list.append") [.ref s2.heap.objs.size,x]) (λ_ s₅=>∃m,m<n/\(∃i σ' H',Inv (aO X (cM s3.heap H3 (frs X.stack++fp)) N scope cl s3.heap.objs.size fp s3 H3) [] σ' H' s₅/\tn i s₅.heap/\(∀b∈fp,H' b=none)/\W i m σ' H')) (λ_ _=>False) s₄) (λ_ _=>False) s8
      else ∃m,m<n/\(∃i σ' H',Inv (aO X (cM s3.heap H3 (frs X.stack++fp)) N scope cl s3.heap.objs.size fp s3 H3) [] σ' H' s8/\tn i s8.heap/\(∀b∈fp,H' b=none)/\W i m σ' H')):=λok s8 H8 I8 q8=>by
    cases ok with
    | false=>exact fin s8 H8 I8 (hN _ _ q8)
    | true =>
     refine AB (he _ _ _ _ _ _ s8 σ8 H8 _ I8 q8) (λy s9 hh=>?_) λ_ _ z=>z;obtain⟨vy,H9,I9,ry,ys,hD9,hz,w9⟩:=hh;obtain⟨z,its,nn,rr,hl,eo⟩:=I9.lstM hD9;refine append_at (hsz:=by rw[ν];lia) eo λh10 hs10 hD10=>?_;have I10:Inv _ _ σ8 (upd H9 s2.heap.objs.size (.lst (ys++[vy]))) { s9 with heap:=h10,toks:=s9.toks }:=I9.write (x:=s2.heap.objs.size) (e:=s2.heap.objs.size) (o:=.lst (ys++[vy])) (by rw[hD9];exact trivial) (.inl rfl) (λb o hb q=>hs10.extBut b o hb q) ⟨_,hD10⟩
      ⟨by rw[AM,BZ];lia,its++[y],nn+1,rr.append (.cons ry .nil),by rw[hD10,List.push_toArray]⟩
     exact fin _ _ I10 (hN _ _ w9)
   have hI:=hif (cM s3.heap H3 (frs X.stack++fp)) s3.heap.objs.size fp s3 H3
   match ifs,hI with
   | [],hI=>exact rest true s8 H8 I8 (hI _ _ _ q8)
   | [c],hI=>exact AB (hI _ s8 σ8 H8 _ I8 q8) (λok s9 ⟨H9,I9,q9⟩=>rest ok s9 H9 I9 q9) λ_ _ z=>z
   | _::_::_,hI=>exact hI.elim
 have e4:({ ({ s2 with heap:=s2.heap.push { cls:=.type "list",data:=.seq ([]:List δ).toArray } }:η) with heap:=h₁,toks:=s2.toks+([]:List (Str×δ)).length }:η)={ s3 with heap:=h₁,toks:=s2.toks+([]:List (Str×δ)).length }:=by rw[hs3]
 have lp:=loop _ e4;have eC:s3.heap.objs.size=(s2.heap.push { cls:=.type "list",data:=.seq ([]:List δ).toArray }).objs.size:=by rw[hh3]
 rw[eC] at lp;exact codeAny_compStart_list lp (T.self _ 0 _ _ _ st4 lp)
theorem sN (S:CompScopeC X scope N cl js)(hc:X.calm=true)(hfn:∀x,X.fn x=true)(hi:PI X tg iter wi)(hclos:Cu scope X.env=pure cl)(hg:∀b C fp s H,PG (aO X b N scope cl C fp s H) tg g)(hif:∀b C fp s H,oB (aO X b N scope cl C fp s H) ifs (tt b))(he:∀b C fp s H,PE (aO X b N scope cl C fp s H) elt (te b))(hs:autoParam (∀x,Ao iter X.env x=pure x) L2.au2._auto_1):PE X (.ListComp elt [⟨tg,iter,ifs,0⟩] scope pos) (dF X js wi g tt te):=by intro aa s σ H Q I h;rw[eval_ListComp];exact g4 (use:=none) (QP:=EP X aa σ Q) S hc hfn hi hclos hg hif he hs I h λs6 H5 D C u m6 n6 I6 L q=>⟨m6,n6,λh' hs'=>⟨.ref D,H5,L.inv I6 hs',rfl,q⟩⟩
end
section
variable {K:γ}{a:ε}{xs:List V}{g:TG}{tt:TT}{te:TE}{Q:VK}{D:ε}{σ:St}{H:Hp}{J:It}
abbrev CT (g:TG)(tt:TT)(te:TE)(D:ε)(Nx:St->Hp->Prop)(x:V)(σ:St)(H:Hp):Prop :=
 g x σ H λσ3 H3=>tt σ3 H3 λok H3'=>if ok=true then te σ3 H3' λy H4=>∃ys,H4 D=some (.lst ys)/\ys.length<ψ/\Nx σ3 (upd H4 D (.lst (ys++[y]))) else Nx σ3 H3'
abbrev CW (J:It)(g:TG)(tt:TT)(te:TE)(D:ε)(Q:VK)(σ:St)(H:Hp):Prop:=∃W:Nat->Nat->St->Hp->Prop,(∃m,W 0 m σ H) /\
 ∀i m σ' H',W i m σ' H'->(J.stop i H'/\Q (.ref D) H')\/(J.go i H'/\∃Nx:St->Hp->Prop,(∀ σ'' H'',Nx σ'' H''->∃m',m'<m/\W (i+1) m' σ'' H'')/\∀x H2,J.yld i H' x H2->CT g tt te D Nx x σ' H2)
theorem qY (Pv:Nat->St->Hp->Prop)(h0:Pv 0 σ H)(hl:∀i σ H,i<=xs.length->Pv i σ H->SqL K H a xs)(hs:∀i x σ H,xs[i]? = some x->Pv i σ H->CT g tt te D (Pv (i+1)) x σ H)(hd:∀ σ H,Pv xs.length σ H->Q (.ref D) H):CW (Itl K a) g tt te D Q σ H:=by
 refine⟨λi m σ H=>m=xs.length-i/\i<=xs.length/\Pv i σ H,⟨xs.length,by simp,AY _,h0⟩,?_⟩
 rintro i m σ H ⟨rfl,hi,p⟩
 have q:=hl i σ H hi p;by_cases hlt:i<xs.length
 ·refine .inr ⟨⟨xs,xs[i],q,by simp[hlt]⟩,Pv (i+1),λσ' H' p'=>⟨xs.length-(i+1),by lia,rfl,hlt,p'⟩,λx H' y=>?_⟩;obtain⟨e,y⟩:=y;subst e;exact hs i x σ _ (y xs q) p
 ·have e:i=xs.length:=by lia
  subst e;exact .inl ⟨⟨xs,q,ο _⟩,hd σ H p⟩
end
noncomputable def bT (sc:Ac)(env:Env):List (Str×ε):=(sc.names.filter (·.2 == .free)).reverse.map λy=>(y.1,(env.cells.lookup y.1).getD 0)
theorem g5 (env:Env):∀(ns:List (Str×CO)) (cs:List (Str×ε)),(∀y∈ns,y.2=.free->∃c,env.cells.lookup y.1=some c) ->
  (forIn ns cs λ(x:Str×CO) __s=>match x with
    | (name,kind)=>if (kind==Bi)=true then do let __do_lift <- cellOf env name;pure (Ct ((name,__do_lift)::__s)) else pure (Ct __s)) =
   (pure ((ns.filter (·.2 == .free)).reverse.map (λy=>(y.1,(env.cells.lookup y.1).getD 0))++cs):Sem (List (Str×ε)))
 | [],cs,_=>by simp
 | (n,k)::ns,cs,h=>by
  have ih:=λcs=>g5 env ns cs λy hy=>h y (AQ _ hy);rw[List.forIn_cons];by_cases e:(k==Bi)=true
  ·have ek:k=.free:=by simpa using e
   obtain⟨c,hc⟩:=h (n,k) AL ek;have e1:cellOf env n=pure c:=by unfold cellOf;simp only at hc;rw[hc]
   dsimp only;rw[if_pos e,e1,pure_bind,pure_bind];dsimp only;rw[ih,List.filter_cons_of_pos (by simpa using ek)];simp only at hc;simp[hc]
  ·dsimp only;rw[if_neg e,pure_bind];dsimp only;rw[ih,List.filter_cons_of_neg (by simpa using e)]
theorem dH {sc:Ac}{env:Env}(h:∀y∈sc.names,y.2=.free->∃c,env.cells.lookup y.1=some c):Cu sc env=pure (bT sc env):=by unfold Cu bT;have:=g5 env sc.names [] h;dsimp only;rw[this];simp
noncomputable def gZ (sc out:Ac)(N NX:List Str)(js:List (Option Nat)):Bool :=
 (sc.kind == .function)&&(sc.names.all λy=>y.2 != .cell)&&(sc.names.all λy=>y.2 != .local||sc.names.lookup y.1==some .local)&&(sc.names.all λy=>y.2 != .free||out.names.lookup y.1==some .cell)&&(js.length==N.length) &&
 ((N.zip js).all λp=>match p.2 with | none=>true | some j=>(NX[j]? == some p.1)&&(out.names.lookup p.1==some .cell)&&(sc.names.lookup p.1==some .free))
theorem cP {env:Env}{x:Str}:∀(ns:List (Str×CO)),ns.lookup x=some .free ->
  (ns.map (λx=>match x with | (n,k)=>if (k==Bi&&env.scope.kind==ScopeKind.function&&env.kindOf n==some DM)=true then (n,DM) else (n,k))).lookup x=some .cell \/
  (ns.map (λx=>match x with | (n,k)=>if (k==Bi&&env.scope.kind==ScopeKind.function&&env.kindOf n==some DM)=true then (n,DM) else (n,k))).lookup x=some .free
 | [],h=>by cases h
 | (n,k)::ns,h=>by
  rw[Bg];dsimp only;by_cases e:x==n
  ·have hk:k=.free:=by
    rw[BL,e] at h
    simpa using h
   split
   ·left;rw[BL,e]
   ·right;rw[BL,e,hk]
  ·have e':(x==n)=false:=by simpa using e
   rw[BL,e'] at h;have ih:=cP (env:=env) ns h
   split <;> (rw[BL,e'];exact ih)
theorem cN {sc:Ac}{env:Env}{x:Str}(h:(x,Bi)∈sc.names):∃c,(bT sc env).lookup x=some c:=by
 have hm:(x,(env.cells.lookup x).getD 0)∈bT sc env:=Aa.mpr ⟨(x,.free),by rw[CS,Ap];exact⟨h,by simp⟩,rfl⟩;cases e:(bT sc env).lookup x with
 | some c=>exact⟨c,rfl⟩
 | none =>
  have:=List.lookup_eq_none_iff.mp e _ hm;simp at this
section
variable {X:Cx}{tg iter elt:Δ}{ifs:List Δ}{scope:Ac}{pos:Pos}{wi:TI}{N:List Str}{js:List (Option Nat)}{g:TG}{tt:ω->TT}{te:ω->TE}
theorem sM (hcb:gZ scope X.env.scope N X.N js=true)(hc:X.calm=true)(hfn:∀x,X.fn x=true)(hi:PI X tg iter wi)(hg:∀b C fp s H,PG (aO X b N scope (bT scope X.env) C fp s H) tg g)(hif:∀b C fp s H,oB (aO X b N scope (bT scope X.env) C fp s H) ifs (tt b))(he:∀b C fp s H,PE (aO X b N scope (bT scope X.env) C fp s H) elt (te b))(hs:autoParam (∀x,Ao iter X.env x=pure x) L2.au2._auto_1):PE X (.ListComp elt [⟨tg,iter,ifs,0⟩] scope pos) (dF X js wi g tt te):=by
 intro aa s σ H Q I h;simp only[gZ,Ξ,BM,beq_iff_eq,bne_iff_ne,BV] at hcb;obtain⟨⟨⟨⟨⟨c1,c2⟩,c3⟩,c4⟩,c5⟩,c6⟩:=hcb;have env:∀y∈scope.names,y.2=.free->∃c,X.env.cells.lookup y.1=some c:=λy hy hf=>by
  rcases c4 y hy with z | z
  ·exact absurd hf z
  ·exact I.ok.has y.1 (.inl z)
 have S:CompScopeC X scope N (bT scope X.env) js:=by
  refine⟨c1,c2,λy hy hl=>?_,λy hy hf=>?_,λy hy=>?_,c5,λp hp j hj=>?_⟩
  ·rcases c3 y hy with z | z
   ·exact absurd hl z
   ·exact z
  ·exact cN (by obtain⟨a,b⟩:=y;cases hf;exact hy)
  ·obtain⟨z,hz,rfl⟩:=Aa.mp hy;rw[CS,Ap] at hz;obtain⟨c,hc⟩:=env z hz.1 (by simpa using hz.2);simp only[hc,Option.getD_some]
  ·have:=c6 p hp;rw[hj] at this;simp only[Ξ,beq_iff_eq] at this;obtain⟨⟨d1,d2⟩,d3⟩:=this;refine⟨d1,d2,?_,cN (A7 d3)⟩;exact cP _ d3
 exact sN S hc hfn hi (dH env) hg hif he hs aa s σ H Q I h
end
section
variable {X:Cx}
end
section
variable {X:Cx}{K:γ}{pos:Pos}
end
section
variable {X:Cx}{pos:Pos}
end
theorem eI {X:Cx}{js:List (Option Nat)}{wi:TI}{g:TG}{tt:ω->TT}{te:ω->TE}{σ:St}{H:Hp}{Q:VK}(h:wi σ H λJ H1=>∀b D,dC X σ b->H1 D=none->CW J g (tt b) (te b) D Q (oY σ js) (upd H1 D (.lst []))):dF X js wi g tt te σ H Q:=h
inductive Dt where
 | non | bl (b:Bool) | int (i:Int) | str (x:Str) | tup (ds:List Dt) | lst (ds:List Dt) | emp
mutual
noncomputable def Rep (K:γ)(H:Hp):Dt->V->Prop
 | .non,v=>v=.non
 | .bl b,v=>v=.bl b
 | .int i,v=>v=.int i
 | .str x,v=>v=.str x
 | .tup ds,v=>∃a xs,v=.ref a/\SqT K H a xs/\RepL K H ds xs
 | .lst ds,v=>∃a xs,v=.ref a/\SqL K H a xs/\RepL K H ds xs
 | .emp,v=>∃a,v=.ref a/\H a=some (.dK [])
noncomputable def RepL (K:γ)(H:Hp):List Dt->List V->Prop
 | [],xs=>xs=[]
 | d::ds,xs=>∃x r,xs=x::r/\Rep K H d x/\RepL K H ds r
end
mutual
noncomputable def eqD:Dt->Dt->Bool
 | .non,.non=>true
 | .bl a,.bl b=>a==b
 | .bl a,.int b=>(if a then 1 else 0)==b
 | .int a,.bl b=>a==(if b then 1 else 0)
 | .int a,.int b=>a==b
 | .str a,.str b=>a==b
 | .tup ds,.tup es=>eqDL ds es
 | .lst ds,.lst es=>eqDL ds es
 | .emp,.emp=>true
 | _,_=>false
noncomputable def eqDL:List Dt->List Dt->Bool
 | [],[]=>true
 | d::ds,e::es=>eqD d e&&eqDL ds es
 | _,_=>false
end
mutual
noncomputable def dep:Dt->Nat
 | .tup ds=>depL ds+1
 | .lst ds=>depL ds+1
 | .emp=>1
 | _=>0
noncomputable def depL:List Dt->Nat
 | []=>0
 | d::ds=>max (dep d) (depL ds)
end
mutual
noncomputable def noE:Dt->Bool
 | .tup ds=>noEL ds
 | .lst ds=>noEL ds
 | .emp=>false
 | _=>true
noncomputable def noEL:List Dt->Bool
 | []=>true
 | d::ds=>noE d&&noEL ds
end
theorem eT:∀ {ds:List Dt} (n:Nat),noEL ds=true->noEL (ds.take n)=true
 | [],n,_=>by rw[List.take_nil];rfl
 | d::ds,0,_=>rfl
 | d::ds,n+1,h=>by have h:(noE d&&noEL ds)=true:=h;rw[Ξ] at h;show (noE d&&noEL (ds.take n))=true;rw[h.1,eT n h.2];rfl
theorem eY:∀(ds:List Dt) (n:Nat),depL (ds.take n)<=depL ds
 | [],n=>by rw[List.take_nil];exact ο _
 | d::ds,0=>AY _
 | d::ds,n+1=>by have:=eY ds n;show max (dep d) (depL (ds.take n))<=max (dep d) (depL ds);lia
theorem RepL.length {K:γ}{H:Hp}:∀ {ds:List Dt} {xs:List V},RepL K H ds xs->ds.length=xs.length
 | [],xs,h=>by cases (show xs=[] from h);rfl
 | d::ds,xs,h=>by obtain⟨x,r,rfl,_,h2⟩:=(show ∃x r,xs=x::r/\Rep K H d x/\RepL K H ds r from h);rw[B1,B1,h2.length]
mutual
theorem gY:∀d:Dt,eqD d d=true
 | .non=>rfl
 | .bl a=>by show (a==a)=true;simp
 | .int a=>by show (a==a)=true;simp
 | .str a=>by show (a==a)=true;simp
 | .tup ds=>eqDL_self ds
 | .lst ds=>eqDL_self ds
 | .emp=>rfl
theorem eqDL_self:∀ds:List Dt,eqDL ds ds=true
 | []=>rfl
 | d::ds=>by show (eqD d d&&eqDL ds ds)=true;rw[gY d,eqDL_self ds];rfl
end
theorem b9:∀ds es:List Dt,eqDL ds es=((C0 (min ds.length es.length)).all (λj=>eqD (ds.getD j .non) (es.getD j .non))&&ds.length==es.length)
 | [],[]=>rfl
 | [],e::es=>rfl
 | d::ds,[]=>rfl
 | d::ds,e::es=>by
  show (eqD d e&&eqDL ds es)=_;rw[b9 ds es,B1,B1,Nat.succ_min_succ,List.range_succ_eq_map,BR,List.all_map,Bool.and_assoc]
  congr 1
  congr 1
  by_cases h:ds.length=es.length
  ·simp[h]
  ·simp[h]
section
variable {X:Cx}{aa:List (ε×Obj)}{σ:St}{H:Hp}{s:η}
mutual
theorem Rep.inj (I:Inv X aa σ H s):∀(d e:Dt) {v:V},noE d=true->noE e=true->Rep X.K H d v->Rep X.K H e v->d=e
 | .non,e,v,nd,ne,h,g=>by
  cases (show v=.non from h);cases e with
  | non=>rfl
  | tup ds=>obtain⟨_,_,z,_⟩:=(show ∃a xs,V.non=.ref a/\_ from g);cases z
  | lst ds=>obtain⟨_,_,z,_⟩:=(show ∃a xs,V.non=.ref a/\_ from g);cases z
  | emp=>cases ne
  | _=>cases g
 | .bl b,e,v,nd,ne,h,g=>by
  cases (show v=.bl b from h);cases e with
  | bl c=>cases g;rfl
  | tup ds=>obtain⟨_,_,z,_⟩:=(show ∃a xs,V.bl b=.ref a/\_ from g);cases z
  | lst ds=>obtain⟨_,_,z,_⟩:=(show ∃a xs,V.bl b=.ref a/\_ from g);cases z
  | emp=>cases ne
  | _=>cases g
 | .int b,e,v,nd,ne,h,g=>by
  cases (show v=.int b from h);cases e with
  | int c=>cases g;rfl
  | tup ds=>obtain⟨_,_,z,_⟩:=(show ∃a xs,V.int b=.ref a/\_ from g);cases z
  | lst ds=>obtain⟨_,_,z,_⟩:=(show ∃a xs,V.int b=.ref a/\_ from g);cases z
  | emp=>cases ne
  | _=>cases g
 | .str b,e,v,nd,ne,h,g=>by
  cases (show v=.str b from h);cases e with
  | str c=>cases g;rfl
  | tup ds=>obtain⟨_,_,z,_⟩:=(show ∃a xs,V.str b=.ref a/\_ from g);cases z
  | lst ds=>obtain⟨_,_,z,_⟩:=(show ∃a xs,V.str b=.ref a/\_ from g);cases z
  | emp=>cases ne
  | _=>cases g
 | .tup ds,e,v,nd,ne,h,g=>by
  obtain⟨a,xs,rfl,h1,h2⟩:=(show ∃a xs,v=.ref a/\SqT X.K H a xs/\RepL X.K H ds xs from h);cases e with
  | tup es =>
   obtain⟨a',ys,z,g1,g2⟩:=(show ∃a' xs,V.ref a=.ref a'/\SqT X.K H a' xs/\RepL X.K H es xs from g);cases z;cases I.tuple_inj h1 g1;rw[RepL.inj I ds es nd ne h2 g2]
  | lst es =>
   obtain⟨a',ys,z,g1,g2⟩:=(show ∃a' xs,V.ref a=.ref a'/\SqL X.K H a' xs/\RepL X.K H es xs from g);cases z;obtain⟨_,_,p1,_⟩:=I.tuple h1;obtain⟨_,_,p2,_⟩:=I.list g1;exact absurd rfl (SeqAt.ne_of_list_tuple p2.isList p1)
  | emp=>cases ne
  | _=>cases g
 | .lst ds,e,v,nd,ne,h,g=>by
  obtain⟨a,xs,rfl,h1,h2⟩:=(show ∃a xs,v=.ref a/\SqL X.K H a xs/\RepL X.K H ds xs from h);cases e with
  | lst es =>
   obtain⟨a',ys,z,g1,g2⟩:=(show ∃a' xs,V.ref a=.ref a'/\SqL X.K H a' xs/\RepL X.K H es xs from g);cases z;cases I.list_inj h1 g1;rw[RepL.inj I ds es nd ne h2 g2]
  | tup es =>
   obtain⟨a',ys,z,g1,g2⟩:=(show ∃a' xs,V.ref a=.ref a'/\SqT X.K H a' xs/\RepL X.K H es xs from g);cases z;obtain⟨_,_,p1,_⟩:=I.tuple g1;obtain⟨_,_,p2,_⟩:=I.list h1;exact absurd rfl (SeqAt.ne_of_list_tuple p2.isList p1)
  | emp=>cases ne
  | _=>cases g
 | .emp,e,v,nd,ne,h,g=>by cases nd
theorem RepL.inj (I:Inv X aa σ H s):∀(ds es:List Dt) {xs:List V},noEL ds=true->noEL es=true->RepL X.K H ds xs->RepL X.K H es xs->ds=es
 | [],es,xs,nd,ne,h,g=>by
  cases (show xs=[] from h);cases es with
  | nil=>rfl
  | cons e es=>obtain⟨_,_,z,_⟩:=(show ∃x r,[]=x::r/\_ from g);cases z
 | d::ds,es,xs,nd,ne,h,g=>by
  have nd:(noE d&&noEL ds)=true:=nd;rw[Ξ] at nd;obtain⟨x,r,rfl,h1,h2⟩:=(show ∃x r,xs=x::r/\Rep X.K H d x/\RepL X.K H ds r from h);cases es with
  | nil=>cases (show x::r=[] from g)
  | cons e es =>
   obtain⟨_,_,z,g1,g2⟩:=(show ∃y q,x::r=y::q/\Rep X.K H e y/\RepL X.K H es q from g);cases z;have ne:(noE e&&noEL es)=true:=ne;rw[Ξ] at ne;rw[Rep.inj I d e nd.1 ne.1 h1 g1,RepL.inj I ds es nd.2 ne.2 h2 g2]
end
theorem dB (A:Around):A.in1.units=A.units+1:=rfl
mutual
theorem yH (I:Inv X aa σ H s):∀(d e:Dt) {v u:V} {vv uu:δ} {A:Around},noE d=true->noE e=true->Rep X.K H d v->Rep X.K H e u->RelV v vv->RelV u uu->A.units+dep d<BY->Dw A s vv uu (eqD d e)
 | .tup ds,e,v,u,vv,uu,A,nd,ne,h,g,rv,ru,hu=>by
  obtain⟨a,xs,rfl,h1,h2⟩:=(show ∃a xs,v=.ref a/\SqT X.K H a xs/\RepL X.K H ds xs from h);cases rv;have hu0:A.units<BY:=AS (BN _ _) hu;obtain⟨j1,_,p0,_⟩:=I.tuple h1;cases e with
  | emp=>cases ne
  | non=>cases (show u=.non from g);cases ru;exact .tuple_none p0 hu0
  | bl b=>cases (show u=.bl b from g);cases ru;exact .tuple_bool _ p0 hu0
  | int b=>cases (show u=.int b from g);obtain⟨t,rfl⟩:=ru;exact .tuple_int _ _ p0 hu0
  | str b=>cases (show u=.str b from g);obtain⟨t,rfl⟩:=ru;exact .tuple_str _ _ p0 hu0
  | tup es =>
    obtain⟨b,ys,rfl,g1,g2⟩:=(show ∃a xs,u=.ref a/\SqT X.K H a xs/\RepL X.K H es xs from g);cases ru;by_cases e:a=b
    ·subst e;cases I.tuple_inj h1 g1;rw[RepL.inj I ds es nd ne h2 g2,show eqD (.tup es) (.tup es)=true from gY _];exact .same _
    ·obtain⟨i1,r1,p1,_⟩:=I.tuple h1;obtain⟨i2,r2,p2,_⟩:=I.tuple g1;have hu':A.units+(depL ds+1)<BY:=hu;have hu2:=eY ds es.length;have l1:=h2.length.trans r1.length;have l2:=g2.length.trans r2.length;refine .of_refs e ?_;rw[show eqD (.tup ds) (.tup es)=eqDL ds es from rfl,b9];have:=SeqAt.RcAt.tuples (A:=A) p1 p2 'B' (e:=λj=>eqD (ds.getD j .non) (es.getD j .non)) λj a1 a2=>by
      have a1':j<i1.length:=by simpa using a1
      have a2':j<i2.length:=by simpa using a2
      have:=eqAt_DL I ds es (eT _ nd) ne h2 g2 r1 r2 (A:=A.in1) (by rw[dB];lia) j a1' a2'
      simpa using this
     rw[ν,ν,<- l1,<- l2] at this;exact this
  | lst es =>
    obtain⟨b,ys,rfl,g1,g2⟩:=(show ∃a xs,u=.ref a/\SqL X.K H a xs/\RepL X.K H es xs from g);cases ru;obtain⟨i2,r2,p2,_⟩:=I.list g1;exact .tuple_list p0 p2.isList hu0
 | .lst ds,e,v,u,vv,uu,A,nd,ne,h,g,rv,ru,hu=>by
  obtain⟨a,xs,rfl,h1,h2⟩:=(show ∃a xs,v=.ref a/\SqL X.K H a xs/\RepL X.K H ds xs from h);cases rv;have hu0:A.units<BY:=AS (BN _ _) hu;obtain⟨j1,_,p0,_⟩:=I.list h1;cases e with
  | emp=>cases ne
  | non=>cases (show u=.non from g);cases ru;exact .list_none p0.isList hu0
  | bl b=>cases (show u=.bl b from g);cases ru;exact .list_bool _ p0.isList hu0
  | int b=>cases (show u=.int b from g);obtain⟨t,rfl⟩:=ru;exact .list_int _ _ p0.isList hu0
  | str b=>cases (show u=.str b from g);obtain⟨t,rfl⟩:=ru;exact .list_str _ _ p0.isList hu0
  | lst es =>
    obtain⟨b,ys,rfl,g1,g2⟩:=(show ∃a xs,u=.ref a/\SqL X.K H a xs/\RepL X.K H es xs from g);cases ru;by_cases e:a=b
    ·subst e;cases I.list_inj h1 g1;rw[RepL.inj I ds es nd ne h2 g2,show eqD (.lst es) (.lst es)=true from gY _];exact .same _
    ·obtain⟨i1,r1,p1,_⟩:=I.list h1;obtain⟨i2,r2,p2,_⟩:=I.list g1;have hu':A.units+(depL ds+1)<BY:=hu;have hu2:=eY ds es.length;have l1:=h2.length.trans r1.length;have l2:=g2.length.trans r2.length;refine .of_refs e ?_;rw[show eqD (.lst ds) (.lst es)=eqDL ds es from rfl,b9];by_cases hz:ds.length=es.length
     ·have:=SeqAt.RcAt.lists (A:=A) p1.isList p2.isList (by simp only[ν];lia) 'B' (e:=λj=>eqD (ds.getD j .non) (es.getD j .non)) λj a1 a2=>by
       have a1':j<i1.length:=by simpa using a1
       have a2':j<i2.length:=by simpa using a2
       have:=eqAt_DL I ds es (eT _ nd) ne h2 g2 r1 r2 (A:=A.in1) (by rw[dB];lia) j a1' a2'
       simpa using this
      rw[ν,<- l1] at this;rw[<- hz,Nat.min_self,beq_self_eq_true,CN];exact this
     ·have:=SeqAt.RcAt.lists_lengths (A:=A) p1.isList p2.isList (by simp only[ν,bne_iff_ne];lia) 'B';rw[show (ds.length==es.length)=false by simpa using hz,C7];exact this
  | tup es =>
    obtain⟨b,ys,rfl,g1,g2⟩:=(show ∃a xs,u=.ref a/\SqT X.K H a xs/\RepL X.K H es xs from g);cases ru;obtain⟨i2,r2,p2,_⟩:=I.tuple g1;exact .list_tuple p0.isList p2 hu0
 | .non,e,v,u,vv,uu,A,nd,ne,h,g,rv,ru,hu=>by
  cases (show v=.non from h);cases rv;have hu0:A.units<BY:=AS (BN _ _) hu;cases e with
  | emp=>cases ne
  | non=>cases (show u=.non from g);cases ru;exact .same _
  | bl b=>cases (show u=.bl b from g);cases ru;exact .none_bool _
  | int b=>cases (show u=.int b from g);obtain⟨t,rfl⟩:=ru;exact .none_int _ _
  | str b=>cases (show u=.str b from g);obtain⟨t,rfl⟩:=ru;exact .none_str _ _
  | tup es =>
    obtain⟨b,ys,rfl,g1,g2⟩:=(show ∃a xs,u=.ref a/\SqT X.K H a xs/\RepL X.K H es xs from g);cases ru;obtain⟨i2,r2,p2,_⟩:=I.tuple g1;exact .none_tuple p2 hu0
  | lst es =>
    obtain⟨b,ys,rfl,g1,g2⟩:=(show ∃a xs,u=.ref a/\SqL X.K H a xs/\RepL X.K H es xs from g);cases ru;obtain⟨i2,r2,p2,_⟩:=I.list g1;exact .none_list p2.isList hu0
 | .bl a,e,v,u,vv,uu,A,nd,ne,h,g,rv,ru,hu=>by
  cases (show v=.bl a from h);cases rv;have hu0:A.units<BY:=AS (BN _ _) hu;cases e with
  | emp=>cases ne
  | non=>cases (show u=.non from g);cases ru;exact .bool_none _
  | bl b=>cases (show u=.bl b from g);cases ru;exact .bool_bool _ _
  | int b=>cases (show u=.int b from g);obtain⟨t,rfl⟩:=ru;exact .bool_int _ _ _
  | str b=>cases (show u=.str b from g);obtain⟨t,rfl⟩:=ru;exact .bool_str _ _ _
  | tup es =>
    obtain⟨b,ys,rfl,g1,g2⟩:=(show ∃a xs,u=.ref a/\SqT X.K H a xs/\RepL X.K H es xs from g);cases ru;obtain⟨i2,r2,p2,_⟩:=I.tuple g1;exact .bool_tuple _ p2 hu0
  | lst es =>
    obtain⟨b,ys,rfl,g1,g2⟩:=(show ∃a xs,u=.ref a/\SqL X.K H a xs/\RepL X.K H es xs from g);cases ru;obtain⟨i2,r2,p2,_⟩:=I.list g1;exact .bool_list _ p2.isList hu0
 | .int a,e,v,u,vv,uu,A,nd,ne,h,g,rv,ru,hu=>by
  cases (show v=.int a from h);obtain⟨t',rfl⟩:=rv;have hu0:A.units<BY:=AS (BN _ _) hu;cases e with
  | emp=>cases ne
  | non=>cases (show u=.non from g);cases ru;exact .int_none _ _
  | bl b=>cases (show u=.bl b from g);cases ru;exact .int_bool _ _ _
  | int b=>cases (show u=.int b from g);obtain⟨t,rfl⟩:=ru;exact .int_int _ _ _ _
  | str b=>cases (show u=.str b from g);obtain⟨t,rfl⟩:=ru;exact .int_str _ _ _ _
  | tup es =>
    obtain⟨b,ys,rfl,g1,g2⟩:=(show ∃a xs,u=.ref a/\SqT X.K H a xs/\RepL X.K H es xs from g);cases ru;obtain⟨i2,r2,p2,_⟩:=I.tuple g1;exact .int_tuple _ _ p2 hu0
  | lst es =>
    obtain⟨b,ys,rfl,g1,g2⟩:=(show ∃a xs,u=.ref a/\SqL X.K H a xs/\RepL X.K H es xs from g);cases ru;obtain⟨i2,r2,p2,_⟩:=I.list g1;exact .int_list _ _ p2.isList hu0
 | .str a,e,v,u,vv,uu,A,nd,ne,h,g,rv,ru,hu=>by
  cases (show v=.str a from h);obtain⟨t',rfl⟩:=rv;have hu0:A.units<BY:=AS (BN _ _) hu;cases e with
  | emp=>cases ne
  | non=>cases (show u=.non from g);cases ru;exact .str_none _ _
  | bl b=>cases (show u=.bl b from g);cases ru;exact .str_bool _ _ _
  | int b=>cases (show u=.int b from g);obtain⟨t,rfl⟩:=ru;exact .str_int _ _ _ _
  | str b=>cases (show u=.str b from g);obtain⟨t,rfl⟩:=ru;exact .str_str _ _ _ _
  | tup es =>
    obtain⟨b,ys,rfl,g1,g2⟩:=(show ∃a xs,u=.ref a/\SqT X.K H a xs/\RepL X.K H es xs from g);cases ru;obtain⟨i2,r2,p2,_⟩:=I.tuple g1;exact .str_tuple _ _ p2 hu0
  | lst es =>
    obtain⟨b,ys,rfl,g1,g2⟩:=(show ∃a xs,u=.ref a/\SqL X.K H a xs/\RepL X.K H es xs from g);cases ru;obtain⟨i2,r2,p2,_⟩:=I.list g1;exact .str_list _ _ p2.isList hu0
 | .emp,e,v,u,vv,uu,A,nd,ne,h,g,rv,ru,hu=>by cases nd
theorem eqAt_DL (I:Inv X aa σ H s):∀(ds es:List Dt) {xs ys:List V} {us ws:List δ} {A:Around},noEL (ds.take es.length)=true->noEL es=true->RepL X.K H ds xs->RepL X.K H es ys->Vals xs us->Vals ys ws->A.units+depL (ds.take es.length)<BY ->
  ∀(j:Nat) (h1:j<us.length) (h2:j<ws.length),Dw A s us[j] ws[j] (eqD (ds.getD j .non) (es.getD j .non))
 | [],es,xs,ys,us,ws,A,nd,ne,h,g,rv,ru,hu=>λj h1 h2=>by cases (show xs=[] from h);cases rv;exact absurd h1 (Nat.not_lt_zero _)
 | d::ds,es,xs,ys,us,ws,A,nd,ne,h,g,rv,ru,hu=>λj h1 h2=>by
  obtain⟨x,r,rfl,hd,hr⟩:=(show ∃x r,xs=x::r/\Rep X.K H d x/\RepL X.K H ds r from h);cases es with
  | nil =>
   cases (show ys=[] from g);cases ru;exact absurd h2 (Nat.not_lt_zero _)
  | cons e es =>
   obtain⟨y,q,rfl,gd,gr⟩:=(show ∃x r,ys=x::r/\Rep X.K H e x/\RepL X.K H es r from g);cases rv with
   | cons rv1 rv2 =>
    cases ru with
    | cons ru1 ru2 =>
     have hu':A.units+max (dep d) (depL (ds.take es.length))<BY:=hu;have nd:(noE d&&noEL (ds.take es.length))=true:=nd;rw[Ξ] at nd;have ne:(noE e&&noEL es)=true:=ne;rw[Ξ] at ne;cases j with
     | zero=>exact yH I d e nd.1 ne.1 hd gd rv1 ru1 'B'
     | succ j=>exact eqAt_DL I ds es nd.2 ne.2 hr gr rv2 ru2 'B' j (by simpa using h1) (by simpa using h2)
end
def zI (K:γ):R2:=λx y H Q=>∃ds es,((Rep K H (.tup ds) x/\Rep K H (.tup es) y)\/(Rep K H (.lst ds) x/\Rep K H (.lst es) y))/\depL (ds.take es.length)<=100/\(noEL (ds.take es.length)=true/\noEL es=true)/\Q (.bl (eqDL ds es)) H
theorem sT (hu:X.A.units+150<BY):OpR X (Aq .Eq) (zI X.K):=by
 intro aa s σ H x y v u Q I rv ru h;obtain⟨ds,es,h,hd,⟨nd,ne⟩,q⟩:=h;rcases h with ⟨h,g⟩ | ⟨h,g⟩
 ·obtain⟨a,xs,rfl,h1,h2⟩:=(show ∃a xs,x=.ref a/\SqT X.K H a xs/\RepL X.K H ds xs from h);obtain⟨b,ys,rfl,g1,g2⟩:=(show ∃a xs,y=.ref a/\SqT X.K H a xs/\RepL X.K H es xs from g);cases rv;cases ru;obtain⟨i1,r1,p1,_⟩:=I.tuple h1;obtain⟨i2,r2,p2,_⟩:=I.tuple g1;have l1:=h2.length.trans r1.length;have l2:=g2.length.trans r2.length;refine SeqAt.eq_tupleAt p1 p2 'B' (e:=λj=>eqD (ds.getD j .non) (es.getD j .non)) (λj a1 a2=>?_) ⟨.bl _,H,I,rfl,?_⟩
  ·have a1':j<i1.length:=by simpa using a1
   have a2':j<i2.length:=by simpa using a2
   have:=eqAt_DL I ds es nd ne h2 g2 r1 r2 (A:=X.A.in1) (by rw[dB];lia) j a1' a2'
   simpa using this
  ·rw[ν,ν,<- l1,<- l2,<- b9];exact q
 ·obtain⟨a,xs,rfl,h1,h2⟩:=(show ∃a xs,x=.ref a/\SqL X.K H a xs/\RepL X.K H ds xs from h);obtain⟨b,ys,rfl,g1,g2⟩:=(show ∃a xs,y=.ref a/\SqL X.K H a xs/\RepL X.K H es xs from g);cases rv;cases ru;obtain⟨i1,r1,p1,_⟩:=I.list h1;obtain⟨i2,r2,p2,_⟩:=I.list g1;have l1:=h2.length.trans r1.length;have l2:=g2.length.trans r2.length;rw[b9] at q;by_cases hz:ds.length=es.length
  ·refine SeqAt.eq_listAt p1.isList p2.isList (by simp only[ν];lia) 'B' (e:=λj=>eqD (ds.getD j .non) (es.getD j .non)) (λj a1 a2=>?_) ⟨.bl _,H,I,rfl,?_⟩
   ·have a1':j<i1.length:=by simpa using a1
    have a2':j<i2.length:=by simpa using a2
    have:=eqAt_DL I ds es nd ne h2 g2 r1 r2 (A:=X.A.in1) (by rw[dB];lia) j a1' a2'
    simpa using this
   ·rw[<- hz,Nat.min_self,beq_self_eq_true,CN] at q;rw[ν,<- l1];exact q
  ·refine SeqAt.eq_list_lengthsAt p1.isList p2.isList (by simp only[ν,bne_iff_ne];lia) 'B' ⟨.bl _,H,I,rfl,?_⟩;rw[show (ds.length==es.length)=false by simpa using hz,C7] at q;exact q
theorem eZ {A:Around}{k:Nat}(hr:Room k A):A.units+150<BY:=by have:=hr.un;lia
end
mutual
noncomputable def noL:Dt->Bool
 | .tup ds=>noLL ds
 | .lst _=>false
 | .emp=>false
 | _=>true
noncomputable def noLL:List Dt->Bool
 | []=>true
 | d::ds=>noL d&&noLL ds
end
def TK (H H':Hp):Prop:=∀a xs,Rd H a (.tup xs)->Rd H' a (.tup xs)
theorem TK.sq {K:γ}{H H':Hp}(t:TK H H'){a:ε}{xs:List V}(h:SqT K H a xs):SqT K H' a xs:=by
 rcases h with h | h
 ·exact .inl (t a xs h)
 ·exact .inr h
theorem Same.tk {H H':Hp}(s:Same H H'):TK H H':=λa xs h=>by
 rcases h with h | ⟨o,h⟩
 ·exact .inl (s a _ h)
 ·exact .inr ⟨o,s a _ h⟩
mutual
theorem Rep.mono {K:γ}{H H':Hp}(t:TK H H'):∀(d:Dt) {v:V},noL d=true->Rep K H d v->Rep K H' d v
 | .non,v,_,h=>h
 | .bl b,v,_,h=>h
 | .int i,v,_,h=>h
 | .str x,v,_,h=>h
 | .lst ds,v,n,h=>by cases n
 | .emp,v,n,h=>by cases n
 | .tup ds,v,n,h=>by obtain⟨a,xs,e,h1,h2⟩:=(show ∃a xs,v=.ref a/\SqT K H a xs/\RepL K H ds xs from h);exact⟨a,xs,e,t.sq h1,RepL.mono t ds n h2⟩
theorem RepL.mono {K:γ}{H H':Hp}(t:TK H H'):∀(ds:List Dt) {xs:List V},noLL ds=true->RepL K H ds xs->RepL K H' ds xs
 | [],xs,_,h=>h
 | d::ds,xs,n,h=>by obtain⟨x,r,e,h1,h2⟩:=(show ∃x r,xs=x::r/\Rep K H d x/\RepL K H ds r from h);have n':(noL d&&noLL ds)=true:=n;rw[Ξ] at n';exact⟨x,r,e,Rep.mono t d n'.1 h1,RepL.mono t ds n'.2 h2⟩
end
theorem RepL.append {K:γ}{H:Hp}:∀ {ds es:List Dt} {xs ys:List V},RepL K H ds xs->RepL K H es ys->RepL K H (ds++es) (xs++ys)
 | [],es,xs,ys,h,g=>by cases (show xs=[] from h);exact g
 | d::ds,es,xs,ys,h,g=>by obtain⟨x,r,rfl,h1,h2⟩:=(show ∃x r,xs=x::r/\Rep K H d x/\RepL K H ds r from h);exact⟨x,r++ys,rfl,h1,h2.append g⟩
section
variable {X:Cx}{pos:Pos}
def oJ:TE:=λ_ H Q=>∀p,H p=none->Q (.ref p) (upd H p (.dK []))
noncomputable def dI:δ->Bool
 | .bool b=>b
 | _=>false
theorem jT:∀ {bs:List Bool} {us:List δ},Vals (bs.map V.bl) us->us=bs.map BF
 | [],_,r=>by cases r;rfl
 | b::bs,_,r=>by
  cases r with
  | cons p q=>rw[jT q];cases p;rfl
noncomputable def fZ:V->List V->Hp->VK->Prop:=λx vs H Q=>∃(l:ε) (bs:List Bool),x=.ref l/\vs=[.bl true]/\H l=some (.lst (bs.map V.bl))/\Q (.int (bs.countP id:Nat)) H
theorem sZ:MtM X "list.count" fZ:=by
 intro aa s σ H x vs v us Q I rx rv h;obtain⟨l,bs,rfl,rfl,hH,q⟩:=h;cases rx;obtain⟨u,rfl,ru⟩:=rv.one;cases ru;obtain⟨z,its,n,r,hl,e⟩:=I.lstM hH;have ei:=jT r;subst ei;refine Cq F.slot_list_count ⟨_,e,rfl⟩ F.entry_list_count (F.args_list_count_2 _ _) (SeqAt.list_countAt l _ n none _ (.bool true) dI) ⟨e,λy hy=>?_,?_⟩
 ·have hy:y∈(bs.map BF):=by simpa using hy
  obtain⟨b,_,rfl⟩:=Aa.mp hy;have:=Cp (A:=X.A.in1) (s:=s) b true;rw[show (b==true)=dI (.bool b) by cases b <;> rfl] at this;exact this
 ·have ec:List.countP dI (bs.map BF).toArray.toList=bs.countP id:=by
   rw[List.countP_map]
   congr 1
  rw[ec];exact⟨.int _,H,I.tok _,⟨_,rfl⟩,q⟩
noncomputable def fY:V->List V->Hp->VK->Prop:=λx vs H Q=>∃(l:ε) (bs:List Bool) (j:Nat),x=.ref l/\vs=[.bl true]/\H l=some (.lst (bs.map V.bl))/\bs[j]? = some true/\(∀m,m<j->bs[m]? = some false)/\j<1000/\Q (.int (j:Nat)) H
theorem sY:MtM X "list.index" fY:=by
 intro aa s σ H x vs v us Q I rx rv h;obtain⟨l,bs,j,rfl,rfl,hH,hj,hm,hz,q⟩:=h;cases rx;obtain⟨u,rfl,ru⟩:=rv.one;cases ru;obtain⟨z,its,n,r,hl,e⟩:=I.lstM hH;have ei:=jT r;subst ei;have jl:j<bs.length:=(A0.mp hj).1;have gt:∀(m:Nat) (h:m<(bs.map BF).toArray.size) b,bs[m]? = some b->dI (bs.map BF).toArray[m]=b:=λm h b hb=>by obtain⟨h1,h2⟩:=A0.mp hb;simp[dI,h2]
 refine Cq F.slot_list_index ⟨_,e,rfl⟩ F.entry_list_index (F.args_list_index_2 _ _) (SeqAt.list_indexAt l _ n none _ (.bool true) dI j (by simpa using jl) 'B' (gt j _ _ hj) (λm h1 h2=>gt m h1 _ (hm m h2))) ⟨e,λy hy=>?_,?_⟩
 ·have hy:y∈(bs.map BF):=by simpa using hy
  obtain⟨b,_,rfl⟩:=Aa.mp hy;have:=Cp (A:=X.A.in1) (s:=s) b true;rw[show (b==true)=dI (.bool b) by cases b <;> rfl] at this;exact this
 ·exact⟨.int _,H,I.tok _,⟨_,rfl⟩,q⟩
end
section
variable {X:Cx}{k i:Nat}{x:Str}{p pos pos':Pos}
def rE (X:Cx)(k i:Nat):TX:=λσ H R=>∃f fd sp,σ[i]? = some (some (.ref f))/\H f=some (iM f fd)/\FnOk X.prog X.w X.K X.mg X.ad (CXE X.prog X.w) k f fd [] sp/\Binds X.K fd [] []/\sp [] H (λ_ _=>False) R
theorem xY {E:δ->η->Prop}{σ:St}{H:Hp}{v:V}(I:Inv X aa σ H s)(hN:X.N[i]? = some x)(hv:Vis X.env.scope x)(e:σ[i]? = some (some v))(h:∀u,RelV v u->Q u s)(hd:(x==("__debug__" : Str))=false)(hcd:(x==("__classdict__" : Str))=false):τ (χ X.prog X.w) X.A (A5 (.Name x p) X.env) Q E s:=by
 obtain⟨m,hn,hl⟩:=I.loc;obtain⟨u,r,l⟩:=hl i x v hN e hv;have fin:=h u r;rcases l with ⟨hk,hm⟩ | ⟨hk,c,hc,hcell⟩
 ·exact Ce (Cf I.ok.kind hk hn hm fin) hd
 ·rcases hk with hk | hk
  ·exact Ce (D2 I.ok.kind hk hc hcell fin) hd
  ·exact Ce (wpAny_loadName_free I.ok.kind hk hc hcell fin hcd) hd
end
def TabOk (H:Hp)(P:ε)(q:Str):Prop:=∃ps:Array δ,H P=some (.tbl ps)/\Bz ps.toList/\∀pos cv,Cc pos ps.toList=some cv->∃c,cv=.ref c/\H c=some (mZ c q)
theorem n9 {a b:Nat}{c cv:δ}(l:List δ)(h:Bz l)(e:Cc pos (l++[B6 a,B6 b,c])=some cv):Cc pos l=some cv\/cv=c:=by
 fun_induction Bz l with
 | case1 =>
  simp only[Bo,Cc,B6] at e
  split at e
  ·exact .inr (AA e).symm
  ·cases e
 | case2 i t j u d rest ih =>
  simp only[BO,Cc] at e ⊢
  split at e
  ·rename_i z
   left;rw[if_pos z];exact e
  ·rename_i z;rw[if_neg z];exact ih h e
 | case3=>exact h.elim
theorem jV {a b:Nat}{c:δ}(l:List δ)(h:Bz l):Bz (l++[B6 a,B6 b,c]):=by
 fun_induction Bz l with
 | case1=>simp[Bz,B6]
 | case2 i t j u d rest ih=>simp only[BO,Bz];exact ih h
 | case3=>exact h.elim
def SameX (P:ε)(H H':Hp):Prop:=∀b o,b≠P->H b=some o->H' b=some o
structure LamCx (X:Cx)(c P:ε):Prop where
 code:X.env.code=.ref c
 hd:C8 X.ad c P
 bm:X.ad.BuiltinsAt X.mg P
section
variable {X:Cx}{c P:ε}{params:Bv}{body:Δ}{scope:Ac}{pos:Pos}{clos:List (Str×ε)}
def wX (mg:Str->Option δ)(P:ε)(q:Str)(params:Bv)(body:Δ)(scope:Ac)(clos:List (Str×ε)):TE:=λ_ H Q=>TabOk H P q /\
 ∀f c' ctv H',H f=none->SameX P H H'->TabOk H' P q->H' f=some (iM f (Au "<lambda>" q params body scope clos ((mg "__name__").getD .none) (.ref c') ctv))->H' c'=some (mZ c' q)->Q (.ref f) H'
theorem xS (L:LamCx X c P)(hdef:defaultsOf params X.env=([],[]))(hcl:Cu scope X.env=pure clos):PE X (.Lambda params body scope pos) (wX X.mg P (X.env.qual ++ "<lambda>") params body scope clos):=by
 intro aa s σ H Q I h;obtain⟨⟨ps,hP,ht,hcs⟩,h⟩:=h;have hPo:s.heap.get? P=some (C9 ps):=I.hok P _ hP;have hg:s.heap.Ns A4 X.mg:=I.mod.glob.keeps I.bk;have hgP:A4≠P:=λq=>by obtain⟨o,es,ep,e,hd,_⟩:=hg;rw[q,hPo] at e;cases e;cases hd
 have hb:s.heap.BuiltinsAt X.mg P:=by obtain⟨bm,o,b1,b2,b3,b4,b5,b6⟩:=L.bm;exact⟨bm,o,b1,b2,b3,b4,I.bk _ _ b5,b6⟩
 have fresh:∀b,s.heap.objs.size<=b->H b=none:=λb hb=>I.hok.fresh hb;refine PySem.W.kla_eval hdef ?_;cases hA:Cc pos ps.toList with
 | some cv =>
  obtain⟨c',rfl,hc'⟩:=hcs pos cv hA;refine PySem.W.kla_makeFunctionHit hcl I.ok.glob hg L.code (L.hd.keeps I.bk) hPo ht hA hb λctv h' tk hk hsz=>?_;have hfn:H h'.objs.size=none:=fresh _ hsz;refine⟨.ref h'.objs.size,upd H h'.objs.size (iM h'.objs.size (Au "<lambda>" (X.env.qual ++ "<lambda>") params body scope clos ((X.mg "__name__").getD .none) (.ref c') ctv)),I.laid (λb u q=>μ _ (hk b u q)) hsz (pD (A9 _ rfl)),rfl,?_⟩;have ne:∀b o,H b=some o->b≠h'.objs.size:=λb o q z=>by rw[z,hfn] at q;cases q
  refine h _ c' ctv _ hfn (λb o _ q=>by rw[aJ (ne b o q)];exact q) ⟨ps,by rw[aJ (ne _ _ hP)];exact hP,ht,λpos cv e=>?_⟩ aD (by rw[aJ (ne _ _ hc')];exact hc');obtain⟨c2,e1,e2⟩:=hcs pos cv e;exact⟨c2,e1,by rw[aJ (ne _ _ e2)];exact e2⟩
 | none =>
  refine PySem.W.kla_makeFunction hcl I.ok.glob hg L.code (L.hd.keeps I.bk) hPo ht hA hgP hb λc' ctv h' tk hx hge hlt hrec htb=>?_;have hszP:P<s.heap.objs.size:=ξ hPo;have hcn:H c'=none:=fresh _ hge;have hfn:H h'.objs.size=none:=fresh _ (AX (AS hge hlt));have hcf:c'≠h'.objs.size:=A3 hlt;have hPc:P≠c':=A3 (Ψ hszP hge);have hPf:P≠h'.objs.size:=A3 (Ψ hszP (AX (AS hge hlt)));generalize hfd:Au "<lambda>" (X.env.qual ++ "<lambda>") params body scope clos ((X.mg "__name__").getD .none) (.ref c') ctv=fd;obtain⟨H',hH'⟩:∃H',H'=upd (upd (upd H P (.tbl (ps++#[B6 pos.line,B6 pos.col,.ref c']))) c' (mZ c' (X.env.qual ++ "<lambda>"))) h'.objs.size (iM h'.objs.size fd):=⟨_,rfl⟩;have gF:H' h'.objs.size=some (iM h'.objs.size fd):=by rw[hH'];exact aD
  have gC:H' c'=some (mZ c' (X.env.qual ++ "<lambda>")):=by rw[hH',aJ hcf];exact aD
  have gP:H' P=some (.tbl (ps++#[B6 pos.line,B6 pos.col,.ref c'])):=by rw[hH',aJ hPf,aJ hPc];exact aD
  have gO:∀b,b≠h'.objs.size->b≠c'->b≠P->H' b=H b:=λb x y z=>by rw[hH',aJ x,aJ y,aJ z]
  have gS:∀b o,b≠P->H b=some o->H' b=some o:=λb o z q=>by rw[gO b (λw=>by rw[w,hfn] at q;cases q) (λw=>by rw[w,hcn] at q;cases q) z];exact q
  have neP:∀b u,H b=some u->(∀qs,u ≠ .tbl qs)->b≠P:=λb u q d w=>by rw[w,hP] at q;cases q;exact d _ rfl
  have keep:∀b o,b≠P->s.heap.get? b=some o->(h'.push (Dn "<lambda>" (X.env.qual ++ "<lambda>") params body scope clos ((X.mg "__name__").getD .none) c' ctv)).get? b=some o:=λb o hb q=>μ _ (hx b o hb q);have nP:∀b,H b=none->b≠P:=λb n w=>by rw[w,hP] at n;cases n
  have U:Un X.fs [] H H' s.heap (h'.push (Dn "<lambda>" (X.env.qual ++ "<lambda>") params body scope clos ((X.mg "__name__").getD .none) c' ctv)):=by
   refine⟨λb o q n _ _=>keep b o (nP b n) q,λb o q n _ _=>⟨o.slots,keep b o (nP b n) q⟩,λb o q n _=>?_,λb o q _=>?_,λb xs q=>gS b _ (neP b _ q λ_ z=>nomatch z) q,λb o u q=>gS b _ (neP b _ q λ_ z=>nomatch z) q,λb qs q=>?_⟩
   ·have l:=ξ q;rw[gO b (A3 (Ψ l (AX (AS hge hlt)))) (A3 (Ψ l hge)) (nP b n)];exact n
   ·by_cases w:b=P
    ·subst w;exact⟨_,μ _ htb⟩
    ·exact⟨o,keep b o w q⟩
   ·by_cases w:b=P
    ·subst w;rw[hP] at q;cases q;exact⟨_,gP⟩
    ·exact⟨#[],by rw[Array.append_empty];exact gS b _ w q⟩
  have ok:HOk X.prog X.w H' (h'.push (Dn "<lambda>" (X.env.qual ++ "<lambda>") params body scope clos ((X.mg "__name__").getD .none) c' ctv)):=λa o q=>by
   by_cases w1:a=h'.objs.size
   ·subst w1;rw[gF] at q;cases q;refine pD ?_;rw[<- hfd];exact A9 _ rfl
   by_cases w2:a=c'
   ·subst w2;rw[gC] at q;cases q;exact vT (hrec.push _)
   by_cases w3:a=P
   ·subst w3;rw[gP] at q;cases q;exact μ _ htb
   rw[gO a w1 w2 w3] at q;refine(I.hok a o q).stay (λb u hb e=>keep b u ?_ e) (λb e=>gS b _ (neP b _ e λ_ z=>nomatch z) e) λb xs e=>gS b _ (neP b _ e λ_ z=>nomatch z) e;rcases hb with rfl | hb
   ·exact w3
   ·exact neP b _ hb λ_ z=>nomatch z
  refine⟨.ref h'.objs.size,H',I.un (t':=tk) U ok,rfl,?_⟩;refine h _ c' ctv H' hfn gS ⟨_,gP,?_,λpos' cv e=>?_⟩ (by rw[hfd];exact gF) gC
  ·rw[Array.toList_append];exact jV _ ht
  ·rw[Array.toList_append] at e;rcases n9 _ ht e with e | e
   ·obtain⟨c2,e1,e2⟩:=hcs pos' cv e;exact⟨c2,e1,gS _ _ (neP _ _ e2 λ_ z=>nomatch z) e2⟩
   ·exact⟨c',e,gC⟩
end
noncomputable def jG (sc out:Ac)(N NX:List Str)(js:List Nat):Bool :=
 (sc.kind == .function)&&(sc.isCoroutine==false)&&(sc.isGenerator==false)&&(sc.names.all λy=>y.2 != .cell)&&(sc.names.all λy=>y.2 != .free||(out.names.lookup y.1==some .cell&&N.contains y.1))&&(js.length==N.length) &&
 ((N.zip js).all λp=>(NX[p.2]? == some p.1)&&(out.names.lookup p.1==some .cell)&&(sc.names.lookup p.1==some .free))
theorem kY:∀ {l:List (Str×ε)},(l.map (·.2)).Nodup->∀x y c,l.lookup x=some c->l.lookup y=some c->x=y:=by
 intro l
 induction l with
 | nil=>intro _ x y c h;cases h
 | cons q l ih =>
  intro h x y c hx hy;rw[Bg,BC] at h;have mem:∀z,l.lookup z=some c->c∈l.map (·.2):=λz hz=>Aa.mpr ⟨(z,c),A7 hz,rfl⟩;rw[BL] at hx hy;cases ex:x==q.1 with
  | true =>
   rw[ex] at hx;cases hx;cases ey:y==q.1 with
   | true=>rw[beq_iff_eq] at ex ey;rw[ex,ey]
   | false=>rw[ey] at hy;exact absurd (mem y hy) h.1
  | false =>
   rw[ex] at hx;cases ey:y==q.1 with
   | true=>rw[ey] at hy;cases hy;exact absurd (mem x hx) h.1
   | false=>rw[ey] at hy;exact ih h.2 x y c hx hy
section
variable {X:Cx}{sc:Ac}{N:List Str}{js:List Nat}{params:Bv}{body:Δ}{pos:Pos}{c P:ε}
theorem eD {env:Env}(h:∀y∈sc.names,y.2=.free->∃c,env.cells.lookup y.1=some c){x:Str}{a:ε}(q:(bT sc env).lookup x=some a):env.cells.lookup x=some a/\(x,Bi)∈sc.names:=by
 obtain⟨z,hz,e⟩:=Aa.mp (A7 q);rw[CS,Ap] at hz;have zf:z.2=.free:=by simpa using hz.2
 obtain⟨c,hc⟩:=h z hz.1 zf;have e1:z.1=x:=congrArg Prod.fst e;have e2:(env.cells.lookup z.1).getD 0=a:=congrArg Prod.snd e;rw[hc] at e2;have e2:c=a:=e2;refine⟨by rw[<- e1,hc,e2],?_⟩;obtain⟨z1,z2⟩:=z;simp only at e1 zf;rw[<- e1,<- zf];exact hz.1
theorem uW (L:LamCx X c P)(hck:jG sc X.env.scope N X.N js=true)(hdef:defaultsOf params X.env=([],[])):PE X (.Lambda params body sc pos) (wX X.mg P (X.env.qual ++ "<lambda>") params body sc (bT sc X.env)):=by
 intro aa s σ H Q I h;simp only[jG,Ξ,BM,beq_iff_eq,bne_iff_ne,BV] at hck;obtain⟨⟨⟨⟨⟨⟨c1,c2⟩,c3⟩,c4⟩,c5⟩,c6⟩,c7⟩:=hck;have env:∀y∈sc.names,y.2=.free->∃c,X.env.cells.lookup y.1=some c:=λy hy hf=>by
  rcases c5 y hy with z | z
  ·exact absurd hf z
  ·exact I.ok.has y.1 (.inl z.1)
 exact xS L hdef (dH env) aa s σ H Q I h
theorem qO {σ:St}{b:ω}{vs:List V}(hck:jG sc X.env.scope N X.N js=true)(hinj:(X.env.cells.map (·.2)).Nodup)(hhas:∀x,X.env.scope.names.lookup x=some .cell->∃c,X.env.cells.lookup x=some c)(hc:dC X σ b)(hv:vs.length=js.length)(hσ:∀(i j:Nat) (v:V),js[i]? = some j->vs[i]? = some v->σ[j]? = some (some v)) :
  LamScope N sc (bT sc X.env)/\vs.length=N.length/\(∀x c,(bT sc X.env).lookup x=some c->∃v,b.IsCell c v)/\(∀(i:Nat) x v,N[i]? = some x->vs[i]? = some v->∃c u,(bT sc X.env).lookup x=some c/\RelV v u/\b.IsCell c (some u)):=by
 simp only[jG,Ξ,BM,beq_iff_eq,bne_iff_ne,BV] at hck;obtain⟨⟨⟨⟨⟨⟨c1,c2⟩,c3⟩,c4⟩,c5⟩,c6⟩,c7⟩:=hck;have env:∀y∈sc.names,y.2=.free->∃c,X.env.cells.lookup y.1=some c:=λy hy hf=>by
  rcases c5 y hy with z | z
  ·exact absurd hf z
  ·exact hhas y.1 z.1
 have key:∀(i:Nat) x v,N[i]? = some x->vs[i]? = some v->∃c u,(bT sc X.env).lookup x=some c/\RelV v u/\b.IsCell c (some u):=λi x v e1 e2=>by
  have il:i<js.length:=by rw[c6];exact(A0.mp e1).1
  have hz:(x,js[i])∈N.zip js:=AR (i:=i) (by rw[Bq];exact⟨e1,AH il⟩);obtain⟨⟨d1,d2⟩,d3⟩:=c7 _ hz;obtain⟨a,ha⟩:=cN (env:=X.env) (A7 d3);obtain⟨u,r,cell⟩:=hc js[i] x v a d1 (hσ i js[i] v (AH il) e2) d2 (eD env ha).1;exact⟨a,u,ha,r,cell⟩
 refine⟨⟨c1,c2,c3,c4,λx hx=>?_,λx hx=>cN (A7 hx),λx y a hx hy=>kY hinj x y a (eD env hx).1 (eD env hy).1⟩,by rw[hv,c6],λx a hx=>?_,key⟩
 ·obtain⟨i,hi⟩:=List.getElem?_of_mem hx;have il:i<js.length:=by rw[c6];exact(A0.mp hi).1
  have hz:(x,js[i])∈N.zip js:=AR (i:=i) (by rw[Bq];exact⟨hi,AH il⟩);exact(c7 _ hz).2
 ·obtain⟨_,hm⟩:=eD env hx;have hN:x∈N:=by
   rcases c5 _ hm with z | z
   ·exact absurd rfl z
   ·simpa using z.2
  obtain⟨i,hi⟩:=List.getElem?_of_mem hN;have il:i<vs.length:=by rw[hv,c6];exact(A0.mp hi).1
  obtain⟨a',u,h1,_,h2⟩:=key i x vs[i] hi (AH il);rw[hx] at h1;cases h1;exact⟨_,h2⟩
end
theorem yD {Pr:ρ}{w:Γ}{K:γ}{mg:Str->Option δ}{ad:ω}{x:Str}{st:AD}{f c:ε}{kV ct:δ}{N ps:List Str}{k:Nat}{sp:Sp}(lk:K.lookup f=some ⟨oc,od,.func (AJ x qual (bJ st) (aY st) (aC st) .none kV doc pm an (.ref c) ct),osl⟩)(hcd:At K (.ref c) qual=true)(S:FnScope N ps (aC st))(len:∀vs H Q E,sp vs H Q E->vs.length=ps.length)(hbody:∀(A:Around) (ae:List Env) (s:η) (H:Hp) (vs:List V) (Q:VK) (E:XK),Room k (A.deeper (BU qual (aC st) s.heap.objs.size f (.ref c)))->sp vs H Q E ->
   ∃t,PSs (fC CX0 Pr w K mg ad N qual (aC st) f (.ref c) A ae s H E).nox (aY st) t/\t { nx:=λ_ H'=>Q .non H',rt:=Q } (start N vs) H) :
  FnOk Pr w K mg ad CX0 (k+1) f (AJ x qual (bJ st) (aY st) (aC st) .none kV doc pm an (.ref c) ct) ps sp:=by
 refine tU lk hcd S len λA ae s H vs Q E hr hsp=>?_;obtain⟨t,h,q⟩:=hbody A ae s H vs Q E hr hsp;exact⟨t,h.nox,q⟩
theorem qP {K:γ}{body:Δ}{scope:Ac}{cl:List (Str×ε)}{ctv:δ}{params:Bv}(hp:∀pm cd ctv,bindArgs (Au "<lambda>" qual params body scope cl pm cd ctv) ⟨[],[]⟩=pure []):Binds K (Au "<lambda>" qual params body scope cl pm cd ctv) [] []:=λs us _ hl=>by
 cases us with
 | nil=>exact .of_eq (hp pm cd ctv)
 | cons u us=>simp at hl
theorem TabOk.kept {H H':Hp}{P:ε}(h:TabOk H P q)(k:∀b o,H b=some o->(∀xs,o ≠ .lst xs)->H' b=some o):TabOk H' P q:=by obtain⟨ps,h1,h2,h3⟩:=h;refine⟨ps,k _ _ h1 (λ_ z=>nomatch z),h2,λpos cv e=>?_⟩;obtain⟨c,e1,e2⟩:=h3 pos cv e;exact⟨c,e1,k _ _ e2 (λ_ z=>nomatch z)⟩
theorem TabOk.same {H H':Hp}{P:ε}(h:TabOk H P q)(s:Same H H'):TabOk H' P q:=h.kept λb o e _=>s b o e
theorem pY {H:Hp}{P:ε}(h:H P=some (.tbl #[])):TabOk H P q:=⟨#[],h,trivial,λpos cv e=>by simp[Cc] at e⟩
theorem SameX.refl (P:ε)(H:Hp):SameX P H H:=λ_ _ _ e=>e
theorem SameX.trans {P:ε}{H H1 H2:Hp}(a:SameX P H H1)(b:SameX P H1 H2):SameX P H H2:=λc o hc e=>b c o hc (a c o hc e)
theorem SameX.of {P:ε}{H H1:Hp}(s:Same H H1):SameX P H H1:=λc o _ e=>s c o e
theorem SameX.seq {K:γ}{P a:ε}{H H':Hp}{ps:Array δ}{xs:List V}(hP:H P=some (.tbl ps))(s:SameX P H H')(h:SqL K H a xs):SqL K H' a xs:=by
 rcases h with (h | ⟨o,h⟩) | h
 ·exact .inl (.inl (s _ _ (λz=>by rw[z,hP] at h;cases h) h))
 ·exact .inl (.inr ⟨o,s _ _ (λz=>by rw[z,hP] at h;cases h) h⟩)
 ·exact .inr h
theorem cE:∀(ns:List (Str×CO)) (n:Nat) (acc:List (Str×ε)),(acc.map (·.2)).Nodup->(∀y∈acc,y.2<n)->((cellsFrom n ns acc).map (·.2)).Nodup
 | [],n,acc,h,_=>by rw[cellsFrom.eq_def];exact h
 | (x,k)::r,n,acc,h,hb=>by
  rw[cellsFrom.eq_def];dsimp only
  split
  ·refine cE r (n+1) _ ?_ λy hy=>?_
   ·rw[Bg,BC];refine⟨λhm=>?_,h⟩;obtain⟨y,hy,e⟩:=Aa.mp hm;have:=hb y hy;have e:y.2=n:=e;rw[e] at this;exact absurd this (Be _)
   ·rcases AV.mp hy with rfl | hy
    ·exact Nat.lt_succ_self _
    ·exact Nat.lt_succ_of_lt (hb y hy)
  ·exact cE r n acc h hb
mutual
noncomputable def dJ:Dt->PyData
 | .non=>.none
 | .bl b=>.bool b
 | .int i=>.int i
 | .str x=>.str x
 | .tup ds=>.tuple (toPyL ds)
 | .lst ds=>.list (toPyL ds)
 | .emp=>.dict []
noncomputable def toPyL:List Dt->List PyData
 | []=>[]
 | d::ds=>dJ d::toPyL ds
end
mutual
noncomputable def okD:Dt->Bool
 | .int i=>decide (i.natAbs<10^100)
 | .str x=>x.cps.toList.all λc=>decide (c<16^8)
 | .tup ds=>okDL ds
 | .lst ds=>okDL ds
 | .non=>true
 | .bl _=>true
 | .emp=>true
noncomputable def okDL:List Dt->Bool
 | []=>true
 | d::ds=>okD d&&okDL ds
end
mutual
noncomputable def mE:Dt->Nat
 | .non=>4
 | .bl _=>5
 | .int _=>101
 | .str x=>10*x.length+2
 | .tup ds=>lenDL ds+3
 | .lst ds=>lenDL ds+3
 | .emp=>2
noncomputable def lenDL:List Dt->Nat
 | []=>0
 | d::ds=>mE d+2+lenDL ds
end
mutual
theorem iQ:∀d:Dt,okD d=true->(dJ d).showable=true
 | .non,_=>rfl
 | .bl _,_=>rfl
 | .int i,h=>by have h':i.natAbs<10^100:=of_decide_eq_true (show decide (i.natAbs<10^100)=true from h);have:=b8 h';show decide (i.natAbs.log2<1920)=true;exact decide_eq_true 'B'
 | .str _,_=>rfl
 | .tup ds,h=>toPyL_show ds h
 | .lst ds,h=>toPyL_show ds h
 | .emp,_=>rfl
theorem toPyL_show:∀ds:List Dt,okDL ds=true->PyData.showableAll (toPyL ds)=true
 | [],_=>rfl
 | d::ds,h=>by obtain⟨h1,h2⟩:=AK.mp (show (okD d&&okDL ds)=true from h);show ((dJ d).showable&&PyData.showableAll (toPyL ds))=true;rw[iQ d h1,toPyL_show ds h2];rfl
end
mutual
theorem iR:∀d:Dt,noE d=true->(dJ d).hasDict=false
 | .non,_=>rfl
 | .bl _,_=>rfl
 | .int i,_=>rfl
 | .str _,_=>rfl
 | .tup ds,h=>toPyL_dict ds h
 | .lst ds,h=>toPyL_dict ds h
 | .emp,h=>by cases h
theorem toPyL_dict:∀ds:List Dt,noEL ds=true->PyData.hasDictAll (toPyL ds)=false
 | [],_=>rfl
 | d::ds,h=>by have h:(noE d&&noEL ds)=true:=h;rw[Ξ] at h;show ((dJ d).hasDict||PyData.hasDictAll (toPyL ds))=false;rw[iR d h.1,toPyL_dict ds h.2];rfl
end
mutual
noncomputable def noS:Dt->Bool
 | .tup ds=>noSL ds
 | .lst _=>false
 | _=>true
noncomputable def noSL:List Dt->Bool
 | []=>true
 | d::ds=>noS d&&noSL ds
end
noncomputable def okR (d:Dt):Bool:=noE d||noS d
mutual
theorem fQ:∀d:Dt,(dJ d).depth=dep d
 | .non=>rfl
 | .bl _=>rfl
 | .int i=>rfl
 | .str _=>rfl
 | .tup ds=>by show Cv (toPyL ds)+1=depL ds+1;rw[toPyL_depth ds]
 | .lst ds=>by show Cv (toPyL ds)+1=depL ds+1;rw[toPyL_depth ds]
 | .emp=>rfl
theorem toPyL_depth:∀ds:List Dt,Cv (toPyL ds)=depL ds
 | []=>rfl
 | d::ds=>by show max (dJ d).depth (Cv (toPyL ds))=max (dep d) (depL ds);rw[fQ d,toPyL_depth ds]
end
mutual
theorem fP:∀d:Dt,okD d=true->(dJ d).shown.length<=mE d
 | .non,_=>by show (PyData.shown .none).length<=4;decide
 | .bl b,_=>by show (PyData.shown (.bool b)).length<=5;cases b <;> decide
 | .int i,h=>by have h':i.natAbs<10^100:=of_decide_eq_true (show decide (i.natAbs<10^100)=true from h);exact eH h'
 | .str x,h=>by
  have hx:∀c∈x.cps.toList,c<16^8:=by
   have h':(x.cps.toList.all λc=>decide (c<16^8))=true:=h
   simpa only [BM,decide_eq_true_eq] using h'
  exact StrLaws.reprText_len x hx
 | .tup ds,h=>by have h1:=toPyL_len ds h;have h2:=tupleText_len_le (BW (toPyL ds));have h3:=PyData.shownAll_length (toPyL ds);show (tupleText (BW (toPyL ds))).length<=lenDL ds+3;lia
 | .lst ds,h=>by have h1:=toPyL_len ds h;have h2:=listText_len_le (BW (toPyL ds));have h3:=PyData.shownAll_length (toPyL ds);show (listText (BW (toPyL ds))).length<=lenDL ds+3;lia
 | .emp,_=>by show (PyData.shown (.dict [])).length<=2;decide
theorem toPyL_len:∀ds:List Dt,okDL ds=true->((BW (toPyL ds)).map (·.length)).sum+2*(toPyL ds).length<=lenDL ds
 | [],_=>ο _
 | d::ds,h=>by obtain⟨h1,h2⟩:=AK.mp (show (okD d&&okDL ds)=true from h);have e1:=fP d h1;have e2:=toPyL_len ds h2;show (((dJ d).shown::BW (toPyL ds)).map (·.length)).sum+2*(dJ d::toPyL ds).length<=mE d+2+lenDL ds;simp only[Bg,List.sum_cons,B1];lia
end
section
variable {X:Cx}{aa:List (ε×Obj)}{σ:St}{H:Hp}{s:η}
mutual
theorem oU (I:Inv X aa σ H s):∀(d:Dt) {v:V} {u:δ},Rep X.K H d v->RelV v u->∃as,Reads s.heap u (dJ d) as/\(noS d=true->¬ DS∈as)
 | .non,v,u,h,r=>by cases (show v=.non from h);cases r;exact⟨_,.none,λ_=>by simp⟩
 | .bl b,v,u,h,r=>by cases (show v=.bl b from h);cases r;exact⟨_,.bool b,λ_=>by simp⟩
 | .int b,v,u,h,r=>by cases (show v=.int b from h);obtain⟨t,rfl⟩:=r;exact⟨_,.int b t,λ_=>by simp⟩
 | .str b,v,u,h,r=>by cases (show v=.str b from h);obtain⟨t,rfl⟩:=r;exact⟨_,.str b t,λ_=>by simp⟩
 | .tup ds,v,u,h,r=>by obtain⟨a,xs,rfl,h1,h2⟩:=(show ∃a xs,v=.ref a/\SqT X.K H a xs/\RepL X.K H ds xs from h);cases r;obtain⟨its,r1,⟨o,e1,e2,n,e3⟩,_⟩:=I.tuple h1;obtain⟨as,ra,na⟩:=reads_DL I ds h2 r1;exact⟨_,.tuple e1 e2 e3 ra,na⟩
 | .lst ds,v,u,h,r=>by obtain⟨a,xs,rfl,h1,h2⟩:=(show ∃a xs,v=.ref a/\SqL X.K H a xs/\RepL X.K H ds xs from h);cases r;obtain⟨its,r1,⟨o,n,e1,e2,_,e3⟩,_⟩:=I.list h1;obtain⟨as,ra,na⟩:=reads_DL I ds h2 r1;exact⟨_,.list e1 e2 e3 ra,λz=>by cases z⟩
 | .emp,v,u,h,r=>by
  obtain⟨a,rfl,ha⟩:=(show ∃a,v=.ref a/\H a=some (.dK []) from h);cases r;obtain⟨_,hs,vs,kv,o,es,ep,e1,e2,e3,_,pr,_⟩:_/\(a==DS)=false/\∃vs,KV [] vs/\s.heap.DictOf (kJ X.prog X.w) a vs:=I.hok a _ ha;cases kv;have en:es.toList=[]:=by generalize es.toList=l at pr;cases pr;rfl
  refine⟨_,.dict (kvs:=[]) e1 e2.1 e3 (by rw[en];exact .nil) (by rw[en];exact .nil),λ_=>?_⟩
  simpa using λz=>(by rw[<- z] at hs;simp at hs:False)
theorem reads_DL (I:Inv X aa σ H s):∀(ds:List Dt) {xs:List V} {us:List δ},RepL X.K H ds xs->Vals xs us->∃as,ReadsAll s.heap us (toPyL ds) as/\(noSL ds=true->¬ DS∈as)
 | [],xs,us,h,r=>by cases (show xs=[] from h);cases r;exact⟨_,.nil,λ_=>by simp⟩
 | d::ds,xs,us,h,r=>by
  obtain⟨x,y,rfl,h1,h2⟩:=(show ∃x r,xs=x::r/\Rep X.K H d x/\RepL X.K H ds r from h);cases r with
  | cons r1 r2 =>
   obtain⟨as,q1,n1⟩:=oU I d h1 r1;obtain⟨bs,q2,n2⟩:=reads_DL I ds h2 r2;exact⟨_,.cons q1 q2,λz=>by
    have z:(noS d&&noSL ds)=true:=z;rw[Ξ] at z;have a1:=n1 z.1;have a2:=n2 z.2;intro hm;rcases Af.mp hm with hm | hm
    ·exact a1 hm
    ·exact a2 hm⟩
end
end
noncomputable def shD (d:Dt):Str:=(dJ d).shown
noncomputable def wS:Dt->Bool
 | .bl _=>true
 | .str _=>true
 | _=>false
noncomputable def xL (K:γ):List V->Hp->VK->Prop:=λvs H Q=>∃x d,vs=[x]/\Rep K H d x/\okD d=true/\okR d=true/\wS d=false/\mE d<=1000000/\dep d<=100/\Q (.str (shD d)) H
theorem n5 {X:Cx}(hg:X.A.guards=some [])(hu:X.A.units+150<BY):bY X (.builtin "repr") (xL X.K):=by
 intro aa s σ H xs us Q I r h;obtain⟨x,d,rfl,hd,ho,hR,hb,hl,hp,q⟩:=h;obtain⟨u,rfl,rx⟩:=lH r;have hlen:(dJ d).shown.length<=ψ:=AN (fP d ho) (AN hl 'A');have go:∀a,u=.ref a->τ (χ X.prog X.w) X.A (call (.builtin "repr") [u]) (EP X aa σ Q) X.xe s:=λa e=>by subst e;obtain⟨as,R,na⟩:=oU I d hd rx;have hR:(noE d||noS d)=true:=hR;refine repr_of_reads' R (iQ d ho) (λhh=>(Bool.or_eq_true_iff.mp hR).elim (λz=>by rw[iR d z] at hh;cases hh) na) hg (by rw[fQ d];lia) (λ_ _ e=>e) (λh' u' tk hk=>?_) hlen;exact⟨.str (shD d),H,I.kept (t':=tk) hk,⟨_,rfl⟩,q⟩
 cases d with
 | non =>
  cases (show x=.non from hd);cases rx;exact PySem.P.repr_of_none ⟨.str _,H,I.tok _,⟨_,rfl⟩,q⟩
 | int i =>
  cases (show x=.int i from hd);obtain⟨t,rfl⟩:=rx;have h':i.natAbs<10^100:=of_decide_eq_true (show decide (i.natAbs<10^100)=true from ho);have:=b8 h';exact PySem.P.repr_of_int 'B' ⟨.str _,H,I.tok _,⟨_,rfl⟩,q⟩
 | bl b=>cases hb
 | str b=>cases hb
 | tup ds =>
  obtain⟨a,xs,rfl,_⟩:=(show ∃a xs,x=.ref a/\SqT X.K H a xs/\RepL X.K H ds xs from hd);cases rx;exact go a rfl
 | lst ds =>
  obtain⟨a,xs,rfl,_⟩:=(show ∃a xs,x=.ref a/\SqL X.K H a xs/\RepL X.K H ds xs from hd);cases rx;exact go a rfl
 | emp =>
  obtain⟨a,rfl,_⟩:=(show ∃a,x=.ref a/\H a=some (.dK []) from hd);cases rx;exact go a rfl
section
variable {X:Cx}{tg iter elt:Δ}{ifs:List Δ}{scope:Ac}{pos:Pos}{wi:TI}{N:List Str}{cl:List (Str×ε)}{js:List (Option Nat)}{g:TG}{tt:ω->TT}{te:ω->TE}
theorem uQ {iv:Nat}(hN:X.N.Nodup)(hin:X.N[iv]? = some y)(hx:Loc X.env.scope y)(S:CompScopeC X scope N cl js)(hc:X.calm=true)(hfn:∀x,X.fn x=true)(hi:PI X tg iter wi)(hclos:Cu scope X.env=pure cl)(hg:∀b C fp s H,PG (aO X b N scope cl C fp s H) tg g)(hif:∀b C fp s H,oB (aO X b N scope cl C fp s H) ifs (tt b))(he:∀b C fp s H,PE (aO X b N scope cl C fp s H) elt (te b))(hsw:autoParam (Bs (.ListComp elt [⟨tg,iter,ifs,0⟩] scope pos) (some (.Name y py)) spos.line X.env=pure true) L2.au3._auto_1)(hs:autoParam (∀x,Ao iter X.env x=pure x) L2.au2._auto_1):PS X (.Assign [.Name y py] (.ListComp elt [⟨tg,iter,ifs,0⟩] scope pos) spos) (dP (dF X js wi g tt te) (cW iv)):=by
 intro aa s σ H Dd I h;rw[exec_Assign_Name_used _ _ _ _ hsw];refine θ (CK (θ ?_));show τ _ X.A (do let _ <- comprehension (.ListComp elt [⟨tg,iter,ifs,0⟩] scope pos) scope X.env _ (newList []) false (A5 iter X.env) (some (Ci (.Name y py) X.env))) _ _ s;refine θ (AB (g4 (use:=some (Ci (.Name y py) X.env)) (QP:=λ_ s'=>SP X aa Dd .next s') S hc hfn hi hclos hg hif he hs I h λs6 H5 D C u m6 n6 I6 L q=>?_) (λ_ s' hq=>υ (υ hq)) λ_ _ e=>e);show τ _ X.A (Ci (.Name y py) X.env (.ref D)) _ X.xe s6;refine wpAny_assign_Name (iW (v:=.ref D) I6 hN hin hx rfl (λs7 I7 ⟨a,sb,ha⟩=>⟨m6,n6.sameBut sb (λz=>?_),λh' hs'=>⟨σ.set iv (some (.ref D)),H5,L.inv I7 hs',q⟩⟩) (.inl (hfn y)));rcases ha with e | e
 ·exact L.lt (e.symm.trans z.symm)
 ·exact L.cl _ _ e z.symm
theorem uP {iv:Nat}(hN:X.N.Nodup)(hin:X.N[iv]? = some y)(hx:Loc X.env.scope y)(hcb:gZ scope X.env.scope N X.N js=true)(hc:X.calm=true)(hfn:∀x,X.fn x=true)(hi:PI X tg iter wi)(hg:∀b C fp s H,PG (aO X b N scope (bT scope X.env) C fp s H) tg g)(hif:∀b C fp s H,oB (aO X b N scope (bT scope X.env) C fp s H) ifs (tt b))(he:∀b C fp s H,PE (aO X b N scope (bT scope X.env) C fp s H) elt (te b))(hsw:autoParam (Bs (.ListComp elt [⟨tg,iter,ifs,0⟩] scope pos) (some (.Name y py)) spos.line X.env=pure true) L2.au3._auto_1)(hs:autoParam (∀x,Ao iter X.env x=pure x) L2.au2._auto_1):PS X (.Assign [.Name y py] (.ListComp elt [⟨tg,iter,ifs,0⟩] scope pos) spos) (dP (dF X js wi g tt te) (cW iv)):=by
 intro aa s σ H Q I h;simp only[gZ,Ξ,BM,beq_iff_eq,bne_iff_ne,BV] at hcb;obtain⟨⟨⟨⟨⟨c1,c2⟩,c3⟩,c4⟩,c5⟩,c6⟩:=hcb;have env:∀y∈scope.names,y.2=.free->∃c,X.env.cells.lookup y.1=some c:=λy hy hf=>by
  rcases c4 y hy with z | z
  ·exact absurd hf z
  ·exact I.ok.has y.1 (.inl z)
 have S:CompScopeC X scope N (bT scope X.env) js:=by
  refine⟨c1,c2,λy hy hl=>?_,λy hy hf=>?_,λy hy=>?_,c5,λp hp j hj=>?_⟩
  ·rcases c3 y hy with z | z
   ·exact absurd hl z
   ·exact z
  ·exact cN (by obtain⟨a,b⟩:=y;cases hf;exact hy)
  ·obtain⟨z,hz,rfl⟩:=Aa.mp hy;rw[CS,Ap] at hz;obtain⟨c,hc⟩:=env z hz.1 (by simpa using hz.2);simp only[hc,Option.getD_some]
  ·have:=c6 p hp;rw[hj] at this;simp only[Ξ,beq_iff_eq] at this;obtain⟨⟨d1,d2⟩,d3⟩:=this;refine⟨d1,d2,?_,cN (A7 d3)⟩;exact cP _ d3
 exact uQ hN hin hx S hc hfn hi (dH env) hg hif he hsw hs aa s σ H Q I h
end
open PySem.W
structure XCls (K:γ)(C:ε):Prop where
 ga:Al K (.ref C) "__getattribute__" = some (some (.builtin "BaseException.__getattribute__"))
 gt:Al K (.ref C) "__getattr__" = some none
 hd:PySem.W.hasDictIn K C=true
 cl:Al K (.ref C) "__class__" = some (some (.builtin "object.__class__"))
 sp:DQ K (.builtin "object.__class__") "__get__" = some (some (.builtin "getset_descriptor.__get__"))
 tk:PySem.W.takesIn K (.builtin "object.__class__")=some true
 mr:PySem.W.mroIn K C (.type "object")=some true
 sb:PySem.W.subIn K (.ref C) (.type "BaseException")=some true
theorem vS {h:ω}{a:ε}(e:h.get? a=some (EO dx (.ref C) vs sl))(hd:∀d,dx=some d->∃o,h.get? d=some o):∃od,Dq h a (EO dx (.ref C) vs sl) C od:=by
 cases dx with
 | none=>exact⟨none,e,rfl,rfl,trivial⟩
 | some d =>
  obtain⟨o,ho⟩:=hd d rfl;exact⟨some o,e,rfl,rfl,ho⟩
theorem qX {prog:ρ}{w:Γ}{A:Around}{E:δ->η->Prop}{Q:Option δ->η->Prop}{K:γ}{a:ε}(c:XCls K C)(X:K.In s.heap)(e:s.heap.get? a=some (EO dx (.ref C) vs sl))(hdx:∀d,dx=some d->∃o,s.heap.get? d=some o)(q:Q (some (.ref C)) { s with toks:=s.toks+1 }):τ (χ prog w) A (getAttr? (.ref a) "__class__") Q E s:=by
 obtain⟨od,I⟩:=vS e hdx;have hf:findObj K C od "__class__" = some (.bind (.builtin "getset_descriptor.__get__") (.builtin "object.__class__")):=by obtain⟨cd,hc,_⟩:=any_some c.hd;unfold findObj;rw[hc,De,c.cl,De];simp only[c.sp,c.tk,De]
 obtain⟨hh,g,d,t,os⟩:=s;have L0:=I.type (M:=χ prog w);have L1:=Df (M:=χ prog w) X c.ga;have L2:=Df (M:=χ prog w) X c.gt;have L3:=looks_find (M:=χ prog w) X I hf;unfold getAttr? getAttrBy? getAttrBy;refine θ (wpAny_mkText (θ (wpAny_attempt (Aj (θ (L0.at (θ (L1.at ?_))))))));show τ _ _ (Cw _ _ _ _ _ _) _ _ _;unfold Cw;refine θ (L2.at (θ (wpAny_attempt (Aj ?_))));show τ _ _ (D8 _ _ _) _ _ _;unfold D8;have hbs:bindSpecial (.builtin "BaseException.__getattribute__") (.ref a)=pure (.builtin "BaseException.__getattribute__",[.ref a]):=by
  have hop:D9 "BaseException.__getattribute__" "#opaque" = none:=by decide +kernel
  have hdat:D9 "BaseException.__getattribute__" "#data" = none:=by decide +kernel
  have hk:builtinKind "BaseException.__getattribute__" = some .slot:=by decide +kernel
  simp only[bindSpecial,DD,builtinType,hop,hdat,hk];rfl
 rw[hbs];refine θ (υ ?_);have L4:=looks_subIn (M:=χ prog w) X c.sb;refine C5 (codeAny_call_builtin (by decide +kernel) F.entry_bexc_ga ?_);have hk:builtinKind "BaseException.__getattribute__" = some .slot:=by decide +kernel
 have hsplit:splitId "BaseException.__getattribute__" = some ("BaseException","__getattribute__"):=by decide +kernel
 have ha:=F.args_bexc_ga (.ref a) (.str (ζ "__class__") t);simp only[checkBuiltinCall,hk,hsplit];have LI:Looks (χ prog w) hh (isInstance (.ref a) (.type "BaseException")) true:=L0.andThen L4;refine θ (LI.at ?_);rw[if_neg 'A'];refine AB (Q:=λ_ s'=>s'=(⟨hh,g,d,t+1,os⟩:η)) (E:=λ_ _=>False) ?_ (λ_ s' z=>?_) (λ_ _ z=>z.elim)
 ·repeat (first | assumption | rfl | wp_step)
 ·subst z;unfold Builtin.«object.__getattribute__»;refine θ (υ ?_);refine θ (υ ?_);refine θ (L0.at (θ (L3.at ?_)));show τ _ _ (Builtin.ObjectAttr.bindTo _ _ _ _) _ _ _;show τ _ _ (do let r <- CZ [Value.builtin "object.__class__"] (call (.builtin "getset_descriptor.__get__") [.builtin "object.__class__",.ref a,.ref C]);ret r) _ _ _;refine θ (Aj (C5 (class_get (s:=⟨hh,g,d,t+1,os⟩) (ox:=EO dx (.ref C) vs sl) (od:=od) X I c.mr ?_)));refine υ ?_;show τ _ _ (handedOut (.ref C)) _ _ _;exact υ (υ q)
theorem tH {K:γ}{a:ε}(c:XCls K C):PySem.W.KitX K (.ref a) (.ref C) (λh=>(∃vs sl,h.get? a=some (EO dx (.ref C) vs sl))/\∀d,dx=some d->∃o,h.get? d=some o) where
 ty:=λ_ _ _ ⟨⟨_,_,e⟩,_⟩=>pL e
 it:=λ_ _ X _=>by
  obtain⟨cd,hc,_⟩:=any_some c.hd;unfold clsIn at hc
  split at hc
  ·rename_i ho;intro A' Q' E' s' k q;unfold isType loadHead;exact θ (wpAny_loadPart (k _ _ (X _ _ ho)) (υ q))
  ·cases hc
 ne:=λh tp dd its n sl X htp=>by
  obtain⟨cd,hc,_⟩:=any_some c.hd;refine Bool.eq_false_iff.mpr λq=>?_;obtain rfl:C=tp:=Value.ref.inj (beq_iff_eq.mp q);unfold clsIn at hc
  split at hc
  ·rename_i ho;have z:=(X _ _ ho).symm.trans htp;cases z
  ·cases hc
 ca:=λX ⟨⟨_,_,e⟩,hd⟩ k=>qX c X e hd k
section
variable {X:Cx}
noncomputable def r6 (K:γ):List V->Hp->VK->Prop:=λxs H Q=>∃a C dx c u b,xs=[.ref a,c]/\H a=some (dE dx a (.ref C))/\(∀d,dx=some d->∃fs,H d=some (.xd fs))/\XCls K C/\vU c=some u/\ι K (.ref C) u=some b/\Q (.bl b) H
theorem aU:bY X (.builtin "isinstance") (r6 X.K):=by intro aa s σ H xs us Q I r h;obtain⟨a,C,dx,c,u',b,rfl,ha,hdx,xc,ec,e,q⟩:=h;obtain⟨u,w',rfl,rx,rc⟩:=iO r;obtain rfl:=mX ec rc;cases (show u=As a from rx);obtain⟨p,_,_⟩:=(show ObjOk X.prog X.w H s.heap a (dE dx a (.ref C)) from I.hok a _ ha);exact Cs (tH xc) I.kIn ⟨p,λd z=>let ⟨fs,hf⟩:=hdx d z;I.hok.there hf⟩ e (λz=>nomatch z) λtk=>⟨.bl b,H,I.tok tk,rfl,q⟩
end
structure RoomM (k:Nat)(A:Around):Prop where
 dp:A.depth+3*k+5<recursionLimit
 un:A.units+16*k+200<BY
 gd:A.guards=some []
theorem RoomM.of {k:Nat}{A:Around}{v:Option δ}(r:Room k A):RoomM k (A.mark v):=⟨r.dp,r.un,r.gd⟩
theorem RoomM.mono {k:Nat}{A:Around}(r:RoomM k A)(h:j<=k):RoomM j A:=⟨by have:=r.dp;lia,by have:=r.un;lia,r.gd⟩
noncomputable def unm (A:Around):Around:={ A with handled:=none }
structure FnOkM (P:ρ)(w:Γ)(K:γ)(mg:Str->Option δ)(ad:ω)(k:Nat)(f:ε)(fd:AC)(ps:List Str)(sp:Sp):Prop where
 len:∀vs H Q E,sp vs H Q E->vs.length=ps.length
 run:∀(A:Around) (ae:List Env) (s:η) (H:Hp) (args:Args) (us:List δ) (vs:List V) (Q:VK) (E:XK),RoomM k A->Env0 P w K mg ad A ae s H->D5 s fd args (ps.zip us)->Vals vs us->sp vs H Q E ->
  D6 (χ P w) A (.call (.ref f) args) (CR CX0 ae P w H s Q E) s
theorem FnOkM.mono {P:ρ}{w:Γ}{K:γ}{mg:Str->Option δ}{ad:ω}{k:Nat}{f:ε}{fd:AC}{ps:List Str}{sp:Sp}(F:FnOkM P w K mg ad j f fd ps sp)(h:j<=k) :
  FnOkM P w K mg ad k f fd ps sp:=⟨F.len,λA ae s H args us vs Q E hr=>F.run A ae s H args us vs Q E (hr.mono h)⟩
theorem Env0.unm {P:ρ}{w:Γ}{K:γ}{mg:Str->Option δ}{ad:ω}{A:Around}{ae:List Env}{H:Hp}(e:Env0 P w K mg ad A ae s H):Env0 P w K mg ad (unm A) ae s H :=
 ⟨e.frames,e.mod,e.bs,e.bsz,e.funs,e.frf,e.hok,e.bare⟩
noncomputable abbrev cxM (P:ρ)(w:Γ)(K:γ)(mg:Str->Option δ)(ad:ω)(N:List Str)(qual:Str)(scope:Ac)(f:ε)(cd:δ)(A:Around)(ae:List Env)(s:η)(H:Hp)(E:XK):Cx :=
 (fC CX0 P w K mg ad N qual scope f cd (unm A) ae s H E).marked A.handled
theorem l9 (A:Around)(env:Env):((unm A).deeper env).mark A.handled=A.deeper env:=by obtain⟨h,d,fr,gs,u⟩:=A;cases h <;> rfl
theorem Fun.okM {P:ρ}{w:Γ}{K:γ}{mg:Str->Option δ}{ad:ω}{x:Str}{st:AD}{f:ε}{fd:AC}{N ps:List Str}{k:Nat}{sp:Sp}(F:Fun K x qual st f fd)(S:FnScope N ps (aC st))(len:∀vs H Q E,sp vs H Q E->vs.length=ps.length)(hbody:∀(cdv:δ) (A:Around) (ae:List Env) (s:η) (H:Hp) (vs:List V) (Q:VK) (E:XK),RoomM (k+1) A->sp vs H Q E ->
   ∃t,PSs (cxM P w K mg ad N qual (aC st) f cdv A ae s H E) (aY st) t/\t { nx:=λ_ H'=>Q .non H',rt:=Q } (start N vs) H):FnOkM P w K mg ad (k+1) f fd ps sp:=by
 obtain⟨oc,od,kV,doc,pm,an,cdv,ct,osl,rfl,lk,hcd⟩:=F.ex;refine⟨len,λA ae s H args us vs Q E hr e0 hb r hsp=>?_⟩;have hl:=len _ _ _ _ hsp;have KX:K.In s.heap:=e0.mod.kin.keeps λb o e=>(e0.bs b o e).1;have lim:s.heap.NoLimit:=e0.mod.nolimit.keeps λb o e=>(e0.bs b o e).1;have hkind:∀y∈ps.zip us,(aC st).names.lookup y.1=some .local\/((aC st).names.lookup y.1=some .cell/\((cellsFrom (s.heap.objs.size+1) (aC st).names []).lookup y.1).isSome=true):=λ⟨n,v⟩ hy=>by
  rcases S.par n (Cm hy).1 with q | q
  ·exact .inl q
  ·exact .inr ⟨q,CH _ _ _ (.inl q)⟩
 refine codeAny_call_function (by have:=hr.dp;lia) (KX _ _ lk) rfl S.co S.gen rfl (PySem.W.codeRec_of KX hcd) (hb _ _ _ _ ?_);refine wpAny_newFunctionEnv_cells S.kind hkind λenv he s1 x=>?_;subst he;refine⟨lim.keeps x.toInCall.keep,codeAny_func ?_⟩;obtain⟨t,ht,hq⟩:=hbody cdv A ae s H vs Q E hr hsp;have I:Inv (fC CX0 P w K mg ad N qual (aC st) f cdv (unm A) ae s H E) [] (start N vs) H s1:=jJ S rfl e0.unm hl r x;have I2:Inv (cxM P w K mg ad N qual (aC st) f cdv A ae s H E) [] (start N vs) H s1:=I.mark A.handled;rw[<- l9];refine AB (ht [] s1 (start N vs) H _ I2 hq) (λfl s' hs=>?_) λe s' hs=>hs.elim;have fin:∀ {σ':St} {H':Hp} {v:V} {u:δ},Inv (cxM P w K mg ad N qual (aC st) f cdv A ae s H E) [] σ' H' s'->RelV v u->Q v H'->CE ae P w H s Q u s' :=
  λ{σ' H' v u} J rv q=>⟨v,H',J.os,J.bare,J.ad,J.hok,rv,q⟩
 cases fl with
 | ret u =>
  obtain⟨v,σ',H',J,rv,q⟩:=hs;exact fin J rv q
 | next =>
  obtain⟨σ',H',J,q⟩:=hs;exact fin (v:=V.non) (u:=B2) J rfl q
 | brk =>
  obtain⟨_,_,_,q⟩:=hs;exact AG q
 | cont =>
  obtain⟨_,_,_,q⟩:=hs;exact AG q
section
variable {X:Cx}{k:Nat}{f:ε}{fd:AC}{ps:List Str}{sp:Sp}{dvs:List V}{ds:List δ}{x:Str}{p pos:Pos}{e:Δ}{es:List Δ}{t:TA}
theorem sQ (F:FnOkM X.prog X.w X.K X.mg X.ad k f fd ps sp)(hr:RoomM k X.A)(hg:Gl X x)(hm:X.mg x=some (.ref f))(hk:Am X.K (.ref f)=true)(hb:Binds X.K fd ps ds)(hd:Vals dvs ds)(ha:PA X (e::es) t)(hdb:autoParam ((x==("__debug__" : Str))=false) L2.au1._auto_1)(he:autoParam (Θ (e::es) X.env=(false,A5 e X.env)::Θ es X.env) L2.au3._auto_1)(hpl:autoParam ((B4 pos (Θ es X.env)).any (·.1)=false) L2.au3._auto_1) :
  PE X (.Call (.Name x p) (e::es) [] pos) (fT sp dvs E0 t):=by
 intro aa s σ H Q I h;refine B8 (c9 I hg hm ?_ hdb);refine DC (h₀:=X.ad) I.ok.mod.kin hk (thn (ha pos aa s σ H _ I h) λus s1 ⟨vs,H1,I1,r,q⟩=>⟨I1.kIn,?_⟩) he hpl;have r2:Vals (vs++dvs) (us++ds):=r.append hd;have hl:(us++ds).length=ps.length:=by rw[<- r2.length];exact F.len _ _ _ _ q
 refine C5 (Bu (F.run X.A X.stack s1 H1 ⟨us,[]⟩ (us++ds) (vs++dvs) Q E0 hr I1.env0 (hb s1 us I1.kIn hl) r2 q) λr s' hq=>?_);cases r with
 | error e=>exact AG hq
 | ok fl =>
  cases fl with
  | ret u=>exact I1.after hq
  | next=>exact AG hq
  | brk=>exact AG hq
  | cont=>exact AG hq
end
section
variable {X:Cx}{K:γ}{o e:Δ}{es:List Δ}{to:TE}{t:TA}{name:Str}{apos cpos:Pos}{T id:String}{r:V->List V->Hp->VK->Prop}
theorem sR (hK:X.K=K)(pa:DV T)(slot:Slot T name id)(hty:DD (.builtin id)=pure (.type "method_descriptor"))(hm:MtR X id r)(ho:PE X o to)(ha:PA X (e::es) t)(hbase:autoParam (BD o name X.env (A5 o X.env)=A5 o X.env) L2.au3._auto_1)(hfew:autoParam (((B4 cpos (Θ (e::es) X.env)).all (λx => !x.1)&&(backToKw cpos (keywordEach [] X.env)).all (λx=>x.1.isSome)
   && decide ((e::es).length+([]:List DZ).length+(if ([]:List DZ).isEmpty then 0 else 1)<30))=true) L2.au3._auto_1)(hline:autoParam ((apos.endLine==cpos.line)=true) L2.au3._auto_1)(hs:autoParam (Θ (e::es) X.env=(false,A5 e X.env)::Θ es X.env) L2.au3._auto_1)(hplain:autoParam ((B4 cpos (Θ es X.env)).any (·.1)=false) L2.au3._auto_1) :
  PE X (.Call (.Attribute o name apos) (e::es) [] cpos) (tBM K T r to t):=by
 subst hK;exact wM pa slot hty hm ho ha hbase hfew hline hs hplain
theorem iL (hK:X.K=K):bY X (.builtin "isinstance") (r6 K):=by subst hK;exact aU
theorem gT (hK:X.K=K):IxR X (lV K):=by subst hK;exact bO
end
section
variable {X:Cx}
end
section
variable {X:Cx}{a b:Δ}{rest:List Δ}{pos:Pos}{ta tb:TE}
end
section
variable {X:Cx}{x y:Str}{i k:Nat}{p pos pos' py:Pos}
theorem uN (hN:X.N[i]? = some x)(hv:Vis X.env.scope x)(hr:Room k X.A)(hd:autoParam ((x==("__debug__" : Str))=false) L2.au1._auto_1)(hcd:autoParam ((x==("__classdict__" : Str))=false) L2.au1._auto_1)(hs:autoParam (Bs (.Call (.Name x p) [] [] pos) (some (.Name y py)) pos'.line X.env=pure false) L2.au3._auto_1):PX X [.Assign [.Name y py] (.Call (.Name x p) [] [] pos) pos'] (rE X k i):=by
 intro aa s σ H R I h;obtain⟨f,fd,sp,e1,hf,F,hb,hsp⟩:=h;refine wpAny_execs_cons (wpAny_Assign_Name (B8 (xY I hN hv e1 (λu r=>?_) hd hcd)) hs);cases (show u=As f from r);obtain⟨ho,_,_⟩:=I.hok f _ hf;refine PySem.W.callWith_F0 ⟨_,_,_,_,ho⟩ ?_;refine C5 (Bu (F.run X.A X.stack s H ⟨[],[]⟩ [] [] _ _ hr I.env0 (hb s [] I.kIn rfl) .nil hsp) λr s' hq=>?_);cases r with
 | error e =>
  obtain⟨a,C,dx,H',rfl,fl,ho,hg,U,ok,hE⟩:=hq;exact⟨a,C,dx,H',rfl,I.call' (s':=s') (ch:=[]) ho U ok hg (λ_ z=>nomatch z),fl,hE⟩
 | ok fl =>
  cases fl with
  | ret u =>
   obtain⟨_,_,_,_,_,_,_,z⟩:=hq;exact z.elim
  | next=>exact AG hq
  | brk=>exact AG hq
  | cont=>exact AG hq
def wE (K:γ)(CP:ε)(ie:Nat)(tb:TX)(ts:TS):TS:=λD σ H=>tb σ H λC dx H'=>PySem.W.exmOne K C (.ref CP)=some true /\
 ∀a,H' a=none->ts { nx:=λσ2 H2=>D.nx (σ2.set ie none) H2,rt:=D.rt } (σ.set ie (some (.ref a))) (upd H' a (dE dx a C))
theorem uO {body suite:List AD}{b0:AD}{cx n:Str}{CP:ε}{ie:Nat}{tb:TX}{ts:TS}{np pos pos':Pos}(hN:X.N.Nodup)(hi:X.N[ie]? = some n)(hn:X.env.scope.names.lookup n=some .local)(hx:X.ex=[])(hst:X.stack=X.env::X.ae)(hfr:X.env.frame=some X.env.locals)(hcl:X.env.cells=[])(hg:Gl X cx)(hm:X.mg cx=some (.ref CP))(hb:PX X body tb)(hs:∀v,PSs (X.marked v) (b0::suite) ts)(hd:autoParam ((cx==("__debug__" : Str))=false) L2.au1._auto_1) :
  PS X (.Try body [.ExceptHandler (some (.Name cx np)) (some n) (b0::suite) pos] [] [] pos') (wE X.K CP ie tb ts):=by
 intro aa s σ H D I h;refine wpAny_Try_except (AB (hb aa s σ H _ I h) (λ_ _ z=>z.elim) λe s1 hh=>?_);obtain⟨a,C,dx,H',ee,J,F,hmat,hR⟩:=hh;subst ee;obtain⟨T,Fl,g1,g2,f1,f2⟩:=F;have fr1:X.A.frames=some (X.env::X.ae):=by rw[<- hst];exact J.ok.frames
 have ff1:s1.heap.FunFrames X.ad (X.env::X.ae):=by rw[<- hst];exact J.stack
 refine o5 (ad:=X.ad) fr1 ff1 hfr Fl λh2 T2 a2 Fl2 N=>?_;refine cD (s:={ s1 with heap:=h2 }) Fl2 λh3 Fl3 k3 _=>?_;have neT2:∀b o,s1.heap.get? b=some o->b≠T2:=λb o q z=>absurd (ξ q) (by rw[z];exact Bd.mpr a2);have N3:Noted (frs X.stack) s1.heap h3 a (some T):=by rw[hst];refine⟨λb o x y z q=>k3 b o (neT2 b o q) (N.keep b o x y z q),λb o x q=>?_⟩;obtain⟨sl,q'⟩:=N.slot b o x q;exact⟨sl,k3 b _ (neT2 b o q) q'⟩
 have a0:=bB I hx g1;have t0:=bB I hx g2;have locs:∃o,s.heap.get? X.env.locals=some o:=let ⟨_,⟨o,_,_,q,_⟩,_⟩:=I.loc;⟨o,q⟩;have ne_a:∀b o,s.heap.get? b=some o->b≠a:=λb o q z=>by rw[z,g1] at q;cases q
 have ne_T:∀b o,s.heap.get? b=some o->b≠T:=λb o q z=>by rw[z,g2] at q;cases q
 have La:X.env.locals≠a:=let ⟨o,q⟩:=locs;ne_a _ o q;have nocell:∀x c,X.env.cells.lookup x=some c->False:=λx c q=>by rw[hcl] at q;cases q
 have J3:Inv X aa σ H' { s1 with heap:=h3 }:=by refine J.after_note N3 hx f1 a0 (λt z=>by cases z;exact⟨f2,t0⟩) (λp hp=>⟨ne_a _ _ (I.pin p hp).1,λz=>ne_T _ _ (I.pin p hp).1 (AA z)⟩) (λx c q=>(nocell x c q).elim) (λx c q=>(nocell x c q).elim) ⟨La,λz=>?_⟩;obtain⟨o,q⟩:=locs;exact ne_T _ o q (AA z)
 obtain⟨⟨vs,sl,hea,_⟩,_,_⟩:=id Fl3;refine wpAny_handleBy_cons (codeAny_handlers_test ?_) (by intro q;cases q);refine c9 (X:=X.marked (some (.ref a))) (J3.mark _) hg hm ?_ hd;have LM:=PySem.W.exm_one (M:=χ X.prog X.w) J3.kIn (pL hea) hmat;refine LM _ _ _ { s1 with heap:=h3 } (λ_ _ q=>q) ?_;refine codeAny_handlers_suite_as (cD (s:={ s1 with heap:=h3 }) Fl3 λh4 Fl4 k4 _=>?_);have N4:Noted (frs X.stack) h3 h4 a (some T2):=⟨λb o _ _ z q=>k4 b o (λw=>z (by rw[w])) q,λb o x q=>⟨o.slots,k4 b o (λw=>?_) q⟩⟩
 rotate_left
 ·have:=J3.stack;obtain⟨_,o',q',hnf⟩:=this.mem x;obtain⟨oT,ts',q2,q3,_⟩:=Fl3.tr;rw[w] at q';rw[show ({ s1 with heap:=h3 }:η).heap.get? T2=some oT from q2] at q';cases q';exact hnf ts' q3
 have T2free:H' T2=none:=J.hok.free_of (Ak a2);have T2new:X.s₀.heap.get? T2=none:=bB J hx (Ak a2);have J4:Inv X aa σ H' { s1 with heap:=h4 }:=by refine J3.after_note N4 hx f1 a0 (λt z=>by cases z;exact⟨T2free,T2new⟩) (λp hp=>⟨ne_a _ _ (I.pin p hp).1,λz=>neT2 _ _ (J.pin p hp).1 (AA z)⟩) (λx c q=>(nocell x c q).elim) (λx c q=>(nocell x c q).elim) ⟨La,λz=>?_⟩;obtain⟨_,⟨o,_,_,q,_⟩,_⟩:=J.loc;exact neT2 _ o q (AA z)
 have J5:Inv X aa σ (upd H' a (dE dx a C)) { s1 with heap:=h4 }:=by refine J4.track f1 a0 (λH2=>vQ ?_) La.symm (λx c q=>(nocell x c q).elim) (λp hp=>ne_a _ _ (I.pin p hp).1) hx (λ_ _ z=>by cases z);obtain⟨⟨vs',sl',q,_⟩,_,_⟩:=Fl4;exact⟨vs',sl',q⟩
 refine bQ (X:=X.marked (some (.ref a))) (J5.mark _) hN hi (.inl hn) (v:=.ref a) rfl (λs5 J6=>?_) (.inr hn);refine AB (hs (some (.ref a)) aa s5 _ _ _ J6 (hR a f1)) (λfl s6 q=>?_) (λ_ _ z=>z.elim);cases fl with
 | next =>
  obtain⟨σ6,H6,J7,q⟩:=q;have J8:Inv X aa σ6 H6 s6:=J7.unmark I.ok;obtain⟨m,hns,hl⟩:=id J8.loc;refine wpAny_nameGoes_keeps (show X.env.kindOf n=some .local from hn) hns (by rw[I.ok.kind];rfl) λh' v hn' sb=>?_;refine⟨σ6.set ie none,H6,J8.frame (σ':=σ6.set ie none) (m':=λx=>if x=n then v else m x) (λb hb=>sb.2 b hb) hn' (λi x u e1 e2 e3=>?_) (by rw[Co]),q⟩;have ne:i≠ie:=λz=>by
   subst z;have hlt:i<σ6.length:=by rw[J8.len];exact(A0.mp e1).1
   rw[B3 hlt] at e2;cases e2
  have nx:x≠n:=λz=>ne (dW hN e1 (z ▸ hi));rw[BG ne.symm] at e2;obtain⟨u',r,l⟩:=hl i x u e1 e2 e3;refine⟨u',r,?_⟩;rcases l with ⟨l1,l2⟩ | ⟨_,c,e,_⟩
  ·exact .inl ⟨l1,by show (if x=n then v else m x)=some u';rw[if_neg nx];exact l2⟩
  ·exact(nocell x c e).elim
 | brk=>obtain⟨_,_,_,z⟩:=q;exact z.elim
 | cont=>obtain⟨_,_,_,z⟩:=q;exact z.elim
 | ret u =>
  obtain⟨v0,σ6,H6,J7,rv0,q⟩:=q;have J8:Inv X aa σ6 H6 s6:=J7.unmark I.ok;obtain⟨m,hns,hl⟩:=id J8.loc;refine wpAny_nameGoes_keeps (show X.env.kindOf n=some .local from hn) hns (by rw[I.ok.kind];rfl) λh' v hn' sb=>?_;refine⟨v0,σ6.set ie none,H6,J8.frame (σ':=σ6.set ie none) (m':=λx=>if x=n then v else m x) (λb hb=>sb.2 b hb) hn' (λi x u9 e1 e2 e3=>?_) (by rw[Co]),rv0,q⟩;have ne:i≠ie:=λz=>by
   subst z;have hlt:i<σ6.length:=by rw[J8.len];exact(A0.mp e1).1
   rw[B3 hlt] at e2;cases e2
  have nx:x≠n:=λz=>ne (dW hN e1 (z ▸ hi));rw[BG ne.symm] at e2;obtain⟨u',r,l⟩:=hl i x u9 e1 e2 e3;refine⟨u',r,?_⟩;rcases l with ⟨l1,l2⟩ | ⟨_,c,e,_⟩
  ·exact .inl ⟨l1,by show (if x=n then v else m x)=some u';rw[if_neg nx];exact l2⟩
  ·exact(nocell x c e).elim
end
section
variable {X:Cx}
theorem sL {t t':TE}(h:PE X e t)(i:∀ σ H Q,t' σ H Q->t σ H Q):PE X e t':=λaa s σ H Q I q=>h aa s σ H Q I (i σ H Q q)
end
section
variable {X:Cx}{pos:Pos}
theorem items_int:∀ {us:List δ},(∀u∈us,∃i t,u=.int i t)->∃xs:List (Int×Tok),us=xs.map λp=>Dk p.1 p.2
 | [],_=>⟨[],rfl⟩
 | u::us,h=>by obtain⟨xs,e⟩:=items_int λx hx=>h x (AQ _ hx);obtain⟨i,t,rfl⟩:=h u AL;exact⟨(i,t)::xs,by rw[e];rfl⟩
end
section
variable {X:Cx}
end
theorem aK {t u:TS}{D:Ends}{σ:St}{H:Hp}(h:∀R:TS,R=u->dM t R D σ H):dM t u D σ H:=h u rfl
def FR (lo:Int)(n:Nat)(g:TG)(tb:TS)(D:Ends)(σ:St)(H:Hp):Prop:=∃W:Nat->Nat->St->Hp->Prop,(∃m,W 0 m σ H)/\∀i m σ H,W i m σ H ->
   ((Itr lo n).stop i H/\D.nx σ H)\/((Itr lo n).go i H/\∃N:St->Hp->Prop,(∀ σ' H',N σ' H'->∃m',m'<m/\W (i+1) m' σ' H')/\∀x H',(Itr lo n).yld i H x H'->g x σ H' λσ2 H2=>tb { D with nx:=N,ct:=N,bk:=D.nx } σ2 H2)
theorem dN {ta:TA}{g:TG}{tb:TS}{D:Ends}{σ:St}{H:Hp}(h:ta σ H λvs H1=>∃j:Int,vs=[.int j] /\ -(2^62)<=j/\j<2^62/\FR 0 j.toNat g tb D σ H1):lN (tN ta) g tb D σ H:=h
theorem pI {lo:Int}{n:Nat}{g:TG}{tb:TS}{D:Ends}{σ:St}{H:Hp}(Pv:Nat->St->Hp->Prop)(h0:Pv 0 σ H)(hs:∀i σ H,i<n->Pv i σ H->g (.int (lo+i)) σ H λσ2 H2=>tb { D with nx:=Pv (i+1),ct:=Pv (i+1),bk:=D.nx } σ2 H2)(hd:∀ σ H,Pv n σ H->D.nx σ H):FR lo n g tb D σ H:=jL Pv h0 hs hd
def pV (Pt:ε)(H:Hp):Prop:=∀b,H b=none\/(∃o xs,H b=some (.frz o (.lst xs)))\/(b=Pt/\H b=some (.tbl #[]))
theorem qN {P:ρ}{w:Γ}{K:γ}{mg mb:Str->Option δ}{CX:CXT}{k:Nat}{a c:ε}{fd:AC}{x:Str}{sp:Sp}{s₁:η}{vs:List δ}{ns:List Int}(KX:K.In s₁.heap)(hns:s₁.heap.Ns A4 mg)(hb:s₁.heap.Ns DT mb)(hbb:∀x:Str,x ≠ "__name__" -> mb x=BJ x)(hlim:s₁.heap.NoLimit)(hg:s₁.gens=#[])(hbm:∃bm ob,mg "__builtins__" = some (.ref bm)/\bm≠DT/\s₁.heap.get? bm=some ob/\ob.cls=.type "module" /\ ob.dict=some DT/\ob.data=.plain)(hC:C8 s₁.heap c Pt)(hP:s₁.heap.get? Pt=some (C9 #[]))(hPK:K.lookup Pt=none)(ha:s₁.heap.get? a=some { cls:=.type "list",data:=.seq vs.toArray })(hi:C6 vs ns)(hl:ns.length<=ψ)(hr:Room k D7)(F:∀ad:ω,K.In ad->ad.Ns A4 mg->ad.BuiltinsAt mg Pt->FnOk P w K mg ad CX k fa fd [x] sp)(hbind:∀(s:η) (u:δ),D5 s fd ⟨[u],[]⟩ [(x,u)])(hsp:∀H:Hp,pV Pt H->SqL K H a (ns.map V.int)->H Pt=some (.tbl #[])->sp [.ref a] H (λv _=>v=.bl true) λ_ _ _=>False)(hCX:∀H e s',CX [] H s₁ (λ_ _ _=>False) e s'->False) :
  D6 (χ P w) D7 (.call (.ref fa) ⟨[.ref a],[]⟩) (λr s'=>r=.ok (.ret (.bool true))/\OldK s₁.heap s'.heap/\s'.os=s₁.os/\C2 s'.gens) s₁:=by
 have rv:=iN hi;have lenV:=hi.length;have aP:a≠Pt:=λz=>by rw[z,hP] at ha;cases ha
 have core:∀H:Hp,pV Pt H->H Pt=some (.tbl #[])->SqL K H a (ns.map V.int)->HOk P w H s₁.heap->(∀b,H b≠none->b=a\/b=Pt)->(H a≠none->K.lookup a=none) ->
   D6 (χ P w) D7 (.call (.ref fa) ⟨[.ref a],[]⟩) (λr s'=>r=.ok (.ret (.bool true))/\OldK s₁.heap s'.heap/\s'.os=s₁.os/\C2 s'.gens) s₁:=by
  intro H hO hT hS hok hA hK;have base_of:∀ {b:ε} {o:Obj},s₁.heap.get? b=some o->H b=none->(iI s₁.heap H).get? b=some o:=λe n=>tQ e n;have noD:∀ {b:ε} {o:Obj},s₁.heap.get? b=some o->(∀its n,o.data ≠ .seq its n)->(∀qs,o.data ≠ .fields qs)->H b=none:=λ{b o} e d1 d2=>by
   cases q:H b with
   | none=>rfl
   | some u =>
    rcases hA b (by rw[q];simp) with e' | e'
    ·subst e';rw[ha] at e;cases e;exact absurd rfl (d1 _ _)
    ·subst e';rw[hP] at e;cases e;exact absurd rfl (d2 _)
  have nsK:∀ {b:ε} {m:Str->Option δ},s₁.heap.Ns b m->(iI s₁.heap H).Ns b m:=λ{b m} ⟨o,es,ep,e,d,r⟩=>⟨o,es,ep,base_of e (noD e (λ_ _ z=>by rw[d] at z;cases z) (λ_ z=>by rw[d] at z;cases z)),d,r⟩;have hKb:K.In (iI s₁.heap H):=λb o e=>base_of (KX b o e) (by
   cases q:H b with
   | none=>rfl
   | some u =>
    rcases hA b (by rw[q];simp) with e' | e'
    ·subst e';rw[hK (by rw[q];simp)] at e;cases e
    ·subst e';rw[hPK] at e;cases e)
  have hM:Mod K mg (iI s₁.heap H):=⟨hKb,nsK hns,⟨mb,nsK hb,hbb⟩,let ⟨mc,h1,h2⟩:=hlim;⟨mc,nsK h1,h2⟩⟩;have hB:(iI s₁.heap H).BuiltinsAt mg Pt:=by
   obtain⟨bm,ob,b1,b2,b3,b4,b5,b6⟩:=hbm;refine⟨bm,ob,b1,b2,λz=>?_,λz=>?_,base_of b3 (noD b3 (λ_ _ z=>by rw[b6] at z;cases z) (λ_ z=>by rw[b6] at z;cases z)),b4,b5,b6⟩
   ·obtain⟨o,es,ep,e,d,_⟩:=hns;rw[z,e] at b3;cases b3;rw[d] at b6;cases b6
   ·rw[z,hP] at b3;cases b3;cases b4
  have e0:Env0 P w K mg (iI s₁.heap H) D7 [] s₁ H:=⟨rfl,hM,λb o e=>u0 e,Dc (qS _ _),trivial,λb hb=>absurd (show b∈([]:List ε) from hb) 'C',hok,.of_eq hg⟩;refine Bu ((F _ hKb (nsK hns) hB).run D7 [] s₁ H ⟨[.ref a],[]⟩ [.ref a] [.ref a] _ _ hr e0 (hbind s₁ (.ref a)) (.cons rfl .nil) (hsp H hO hS hT)) λr s' h=>?_;cases r with
  | error e=>exact(hCX H e s' h).elim
  | ok fl =>
   cases fl with
   | next=>exact AG h
   | brk=>exact AG h
   | cont=>exact AG h
   | ret u =>
    obtain⟨v,H',os,bare,un,hok',r',q⟩:=h;have q':v=.bl true:=q;subst q';obtain rfl:u=BF true:=r';obtain⟨more,hT'⟩:=un.tbls Pt _ hT;have hP':s'.heap.get? Pt=some (C9 (#[]++more)):=hok' Pt _ hT';have keep:∀b o,b≠Pt->s₁.heap.get? b=some o->s'.heap.get? b=some o:=λb o nb e=>by
     cases q:H b with
     | none=>exact un.keep b o e q (by intro z;exact absurd (show b∈([]:List ε) from z) 'C') 'C'
     | some u =>
      rcases hO b with z | ⟨ob,xs,z⟩ | ⟨z,_⟩
      ·rw[q] at z;cases z
      ·have z2:=un.frzs b ob _ z;obtain⟨e1,_⟩:=hok b _ z;obtain⟨e2,_⟩:=hok' b _ z2;rw[e] at e1;cases e1;exact e2
      ·exact absurd z nb
    refine⟨rfl,⟨λb o e=>?_,λb o e=>?_⟩,os,bare⟩
    ·by_cases z:b=Pt
     ·subst z;rw[hP] at e;cases e;obtain⟨oc,vsc,_,_,_,_,_,_,_,e1,e2,e3,e4,_⟩:=hC;exact .inr (.inl ⟨⟨c,oc,vsc,e1,e2,e3,e4⟩,rfl,#[],more,rfl,hP'⟩)
     ·exact .inl (keep b o z e)
    ·by_cases z:b=Pt
     ·subst z;exact⟨_,hP'⟩
     ·exact⟨o,keep b o z e⟩
 cases hk:K.lookup a with
 | some o =>
  have e:=KX a o hk;rw[ha] at e;cases e;refine core (λb=>if b=Pt then some (.tbl #[]) else none) (λb=>?_) (if_pos rfl) (.inr ⟨_,vs.toArray,_,hk,rfl,rfl,rfl,by rw[ν,lenV];exact hl,by simpa using rv⟩) (λb u z=>?_) (λb z=>?_) (λz=>absurd (if_neg aP) z)
  ·by_cases hb:b=Pt
   ·exact .inr (.inr ⟨hb,if_pos hb⟩)
   ·exact .inl (if_neg hb)
  ·by_cases hb:b=Pt
   ·have z':=(if_pos hb).symm.trans z;cases z';subst hb;exact hP
   ·have z':=(if_neg hb).symm.trans z;cases z'
  ·by_cases hb:b=Pt
   ·exact .inr hb
   ·exact absurd (if_neg hb) z
 | none =>
  refine core (λb=>if b=a then some (.frz { cls:=.type "list",data:=.seq vs.toArray } (.lst (ns.map V.int))) else if b=Pt then some (.tbl #[]) else none) (λb=>?_) ((if_neg aP.symm).trans (if_pos rfl)) (.inl (.inr ⟨{ cls:=.type "list",data:=.seq vs.toArray },if_pos rfl⟩)) (λb u z=>?_) (λb z=>?_) λ_=>hk
  ·by_cases hb:b=a
   ·exact .inr (.inl ⟨_,_,if_pos hb⟩)
   ·by_cases hb2:b=Pt
    ·exact .inr (.inr ⟨hb2,(if_neg hb).trans (if_pos hb2)⟩)
    ·exact .inl ((if_neg hb).trans (if_neg hb2))
  ·by_cases hb:b=a
   ·have z':=(if_pos hb).symm.trans z;cases z';subst hb;exact⟨ha,by rw[Ω];exact hl,vs,_,rv,ha⟩
   ·have z':=(if_neg hb).symm.trans z;by_cases hb2:b=Pt
    ·have z':=(if_pos hb2).symm.trans z';cases z';subst hb2;exact hP
    ·have z':=(if_neg hb2).symm.trans z';cases z'
  ·by_cases hb:b=a
   ·exact .inl hb
   ·by_cases hb2:b=Pt
    ·exact .inr hb2
    ·exact absurd ((if_neg hb).trans (if_neg hb2)) z
theorem rF {l:Bp}{n k:Nat}{q:ρ}{d:DefRec}{K:DE->γ}{CX:Γ->CXT}{sp:Γ->γ->Sp}{x:Str}(hn:l.most=some n)(hn2:n<=ψ)(hdf:d.params.defaults=[])(hr:Room k D7)(hY:∀(w:Γ) (h:ω),YP w h->(K w.params).In h/\h.get? Pt=some (C9 #[]))(F:∀(w:Γ) (mg:Str->Option δ) (fa:ε) (h:ω),(K w.params).In h->h.Ns A4 mg->XP mg h->mg d.name=some (.ref fa) ->
   ∃(fd:AC) (c:ε),CU (K w.params) c Pt=true/\(K w.params).lookup Pt=none/\(∀(s:η) (u:δ),D5 s fd ⟨[u],[]⟩ [(x,u)]) /\
    ∀ad:ω,(K w.params).In ad->ad.Ns A4 mg->ad.BuiltinsAt mg Pt->FnOk l.prog w (K w.params) mg ad (CX w) k fa fd [x] (sp w (K w.params)))(hsp:∀(w:Γ) (K:γ) (H:Hp) (a:ε) (ns:List Int),ns.length<=n->pV Pt H->SqL K H a (ns.map V.int)->H Pt=some (.tbl #[])->sp w K [.ref a] H (λv _=>v=.bl true) λ_ _ _=>False)(hCX:∀(w:Γ) (H:Hp) (s:η) (e:δ) (s':η),CX w [] H s (λ_ _ _=>False) e s'->False) :
  PySem.W.WalkO q loose XP YP l.row.toRowW d [] (λf vs=>Ag f vs):=by
 refine Att.attach_call hn hdf λw s₀ s₁ mg mb fa o pm cd doc a vs ns G Y ho hd hcd hmg hobj hints hlen hg=>?_;obtain⟨KX,hP⟩:=hY w _ Y;obtain⟨fd,c,hC,hPK,hb,hF⟩:=F w mg fa _ KX G.T.g G.X hmg;exact qN KX G.T.g G.T.b G.T.builtins G.T.nolimit hg G.T.bmain (PySem.W.codeHd_of_K KX hC) hP hPK hobj hints (AN hlen hn2) hr hF hb (λH hO hS hT=>hsp w (K w.params) H a ns hlen hO hS hT) λH e s'=>hCX w H s₁ e s'
theorem vO {prog:ρ}{w:Γ}{A:Around}{E:δ->η->Prop}{K:γ}{a d:ε}{od:Obj}{f:Str}{v:δ}(c:XCls K C)(X:K.In s.heap)(e:s.heap.get? a=some (EO (some d) (.ref C) vs sl))(hod:s.heap.get? d=some od)(hf:findObj K C (some od) f=some (.value v))(hv:handedOut v=pure v)(q:Q v { s with toks:=s.toks+1 }):τ (χ prog w) A (getAttr (.ref a) f true) Q E s:=by
 have I:Dq s.heap a (EO (some d) (.ref C) vs sl) C (some od):=⟨e,rfl,rfl,hod⟩;obtain⟨hh,g,dd,t,os⟩:=s;have L0:=I.type (M:=χ prog w);have L1:=Df (M:=χ prog w) X c.ga;have L2:=Df (M:=χ prog w) X c.gt;have L3:=looks_find (M:=χ prog w) X I hf;unfold getAttr getAttrBy;refine θ (wpAny_mkText (Aj (θ (L0.at (θ (L1.at ?_))))));show τ _ _ (Cw _ _ _ _ _ _) _ _ _;unfold Cw;refine θ (L2.at (θ (wpAny_attempt (Aj ?_))));show τ _ _ (D8 _ _ _) _ _ _;unfold D8;have hbs:bindSpecial (.builtin "BaseException.__getattribute__") (.ref a)=pure (.builtin "BaseException.__getattribute__",[.ref a]):=by
  have hop:D9 "BaseException.__getattribute__" "#opaque" = none:=by decide +kernel
  have hdat:D9 "BaseException.__getattribute__" "#data" = none:=by decide +kernel
  have hk:builtinKind "BaseException.__getattribute__" = some .slot:=by decide +kernel
  simp only[bindSpecial,DD,builtinType,hop,hdat,hk];rfl
 rw[hbs];refine θ (υ ?_);have L4:=looks_subIn (M:=χ prog w) X c.sb;refine C5 (codeAny_call_builtin (by decide +kernel) F.entry_bexc_ga ?_);have hk:builtinKind "BaseException.__getattribute__" = some .slot:=by decide +kernel
 have hsplit:splitId "BaseException.__getattribute__" = some ("BaseException","__getattribute__"):=by decide +kernel
 have ha:=F.args_bexc_ga (.ref a) (.str f t);simp only[checkBuiltinCall,hk,hsplit];have LI:Looks (χ prog w) hh (isInstance (.ref a) (.type "BaseException")) true:=L0.andThen L4;refine θ (LI.at ?_);rw[if_neg 'A'];refine AB (Q:=λ_ s'=>s'=(⟨hh,g,dd,t+1,os⟩:η)) (E:=λ_ _=>False) ?_ (λ_ s' z=>?_) (λ_ _ z=>z.elim)
 ·repeat (first | assumption | rfl | wp_step)
 ·subst z;unfold Builtin.«object.__getattribute__»;refine θ (υ ?_);refine θ (υ ?_);refine θ (L0.at (θ (L3.at ?_)));show τ _ _ (ret v) _ _ _;refine υ ?_;show τ _ _ (handedOut v) _ _ _;rw[hv];exact υ q
structure NoAttrX (K:γ)(C:ε)(f:Str):Prop where
 no:Al K (.ref C) f=some none
 cp:copiedNames.contains f=false
section
variable {X:Cx}{e:Δ}{f:Str}{pos:Pos}{ta:TE}
def wG (K:γ)(ta:TE)(f:Str):TE:=λσ H Q=>ta σ H λx H1=>∃a C d fs v,x=.ref a/\H1 a=some (dE (some d) a (.ref C))/\H1 d=some (.xd fs)/\XCls K C/\Al K (.ref C) f=some none/\fs.lookup f=some v/\Q v H1
theorem uX (he:PE X e ta)(hb:BD e f X.env (A5 e X.env)=A5 e X.env):PE X (.Attribute e f pos) (wG X.K ta f):=by intro aa s σ H Q I h;refine vX hb (thn (he aa s σ H _ I h) λu s1 hh=>?_);obtain⟨x,H1,I1,rx,a,C,d,fs,v,ex,ea,ed,c,n,l,q⟩:=hh;subst ex;obtain rfl:u=As a:=rx;obtain⟨⟨vs,sl,ho⟩,_,_⟩:=(show ObjOk X.prog X.w H1 s1.heap a (dE (some d) a (.ref C)) from I1.hok a _ ea);obtain⟨mA,hN,r⟩:=(show ObjOk X.prog X.w H1 s1.heap d (.xd fs) from I1.hok d _ ed);obtain⟨w,hw,rw'⟩:=RelO.some_of (v:=v) (o:=mA f) (by rw[<- l];exact r f);obtain⟨od,hd,hl⟩:=jF hN;exact vO c I1.kIn ho hd (PySem.W.findObj_own c.hd n rfl (by rw[hl,hw])) (PySem.W.handedOut_of (qT rw')) ⟨v,H1,I1.tok _,rw',q⟩
end
section
variable {X:Cx}{k i:Nat}{x:Str}{p pos pos':Pos}
theorem l7 {K:γ}{f:Str}{ta:TE}(hK:X.K=K)(he:PE X e ta)(hb:BD e f X.env (A5 e X.env)=A5 e X.env):PE X (.Attribute e f pos) (wG K ta f):=by subst hK;exact uX he hb
end
noncomputable def wC (lo:Int)(n:Nat):It:=⟨λi _=>i<n,λi H x H'=>H'=H/\x=.int (lo+(i:Int)*2),λi _=>n<=i⟩
theorem lI {P:ρ}{w:Γ}{K:γ}{tg:Δ}(it:ε)(lo:Int)(n:Nat):Turn P w K tg (wC lo n) [it] it (λi h=>CD h it (lo+(i:Nat)*2) ((n:Int)-(i:Nat)) 2) where
 mem:=by simp
 obj:=λi h st b hb=>by
  have e:b=it:=by simpa using hb
  subst e;exact⟨_,st,λv z=>nomatch (show Data.fields _=Data.cell v from z)⟩
 keep:=λi h h' st k=>k it 'C' _ st
 item:=by intro X hP hw hK hc i aa s σ H E I hf st hg;subst hP hw hK;obtain⟨f0,f1,f2,f3,f4,f5⟩:=hf it 'C';have W:=Walks.range (prog:=X.prog) (w:=X.w) (I.ok.hd hc) it lo 2 n;refine W.item i s _ _ hg st λv h' tk hv st' kk=>?_;obtain⟨t,rfl⟩:=hv;have I1:Inv X aa σ H { s with heap:=h',toks:=tk }:=I.turned (λb o hb e=>kk b o (by simpa using hb) e) f0 f1 f3 f4 f5;exact⟨_,rfl,mQ (s:={ s with heap:=h',toks:=tk }) (n := "range_iterator") st' rfl rfl 'A' ⟨.int (lo+(i:Int)*2),H,I1,⟨t,rfl⟩,⟨rfl,rfl⟩,st',λb hb=>(hf b hb).1⟩⟩
 done:=by intro X hP hw hK hc i aa s σ H E I hf st hg;subst hP hw hK;obtain⟨f0,f1,f2,f3,f4,f5⟩:=hf it 'C';exact CF (I.ok.hd hc) st (by have:n<=i:=hg;lia) λh' eb=>⟨rfl,I.turned (t':=s.toks) (λb o hb e=>eb b o hb e) f0 f1 f3 f4 f5⟩
 self:=λ_ _ _ _ _ st h=>CG st h
section
variable {X:Cx}{tg:Δ}
noncomputable def nS (lo hi:Int):Nat:=if lo<hi then ((hi-lo-1)/2+1).toNat else 0
theorem pB (lo hi:Int):((nS lo hi:Nat):Int)=AZ lo hi 2:=by
 unfold nS AZ;rw[if_pos (show (2:Int)>0 by decide)]
 split <;> lia
theorem qB {a b:Int}(ha : -(2^62)<=a)(ha':a<2^62)(hb : -(2^62)<=b)(hb':b<2^62):Bm a b 2=true:=by
 unfold Bm;rw[<- pB];unfold nS;simp only[DF,Ξ,BV,decide_eq_true_eq,beq_iff_eq,show (2:Int)>0 by decide,if_true]
 split <;> lia
theorem qD {σ:St}{H:Hp}{R:It->Hp->Prop}{E:δ->η->Prop}{lo:Int}{t u v:Tok}{tk:Nat}(I:Inv X aa σ H s)(h1 : -(2^62)<=lo)(h2:lo<2^62)(h3 : -(2^62)<=hi)(h4:hi<2^62)(q:R (wC lo (nS lo hi)) H):τ (χ X.prog X.w) X.A (pyIter (.ref s.heap.objs.size)) (PIE X aa σ tg R) E { s with heap:=s.heap.push { cls:=.type "range",data:=.fields #[.int lo t,.int hi u,.int 2 v] },toks:=tk }:=by
 refine DB (IsRange.new ..) (qB h1 h2 h3 h4) ?_;have I1:Inv X aa σ H { s with heap:=s.heap.push { cls:=.type "range",data:=.fields #[.int lo t,.int hi u,.int 2 v] },toks:=tk }:=I.kept λb o e=>μ _ e;refine⟨(s.heap.push { cls:=.type "range",data:=.fields #[.int lo t,.int hi u,.int 2 v] }).objs.size,[(s.heap.push { cls:=.type "range",data:=.fields #[.int lo t,.int hi u,.int 2 v] }).objs.size],_,_,H,rfl,
  I1.kept (t':=tk) λb o e=>μ _ e,lI _ lo (nS lo hi),?_,λb hb=>?_,q⟩
 ·have e1:lo+((0:Nat):Int)*2=lo:=by simp
  have e2:((nS lo hi:Nat):Int)-((0:Nat):Int)=AZ lo hi 2:=by rw[<- pB];simp
  show CD _ _ (lo+((0:Nat):Int)*2) (((nS lo hi:Nat):Int)-((0:Nat):Int)) 2;rw[e1,e2];exact A9 _ rfl
 ·have e:b=(s.heap.push { cls:=.type "range",data:=.fields #[.int lo t,.int hi u,.int 2 v] }).objs.size:=by simpa using hb
  subst e;exact I1.fpOk (ο _) (I1.hok.fresh (ο _))
def wT (ta:TA):TI:=λσ H R=>ta σ H λvs H1=>∃i j:Int,vs=[.int i,.int j,.int 2]/\(-(2^61)<=i/\i<2^61 /\ -(2^61)<=j/\j<2^61)/\R (wC i (nS i j)) H1
theorem qH {a b c:Δ}{ta:TA}{p:Pos}(hg:Gl X "range")(hm:X.mg "range" = none)(ha:PA X [a,b,c] ta)(hs:autoParam (Θ [a,b,c] X.env=[(false,A5 a X.env),(false,A5 b X.env),(false,A5 c X.env)]) L2.au3._auto_1)(hs2:autoParam (Θ [b,c] X.env=[(false,A5 b X.env),(false,A5 c X.env)]) L2.au3._auto_1) :
  PI X tg (.Call (.Name "range" p) [a,b,c] [] pos) (wT ta):=by
 intro aa s σ H R I h;refine Call_ (eU I hg hm boot_range (B7 (thn (ha pos aa s σ H _ I h) λus s1 hh=>?_) (by rw[hs,hs2]) (by rw[hs2];rfl)));obtain⟨vs,H1,I1,r1,q1⟩:=hh;obtain⟨i,j,e,⟨q1,q2,q3,q4⟩,q⟩:=q1;subst e;cases r1 with
 | cons r rr =>
  cases rr with
  | cons r' rr =>
   cases rr with
   | cons r'' rr =>
    cases rr;obtain⟨t,rfl⟩:=r;obtain⟨t',rfl⟩:=r';obtain⟨t'',rfl⟩:=r'';exact call_range_3 'A' (qD I1 'B' 'B' 'B' 'B' q) (.inl (PyProof.noPylong_small 'A'))
end
section
variable {g:TG}{tt:TT}{te:TE}{D:ε}{Q:VK}{σ:St}{H:Hp}
theorem mV {lo:Int}{n:Nat}(Pv:Nat->St->Hp->Prop)(h0:Pv 0 σ H)(hs:∀i σ H,i<n->Pv i σ H->CT g tt te D (Pv (i+1)) (.int (lo+(i:Int)*2)) σ H)(hd:∀ σ H,Pv n σ H->Q (.ref D) H):CW (wC lo n) g tt te D Q σ H:=by
 refine⟨λi m σ H=>m=n-i/\i<=n/\Pv i σ H,⟨n,by simp,AY _,h0⟩,?_⟩
 rintro i m σ H ⟨rfl,hi,p⟩
 by_cases hlt:i<n
 ·refine .inr ⟨hlt,Pv (i+1),λσ' H' p'=>⟨n-(i+1),by lia,rfl,hlt,p'⟩,λx H' y=>?_⟩;obtain⟨e,rfl⟩:=y;subst e;exact hs i σ _ hlt p
 ·have e:i=n:=by lia
  subst e;exact .inl ⟨ο _,hd σ H p⟩
end
end L2
namespace MM
def Cg (n a b:Int):Prop:=n∣a-b
theorem Cg.refl (n a:Int):Cg n a a:=⟨0,by lia⟩
theorem Cg.trans {n a b c:Int}(h:Cg n a b)(g:Cg n b c):Cg n a c:=by obtain⟨k,h⟩:=h;obtain⟨l,g⟩:=g;exact⟨k+l,by grind⟩
theorem Cg.mul {n a b c:Int}(h:Cg n a b)(g:Cg n c d):Cg n (a*c) (b*d):=by obtain⟨k,h⟩:=h;obtain⟨l,g⟩:=g;exact⟨a*l+d*k,by grind⟩
theorem Cg.pow {n a b:Int}(h:Cg n a b)(k:Nat):Cg n (a^k) (b^k):=by
 induction k with
 | zero=>rw[Cy,Cy];exact Cg.refl _ _
 | succ k ih=>rw[Ab,Ab];exact ih.mul h
theorem g6 (n a:Int):Cg n (a%n) a:=⟨-(a/n),by have:=Int.emod_add_mul_ediv a n;grind⟩
theorem zA {n a b:Int}(h:Cg n a b):a%n=b%n:=Int.emod_eq_emod_iff_emod_sub_eq_zero.mpr (Int.emod_eq_zero_of_dvd h)
theorem vV {n a b:Int}(h:Cg n a b)(h0:0<=a)(h1:a<n):a=b%n:=by have:=zA h;rw[Int.emod_eq_of_lt h0 h1] at this;exact this
structure PowInv (ad often n done square left:Int):Prop where
 d0:0<=done
 d1:done<n
 s0:0<=square
 s1:square<n
 l0:0<=left
 cg:Cg n (done*square^left.toNat) (ad^often.toNat)
theorem i8 {ad n:Int}(hn:0<n)(ho:0<=often):PowInv ad often n (1%n) (ad%n) often :=
 ⟨AI _ 'B',A8 _ hn,AI _ 'B',A8 _ hn,ho,by
  have:=(g6 n 1).mul ((g6 n ad).pow often.toNat)
  rwa [Int.one_mul] at this⟩
theorem rW (a:Int)(k:Nat):(a*a)^k=a^(2*k):=by
 induction k with
 | zero=>simp
 | succ k ih=>rw[Ab,ih,show 2*(k+1)=2*k+1+1 by lia,Ab,Ab,Int.mul_assoc]
theorem lY {ad n done:Int}(hn:0<n)(h:PowInv ad often n done square left)(hl:left%2≠1):PowInv ad often n done (square*square%n) (left/2):=by
 refine⟨h.d0,h.d1,AI _ 'B',A8 _ hn,by have:=h.l0;lia,?_⟩;have e:left.toNat=2*(left/2).toNat:=by have:=h.l0;lia
 have:=(Cg.refl n done).mul ((g6 n (square*square)).pow (left/2).toNat);refine this.trans ?_;rw[rW,<- e];exact h.cg
theorem oW {ad n done:Int}(hn:0<n)(h:PowInv ad often n done square left)(hl:left%2=1):PowInv ad often n (done*square%n) (square*square%n) (left/2):=by
 refine⟨AI _ 'B',A8 _ hn,AI _ 'B',A8 _ hn,by have:=h.l0;lia,?_⟩;have e:left.toNat=2*(left/2).toNat+1:=by have:=h.l0;lia
 have:=(g6 n (done*square)).mul ((g6 n (square*square)).pow (left/2).toNat);refine this.trans ?_;have e2:done*square*(square*square)^(left/2).toNat=done*square^left.toNat:=by rw[e,rW,Ab];grind
 rw[e2];exact h.cg
theorem oX {ad n done:Int}(h:PowInv ad often n done square left)(hl:¬ 0<left):done=ad^often.toNat%n:=by
 have e:left.toNat=0:=by lia
 have c:=h.cg;rw[e,Cy,Int.mul_one] at c;exact vV c h.d0 h.d1
structure GcdInv (a b great small:Int):Prop where
 g0:0<=great
 s0:0<=small
 gb:great<=a.natAbs\/great<=b.natAbs
 sb:small<=b.natAbs
 gc:Nat.gcd great.toNat small.toNat=Int.gcd a b
structure UndInv (a n great gt small st:Int):Prop where
 g0:0<great
 g1:great<=n
 s0:0<=small
 s1:small<=n
 cg:Cg n great (gt*a)
 cs:Cg n small (st*a)
 gc:Nat.gcd great.toNat small.toNat=Int.gcd a n
 bd:great*st.natAbs+small*gt.natAbs<=n
def fD (n:Int):Prop:=2<=n/\∀d,2<=d->d*d<=n->n%d≠0
noncomputable def bX (n:Int):Bool:=@decide (fD n) (Di _)
theorem isPrB_iff {n:Int}:bX n=true↔fD n:=by unfold bX;exact @decide_eq_true_iff _ (Di _)
theorem gX {n:Int}(h:fD n):bX n=true:=isPrB_iff.mpr h
theorem dA {n:Int}(h:¬ fD n):bX n=false:=by
 cases e:bX n with
 | false=>rfl
 | true=>exact absurd (isPrB_iff.mp e) h
theorem uF {a b:Int}(h0:0<=a)(h:a<=b):a*a<=b*b:=Int.mul_le_mul h h h0 'B'
noncomputable def ch:Nat->Nat->Nat
 | _,0=>1
 | 0,_+1=>0
 | n+1,k+1=>ch n k+ch n (k+1)
noncomputable def prod:List (Int×Int)->Int
 | []=>1
 | q::r=>q.1^q.2.toNat*prod r
theorem lX (l r:List (Int×Int)):prod (l++r)=prod l*prod r:=by
 induction l with
 | nil=>simp[prod]
 | cons q l ih=>rw[BO,prod,prod,ih,Int.mul_assoc]
structure PartsOk (l:List (Int×Int)):Prop where
 pr:∀q∈l,fD q.1/\1<=q.2
 up:l.Pairwise λa b=>a.1<b.1
def Parts (n:Int)(l:List (Int×Int)):Prop:=PartsOk l/\prod l=n
theorem sH {p:Int}(h:1<=p)(k:Nat):1<=p^k:=by
 induction k with
 | zero=>simp
 | succ k ih =>
  rw[Ab];have:=Ah ih (show 0<=p by lia);lia
theorem m5 {p:Int}(h:2<=p){k:Nat}(hk:1<=k):2<=p^k:=by obtain⟨j,rfl⟩:∃j,k=j+1:=⟨k-1,by lia⟩;rw[Ab];have h1:=sH (show 1<=p by lia) j;have:=Ah h1 (show 0<=p by lia);lia
structure DivInv (l0 t left o:Int):Prop where
 l1:1<=left
 o0:0<=o
 eq:l0=left*t^o.toNat
theorem div_start {l0 t:Int}(h:1<=l0):DivInv l0 t l0 0:=⟨h,DA _,by simp⟩
theorem div_turn {l0 t o:Int}(ht:2<=t)(h:DivInv l0 t left o)(hd:left%t=0):DivInv l0 t (left/t) (o+1)/\left/t<left:=by
 have l1:=h.l1;obtain⟨k,hk⟩:=Int.dvd_of_emod_eq_zero hd;have e:left/t=k:=by rw[hk,Int.mul_ediv_cancel_left _ 'B']
 have k1:1<=k:=by refine AU λhc=>?_;have:t*k<=0:=Int.mul_nonpos_of_nonneg_of_nonpos 'B' 'B';lia
 rw[e];have o0:=h.o0;refine⟨⟨k1,by lia,?_⟩,?_⟩
 ·have e2:(o+1).toNat=o.toNat+1:=by lia
  rw[h.eq,e2,Ab,hk]
  grind
 ·have:=Ah ht (show 0<=k by lia);lia
theorem pM {l0 t o:Int}(h:DivInv l0 t left o):left∣l0:=⟨t^o.toNat,h.eq⟩
theorem gB {a b:Int}(h:a∣b)(hb:b%d≠0):a%d≠0:=λe=>hb (Int.emod_eq_zero_of_dvd (Int.dvd_trans (Int.dvd_of_emod_eq_zero e) h))
def wU (n s r:Int):Prop:=(r=n/\∀d,s<=d->d*d<=n->n%d≠0)\/(s<=r/\r*r<=n/\n%r=0/\∀d,s<=d->d<r->n%d≠0)
structure PtInv (n:Int)(l:List (Int×Int))(left t:Int):Prop where
 l1:1<=left
 t2:2<=t
 eq:n=prod l*left
 lo:∀d,2<=d->d<t->left%d≠0
 ok:PartsOk l
 le:∀q∈l,q.1<=t/\left%q.1≠0
theorem pt_start {n:Int}(h:1<=n):PtInv n [] n 2:=⟨h,by lia,by simp[prod],λd a b=>by lia,⟨λ_ h=>(by cases h),List.Pairwise.nil⟩,λ_ h=>(by cases h)⟩
theorem pt_turn {n:Int}{l:List (Int×Int)}{t r left' o:Int}(h:PtInv n l left t)(pr:fD r)(tr:t<=r)(rd:left%r=0)(ra:∀d,2<=d->d<r->left%d≠0)(D:DivInv left r left' o)(hd:left'%r≠0):PtInv n (l++[(r,o)]) left' r/\1<=o/\left'<left:=by
 have o1:1<=o:=by
  refine AU λhc=>?_;have o0:=D.o0;have:o=0:=by lia
  subst this;have e:=D.eq;simp at e;rw[<- e] at hd;exact hd rd
 have lt:left'<left:=by have h2:=m5 pr.1 (show 1<=o.toNat by lia);have l1:=D.l1;have:=Int.mul_le_mul_of_nonneg_left h2 (show 0<=left' by lia);have e:=D.eq;lia
 refine⟨⟨D.l1,pr.1,?_,λd a b=>gB (pM D) (ra d a b),⟨?_,?_⟩,?_⟩,o1,lt⟩
 ·rw[lX,h.eq,D.eq];simp only[prod];grind
 ·intro q hq;rcases Af.mp hq with hq | hq
  ·exact h.ok.pr q hq
  ·rw[B9.mp hq];exact⟨pr,o1⟩
 ·rw[List.pairwise_append];refine⟨h.ok.up,List.pairwise_singleton ..,λa ha b hb=>?_⟩;rw[B9.mp hb];have ⟨a1,a2⟩:=h.le a ha;refine AU λhc=>?_;have:a.1=r:=by
   show a.1=r;have:¬ a.1<r:=hc;lia
  rw[this] at a2;exact a2 rd
 ·intro q hq;rcases Af.mp hq with hq | hq
  ·have ⟨a1,a2⟩:=h.le q hq;exact⟨by lia,gB (pM D) a2⟩
  ·rw[B9.mp hq];exact⟨DA _,hd⟩
theorem pt_end {n:Int}{l:List (Int×Int)}{t:Int}(h:PtInv n l left t)(he:¬ 1<left):Parts n l:=by
 have l1:=h.l1;have:left=1:=by lia
 refine⟨h.ok,?_⟩;rw[h.eq,this,Int.mul_one]
structure LtInv (n:Int)(l:List (Int×Int))(left t:Int):Prop where
 l1:1<=left
 t2:2<=t
 eq:n=prod l*left
 lo:∀d,2<=d->d<t->left%d≠0
 ok:PartsOk l
 le:∀q∈l,q.1<t
 tb:1<left->t<=left
noncomputable def rL (n:Nat):Nat->Nat->Bool
 | 0,_=>true
 | k+1,d=>decide (n%d≠0)&&rL n k (d+1)
theorem oF {n:Nat}:∀(k d:Nat),rL n k d=true->∀e,d<=e->e<d+k->n%e≠0
 | 0,d,_,e,h1,h2=>by lia
 | k+1,d,h,e,h1,h2=>by
  simp only[rL,Ξ,decide_eq_true_eq] at h;by_cases q:e=d
  ·rw[q];exact h.1
  ·exact oF k (d+1) h.2 e 'B' 'B'
theorem xN {n k:Nat}(h2:2<=n)(hk:n<(k+2)*(k+2))(h:rL n k 2=true):fD n:=by
 refine⟨by lia,λd d2 dd=>?_⟩;obtain⟨e,rfl⟩:=CB (show 0<=d by lia);have he:e<2+k:=by
  refine AU λhc=>?_;have:(k+2)*(k+2)<=e*e:=Nat.mul_le_mul 'B' 'B';have:e*e<=n:=by exact_mod_cast dd
  lia
 have:=oF k 2 h e 'B' he;intro z;apply this;have z':((n%e:Nat):Int)=0:=by rw[CV];exact z
 lia
noncomputable def twF:Nat->Int->Nat
 | 0,_=>0
 | k+1,m=>if m<=0 then 0 else if m%2=0 then twF k (m/2)+1 else 0
theorem nA:∀(k j:Nat) (m:Int),m.toNat<=k->m.toNat<=j->twF k m=twF j m
 | 0,0,_,_,_=>rfl
 | 0,j+1,m,h,_=>by
  show 0=if m<=0 then 0 else _
  rw[if_pos 'B']
 | k+1,0,m,_,h=>by show (if m<=0 then 0 else _)=0;rw[if_pos 'B']
 | k+1,j+1,m,h,g=>by
  show (if m<=0 then 0 else if m%2=0 then twF k (m/2)+1 else 0)=if m<=0 then 0 else if m%2=0 then twF j (m/2)+1 else 0
  by_cases z:m<=0
  ·rw[if_pos z,if_pos z]
  ·rw[if_neg z,if_neg z,nA k j (m/2) 'B' 'B']
noncomputable def tw (m:Int):Nat:=twF m.toNat m
theorem oE (m:Int):tw m=if m<=0 then 0 else if m%2=0 then tw (m/2)+1 else 0:=by
 unfold tw;rw[nA m.toNat (m.toNat+1) m (ο _) (Nat.le_succ _)];show (if m<=0 then 0 else if m%2=0 then twF m.toNat (m/2)+1 else 0)=_;by_cases z:m<=0
 ·rw[if_pos z,if_pos z]
 ·rw[if_neg z,if_neg z,nA m.toNat (m/2).toNat (m/2) 'B' (ο _)]
noncomputable def opF:Nat->Int->Int
 | 0,m=>m
 | k+1,m=>if m<=0 then m else if m%2=0 then opF k (m/2) else m
theorem nO:∀(k j:Nat) (m:Int),m.toNat<=k->m.toNat<=j->opF k m=opF j m
 | 0,0,_,_,_=>rfl
 | 0,j+1,m,h,_=>by
  show m=if m<=0 then m else _
  rw[if_pos 'B']
 | k+1,0,m,_,h=>by show (if m<=0 then m else _)=m;rw[if_pos 'B']
 | k+1,j+1,m,h,g=>by
  show (if m<=0 then m else if m%2=0 then opF k (m/2) else m)=if m<=0 then m else if m%2=0 then opF j (m/2) else m
  by_cases z:m<=0
  ·rw[if_pos z,if_pos z]
  ·rw[if_neg z,if_neg z,nO k j (m/2) 'B' 'B']
noncomputable def op (m:Int):Int:=opF m.toNat m
theorem op_eq (m:Int):op m=if m<=0 then m else if m%2=0 then op (m/2) else m:=by
 unfold op;rw[nO m.toNat (m.toNat+1) m (ο _) (Nat.le_succ _)];show (if m<=0 then m else if m%2=0 then opF m.toNat (m/2) else m)=_;by_cases z:m<=0
 ·rw[if_pos z,if_pos z]
 ·rw[if_neg z,if_neg z,nO m.toNat (m/2).toNat (m/2) 'B' (ο _)]
theorem jU (h:0<m)(e:m%2=0):tw m=tw (m/2)+1:=by rw[oE,if_neg 'B',if_pos e]
theorem m7 (e:¬ m%2=0):tw m=0:=by
 rw[oE];split
 ·rfl
 ·rfl
theorem kH (h:0<m)(e:m%2=0):op m=op (m/2):=by rw[op_eq,if_neg 'B',if_pos e]
theorem nM (e:¬ m%2=0):op m=m:=by
 rw[op_eq];split
 ·rfl
 ·rfl
theorem rK:∀(k:Nat) {m:Int},m<2^k->tw m<=k
 | 0,m,h=>by rw[oE,if_pos (by have e:(2:Int)^0=1:=rfl;lia)];exact ο _
 | k+1,m,h=>by
  by_cases h0:m<=0
  ·rw[oE,if_pos h0];lia
  ·by_cases e:m%2=0
   ·rw[jU 'B' e];have h4:(2:Int)^(k+1)=2*2^k:=by rw[Ab];lia
    have:=rK k (m:=m/2) 'B';lia
   ·rw[m7 e];lia
structure HvInv (m o:Int)(s:Int):Prop where
 o0:0<o
 ol:o<=m
 s0:0<=s
 oe:op o=op m
 se:(tw o:Int)+s=tw m
theorem mP (h:0<m):HvInv m m 0:=⟨h,DA _,DA _,rfl,by lia⟩
theorem pG {o s:Int}(I:HvInv m o s)(e:o%2=0):HvInv m (o/2) (s+1):=by have o0:=I.o0;have se:=I.se;have oe:=I.oe;have ol:=I.ol;have s0:=I.s0;rw[jU o0 e] at se;rw[kH o0 e] at oe;exact⟨by lia,by lia,by lia,oe,by lia⟩
theorem tP {o s:Int}(I:HvInv m o s)(e:¬ o%2=0):o=op m/\s=tw m:=by have se:=I.se;have oe:=I.oe;rw[m7 e] at se;rw[nM e] at oe;exact⟨oe,by lia⟩
theorem nJ (h:0<m):∀(k:Nat),m.toNat<=k->0<op m/\op m<=m:=by
 intro k
 induction k generalizing m with
 | zero=>intro hk;lia
 | succ k ih =>
  intro hk;by_cases e:m%2=0
  ·rw[kH h e];have:=ih (m:=m/2) 'B' 'B';lia
  ·rw[nM e];lia
noncomputable def hvs (n:Int):Nat->Int->Bool
 | 0,_=>false
 | s+1,p=>decide (p=n-1)||hvs n s (p*p%n)
noncomputable def aW (n b:Int):Bool:=decide (b^(op (n-1)).toNat%n=1)||hvs n (tw (n-1)) (b^(op (n-1)).toNat%n)
end MM
namespace L2
open PySem PySem.Spec PyProof.Rows
section
variable {X:Cx}
theorem uG {σ:St}{H:Hp}{a:ε}{xs:List V}(I:Inv X aa σ H s)(h:SqT X.K H a xs):∃o,s.heap.get? a=some o/\o.cls=.type "tuple" := by obtain⟨its,r,⟨o,e,c,_⟩,_⟩:=I.tuple h;exact⟨o,e,c⟩
noncomputable def yP (K:γ):List V->Hp->VK->Prop:=λvs H Q=>∃a xs c,vs=[.ref a,.ty c]/\SqT K H a xs/\(c = "int" \/ c = "bool" \/ c = "tuple" \/ c = "list" \/ c = "str" \/ c = "dict")/\Q (.bl (eX "tuple" c)) H
theorem lE:bY X (.builtin "isinstance") (yP X.K):=by intro aa s σ H xs us Q I r h;obtain⟨a,zs,c,rfl,ha,hc,q⟩:=h;obtain⟨u,w',rfl,rx,rc⟩:=iO r;cases rx;cases (show w'=Du c from rc);exact Cs PySem.W.kitx_tuple I.kIn (uG I ha) (nW 'C' hc) (λz=>nomatch z) λtk=>⟨.bl _,H,I.tok tk,rfl,q⟩
end
end L2
namespace MM
open PySem L2
noncomputable abbrev Row:=Int×Int×Dt
noncomputable def rwD (r:Row):Dt:=.tup [.int r.1,.int r.2.1,r.2.2]
noncomputable def asc:Int->List Row->Prop
 | _,[]=>True
 | l,r::rs=>l<r.1/\1<=r.2.1/\r.2.1<=200/\asc r.1 rs
noncomputable def prd:List Row->Int
 | []=>1
 | r::rs=>r.1^r.2.1.toNat*prd rs
structure HeadOk (n b:Int)(ac:List Row):Prop where
 ne:ac≠[]
 up:asc 1 ac
 b1:1<=b
 bn:b<=n-1
 home:b^(n-1).toNat%n=1
 dv:(n-1)%prd ac=0
structure FullOk (n b:Int)(ac:List Row):Prop extends HeadOk n b ac where
 all:prd ac=n-1
 off:∀r∈ac,b^((n-1)/r.1).toNat%n≠1
structure ShareOk (n b:Int)(ac:List Row):Prop extends HeadOk n b ac where
 odd:n%2=1
 big:n<prd ac*prd ac
 off:∀r∈ac,Int.gcd (b^((n-1)/r.1).toNat%n-1) n=1
inductive RP:Nat->Bool->Int->Dt->Prop
 | two {k:Nat} {f:Bool}:RP (k+1) f 2 (.tup [.str (ζ "two")])
 | full {k:Nat} {f:Bool} {n b:Int} {ac:List Row}:3<=n->fD n->FullOk n b ac->(∀r∈ac,RP k true r.1 r.2.2)->RP (k+1) f n (.tup [.str (ζ "full"),.int b,.tup (ac.map rwD)])
 | share {k:Nat} {n b:Int} {ac:List Row}:3<=n->fD n->ShareOk n b ac->(∀r∈ac,RP k false r.1 r.2.2)->RP (k+1) false n (.tup [.str (ζ "share"),.int b,.tup (ac.map rwD)])
mutual
noncomputable def cnD:Dt->Nat
 | .tup ds=>1+cnL ds
 | .non=>0
 | .bl _=>0
 | .int _=>0
 | .str _=>0
 | .lst _=>0
 | .emp=>0
noncomputable def cnL:List Dt->Nat
 | []=>0
 | d::ds=>cnD d+cnL ds
end
end MM
namespace L2
open PySem PySem.Spec PyProof.Rows
def Kd (K:γ)(H:Hp)(x:V)(n:String):Prop:=TyOf K H x (.type n)\/(n = "tuple" /\ ∃a xs,x=.ref a/\SqT K H a xs)\/(n = "list" /\ ∃a xs,x=.ref a/\SqL K H a xs)
noncomputable def wK (K:γ):List V->Hp->VK->Prop:=λvs H Q=>∃x n c,vs=[x,.ty c]/\Kd K H x n/\(c = "int" \/ c = "bool" \/ c = "tuple" \/ c = "list" \/ c = "str" \/ c = "dict")/\Q (.bl (eX n c)) H
section
variable {X:Cx}
theorem cT:bY X (.builtin "isinstance") (wK X.K):=by
 intro aa s σ H xs us Q I r h;obtain⟨x,n,c,rfl,hk,hc,q⟩:=h;rcases hk with ty | ⟨rfl,a,zs,rfl,ha⟩ | ⟨rfl,a,zs,rfl,ha⟩
 ·exact mY aa s σ H _ us Q I r (isi ty q hc)
 ·exact lE aa s σ H _ us Q I r ⟨a,zs,c,rfl,ha,hc,q⟩
 ·obtain⟨u,w',rfl,rx,rc⟩:=iO r;cases rx;cases (show w'=Du c from rc);obtain⟨its,_,⟨o,n,e,hcl,_⟩,_⟩:=I.list ha;exact Cs DR I.kIn ⟨o,e,hcl⟩ (nW 'C' hc) (λz=>nomatch z) λtk=>⟨.bl _,H,I.tok tk,rfl,q⟩
theorem isk {K:γ}{H:Hp}{x:V}{n c:String}{Q:VK}(k:Kd K H x n)(q:Q (.bl (eX n c)) H)(hc:autoParam (c = "int" \/ c = "bool" \/ c = "tuple" \/ c = "list" \/ c = "str" \/ c = "dict") L2.au1._auto_1):wK K [x,.ty c] H Q:=⟨x,n,c,rfl,k,hc,q⟩
noncomputable def kdD:Dt->String
 | .non => "NoneType"
 | .bl _ => "bool"
 | .int _ => "int"
 | .str _ => "str"
 | .tup _ => "tuple"
 | .lst _ => "list"
 | .emp => "dict"
theorem cY {K:γ}{H:Hp}:∀ {d:Dt} {x:V},Rep K H d x->Kd K H x (kdD d)
 | .non,_,h=>by cases (show _=V.non from h);exact .inl .non
 | .bl b,_,h=>by cases (show _=V.bl b from h);exact .inl (.bl _)
 | .int i,_,h=>by cases (show _=V.int i from h);exact .inl (.int _)
 | .str x,_,h=>by cases (show _=V.str x from h);exact .inl (.str _)
 | .tup ds,_,h=>by obtain⟨a,xs,rfl,ha,_⟩:=h;exact .inr (.inl ⟨rfl,a,xs,rfl,ha⟩)
 | .lst ds,_,h=>by obtain⟨a,xs,rfl,ha,_⟩:=h;exact .inr (.inr ⟨rfl,a,xs,rfl,ha⟩)
 | .emp,_,h=>by obtain⟨a,rfl,ha⟩:=h;exact .inl (.dK ha)
end
noncomputable def xM (K:γ):List V->Hp->VK->Prop:=λvs H Q=>∃x d,vs=[x]/\Rep K H d x/\(okD d=true/\okR d=true/\mE d<=1000000/\dep d<=100)/\Q (.str (shD d)) H
theorem bU {X:Cx}(hg:X.A.guards=some [])(hu:X.A.units+150<BY):bY X (.builtin "repr") (xM X.K):=by
 intro aa s σ H xs us Q I r h;obtain⟨x,d,rfl,hd,⟨ho,hR,hl,hp⟩,q⟩:=h;cases e:wS d with
 | false=>exact n5 hg hu aa s σ H _ us Q I r ⟨x,d,rfl,hd,ho,hR,e,hl,hp,q⟩
 | true =>
  obtain⟨u,rfl,rx⟩:=lH r;cases d with
  | bl b =>
   cases (show x=.bl b from hd);cases rx;exact PySem.P.repr_of_bool ⟨.str _,H,I.tok _,⟨_,rfl⟩,q⟩
  | str b =>
   cases (show x=.str b from hd);obtain⟨t,rfl⟩:=rx;have hlen:(dJ (.str b)).shown.length<=ψ:=AN (fP (.str b) ho) (AN hl 'A');exact PySem.P.repr_of_str ⟨.str _,H,I.tok _,⟨_,rfl⟩,q⟩
  | _=>cases e
end L2
namespace MM
noncomputable def fkB (bs:List Int)(n:Int):Bool:=bs.all (aW n) && !bX n
noncomputable def fo (k:Nat)(bs:List Int):List Int:=((C0 k).map λi:Nat=>3+(i:Int)*2).filter (fkB bs)
theorem pJ (bs:List Int):fo 0 bs=[]:=rfl
theorem pK (k:Nat)(bs:List Int):fo (k+1) bs=fo k bs++(if fkB bs (3+(k:Int)*2)=true then [3+(k:Int)*2] else []):=by
 unfold fo;rw[List.range_succ,Aw,List.filter_append]
 congr 1
 show List.filter (fkB bs) [3+(k:Int)*2]=_;rw[List.filter_cons,List.filter_nil]
theorem lA (k:Nat)(bs:List Int):(fo k bs).length<=k:=by unfold fo;refine AN (List.length_filter_le _ _) ?_;rw[Ω,List.length_range];exact ο _
theorem mS {k:Nat}{bs:List Int}:∀x∈fo k bs,3<=x/\x<=1+(k:Int)*2:=λx hx=>by unfold fo at hx;obtain⟨h,_⟩:=Ap.mp hx;obtain⟨i,hi,rfl⟩:=Aa.mp h;have:=C1.mp hi;lia
noncomputable def nOp:Nat->Nat->Nat
 | 0,m=>m
 | k+1,m=>bif Bl (m%2) 0 then nOp k (m/2) else m
noncomputable def nTw:Nat->Nat->Nat
 | 0,_=>0
 | k+1,m=>bif Bl (m%2) 0 then nTw k (m/2)+1 else 0
noncomputable def u6 (n:Nat):Nat->Nat->Bool
 | 0,_=>false
 | s+1,p=>Bl p (n-1)||u6 n s (p*p%n)
noncomputable def jD (n b:Nat):Bool:=Bl (b^nOp 15 (n-1)%n) 1||u6 n (nTw 15 (n-1)) (b^nOp 15 (n-1)%n)
theorem sV:∀(k m:Nat),0<m->m<2^k->op (m:Int)=(nOp k m:Nat)/\tw (m:Int)=nTw k m
 | 0,m,h,h1=>by simp at h1;lia
 | k+1,m,h,h1=>by
  have e1:nOp (k+1) m=bif Bl (m%2) 0 then nOp k (m/2) else m:=rfl;have e2:nTw (k+1) m=bif Bl (m%2) 0 then nTw k (m/2)+1 else 0:=rfl;rw[e1,e2];by_cases z:m%2=0
  ·have zz:(m:Int)%2=0:=by lia
   rw[kH 'B' zz,jU 'B' zz,z];obtain⟨i1,i2⟩:=sV k (m/2) 'B' (by rw[Nat.pow_succ] at h1;lia);rw[show (m:Int)/2=((m/2:Nat):Int) by lia,i1,i2];exact⟨rfl,rfl⟩
  ·have zz:¬ (m:Int)%2=0:=by lia
   rw[nM zz,m7 zz];have:Bl (m%2) 0=false:=by
    cases q:Bl (m%2) 0 with
    | false=>rfl
    | true=>exact absurd (Nat.eq_of_beq_eq_true q) z
   rw[this];exact⟨rfl,rfl⟩
theorem pR (a b:Nat):Bl a b=decide ((a:Int)=(b:Int)):=by
 by_cases h:a=b
 ·subst h;simp
 ·rw[decide_eq_false 'B'];cases q:Bl a b with
  | false=>rfl
  | true=>exact absurd (Nat.eq_of_beq_eq_true q) h
theorem pA {n:Nat}(n1:1<=n):∀(s p:Nat),hvs (n:Int) s (p:Int)=u6 n s p
 | 0,_=>rfl
 | s+1,p=>by show (decide ((p:Int)=(n:Int)-1)||hvs n s ((p:Int)*p%n))=(Bl p (n-1)||u6 n s (p*p%n));rw[pR,<- pA n1 s (p*p%n),show ((n-1:Nat):Int)=(n:Int)-1 by lia,CV,Ax]
theorem l8 {n b:Nat}(n3:3<=n)(h:n<=2^15):aW (n:Int) (b:Int)=jD n b:=by
 have e:(n:Int)-1=((n-1:Nat):Int):=by lia
 obtain⟨i1,i2⟩:=sV 15 (n-1) 'B' 'B';unfold aW jD;rw[e,i1,i2,Int.toNat_natCast,pR];have e2:(b:Int)^nOp 15 (n-1)%(n:Int)=((b^nOp 15 (n-1)%n:Nat):Int):=by rw[CV,Int.natCast_pow]
 rw[e2,pA 'B'];rfl
noncomputable def l6:List Nat:=[2047,3277,4033,4681,8321,15841]
noncomputable def kOf (n:Nat):Nat:=bif Nat.blt n 9 then 1 else bif Nat.blt n 121 then 9 else bif Nat.blt n 144 then 10 else 140
theorem yA {n:Nat}(h:n<20164):n<(kOf n+2)*(kOf n+2):=by
 unfold kOf;cases a:Nat.blt n 9 with
 | true =>
  have:n<9:=by rwa [Nat.blt_eq] at a
  exact this
 | false =>
  cases b:Nat.blt n 121 with
  | true =>
   have:n<121:=by rwa [Nat.blt_eq] at b
   exact this
  | false =>
   cases c:Nat.blt n 144 with
   | true =>
    have:n<144:=by rwa [Nat.blt_eq] at c
    exact this
   | false=>exact h
noncomputable def okA (n:Nat):Bool := !jD n 2||(rL n (kOf n) 2||l6.contains n)
noncomputable def eG (a:Nat):Nat->Bool
 | 0=>true
 | k+1=>okA (2*(a+k)+3)&&eG a k
theorem y3:eG 0 1000=true:=by decide +kernel
theorem y2:eG 1000 1000=true:=by decide +kernel
theorem yZ:eG 2000 1000=true:=by decide +kernel
theorem yY:eG 3000 1000=true:=by decide +kernel
theorem yX:eG 4000 1000=true:=by decide +kernel
theorem yW:eG 5000 1000=true:=by decide +kernel
theorem yV:eG 6000 1000=true:=by decide +kernel
theorem yU:eG 7000 1000=true:=by decide +kernel
theorem yT:eG 8000 1000=true:=by decide +kernel
theorem yS:eG 9000 1000=true:=by decide +kernel
theorem pS {a:Nat}:∀ {k:Nat},eG a k=true->∀i,i<k->okA (2*(a+i)+3)=true
 | k+1,h,i,hi=>by
  obtain⟨u,v⟩:=AK.mp (show (okA (2*(a+k)+3)&&eG a k)=true from h);by_cases e:i=k
  ·rw[e];exact u
  ·exact pS v i 'B'
theorem xW (i:Nat)(h:i<9999):okA (2*i+3)=true:=by
 have q:∀a,eG (1000*a) 1000=true->1000*a<=i->i<1000*a+1000->okA (2*i+3)=true:=λa h h1 h2=>by
  have:=pS h (i-1000*a) 'B'
  rwa [show 1000*a+(i-1000*a)=i by lia] at this
 have hd:i/1000=0\/i/1000=1\/i/1000=2\/i/1000=3\/i/1000=4\/i/1000=5\/i/1000=6\/i/1000=7\/i/1000=8\/i/1000=9:=by lia
 rcases hd with e | e | e | e | e | e | e | e | e | e
 ·exact q 0 y3 'B' 'B'
 ·exact q 1 y2 'B' 'B'
 ·exact q 2 yZ 'B' 'B'
 ·exact q 3 yY 'B' 'B'
 ·exact q 4 yX 'B' 'B'
 ·exact q 5 yW 'B' 'B'
 ·exact q 6 yV 'B' 'B'
 ·exact q 7 yU 'B' 'B'
 ·exact q 8 yT 'B' 'B'
 ·exact q 9 yS 'B' 'B'
theorem jC {n:Int}(h1:2<=d)(h2:d*d<=n)(h3:n%d=0):bX n=false:=dA λh=>h.2 d h1 h2 h3
theorem wQ:∀n∈l6,bX (n:Int)=false/\jD n 2=true/\jD n 3=false:=by
 intro n hn;unfold l6 at hn;simp only[AV,CY,or_false] at hn;rcases hn with rfl | rfl | rfl | rfl | rfl | rfl
 ·exact⟨jC (d:=23) 'A' 'A' 'A',by decide +kernel,by decide +kernel⟩
 ·exact⟨jC (d:=29) 'A' 'A' 'A',by decide +kernel,by decide +kernel⟩
 ·exact⟨jC (d:=37) 'A' 'A' 'A',by decide +kernel,by decide +kernel⟩
 ·exact⟨jC (d:=31) 'A' 'A' 'A',by decide +kernel,by decide +kernel⟩
 ·exact⟨jC (d:=53) 'A' 'A' 'A',by decide +kernel,by decide +kernel⟩
 ·exact⟨jC (d:=7) 'A' 'A' 'A',by decide +kernel,by decide +kernel⟩
theorem fk2 (i:Nat)(h:i<9999):fkB [2] (3+(i:Int)*2)=l6.contains (2*i+3):=by
 have e:(3+(i:Int)*2)=((2*i+3:Nat):Int):=by lia
 rw[e];unfold fkB;rw[show [(2:Int)].all (aW ((2*i+3:Nat):Int))=(aW ((2*i+3:Nat):Int) ((2:Nat):Int)&&true) from rfl,l8 'B' 'B',CN];have ok:=xW i h;unfold okA at ok;cases c:l6.contains (2*i+3) with
 | true =>
  obtain⟨a,b,_⟩:=wQ _ (List.contains_iff_mem.mp c);rw[a,b];rfl
 | false =>
  rw[c,Bool.or_false] at ok;cases d:jD (2*i+3) 2 with
  | false=>rfl
  | true =>
   rw[d] at ok;have:=xN (n:=2*i+3) (k:=kOf (2*i+3)) 'B' (yA 'B') ok;rw[gX this];rfl
theorem fo2:fo 9999 [2]=l6.map λn:Nat=>(n:Int):=by
 have e:fo 9999 [2]=((C0 9999).filter λi=>l6.contains (2*i+3)).map λi:Nat=>3+(i:Int)*2:=by
  unfold fo;rw[List.filter_map]
  congr 1
  refine List.filter_congr λi hi=>fk2 i (C1.mp hi)
 have e2:((C0 9999).filter λi=>l6.contains (2*i+3))=[1022,1637,2015,2339,4159,7919]:=by decide +kernel
 rw[e,e2];rfl
theorem zM:fo 9999 [2,3]=[]:=by
 unfold fo;rw[List.filter_eq_nil_iff];intro x hx hf;obtain⟨i,hi,rfl⟩:=Aa.mp hx;have hi:=C1.mp hi;have h2:=fk2 i hi;unfold fkB at hf h2;have e:(3+(i:Int)*2)=((2*i+3:Nat):Int):=by lia
 obtain⟨a,b⟩:=AK.mp hf;have a':(aW (3+(i:Int)*2) 2&&(aW (3+(i:Int)*2) 3&&true))=true:=a;rw[CN] at a';obtain⟨a2,a3⟩:=AK.mp a';rw[show [(2:Int)].all (aW (3+(i:Int)*2))=(aW (3+(i:Int)*2) 2&&true) from rfl,a2,b] at h2;have m:=List.contains_iff_mem.mp h2.symm;obtain⟨_,_,c⟩:=wQ _ m;rw[e,show (3:Int)=((3:Nat):Int) from rfl,l8 'B' 'B',c] at a3;cases a3
theorem mM {n:Int}(n3:3<=n):∀s,hvs n s 0=false
 | 0=>rfl
 | s+1=>by show (decide ((0:Int)=n-1)||hvs n s (0*0%n))=false;rw[decide_eq_false 'B',Int.zero_mul,Int.zero_emod,mM n3 s];rfl
theorem qU {n b:Int}(n3:3<=n):(decide (b%n≠0)&&aW n (b%n))=aW n b:=by
 have e:(b%n)^(op (n-1)).toNat%n=b^(op (n-1)).toNat%n:=by
  have h:=Int.emod_emod_of_dvd;have c:∀k:Nat,(b%n)^k%n=b^k%n:=by
   intro k
   induction k with
   | zero=>rw[Cy,Cy]
   | succ k ih=>rw[Ab,Ab,Int.mul_emod,ih,Int.emod_emod,<- Int.mul_emod]
  exact c _
 have same:aW n (b%n)=aW n b:=by unfold aW;rw[e]
 by_cases z:b%n=0
 ·rw[decide_eq_false (λh=>h z),D4,<- same,z];have:=nJ (m:=n-1) 'B' _ (ο _);have e0:(0:Int)^(op (n-1)).toNat%n=0:=by
   obtain⟨k,hk⟩:∃k,(op (n-1)).toNat=k+1:=⟨(op (n-1)).toNat-1,by lia⟩;rw[hk,Ab,Int.mul_zero,Int.zero_emod]
  unfold aW;rw[e0,mM n3];rfl
 ·rw[decide_eq_true z,BS,same]
end MM
namespace L2
open PySem PySem.Spec PyProof.Rows
structure SE (X:Cx)(e:Δ)(t:TE):Prop where
 h:PE X e t
structure SA (X:Cx)(es:List Δ)(t:TA):Prop where
 h:PA X es t
structure SS (X:Cx)(st:AD)(t:TS):Prop where
 h:PS X st t
structure SSs (X:Cx)(st:List AD)(t:TS):Prop where
 h:PSs X st t
structure ST (X:Cx)(e:Δ)(t:TT):Prop where
 h:PT X e t
structure SO (X:Cx)(e:Option Δ)(t:TO):Prop where
 h:PO X e t
theorem yF {X:Cx}{st:List AD}{t:TS}{D:Ends}{σ:St}{H:Hp}(h:SSs X st t)(q:t D σ H):∃t,PSs X st t/\t D σ H:=⟨t,h.h,q⟩
section
variable {X:Cx}{id T:String}{lo hi:Option Δ}{st:AD}{rest:List AD}{a b e o tg iter:Δ}{es:List Δ}{pos p2 p:Pos}{name:Str}
theorem bN (F:FnOk X.prog X.w X.K X.mg X.ad CX k f fd ps sp)(hr:Room k X.A)(hg:Gl X x)(hm:X.mg x=some (.ref f))(hk:Am X.K (.ref f)=true)(hb:Binds X.K fd ps ds)(hd:Vals dvs ds)(hx:Passes CX X E)(ha:SA X (e::es) t)(hdb:autoParam ((x==("__debug__" : Str))=false) L2.au1._auto_1)(he:autoParam (Θ (e::es) X.env=(false,A5 e X.env)::Θ es X.env) L2.au3._auto_1)(hpl:autoParam ((B4 pos (Θ es X.env)).any (·.1)=false) L2.au3._auto_1):SE X (.Call (.Name x p) (e::es) [] pos) (fT sp dvs E t):=⟨aX F hr hg hm hk hb hd hx ha.h hdb he hpl⟩
theorem bV (hc:bY X (.builtin id) r)(hg:Gl X x)(hm:X.mg x=none)(hv:BJ x=some (.builtin id))(ha:SA X (e::es) t)(hn:autoParam (x ≠ "__name__") L2.au1._auto_1)(hdb:autoParam ((x==("__debug__" : Str))=false) L2.au1._auto_1)(he:autoParam (Θ (e::es) X.env=(false,A5 e X.env)::Θ es X.env) L2.au3._auto_1)(hpl:autoParam ((B4 pos (Θ es X.env)).any (·.1)=false) L2.au3._auto_1):SE X (.Call (.Name x p) (e::es) [] pos) (tCB r t):=⟨aS hc hg hm hv ha.h hn hdb he hpl⟩
theorem iX (hc:bY X (.type T) r)(hg:Gl X x)(hm:X.mg x=none)(hv:BJ x=some (.type T))(ha:SA X (e::es) t)(hn:autoParam (x ≠ "__name__") L2.au1._auto_1)(hdb:autoParam ((x==("__debug__" : Str))=false) L2.au1._auto_1)(he:autoParam (Θ (e::es) X.env=(false,A5 e X.env)::Θ es X.env) L2.au3._auto_1)(hpl:autoParam ((B4 pos (Θ es X.env)).any (·.1)=false) L2.au3._auto_1):SE X (.Call (.Name x p) (e::es) [] pos) (tCB r t):=⟨qI hc hg hm hv ha.h hn hdb he hpl⟩
theorem lR {sp:ω->Sp}(F:∀b,FnOk X.prog X.w X.K X.mg b CX k f fd ps (sp b))(hr:Room k X.A)(hfn:∀x,X.fn x=true)(hg:Gl X x)(hm:X.mg x=some (.ref f))(hk:Am X.K (.ref f)=true)(hb:Binds X.K fd ps ds)(hd:Vals dvs ds)(hx:Passes CX X E)(ha:SA X (e::es) t)(hdb:autoParam ((x==("__debug__" : Str))=false) L2.au1._auto_1)(he:autoParam (Θ (e::es) X.env=(false,A5 e X.env)::Θ es X.env) L2.au3._auto_1)(hpl:autoParam ((B4 pos (Θ es X.env)).any (·.1)=false) L2.au3._auto_1):SE X (.Call (.Name x p) (e::es) [] pos) (jY X sp dvs E t):=⟨sP F hr hfn hg hm hk hb hd hx ha.h hdb he hpl⟩
theorem oR {op:CmpOp}{r:R2}(ho:OpR X (Aq op) r)(ha:SE X a ta)(hb:SE X b tb)(hm:Bf op b=false):SE X (.Compare a [op] [b] pos) (tOp r ta tb):=⟨dU ho ha.h hb.h hm⟩
theorem lQ {r:R2}(hr:IxR X r)(ha:SE X a ta)(hb:SE X b tb)(hs:pU b):SE X (.Subscript a b pos) (tOp r ta tb):=⟨cU hr ha.h hb.h hs⟩
theorem cO (h:SA X es t):SE X (.List es pos) (lM t):=⟨eQ h.h⟩
theorem cF {x1}(h:SA X es t):SE X (.Tuple es x1 pos) (nD t):=⟨nI h.h⟩
theorem cA {op:Operator}{r:R2}(ho:OpR X (B0 op) r)(ha:SE X a ta)(hb:SE X b tb):SE X (.BinOp a op b pos) (tOp r ta tb):=⟨aN ho ha.h hb.h⟩
theorem lP {r:V->Option Int->Option Int->Hp->VK->Prop}(hr:SlR X r)(he:SE X e te)(hl:SO X lo tl)(hu:SO X hi th):SE X (.Subscript e (.Slice lo hi none p2) pos) (tSl r te tl th):=⟨sK hr he.h hl.h hu.h⟩
theorem wI {op:UnaryOp}{r:V->Hp->VK->Prop}(ho:UnR X (unaryOp op) r)(ha:SE X a ta):SE X (.UnaryOp op a pos) (tUn r ta):=⟨y4 ho ha.h⟩
theorem wJ (pa:DV T)(slot:Slot T name id)(hty:DD (.builtin id)=pure (.type "method_descriptor"))(hm:MtR X id r)(ho:SE X o to)(ha:SA X (e::es) t)(hbase:autoParam (BD o name X.env (A5 o X.env)=A5 o X.env) L2.au3._auto_1)(hfew:autoParam (((B4 cpos (Θ (e::es) X.env)).all (λx => !x.1)&&(backToKw cpos (keywordEach [] X.env)).all (λx=>x.1.isSome)
   && decide ((e::es).length+([]:List DZ).length+(if ([]:List DZ).isEmpty then 0 else 1)<30))=true) L2.au3._auto_1)(hline:(apos.endLine==cpos.line)=true:=by rfl)(hs:Θ (e::es) X.env=(false,A5 e X.env)::Θ es X.env:=by rfl)(hplain:(B4 cpos (Θ es X.env)).any (·.1)=false:=by rfl):SE X (.Call (.Attribute o name apos) (e::es) [] cpos) (tBM X.K T r to t):=⟨wM pa slot hty hm ho.h ha.h hbase hfew hline hs hplain⟩
theorem aB (ha:SE X e te)(hr:SA X es t)(hs:autoParam (Θ (e::es) X.env=(false,A5 e X.env)::Θ es X.env) L2.au3._auto_1):SA X (e::es) (dO te t):=⟨aA ha.h hr.h hs⟩
theorem b7 {x:Str}{e:Δ}{te:TE}(hN:X.N.Nodup)(hi:X.N[i]? = some x)(hx:Loc X.env.scope x)(he:SE X e te)(hs:autoParam (Bs e (some (.Name x pos')) pos.line X.env=pure false) L2.au3._auto_1)(hf:autoParam (X.fn x=true\/X.env.scope.names.lookup x=some .local) L2.au0._auto_1):SS X (.Assign [.Name x pos'] e pos) (dP te (cW i)):=⟨aV hN hi hx he.h hs hf⟩
theorem lO {c:Δ}{a b:List AD}{tc:TT}(hc:ST X c tc)(ha:SSs X a t)(hb:SSs X b u):SS X (.If c a b pos) (p8 tc t u):=⟨bW hc.h ha.h hb.h⟩
theorem eL {iter:Δ}{body:List AD}{wi:TI}{g:TG}{tb:TS}{pos:Pos}(hp:PassesOwn (χ X.prog X.w) X.A X.env X.xe)(hc:X.calm=true)(hi:PI X tg iter wi)(hg:PG X tg g)(hb:SSs X body tb)(hs:autoParam (∀x,Ao iter X.env x=pure x) L2.au2._auto_1):SS X (.For tg iter body [] pos) (lN wi g tb):=⟨f6 hp hc hi hg hb.h hs⟩
theorem j0 (he:SE X e te)(hs:autoParam (Bs e none pos.line X.env=pure false) L2.au3._auto_1):SS X (.Expr e pos) (iU te):=⟨fM he.h hs⟩
theorem eK (he:SE X e te):SS X (.Return (some e) pos) (pZ te):=⟨aR he.h⟩
theorem aQ (h1:SS X st t)(h2:SSs X rest u):SSs X (st::rest) (dM t u):=⟨aE h1.h h2.h⟩
theorem bM (h1:SS X st t):SSs X [st] t:=⟨aH h1.h⟩
theorem c8 {op:CmpOp}{r:R2}(ho:OpR X (Aq op) r)(ha:SE X a ta)(hb:SE X b tb)(hm:Bf op b=false):ST X (.Compare a [op] [b] pos) (fR (tOp r ta tb)):=⟨bE ho ha.h hb.h hm⟩
theorem w8 (ha:ST X a tA):ST X (.UnaryOp .Not a pos) (p7 tA):=⟨cG ha.h⟩
theorem rV {e:Δ}{t:TE}(h:SE X e t)(he:autoParam (∀whole,Br e X.env whole=(do let v <- whole;standAt e.pos;CZ [v] (truthy v))) L2.au2._auto_1):ST X e (tB t):=⟨bZ h.h he⟩
theorem uK {tl:TE}(hl:SE X l tl):PI X tg l (tO X.K tl):=uU hl.h
theorem eO {a:Δ}{ta:TA}{p pos:Pos}(hg:Gl X "range")(hm:X.mg "range" = none)(ha:SA X [a] ta)(hs:autoParam (Θ [a] X.env=[(false,A5 a X.env)]) L2.au3._auto_1):PI X tg (.Call (.Name "range" p) [a] [] pos) (tN ta):=eP hg hm ha.h hs
theorem oO (h:SE X e te):SO X (some e) (oH te):=⟨uS h.h⟩
theorem aG {i j pos}:SE X (.Constant (.int i) j pos) (tC (.int i)):=⟨aF⟩
theorem fX {b j pos}:SE X (.Constant (.bool b) j pos) (tC (.bl b)):=⟨cB⟩
theorem rX {j pos}:SE X (.Constant .none j pos) (tC .non):=⟨xR⟩
theorem j7 {x j pos}:SE X (.Constant (.str x) j pos) (tC (.str x)):=⟨bK⟩
theorem aL  : SA X [] jW:=⟨aI⟩
theorem dQ  : SSs X [] iS:=⟨bC⟩
theorem oP  : SO X none fF:=⟨uT⟩
theorem sv (i:Nat){x:Str}{pos:Pos}(hN:autoParam (X.N[i]? = some x) L2.au3._auto_1)(hv:autoParam (Vis X.env.scope x) L2.au5._auto_1)(hd:autoParam ((x==("__debug__" : Str))=false) L2.au1._auto_1)(hcd:autoParam ((x==("__classdict__" : Str))=false) L2.au1._auto_1):SE X (.Name x pos) (dL i):=⟨pv i hN hv hd hcd⟩
theorem oQ (L:LamCx X c P)(hck:jG sc X.env.scope N X.N js=true)(hdef:defaultsOf params X.env=([],[])):SE X (.Lambda params body sc pos) (wX X.mg P (X.env.qual ++ "<lambda>") params body sc (bT sc X.env)):=⟨uW L hck hdef⟩
theorem oN {iv:Nat}(hN:X.N.Nodup)(hin:X.N[iv]? = some y)(hx:Loc X.env.scope y)(hcb:gZ scope X.env.scope N X.N js=true)(hc:X.calm=true)(hfn:∀x,X.fn x=true)(hi:PI X tg iter wi)(hg:∀b C fp s H,PG (aO X b N scope (bT scope X.env) C fp s H) tg g)(hif:∀b C fp s H,oB (aO X b N scope (bT scope X.env) C fp s H) ifs (tt b))(he:∀b C fp s H,PE (aO X b N scope (bT scope X.env) C fp s H) elt (te b))(hsw:autoParam (Bs (.ListComp elt [⟨tg,iter,ifs,0⟩] scope pos) (some (.Name y py)) spos.line X.env=pure true) L2.au3._auto_1)(hs:autoParam (∀x,Ao iter X.env x=pure x) L2.au2._auto_1):SS X (.Assign [.Name y py] (.ListComp elt [⟨tg,iter,ifs,0⟩] scope pos) spos) (dP (dF X js wi g tt te) (cW iv)):=⟨uP hN hin hx hcb hc hfn hi hg hif he hsw hs⟩
end
mutual
theorem Rep.sm {K:γ}{H H':Hp}(S:Same H H'):∀(d:Dt) {v:V},Rep K H d v->Rep K H' d v
 | .non,v,h=>h
 | .bl _,v,h=>h
 | .int _,v,h=>h
 | .str _,v,h=>h
 | .tup ds,v,h=>by obtain⟨a,xs,e,q,r⟩:=h;exact⟨a,xs,e,S.tk.sq q,RepL.sm S ds r⟩
 | .lst ds,v,h=>by obtain⟨a,xs,e,q,r⟩:=h;exact⟨a,xs,e,S.seq q,RepL.sm S ds r⟩
 | .emp,v,h=>by obtain⟨a,e,q⟩:=h;exact⟨a,e,S _ _ q⟩
theorem RepL.sm {K:γ}{H H':Hp}(S:Same H H'):∀(ds:List Dt) {xs:List V},RepL K H ds xs->RepL K H' ds xs
 | [],xs,h=>h
 | d::ds,xs,h=>by obtain⟨x,r,e,a,b⟩:=h;exact⟨x,r,e,Rep.sm S d a,RepL.sm S ds b⟩
end
theorem none_of {H H':Hp}(S:Same H H'){a:ε}(h:H' a=none):H a=none:=by
 cases e:H a with
 | none=>rfl
 | some o=>rw[S a o e] at h;cases h
section
variable {K:γ}
end
end L2
namespace MM
def Dv (q x:Nat):Prop:=∃d,d%2=1/\3<=d/\d<q/\d*d<=x/\x%d=0
structure Sv (m q:Nat)(kb:List Bool):Prop where
 len:kb.length=m+1
 at_:∀x,3<=x->x<=m->x%2=1->(kb[x]? = some false↔Dv q x)
structure Sw (m q j:Nat)(kb:List Bool):Prop where
 len:kb.length=m+1
 at_:∀x,3<=x->x<=m->x%2=1->(kb[x]? = some false↔(Dv q x\/∃i,i<j/\x=q*q+2*q*i))
theorem rQ (m:Nat):Sv m 3 (A6 (m+1) true):=⟨List.length_replicate,λx h3 hm ho=>by
 rw[List.getElem?_replicate,if_pos 'B'];constructor
 ·intro h;cases h
 ·rintro⟨d,_,h1,h2,_⟩;lia⟩
theorem oM {m q:Nat}(h:Sv m q kb)(qo:q%2=1)(hs:∀x,3<=x->x<=m->x%2=1->q*q<=x->x%q=0->Dv q x):Sv m (q+2) kb:=⟨h.len,λx h3 hm ho=>by
 rw[h.at_ x h3 hm ho];constructor
 ·rintro⟨d,a,b,c,e⟩
  exact⟨d,a,b,by lia,e⟩
 ·rintro⟨d,a,b,c,e,f⟩
  by_cases z:d<q
  ·exact⟨d,a,b,z,e,f⟩
  ·have e1:d=q:=by lia
   rw[e1] at e f;exact hs x h3 hm ho e f⟩
theorem rT {m q:Nat}(h:Sv m q kb)(qo:q%2=1)(g:¬ q*q<=m):Sv m (q+2) kb:=oM h qo λx _ hm _ e _=>by lia
theorem rS {m q:Nat}(h:Sv m q kb)(qo:q%2=1)(q3:3<=q)(qm:q<=m)(g:kb[q]? = some false):Sv m (q+2) kb:=oM h qo λx _ hm _ e f=>by obtain⟨d,a,b,c,u,v⟩:=(h.at_ q q3 qm qo).mp g;exact⟨d,a,b,c,AN u (AN (Nat.le_mul_of_pos_left q 'B') e),Nat.mod_eq_zero_of_dvd (Nat.dvd_trans (Ad v) (Ad f))⟩
theorem rO {m q:Nat}(h:Sv m q kb):Sw m q 0 kb:=⟨h.len,λx h3 hm ho=>by
 rw[h.at_ x h3 hm ho];constructor
 ·exact .inl
 ·rintro (h | ⟨i,hi,_⟩)
  ·exact h
  ·lia⟩
theorem uC {m q:Nat}(h:Sw m q j kb)(hx:q*q+2*q*j<=m):Sw m q (j+1) (kb.set (q*q+2*q*j) false):=⟨by rw[Co];exact h.len,λx h3 hm ho=>by
 by_cases e:q*q+2*q*j=x
 ·rw[e,B3 (by rw[h.len];lia)];exact⟨λ_=>.inr ⟨j,by lia,e.symm⟩,λ_=>rfl⟩
 ·rw[BG e,h.at_ x h3 hm ho];constructor
  ·rintro (h | ⟨i,hi,z⟩)
   ·exact .inl h
   ·exact .inr ⟨i,by lia,z⟩
  ·rintro (h | ⟨i,hi,z⟩)
   ·exact .inl h
   ·refine .inr ⟨i,?_,z⟩;by_cases ei:i=j
    ·rw[ei] at z;exact absurd z.symm e
    ·lia⟩
theorem wZ {m q:Nat}(h:Sw m q j kb)(qo:q%2=1)(q3:3<=q)(hj:m<q*q+2*q*j):Sv m (q+2) kb:=⟨h.len,λx h3 hm ho=>by
 rw[h.at_ x h3 hm ho];constructor
 ·rintro (⟨d,a,b,c,e⟩ | ⟨i,hi,z⟩)
  ·exact⟨d,a,b,by lia,e⟩
  ·refine⟨q,qo,q3,by lia,by lia,?_⟩;rw[z];refine Nat.mod_eq_zero_of_dvd ⟨q+2*i,?_⟩;rw[Nat.mul_add,Cr q (2*i),DN,DN,Cr q i]
 ·rintro⟨d,a,b,c,e,f⟩
  by_cases z:d<q
  ·exact .inl ⟨d,a,b,z,e,f⟩
  ·have e1:d=q:=by lia
   rw[e1] at e f;refine .inr ?_;obtain⟨u,hu⟩:=Ad f;have uo:u%2=1:=by
    refine AU λw=>?_;have:2∣x:=by rw[hu];exact Nat.dvd_trans (Ad 'B') (Nat.dvd_mul_left u q)
    lia
   have qu:q<=u:=by refine Nat.le_of_not_lt λw=>?_;have:=Nat.mul_lt_mul_of_pos_left w (show 0<q by lia);lia
   obtain⟨v,hv⟩:∃v,u=q+2*v:=⟨(u-q)/2,by lia⟩;have ex:x=q*q+2*q*v:=by rw[hu,hv,Nat.mul_add,Cr q (2*v),DN,DN,Cr q v]
   refine⟨v,?_,ex⟩;refine Nat.lt_of_not_le λw=>?_;have:=Nat.mul_le_mul_left (2*q) w;lia⟩
theorem rR {m q:Nat}(h:Sv m q kb)(hq:m<q){x:Nat}(h3:3<=x)(hm:x<=m)(ho:x%2=1):kb[x]? = some (bX (x:Int)):=by
 obtain⟨b,hb⟩:∃b,kb[x]? = some b:=⟨_,AH (by rw[h.len];lia)⟩;have k:=h.at_ x h3 hm ho;rw[hb] at k ⊢
 congr 1
 cases b with
 | false =>
  obtain⟨d,a,b,c,e,f⟩:=k.mp rfl;refine(dA λp=>p.2 (d:Int) 'B' (by exact_mod_cast e) ?_).symm;rw[<- CV,f];rfl
 | true =>
  refine(gX ⟨by lia,λd d2 dd z=>?_⟩).symm;obtain⟨e,rfl⟩:=CB (show 0<=d by lia);have z':x%e=0:=by exact_mod_cast z
  have dd':e*e<=x:=by exact_mod_cast dd
  have eo:e%2=1:=by refine AU λw=>?_;have:2∣x:=Nat.dvd_trans (Ad (show e%2=0 by lia)) (Ad z');lia
  have el:e<=x:=Nat.le_of_dvd 'B' (Ad z');have:=k.mpr ⟨e,eo,by lia,by lia,dd',z'⟩;cases this
theorem qW (N:Nat)(bs:List Int)(b:Int):fo N (bs++[b])=(fo N bs).filter λn=>aW n b:=by unfold fo;rw[List.filter_filter];refine List.filter_congr λn _=>?_;unfold fkB;rw[List.all_append,BR,List.all_nil,CN];cases bs.all (aW n) <;> cases aW n b <;> cases bX n <;> rfl
end MM
namespace L2
open PySem PySem.Spec PyProof.Rows
section
variable {prog:ρ}{w:Γ}{A:Around}{E:δ->η->Prop}{s:η}{r:ε}
theorem qA {ks:List Int}(h64:ks.length<64)(hc:∀R:List δ->η->Prop,(∀(h':ω) (d:Drawn) (tk:Nat) (vs:List δ) (ns:List Int),(∀b o,s.heap.get? b=some o->h'.get? b=some o)->C6 vs ns->ns.Perm ks->R vs { s with heap:=h',drawn:=d,toks:=tk })->τ (χ prog w) A.in1 (collect (.ref r)) R E s)(h:∀(h1 h':ω) (d:Drawn) (tk:Nat) (p:ε) (out:Array δ) (n:Nat) (ns:List Int),(∀b o,s.heap.get? b=some o->h1.get? b=some o)->(∀b o,h1.get? b=some o->h'.get? b=some o)->h1.objs.size<=p->h'.get? p=some (seqObj "list" out n)->C6 out.toList ns->ns.Perm ks->ns.Pairwise (·<=·)->Q (.ref p) { s with heap:=h',drawn:=d,toks:=tk }) :
  τ (χ prog w) A (call (.builtin "sorted") [.ref r]) Q E s:=by
 refine Calls.call_function_entry kind_sorted plain_sorted entry_sorted (args_sorted1 _) ?_;unfold Builtin.«sorted»;refine θ (m:=checkCount "sorted" 1 1 _) (υ (θ (hc _ λh' d tk vs ns kp hI hP=>?_)));have vl:vs.length=ks.length:=by rw[hI.length,hP.length_eq]
 have v64:vs.length<64:=by lia
 refine θ (wpAny_newList ?_ (by rw[BX];lia));have oL:(h'.push (seqObj "list" vs.toArray 0)).get? h'.objs.size=some (seqObj "list" vs.toArray 0):=A9 _ rfl;refine θ (Aj (wpAny_call_entry PySem.F.slot_list_sort ⟨_,oL,rfl⟩ PySem.F.entry_list_sort (list_sort_tree oL hI v64 λout ns' a1 a2 a3=>⟨_,rfl,?_⟩) (args_list_sort _)));obtain⟨n,hn⟩:=sortedHeap_at (out:=out) oL;refine υ ⟨_,rfl,h h' _ d tk _ out n ns' kp (λb o q=>?_) (ο _) hn a1 (a2.trans hP) a3⟩;rw[sortedHeap_old (A3 (ξ q)) (by rw[size_push'];exact Nat.lt_succ_of_lt (ξ q))];exact μ _ q
end
section
variable {X:Cx}{tg iter elt:Δ}{ifs:List Δ}{scope:Ac}{pos:Pos}{wi:TI}{N:List Str}{js:List (Option Nat)}{g:TG}{tt:ω->TT}{te:ω->TE}
end
section
variable {X:Cx}
theorem jK:∀ {vs:List δ} {ns:List Int},C6 vs ns->Vals (ns.map V.int) vs
 | _,_,.nil=>.nil
 | _,_,.cons n t h=>.cons ⟨t,rfl⟩ (jK h)
abbrev zC (ks:List Int)(H:Hp)(Q:VK):Prop:=ks.length<64/\∀(p:ε) (ns:List Int),H p=none->ns.Perm ks->ns.Pairwise (·<=·)->Q (.ref p) (upd H p (.lst (ns.map V.int)))
theorem uE {σ:St}{H:Hp}{ks:List Int}{Q:VK}(I:Inv X aa σ H s)(q:zC ks H Q){d:Drawn}{tk:Nat}{out:Array δ}{n:Nat}{ns:List Int}(k1:∀b o,s.heap.get? b=some o->h1.get? b=some o)(k2:∀b o,h1.get? b=some o->h'.get? b=some o)(hp:h1.objs.size<=p)(ho:h'.get? p=some (seqObj "list" out n))(hI:C6 out.toList ns)(hP:ns.Perm ks)(hs:ns.Pairwise (·<=·)):EP X aa σ Q (.ref p) { s with heap:=h',drawn:=d,toks:=tk }:=by
 have I1:Inv X aa σ H { s with heap:=h1,drawn:=d,toks:=tk }:=I.call (g':=s.gens) (ch:=[]) (Un.kept k1) (I.hok.kept k1) I.bare λ_ z=>nomatch z;have z:ns.length<=ψ:=by rw[hP.length_eq];exact AX (bP (by have:=q.1;lia))
 exact⟨.ref p,_,I1.laid (o:=.lst (ns.map V.int)) (t':=tk) k2 hp ⟨by rw[Ω];exact z,out.toList,n,jK hI,by rw[ho,Array.toArray_toList]⟩,rfl,q.2 p ns (I1.hok.fresh hp) hP hs⟩
end
section
variable {X:Cx}
theorem tM:∀ {ns:List Int} {us:List δ},Vals (ns.map V.int) us->C6 us ns
 | [],_,r=>by cases r;exact .nil
 | n::ns,_,r=>by
  cases r with
  | cons p q =>
   obtain⟨t,rfl⟩:=p;exact .cons n t (tM q)
noncomputable def rZ:List V->Hp->VK->Prop:=λxs H Q=>∃(l:ε) (ks:List Int),xs=[.ref l]/\H l=some (.lst (ks.map V.int))/\zC ks H Q
theorem lC:bY X (.builtin "sorted") rZ:=by
 intro aa s σ H xs us Q I r h;obtain⟨l,ks,rfl,hH,q⟩:=h;obtain⟨u,rfl,ru⟩:=r.one;cases ru;obtain⟨its,rv,p,hz⟩:=I.list (SqL.of hH:SqL X.K H l (ks.map V.int));refine qA q.1 (λR hR=>collect_list p.isList (hR _ _ _ its ks (λb o e=>?_) (tM rv) (.refl _)) (by have:=rv.length;lia)) λh1 h' d tk p out n ns k1 k2 hp ho hI hP hs=>uE I q k1 k2 hp ho hI hP hs;have hb:s.heap.objs.size≠b:=λz=>by rw[<- z,Ak (ο _)] at e;cases e
 exact Heap.get?_update_of_ne _ hb (μ _ e)
end
noncomputable def oC (k lo:Int)(n:Nat):It:=⟨λi _=>i<n,λi H x H'=>H'=H/\x=.int (lo+(i:Int)*k),λi _=>n<=i⟩
theorem lJ {P:ρ}{w:Γ}{K:γ}{tg:Δ}(it:ε)(k lo:Int)(n:Nat):Turn P w K tg (oC k lo n) [it] it (λi h=>CD h it (lo+(i:Nat)*k) ((n:Int)-(i:Nat)) k) where
 mem:=by simp
 obj:=λi h st b hb=>by
  have e:b=it:=by simpa using hb
  subst e;exact⟨_,st,λv z=>nomatch (show Data.fields _=Data.cell v from z)⟩
 keep:=λi h h' st k=>k it 'C' _ st
 item:=by intro X hP hw hK hc i aa s σ H E I hf st hg;subst hP hw hK;obtain⟨f0,f1,f2,f3,f4,f5⟩:=hf it 'C';have W:=Walks.range (prog:=X.prog) (w:=X.w) (I.ok.hd hc) it lo k n;refine W.item i s _ _ hg st λv h' tk hv st' kk=>?_;obtain⟨t,rfl⟩:=hv;have I1:Inv X aa σ H { s with heap:=h',toks:=tk }:=I.turned (λb o hb e=>kk b o (by simpa using hb) e) f0 f1 f3 f4 f5;exact⟨_,rfl,mQ (s:={ s with heap:=h',toks:=tk }) (n := "range_iterator") st' rfl rfl 'A' ⟨.int (lo+(i:Int)*k),H,I1,⟨t,rfl⟩,⟨rfl,rfl⟩,st',λb hb=>(hf b hb).1⟩⟩
 done:=by intro X hP hw hK hc i aa s σ H E I hf st hg;subst hP hw hK;obtain⟨f0,f1,f2,f3,f4,f5⟩:=hf it 'C';exact CF (I.ok.hd hc) st (by have:n<=i:=hg;lia) λh' eb=>⟨rfl,I.turned (t':=s.toks) (λb o hb e=>eb b o hb e) f0 f1 f3 f4 f5⟩
 self:=λ_ _ _ _ _ st h=>CG st h
section
variable {X:Cx}{tg:Δ}
noncomputable def nK (k lo hi:Int):Nat:=if lo<hi then ((hi-lo-1)/k+1).toNat else 0
theorem sW {k lo:Int}(k0:0<k)(h:j<nK k lo hi):lo+(j:Int)*k<hi:=by
 unfold nK at h
 split at h
 ·have:=Cz (a:=hi-lo-1) (b:=k) 'B' 'B';have:=Int.mul_le_of_le_ediv k0 (show (j:Int)<=(hi-lo-1)/k by lia);lia
 ·lia
theorem sX {k lo:Int}(k0:0<k)(h:lo<hi):hi<=lo+(nK k lo hi:Int)*k:=by unfold nK;rw[if_pos h];have:=Cz (a:=hi-lo-1) (b:=k) 'B' 'B';have q:=Int.lt_ediv_add_one_mul_self (hi-lo-1) k0;rw[Int.toNat_of_nonneg 'B'];lia
theorem pC {k:Int}(hk:0<k)(lo hi:Int):((nK k lo hi:Nat):Int)=AZ lo hi k:=by
 unfold nK AZ;rw[if_pos (show k>0 from hk)]
 split
 ·have:=Cz (a:=hi-lo-1) (b:=k) 'B' 'B';lia
 ·lia
theorem uH {a b k:Int}(k0:0<k)(k1:k<2^62)(ha : -(2^61)<=a)(ha':a<2^61)(hb : -(2^61)<=b)(hb':b<2^61):Bm a b k=true:=by
 unfold Bm;rw[<- pC k0];have d1:a<b->0<=(b-a-1)/k/\(b-a-1)/k<=b-a-1:=λh=>⟨Cz 'B' 'B',by
  have:=Int.ediv_le_self (a:=b-a-1) k 'B';exact this⟩
 unfold nK;simp only[DF,Ξ,BV,decide_eq_true_eq,beq_iff_eq,show k>0 from k0,if_true]
 split
 ·rename_i h;have:=d1 h;omega
 ·lia
theorem qE {σ:St}{H:Hp}{R:It->Hp->Prop}{E:δ->η->Prop}{lo k:Int}{t u v:Tok}{tk:Nat}(I:Inv X aa σ H s)(k0:0<k)(k1:k<2^62)(h1 : -(2^61)<=lo)(h2:lo<2^61)(h3 : -(2^61)<=hi)(h4:hi<2^61)(q:R (oC k lo (nK k lo hi)) H):τ (χ X.prog X.w) X.A (pyIter (.ref s.heap.objs.size)) (PIE X aa σ tg R) E { s with heap:=s.heap.push { cls:=.type "range",data:=.fields #[.int lo t,.int hi u,.int k v] },toks:=tk }:=by
 refine DB (IsRange.new ..) (uH k0 k1 h1 h2 h3 h4) ?_;have I1:Inv X aa σ H { s with heap:=s.heap.push { cls:=.type "range",data:=.fields #[.int lo t,.int hi u,.int k v] },toks:=tk }:=I.kept λb o e=>μ _ e;refine⟨(s.heap.push { cls:=.type "range",data:=.fields #[.int lo t,.int hi u,.int k v] }).objs.size,[(s.heap.push { cls:=.type "range",data:=.fields #[.int lo t,.int hi u,.int k v] }).objs.size],_,_,H,rfl,
  I1.kept (t':=tk) λb o e=>μ _ e,lJ _ k lo (nK k lo hi),?_,λb hb=>?_,q⟩
 ·have e1:lo+((0:Nat):Int)*k=lo:=by simp
  have e2:((nK k lo hi:Nat):Int)-((0:Nat):Int)=AZ lo hi k:=by rw[<- pC k0];simp
  show CD _ _ (lo+((0:Nat):Int)*k) (((nK k lo hi:Nat):Int)-((0:Nat):Int)) k;rw[e1,e2];exact A9 _ rfl
 ·have e:b=(s.heap.push { cls:=.type "range",data:=.fields #[.int lo t,.int hi u,.int k v] }).objs.size:=by simpa using hb
  subst e;exact I1.fpOk (ο _) (I1.hok.fresh (ο _))
def pF (ta:TA):TI:=λσ H R=>ta σ H λvs H1=>∃i j k:Int,vs=[.int i,.int j,.int k]/\(0<k/\k<2^30)/\(-(2^61)<=i/\i<2^61 /\ -(2^61)<=j/\j<2^61)/\R (oC k i (nK k i j)) H1
theorem qG {a b c:Δ}{ta:TA}{p:Pos}(hg:Gl X "range")(hm:X.mg "range" = none)(ha:PA X [a,b,c] ta)(hs:autoParam (Θ [a,b,c] X.env=[(false,A5 a X.env),(false,A5 b X.env),(false,A5 c X.env)]) L2.au3._auto_1)(hs2:autoParam (Θ [b,c] X.env=[(false,A5 b X.env),(false,A5 c X.env)]) L2.au3._auto_1) :
  PI X tg (.Call (.Name "range" p) [a,b,c] [] pos) (pF ta):=by
 intro aa s σ H R I h;refine Call_ (eU I hg hm boot_range (B7 (thn (ha pos aa s σ H _ I h) λus s1 hh=>?_) (by rw[hs,hs2]) (by rw[hs2];rfl)));obtain⟨vs,H1,I1,r1,q1⟩:=hh;obtain⟨i,j,k,e,⟨k0,k1⟩,⟨q1,q2,q3,q4⟩,q⟩:=q1;subst e;cases r1 with
 | cons r rr =>
  cases rr with
  | cons r' rr =>
   cases rr with
   | cons r'' rr =>
    cases rr;obtain⟨t,rfl⟩:=r;obtain⟨t',rfl⟩:=r';obtain⟨t'',rfl⟩:=r'';exact call_range_3 'B' (qE I1 k0 'B' q1 q2 q3 q4 q) (.inl (PyProof.noPylong_small 'B'))
end
section
variable {g:TG}{tb:TS}{D:Ends}{σ:St}{H:Hp}
def FRK (k lo:Int)(n:Nat)(g:TG)(tb:TS)(D:Ends)(σ:St)(H:Hp):Prop:=∃W:Nat->Nat->St->Hp->Prop,(∃m,W 0 m σ H)/\∀i m σ H,W i m σ H ->
   ((oC k lo n).stop i H/\D.nx σ H)\/((oC k lo n).go i H/\∃N:St->Hp->Prop,(∀ σ' H',N σ' H'->∃m',m'<m/\W (i+1) m' σ' H')/\∀x H',(oC k lo n).yld i H x H'->g x σ H' λσ2 H2=>tb { D with nx:=N,ct:=N,bk:=D.nx } σ2 H2)
theorem iT {ta:TA}(h:ta σ H λvs H1=>∃i j k:Int,vs=[.int i,.int j,.int k]/\(0<k/\k<2^30)/\(-(2^61)<=i/\i<2^61 /\ -(2^61)<=j/\j<2^61)/\FRK k i (nK k i j) g tb D σ H1):lN (pF ta) g tb D σ H:=h
theorem tT {k lo:Int}{n:Nat}(Pv:Nat->St->Hp->Prop)(h0:Pv 0 σ H)(hs:∀i σ H,i<n->Pv i σ H->g (.int (lo+(i:Int)*k)) σ H λσ2 H2=>tb { D with nx:=Pv (i+1),ct:=Pv (i+1),bk:=D.nx } σ2 H2)(hd:∀ σ H,Pv n σ H->D.nx σ H):FRK k lo n g tb D σ H:=by
 refine⟨λi m σ H=>m=n-i/\i<=n/\Pv i σ H,⟨n,by simp,AY _,h0⟩,?_⟩
 rintro i m σ H ⟨rfl,hi,p⟩
 by_cases hlt:i<n
 ·refine .inr ⟨hlt,Pv (i+1),λσ' H' p'=>⟨n-(i+1),by lia,rfl,hlt,p'⟩,λx H' y=>?_⟩;obtain⟨e,rfl⟩:=y;subst e;exact hs i σ _ hlt p
 ·have e:i=n:=by lia
  subst e;exact .inl ⟨ο _,hd σ H p⟩
end
section
variable {g:TG}{tt:TT}{te:TE}{D:ε}{Q:VK}{σ:St}{H:Hp}
theorem mW {k lo:Int}{n:Nat}(Pv:Nat->St->Hp->Prop)(h0:Pv 0 σ H)(hs:∀i σ H,i<n->Pv i σ H->CT g tt te D (Pv (i+1)) (.int (lo+(i:Int)*k)) σ H)(hd:∀ σ H,Pv n σ H->Q (.ref D) H):CW (oC k lo n) g tt te D Q σ H:=by
 refine⟨λi m σ H=>m=n-i/\i<=n/\Pv i σ H,⟨n,by simp,AY _,h0⟩,?_⟩
 rintro i m σ H ⟨rfl,hi,p⟩
 by_cases hlt:i<n
 ·refine .inr ⟨hlt,Pv (i+1),λσ' H' p'=>⟨n-(i+1),by lia,rfl,hlt,p'⟩,λx H' y=>?_⟩;obtain⟨e,rfl⟩:=y;subst e;exact hs i σ _ hlt p
 ·have e:i=n:=by lia
  subst e;exact .inl ⟨ο _,hd σ H p⟩
end
structure SW (X:Cx)(e:Δ)(t:TT):Prop where
 h:PW X e t
section
variable {X:Cx}{a b e:Δ}{es:List Δ}{pos p:Pos}{t tA tB':TT}
theorem SW.st (s:SW X e t):ST X e t:=⟨s.h.pt⟩
theorem uD (ha:ST X a tA):SW X (.BoolOp .And [a] pos) tA:=⟨oV ha.h⟩
theorem rP (ha:ST X a tA):SW X (.BoolOp .Or [a] pos) tA:=⟨nE ha.h⟩
theorem w6 (ha:ST X a tA)(hb:SW X (.BoolOp .And (b::es) pos) tB'):SW X (.BoolOp .And (a::b::es) pos) (p9 tA tB'):=⟨sD ha.h hb.h⟩
theorem wH (ha:ST X a tA)(hb:SW X (.BoolOp .Or (b::es) pos) tB'):SW X (.BoolOp .Or (a::b::es) pos) (tOr tA tB'):=⟨r9 ha.h hb.h⟩
end
section
variable {X:Cx}{a b e elt tg iter:Δ}{rest ifs:List Δ}{pos p:Pos}{ta tb:TE}
theorem xF {op:BoolOp}{t:TE}(h:SE X a t):SE X (.BoolOp op [a] pos) t:=⟨f8 h.h⟩
theorem xH (ha:SE X a ta)(hb:SE X (.BoolOp .And (b::rest) pos) tb):SE X (.BoolOp .And (a::b::rest) pos) (iV ta tb):=⟨f9 ha.h hb.h⟩
end
section
variable {X:Cx}{a b c e:Δ}{pos:Pos}{ta tb tc te:TE}{tA:TT}
theorem xB {tg:Δ}{g:TG}(he:SE X e te)(hg:PG X tg g)(hs:autoParam (CL [tg] e pos.line X.env=pure false) L2.au3._auto_1)(hw:autoParam (CM [tg] e X.env=pure none) L2.au3._auto_1)(h1:autoParam ((C3 [tg] X.env).map (·.2)=[Ci tg X.env]) L2.au3._auto_1):SS X (.Assign [tg] e pos) (dP te g):=⟨kB he.h hg hs hw h1⟩
end
end L2
namespace HT
open PySem PySem.Spec PyProof.Rows
section
variable {prog:ρ}{w:Γ}{A:Around}{E:δ->η->Prop}{s:η}
theorem eA {t sl:ε}{items:Array δ}{lo hi:Option Int}(ht:IsTup s.heap t items)(hs:s.heap.IsSliceOf sl vl vu .none)(pl:Cn vl lo)(pu:Cn vu hi)(hw:sIx items.size 0 lo=0/\sIx items.size items.size hi=items.size)(h:Q (.ref t) s):τ (χ prog w) A (Db (.ref t) (.ref sl)) Q E s:=by
 obtain⟨os,hos,hcs,hds⟩:=id hs;have hTs:s.TypeIs (.ref sl) "slice" := ⟨os,hos,hcs⟩;unfold Db
 try with_reducible refine Aj ?_
 first | refine θ (υ ?_) | skip
 refine θ (wpAny_sequenceKey ht.typeIs 'A' ?_);refine θ (wpAny_callSpecial?_slot (name:=ζ "__getitem__") ht.typeIs AO
  (wpAny_call_entry AO ht.typeIs entry_tuple_getitem ?_ (args_tuple_getitem _ _)))
 show τ _ _ (DL (.ref t) >>= _) _ _ s;refine θ (tupleItemsOf_ ht ?_);refine θ (wpAny_typeOf hTs ?_);rw[if_pos 'A'];refine θ (cH hs pl pu ?_);have hyes:((((sIx items.size 0 lo:Nat):Int)==0&&(1:Int)==1&&(sIx items.size items.size hi-sIx items.size 0 lo)==items.size)=true):=by rw[hw.1,hw.2];simp
 show τ _ _ (if (((sIx items.size 0 lo:Nat):Int)==0&&(1:Int)==1&&(sIx items.size items.size hi-sIx items.size 0 lo)==items.size)=true then _ else _) _ _ s;rw[if_pos hyes];unfold Builtin.Tuple.tupleIsExact;refine θ (θ (wpAny_typeOf ht.typeIs (υ ?_)));rw[if_pos 'A'];refine θ (wpAny_rule ?_);exact υ ⟨_,rfl,υ h⟩
theorem tZ {t:ε}{ws:List δ}(ht:IsTup s.heap t (#[]:Array δ))(hb:IsTup s.heap b ws.toArray)(h1:Q (.ref b) s):τ (χ prog w) A (B0 .Add (.ref t) (.ref b)) Q E s:=by
 obtain⟨⟨cls,dd,data,sl⟩,ho,hc,n,hd⟩:=id ht;obtain⟨⟨cls2,dd2,data2,sl2⟩,ho2,hc2,n2,hd2⟩:=id hb;simp only at hc hd hc2 hd2;subst hc hd hc2 hd2;exact concat_meets ⟨_,ho,rfl⟩ ⟨_,ho2,rfl⟩ noFill_tuple_add seq_tuple_add CI CA (Bw _ _)
   (tuple_addW0 t b #[] ws.toArray n n2 dd dd2 sl sl2 'C') ⟨ho,ho2,h1⟩
end
end HT
namespace L2
open PySem PySem.Spec PyProof.Rows
section
variable {X:Cx}{e:Δ}{te:TE}{pos p1 p2 p3:Pos}{kk:Nat}
noncomputable def zG (K:γ):V->Option Int->Option Int->Hp->VK->Prop:=λx lo hi H Q=>∃a xs,x=.ref a/\SqT K H a xs/\∀p H',Same H H'->SqT K H' p (iJ xs lo hi)->Q (.ref p) H'
theorem uI:SlR X (zG X.K):=by
 intro aa s σ H x v vl vu lo hi sl Q I rx hs pl pu h;obtain⟨a,xs,rfl,hx,q⟩:=h;by_cases hw:HT.sIx xs.length 0 lo=0/\HT.sIx xs.length xs.length hi=xs.length
 ·cases rx;obtain⟨its,r,ht,hz⟩:=I.tuple hx;have hlen:its.toArray.size=xs.length:=by rw[ν];exact r.length.symm
  refine⟨"tuple",_,AO.lookup,ht.typeIs,?_⟩;refine HT.eA ht hs pl pu (by rw[hlen];exact hw) ?_;have e:iJ xs lo hi=xs:=by unfold iJ;rw[hw.1,hw.2,List.drop_zero,Nat.sub_zero,Dg]
  refine⟨.ref a,H,I,rfl,q a H (Same.refl H) (by rw[e];exact hx)⟩
 ·exact xC aa s σ H _ v vl vu lo hi sl Q I rx hs pl pu ⟨a,xs,rfl,hx,hw,λp hp=>q p _ (λb o e=>by rw[aJ (aM e hp)];exact e) (SqT.of aD)⟩
def wL (K:γ):R2:=λx y H Q=>∃a b xs ys,x=.ref a/\y=.ref b/\SqT K H a xs/\SqT K H b ys/\xs.length+ys.length<=ψ/\∀p H',Same H H'->SqT K H' p (xs++ys)->Q (.ref p) H'
theorem uZ:OpR X (B0 .Add) (wL X.K):=by
 intro aa s σ H x y v u Q I rx ry h;obtain⟨a,b,xs,ys,rfl,rfl,ha,hb,hz,q⟩:=h;by_cases hx:xs=[]
 ·subst hx;cases rx;cases ry;obtain⟨its,r1,p1,_⟩:=I.tuple ha;obtain⟨its2,r2,p2,_⟩:=I.tuple hb;cases r1;exact HT.tZ p1 p2 ⟨.ref b,H,I,rfl,q b H (Same.refl H) hb⟩
 ·exact uY aa s σ H _ _ v u Q I rx ry ⟨a,b,xs,ys,rfl,rfl,ha,hb,hx,hz,λe=>by rw[e,BB] at q;exact q a H (Same.refl H) ha,λ_ p hp=>q p _ (λb o e=>by rw[aJ (aM e hp)];exact e) (SqT.of aD)⟩
theorem xG {o:Δ}{to:TE}{name:Str}{apos cpos:Pos}{T id:String}{r:V->List V->Hp->VK->Prop}(pa:DV T)(slot:Slot T name id)(hty:DD (.builtin id)=pure (.type "method_descriptor"))(hm:MtR X id r)(ho:SE X o to)(hbase:autoParam (BD o name X.env (A5 o X.env)=A5 o X.env) L2.au3._auto_1)(hline:autoParam ((apos.endLine==cpos.line)=true) L2.au3._auto_1):SE X (.Call (.Attribute o name apos) [] [] cpos) (wY X.K T r to):=⟨xT pa slot hty hm ho.h hbase hline⟩
theorem xA {x:Str}{a b:Δ}{ta:TA}{pt:Pos}{kt k2 pt2}(hc:X.calm=true)(hN:X.N.Nodup)(hi:X.N[i]? = some x)(hj:X.N[j]? = some y)(hij:i≠j)(hx:X.env.scope.names.lookup x=some .local)(hy:X.env.scope.names.lookup y=some .local)(ha:SA X [a,b] ta)(hw:CM [.Tuple [.Name x px,.Name y py] kt pt] (.Tuple [a,b] k2 pt2) X.env=pure (some [x,y]))(hs:autoParam (CL [.Tuple [.Name x px,.Name y py] kt pt] (.Tuple [a,b] k2 pt2) pos.line X.env=pure false) L2.au3._auto_1) :
  SS X (.Assign [.Tuple [.Name x px,.Name y py] kt pt] (.Tuple [a,b] k2 pt2) pos) (p5 i j ta):=⟨kA hc hN hi hj hij hx hy ha.h hw hs⟩
end
theorem cK {p:ρ}{lv:List (Str×Bh)}{mg:Str->Option δ}{h:ω}{n:Str}{i:Int}(x:PySem.W.XL p lv mg h)(hm:(n,AF i)∈lv):∃t,mg n=some (.int i t):=by obtain⟨v,a,b⟩:=x.2.val _ hm;cases b;exact⟨_,a⟩
end L2
namespace OP
open PySem PySem.W PySem.Calls PyProof.Rows
noncomputable def fE (tb:String->Option Builtin)(p:ρ)(w:Γ)(n₀:Nat)(ann:Option δ):Nat->SharedT->Thread->Option SharedT
 | 0,_,_=>none
 | n+1,s,t=>match through t with
  | true=>some s
  | false=>match stepOk n₀ ann t with
   | false=>none
   | true=>match stepT (denote tb) p w s t with
    | some (s',t')=>fE tb p w n₀ ann n s' t'
    | none=>none
theorem iP {tb:String->Option Builtin}{p:ρ}{w:Γ}{n₀:Nat}{ann:Option δ}:∀ {n:Nat} {s s':SharedT} {t:Thread},fE tb p w n₀ ann n s t=some s'->topRun tb p w n₀ ann n s.abs t=some s'.abs
 | 0,_,_,_,h=>by cases h
 | n+1,s,s',t,h=>by
  unfold fE at h;unfold topRun;cases he:through t with
  | true=>rw[he] at h;cases h;rfl
  | false =>
   rw[he] at h;cases hk:stepOk n₀ ann t with
   | false=>rw[hk] at h;cases h
   | true =>
    rw[hk] at h;cases hs:stepT (denote tb) p w s t with
    | none=>rw[hs] at h;cases h
    | some r=>obtain⟨s₂,t₂⟩:=r;rw[hs] at h;rw[stepT_spec hs];exact iP h
noncomputable def zB (P:DE):BT :=
 .node (boot_o_0 P)
  (.node (boot_o_1 P) (.node (boot_o_3 P) (.node (boot_o_7 P) .nil .nil) .nil) (.node (boot_o_5 P) (.node (boot_o_9 P) .nil .nil) .nil))
  (.node (boot_o_2 P) (.node (boot_o_4 P) (.node (boot_o_8 P) .nil .nil) .nil) (.node (boot_o_6 P) (.node (boot_o_10 P) .nil .nil) .nil))
noncomputable def t6 (P:DE)(os:OsState):SharedT:=⟨zB P,11,(BI P).life,Dx [],boot_drawn,boot_toks,os⟩
theorem rB (P:DE)(os:OsState):(t6 P os).abs=⟨BI P,Dx [],boot_drawn,boot_toks,os⟩:=rfl
noncomputable def t7 (P:DE):Option δ:=(BI P).nsMap A4 "__annotations__"
theorem rA (P:DE):((BI P).isNs A4&&(Dx []:Array GenState).size==0)=true:=by kernel_rfl
noncomputable def goT {α:Type}(h₀:ω)(ann:Option δ)(s₀:SharedT)(p q:ρ)(loose:List Str)(Xt:η->Bool)(Yf:η->α)(M:Nat)(w:Γ) :=
 (fE treeTable p w 11 ann M s₀ (topStub p)).map λs =>
  ((staticsOk (importedModules p.main.body) h₀ s.abs.heap&&namesBound p s.abs.heap&&gensDone s.abs&&laidKept h₀ s.abs.heap),
   openSeen q loose (importedModules p.main.body) Xt true s.abs,Yf s.abs)
theorem mF {p q:ρ}{Xt:η->Bool}{α:Type}{Yf:η->α}{Ya:Γ->α}{N M:Nat}(e:opening p=plainProg p.main.scope.names)(hN:Nat.ble 600 N=true)(f:∀s,fenceModules? p s=some s)(run:∀(w:Γ) (os:OsState),goT (BI w.params) (t7 w.params) (t6 w.params os) p q loose Xt Yf M w=some (true,openGood q loose,Ya w))(le:Nat.ble M N=true):LeftO p q loose Xt Yf Ya N:=λw=>by
 obtain⟨⟨h,gs,d,k,os⟩,e1,e2⟩:=Option.map_eq_some_iff.mp (boot_open e hN f w);obtain⟨rfl,rfl,rfl,rfl⟩:h=BI w.params/\gs=Dx []/\d=boot_drawn/\k=boot_toks:=by simpa using e2
 obtain⟨s,hs,hl⟩:=Option.map_eq_some_iff.mp (run w os);have r:=topRun_mono (N-M) _ _ _ _ (iP hs);rw[show M+(N-M)=N by have:=Nat.le_of_ble_eq_true le;lia,rB] at r;obtain⟨l1,l2,l3⟩:_/\_/\_:=by simpa only [Prod.mk.injEq] using hl
 have t:topFrom treeTable p w N ⟨BI w.params,Dx [],boot_drawn,boot_toks,os⟩=some s.abs:=by unfold topFrom;dsimp only;rw[rA];dsimp only;rw[show (BI w.params).objs.size=11 from rfl];unfold t7 at r;rw[r];show (match staticsOk (importedModules p.main.body) (BI w.params) s.abs.heap&&namesBound p s.abs.heap&&gensDone s.abs&&laidKept (BI w.params) s.abs.heap with | true=>_ | false=>_)=_;rw[l1]
 unfold openEnds;rw[e1];show (topFrom treeTable p w N _).map _=_;rw[t];exact congrArg some (Prod.ext l2 l3)
end OP
set_option hygiene false
local macro_rules | `(tactic| ac_rfl)=>`(tactic| (dsimp only[L2.KOf];refine' ⟨_,PP.bA KX G ?a ?l ?c ?k ?b⟩;(case a=>k_is);(case l=>k_is);(case c=>k_is);(case k=>k_is);(case b=>intro _ _ _ _ _ _ us hl;first | (obtain⟨a0,rfl⟩:=PP.us1 hl;rfl) | (obtain⟨a0,a1,rfl⟩:=PP.us2 hl;rfl) | (obtain⟨a0,a1,a2,rfl⟩:=PP.us3 hl;rfl) | (obtain⟨a0,a1,a2,a3,rfl⟩:=PP.us4 hl;rfl))))
local macro_rules | `(tactic| injections)=>`(tactic| (refine' PySem.W.mg_none_of KX G ?a;(case a=>k_is)))
set_option hygiene true
set_option maxHeartbeats 0
lay_quick OP.goT
namespace OP
open PySem PySem.W PySem.Calls PyProof.Rows
noncomputable def qOf (n:Nat)(p:ρ):ρ:={ p with main:={ p.main with body:=[p.main.body.getD n (.Pass ⟨0,0,0,0⟩)] } }
theorem left_tw {p p':ρ}{n:Nat}{lv:List (Str×Bh)}{R:WRecords}{α:Type}{Yf:η->α}{Ya:Γ->α}{N:Nat}(M:Nat)(hp:p=p')(e:opening p=plainProg p.main.scope.names)(hN:Nat.ble 600 N=true)(f:∀s,fenceModules? p s=some s)(le:Nat.ble M N=true)(run:∀(w:Γ) (os:OsState),PySem.W.Fast.tw9285885503168683399 (BI w.params) (t7 w.params) (t6 w.params os) p' (qOf n p') loose (λs=>xlAt (qOf n p') lv s&&recOk R s) Yf M w=some (true,openGood (qOf n p') loose,Ya w)) :
  LeftO p (qOf n p) loose (λs=>xlAt (qOf n p) lv s&&recOk R s) Yf Ya N:=by
 subst hp;refine mF e hN f (λw os=>?_) le;rw[PySem.W.Fast.te9285885503168683399];exact run w os
end OP
namespace L2
open PySem PySem.Spec PyProof.Rows
theorem rG {l:Bp}{n k:Nat}{q:ρ}{d:DefRec}{K:DE->γ}{CX:Γ->CXT}{sp:ε->Γ->γ->Sp}{x:Str}(hn:l.most=some n)(hn2:n<=ψ)(hdf:d.params.defaults=[])(hr:Room k D7)(hY:∀(w:Γ) (h:ω),YP w h->(K w.params).In h/\h.get? Pt=some (C9 #[]))(F:∀(w:Γ) (mg:Str->Option δ) (fa:ε) (h:ω),(K w.params).In h->h.Ns A4 mg->XP mg h->mg d.name=some (.ref fa) ->
   ∃(fd:AC) (c:ε),CU (K w.params) c Pt=true/\(K w.params).lookup Pt=none/\(∀(s:η) (u:δ),D5 s fd ⟨[u],[]⟩ [(x,u)]) /\
    ∀ad:ω,(K w.params).In ad->ad.Ns A4 mg->ad.BuiltinsAt mg Pt->FnOk l.prog w (K w.params) mg ad (CX w) k fa fd [x] (sp Pt w (K w.params)))(hsp:∀(w:Γ) (K:γ) (H:Hp) (a:ε) (ns:List Int),ns.length<=n->pV Pt H->SqL K H a (ns.map V.int)->H Pt=some (.tbl #[])->sp Pt w K [.ref a] H (λv _=>v=.bl true) λ_ _ _=>False)(hCX:∀(w:Γ) (H:Hp) (s:η) (e:δ) (s':η),CX w [] H s (λ_ _ _=>False) e s'->False) :
  PySem.W.WalkO q loose XP YP l.row.toRowW d [] (λf vs=>Ag f vs):=by
 exact rF (sp:=sp Pt) hn hn2 hdf hr hY F hsp hCX
end L2
namespace PP
open PySem L2 MM
theorem cxK {CX : CXT}{P w K mg ad N qual scope f cd A ae s H}{E : XK} : (fC CX P w K mg ad N qual scope f cd A ae s H E).K = K := rfl
theorem wsK {X : Cx}{E : δ -> η -> Prop} : (X.wish E).K = X.K := rfl
local macro_rules | `(tactic| rename_i $a:ident $b:ident $c:ident)=>`(tactic| ((try dsimp only[cxK,wsK]);(try dsimp only[mD,rEq,rNe,vD,vB,u8,vA,vC,fJ,fK,fG,fH,fI,dM,p8,fR,pZ,oG,iS,iU,dP,p5,lK,rN,dL,tC,tOp,tUn,rI,rI0,rU,tB,p9,tOr,p7,iV,uA,lL,tIf,cW,tS,mR,tR,qV,tCB,dO,jW,fT,eJ,ipI,uB,oI,tBM,tyV,nD,lM,dS,r8,List.getElem?_cons_zero,List.getElem?_cons_succ,DG,DH,Bo,BO,lT,lV,fS,cV,nX,jX,oJ,fZ,fY,oK,jZ,$a:ident,$b:ident,$c:ident]);(try simp only[mD,eq_self,and_assoc,Option.some.injEq,V.int.injEq,V.bl.injEq,V.ref.injEq,V.str.injEq,List.cons.injEq,exists_eq_left',exists_eq_left,exists_and_left,BB,true_and,and_true,decide_eq_true_eq,Bool.not_eq_true',decide_eq_false_iff_not,if_true,if_false,Bool.not_true,Bool.not_false,Bool.false_eq_true,reduceCtorEq,decide_true,decide_false,ite_true,ite_false,Int.reduceToNat,Int.reducePow])))
local macro_rules | `(tactic| bv_omega)=>`(tactic| rename_i mD mD mD)
local macro_rules | `(tactic| rename_i $a:ident)=>`(tactic| rename_i $a:ident mD mD)
local macro_rules | `(tactic| rename_i $a:ident $b:ident)=>`(tactic| rename_i $a:ident $b:ident mD)
local macro_rules | `(tactic| infer_instance)=>`(tactic| exact ⟨rfl,rfl,rfl,by decide +kernel,rfl,by decide +kernel,by decide +kernel⟩)
set_option hygiene false
local macro_rules | `(tactic| exists $a)=>`(tactic| refine D.fn.ok $a (λvs H Q E h=>?_) (λcdv A ae s H vs Q E hr h=>?_))
set_option hygiene true
local macro_rules | `(tactic| subst_eqs)=>`(tactic| first | exact Or.inl rfl | exact Or.inr rfl)
local macro_rules | `('E')=>`((nomark _))| `('F')=>`(by subst_eqs)| `('G')=>`((λ_ _=>rfl))| `('H')=>`((pv 0))| `('I')=>`((pv 1))| `('J')=>`((pv 2))| `('K')=>`((ο _))| `('O')=>`(⟨_,λ_ _ _=>Iff.rfl⟩)| `('L')=>`((ζ "full"))| `('M')=>`((ζ "two"))| `('N')=>`((ζ "other"))
abbrev DfG (x:Str)(st:AD)(ps:List Str)(K:γ)(mg:Str->Option δ)(f:ε)(fd:AC):Prop:=Def K mg x st ps f fd
abbrev OG (D:γ->(Str->Option δ)->ε->AC->Prop)(k:Nat)(ps:List Str)(sp:γ->Sp)(P:ρ)(w:Γ)(K:γ)(mg:Str->Option δ)(ad:ω):Prop:=∃f fd,D K mg f fd/\FnOk P w K mg ad CX0 k f fd ps (sp K)
abbrev OH (D:γ->(Str->Option δ)->ε->AC->Prop)(k:Nat)(ps:List Str)(sp:Sp)(P:ρ)(w:Γ)(K:γ)(mg:Str->Option δ)(ad:ω):Prop:=∃f fd,D K mg f fd/\FnOk P w K mg ad CX0 k f fd ps sp
noncomputable def top (i:Nat):AD:=PySem.Challenge.pw_primepapers_k52_numbers_fooled.main.body.getD i (.Pass ⟨0,0,0,0⟩)
structure Cl where
 pe:ε
 nn:ε
 np:ε
 pa:ε
 pp:ε
 nb:ε
 nt:ε
 nl:ε
 nm:ε
 nd:ε
 tg:ε
structure Txt (K:γ)(mg:Str->Option δ)(t1 t2 t3 t4 t5:Tok)(cl:Cl):Prop where
 mg_MOST_TRIED:mg "MOST_TRIED" = some (.int 1000000000 t1)
 mg_MOST_FOOLED:mg "MOST_FOOLED" = some (.int 20000 t2)
 mg_MOST_BASES:mg "MOST_BASES" = some (.int 6 t3)
 mg_LEAST_BASE:mg "LEAST_BASE" = some (.int 2 t4)
 mg_GREATEST_BASE:mg "GREATEST_BASE" = some (.int 50 t5)
 no_len:mg "len" = none
 no_isinstance:mg "isinstance" = none
 no_int:mg "int" = none
 no_bool:mg "bool" = none
 no_range:mg "range" = none
 no_abs:mg "abs" = none
 no_max:mg "max" = none
 no_min:mg "min" = none
 no_tuple:mg "tuple" = none
 no_str:mg "str" = none
 no_all:mg "all" = none
 no_repr:mg "repr" = none
 no_list:mg "list" = none
 no_zip:mg "zip" = none
 no_sorted:mg "sorted" = none
 no_ValueError:mg "ValueError" = none
 mg_PrimeError:mg "PrimeError" = some (.ref cl.pe)
 mg_NoNumber:mg "NoNumber" = some (.ref cl.nn)
 mg_NoPrime:mg "NoPrime" = some (.ref cl.np)
 mg_NoPair:mg "NoPair" = some (.ref cl.pa)
 mg_NoPaper:mg "NoPaper" = some (.ref cl.pp)
 mg_NoBases:mg "NoBases" = some (.ref cl.nb)
 mg_NoText:mg "NoText" = some (.ref cl.nt)
 mg_NoLine:mg "NoLine" = some (.ref cl.nl)
 mg_NoName:mg "NoName" = some (.ref cl.nm)
 mg_NoDeed:mg "NoDeed" = some (.ref cl.nd)
 mg_TooGreat:mg "TooGreat" = some (.ref cl.tg)
 xc_NoNumber:g9 K cl.nn
 xc_NoBases:g9 K cl.nb
section
variable {P:ρ}{w:Γ}{K:γ}{mg:Str->Option δ}{ad:ω}{t1 t2 t3 t4 t5:Tok}{cl:Cl}{f:ε}{fd:AC}
abbrev s_q17:AD:=top 14
theorem sc_q17:FnScope ["thing"] ["thing"] (aC s_q17):=by infer_instance
abbrev Df_q17:=DfG "is_whole" s_q17 ["thing"]
noncomputable def vI:V->Bool
 | .int _=>true
 | _=>false
theorem x9 {H:Hp}{x:V}{n:String}(k:Kd K H x n):(eX n "int" && !eX n "bool")=vI x:=by
 rcases k with ty | ⟨rfl,a,xs,rfl,_⟩ | ⟨rfl,a,xs,rfl,_⟩
 ·cases ty <;> rfl
 ·rfl
 ·rfl
def spWhole (K:γ):Sp:=λvs H Q _=>∃x n,vs=[x]/\Kd K H x n/\Q (.bl (vI x)) H
theorem ok_q17 (D:Df_q17 K mg f fd)(T:Txt K mg t1 t2 t3 t4 t5 cl):FnOk P w K mg ad CX0 1 f fd ["thing"] (spWhole K):=by
 exists sc_q17
 ·obtain⟨x,n,rfl,_⟩:=h;rfl
 ·obtain⟨x,n,rfl,ty,k⟩:=h;rw[<- x9 ty] at k;refine⟨_,(aH (aR (f9 (aS cT 'D' T.no_isinstance Φ (aA 'H' (aA (fN (v:=.ty "int") rfl T.no_int PyProof.Rows.boot_int rfl) aI))) (f8 (xQ (aS cT 'D' T.no_isinstance Φ (aA 'H' (aA (fN (v:=.ty "bool") rfl T.no_bool PyProof.Rows.boot_bool rfl) aI)))))))),?_⟩;refine bL (σ:=[some (x)]) rfl ?_;bv_omega;refine isk ty (mbb ?_);cases e:eX n "int" with
  | false =>
   rw[e] at k;rw[if_neg 'A'];exact k
  | true =>
   rw[e] at k;rw[if_pos rfl];refine isk ty (mbb ?_);exact k
abbrev O_q17:=OG Df_q17 1 ["thing"] spWhole
abbrev s_q7:AD:=top 15
theorem sc_q7:FnScope ["thing","least","most"] ["thing","least","most"] (aC s_q7):=by infer_instance
abbrev Df_q7:=DfG "is_between" s_q7 ["thing","least","most"]
noncomputable def bS:V->Int->Int->Bool
 | .int i,lo,hi=>decide (lo<=i)&&decide (i<=hi)
 | _,_,_=>false
theorem isB {i lo:Int}(h1:lo<=i)(h2:i<=hi):bS (.int i) lo hi=true:=by simp[bS,h1,h2]
def spBetween (K:γ):Sp:=λvs H Q _=>∃x n lo hi,vs=[x,.int lo,.int hi]/\Kd K H x n/\Q (.bl (bS x lo hi)) H
theorem ok_q7 (D:Df_q7 K mg f fd)(T:Txt K mg t1 t2 t3 t4 t5 cl)(o1:O_q17 P w K mg ad):FnOk P w K mg ad CX0 2 f fd ["thing","least","most"] (spBetween K):=by
 obtain⟨_,_,D_q17,G_q17⟩:=o1;exists sc_q7
 ·obtain⟨x,n,lo,hi,rfl,_⟩:=h;rfl
 ·obtain⟨x,n,lo,hi,rfl,ty,k⟩:=h;refine⟨_,(aH (aR (f9 (aX (G_q17.mono 'A') hr rfl D_q17.mgx D_q17.fn.kp D_q17.bd .nil bF (aA 'H' aI)) (f8 (sO jB jB 'I' 'H' 'J'))))),?_⟩;refine bL (σ:=[some (x),some (.int lo),some (.int hi)]) rfl ?_;bv_omega;refine⟨x,n,rfl,ty,mbb ?_⟩;cases x
  case int i =>
   refine zK (mii ?_);by_cases hl:lo<=i
   ·rw[if_pos (by simpa using hl)];have e:bS (.int i) lo hi=decide (i<=hi):=by simp[bS,hl]
    rw[e] at k;bv_omega;exact k
   ·rw[if_neg (by simpa using hl)];have e:bS (.int i) lo hi=false:=by simp[bS,hl]
    rw[e] at k;exact k
  all_goals exact zL k
abbrev O_q7:=OG Df_q7 2 ["thing","least","most"] spBetween
def yO:TE:=λσ H Q=>∃nm lo hi,σ[3]? = some (some (.str nm))/\σ[1]? = some (some (.int lo))/\σ[2]? = some (some (.int hi))/\(nm.length<=100/\lo.natAbs<10^100/\hi.natAbs<10^100)/\∀z,Q (.str z) H
theorem u7 {a b:Str}(ha:a.length<=100)(hb:b.length<=100):∀ σ H Q,yO σ H Q->cV (jX (dL 3)) (cV (tC (.str a)) (cV (jX (dL 1)) (cV (tC (.str b)) (cV (jX (dL 2)) nX)))) Ca σ H Q:=by
 rintro σ H Q ⟨nm,lo,hi,e1,e2,e3,⟨b3,b1,b2⟩,k⟩
 have l1:(ζ (toString lo)).length<=101:=eH b1;have l2:(ζ (toString hi)).length<=101:=eH b2;have e0:Ca.length=0:=rfl;have sz:∀ {x:Str},x.length<=1000->x.length<=ψ:=λh=>AX (bP h);refine moo e1 (.inl ⟨nm,rfl,sz 'B',nm,rfl,sz ?_,a,rfl,sz ?_,moo e2 (.inr ⟨lo,rfl,b1,_,rfl,sz ?_,b,rfl,sz ?_,moo e3 (.inr ⟨hi,rfl,b2,_,rfl,sz ?_,sz ?_,k _⟩)⟩)⟩) <;> simp only[Str.length_append,e0] <;> lia
abbrev s_q2:AD:=top 16
theorem sc_q2:FnScope ["thing","least","most","name"] ["thing","least","most","name"] (aC s_q2):=by infer_instance
abbrev Df_q2:=DfG "want_between" s_q2 ["thing","least","most","name"]
def spWantB (K:γ)(cl:Cl):Sp:=λvs H Q E=>∃(x:V) (n:String) (lo hi:Int) (nm:Str),vs=[x,.int lo,.int hi,.str nm]/\Kd K H x n/\(lo.natAbs<10^100/\hi.natAbs<10^100/\nm.length<=100)/\(bS x lo hi=true->Q .non H)/\(bS x lo hi=false->E (.ref cl.nn) none H)
theorem ok_q2 (D:Df_q2 K mg f fd)(T:Txt K mg t1 t2 t3 t4 t5 cl)(o1:O_q7 P w K mg ad):FnOk P w K mg ad (CXE P w) 3 f fd ["thing","least","most","name"] (spWantB K cl):=by
 obtain⟨_,_,D_q7,G_q7⟩:=o1;refine D.fn.okX sc_q2 (λvs H Q E h=>?_) (λcdv A ae s H vs Q E hr h=>?_)
 ·obtain⟨x,n,lo,hi,nm,rfl,_⟩:=h;rfl
 ·obtain⟨x,n,lo,hi,nm,rfl,ty,⟨b1,b2,b3⟩,k1,k2⟩:=h;refine⟨_,(aH (bW (cG (bZ (aX (G_q7.mono 'A') hr rfl D_q7.mgx D_q7.fn.kp D_q7.bd .nil bF (aA 'H' (aA 'I' (aA 'J' aI)))))) (aH (lW i7 rfl rfl T.mg_NoNumber T.xc_NoNumber (sL (t':=yO) (i9 (cQ (kD (pv 3)) (cQ bK (cQ (kD 'I') (cQ bK (cQ (kD 'J') sI)))))) (u7 'A' 'A')))) bC)),?_⟩;refine bL (σ:=[some (x),some (.int lo),some (.int hi),some (.str nm)]) rfl ?_;bv_omega;refine⟨x,n,lo,hi,rfl,ty,mbb ?_⟩;cases e:bS x lo hi with
  | true=>exact ifn 'A' (k1 e)
  | false=>exact ifp rfl ⟨_,_,_,rfl,rfl,rfl,⟨b3,b1,b2⟩,λ_=>k2 e⟩
abbrev O_q2 (P:ρ)(w:Γ)(K:γ)(mg:Str->Option δ)(ad:ω)(cl:Cl):Prop:=∃f fd,Df_q2 K mg f fd/\FnOk P w K mg ad (CXE P w) 3 f fd ["thing","least","most","name"] (spWantB K cl)
theorem jI {x:V}{lo:Int}(h:bS x lo hi=true):∃i,x=.int i/\lo<=i/\i<=hi:=by
 cases x with
 | int i=>simp only[bS,Ξ,decide_eq_true_eq] at h;exact⟨i,rfl,h⟩
 | _=>cases h
theorem c0 {i lo:Int}(h1:lo<=i)(h2:i<=hi):bS (.int i) lo hi=true:=isB h1 h2
abbrev s_q5:AD:=top 21
theorem sc_q5:FnScope ["base","often","n","done","square","left"] ["base","often","n"] (aC s_q5):=by infer_instance
abbrev Df_q5:=DfG "power_rest" s_q5 ["base","often","n"]
def spPower:Sp:=λvs H Q _=>∃(b o n:Int),vs=[.int b,.int o,.int n]/\(b.natAbs<10^100/\0<=o/\0<n/\n<=10^40)/\Q (.int (b^o.toNat%n)) H
theorem ok_q5 (D:Df_q5 K mg f fd)(T:Txt K mg t1 t2 t3 t4 t5 cl):FnOk P w K mg ad CX0 1 f fd ["base","often","n"] spPower:=by
 exists sc_q5
 ·obtain⟨b,o,n,rfl,_⟩:=h;rfl
 ·obtain⟨b,o,n,rfl,⟨hb,ho,hn,hn2⟩,k⟩:=h;refine⟨_,(aE (aV (i:=3) sc_q5.nd rfl 'F' (aN aZ aF 'J')) (aE (aV (i:=4) sc_q5.nd rfl 'F' (aN aZ 'H' 'J')) (aE (aV (i:=5) sc_q5.nd rfl 'F' 'I') (aE (cZ AE (bE oZ (pv 5) aF 'E') (aE (bW (bE op_eq (aN aZ (pv 5) aF) aF 'E') (aH (aV (i:=3) sc_q5.nd rfl 'F' (aN aZ (aN bI (pv 3) (pv 4)) 'J'))) bC) (aE (aV (i:=4) sc_q5.nd rfl 'F' (aN aZ (aN bI (pv 4) (pv 4)) 'J')) (aH (aV (i:=5) sc_q5.nd rfl 'F' (aN cI (pv 5) aF)))))) (aH (aR (pv 3))))))),?_⟩;refine bL (σ:=[some (.int b),some (.int o),some (.int n),none,none,none]) rfl ?_;bv_omega;refine⟨hn,hn,?_⟩;refine⟨λm σ H'=>H'=H/\∃d q l,m=l.toNat/\σ=[some (.int b),some (.int o),some (.int n),some (.int d),some (.int q),some (.int l)]/\PowInv b o n d q l,
   ⟨_,rfl,_,_,_,rfl,rfl,i8 hn ho⟩,?_⟩
  rintro m σ H' ⟨rfl,d,q,l,rfl,rfl,I⟩
  bv_omega;have i0:=I.d0;have i1:=I.d1;have i2:=I.s0;have i3:=I.s1;have i4:=I.l0;refine fA (λhl=>?_) (λhl=>?_)
  ·refine⟨λσ' H2=>H2=H'/\∃d' q' l',l'.toNat<l.toNat/\σ'=[some (.int b),some (.int o),some (.int n),some (.int d'),some (.int q'),some (.int l')]/\PowInv b o n d' q' l',
    λσ' H2 ⟨e,d',q',l',hlt,e2,J⟩=>⟨_,hlt,e,d',q',l',rfl,e2,J⟩,?_⟩
   have c1:CMulB d q:=.inr ⟨by lia,by lia⟩;have c2:CMulB q q:=.inr ⟨by lia,by lia⟩;have c3:t8 l 2:=⟨by decide,by decide⟩;refine⟨by decide,?_⟩;refine fA (λho=>?_) (λho=>?_)
   ·exact⟨c1,hn,c2,hn,c3,rfl,_,_,_,by lia,rfl,oW hn I ho⟩
   ·exact⟨c2,hn,c3,rfl,_,_,_,by lia,rfl,lY hn I ho⟩
  ·have e:=oX I hl;rw[<- e] at k;exact k
abbrev O_q5:=OH Df_q5 1 ["base","often","n"] spPower
theorem keep {H:Hp}{q:ε}{o u:HO}(e:H q=some o)(hp:H p=none):(upd H p u) q=some o:=by rw[aJ (aM e hp)];exact e
abbrev s_q8:AD:=top 19
theorem sc_q8:FnScope ["number","start","tried"] ["number","start"] (aC s_q8):=by infer_instance
abbrev Df_q8:=DfG "least_part" s_q8 ["number","start"]
def zD (n s t:Int):Prop:=s<=t/\∀d,s<=d->d<t->n%d≠0
def spLeast:Sp:=λvs H Q _=>∃(n s:Int),vs=[.int n,.int s]/\(0<=n/\n<=10^9/\2<=s/\s<=10^9+1)/\∀r,wU n s r->Q (.int r) H
theorem ok_q8 (D:Df_q8 K mg f fd)(T:Txt K mg t1 t2 t3 t4 t5 cl):FnOk P w K mg ad CX0 1 f fd ["number","start"] spLeast:=by
 exists sc_q8
 ·obtain⟨a,n,rfl,_⟩:=h;rfl
 ·obtain⟨n,s,rfl,⟨h0,h1,h2,h3⟩,k⟩:=h;refine⟨_,(aE (aV (i:=2) sc_q8.nd rfl 'F' 'I') (aE (cZ AE (bE jB (aN bI 'J' 'J') 'H' 'E') (aE (bW (bE op_eq (aN aZ 'H' 'J') aF 'E') (aH (aR 'J')) bC) (aH (sG (i:=2) sc_q8.nd rfl (Or.inl rfl) aF tL)))) (aH (aR 'H')))),?_⟩;refine bL (σ:=[some (.int n),some (.int s),none]) rfl ?_;bv_omega;obtain⟨W,hW⟩:∃W:Nat->St->Hp->Prop,∀m σ H',W m σ H'↔∃t,m=(10^10-t).toNat/\σ=[some (.int n),some (.int s),some (.int t)]/\zD n s t/\t<=10^9+2/\H'=H:='O';refine⟨W,⟨_,(hW _ _ _).mpr ⟨_,rfl,rfl,⟨DA _,λd a b=>by lia⟩,by lia,rfl⟩⟩,?_⟩;intro m σ H' hw;obtain⟨t,rfl,rfl,⟨I1,I2⟩,I3,rfl⟩:=(hW _ _ _).mp hw;clear hw;bv_omega;refine⟨.inr ⟨by lia,by lia⟩,?_⟩;refine fA (λhl=>?_) (λhl=>?_)
  ·refine⟨λσ' H2=>∃m',m'<(10^10-t).toNat/\W m' σ' H2,λ_ _ h=>h,?_⟩;have t2:t<=n:=by
    have:=Ah (show (1:Int)<=t by lia) (show 0<=t by lia);lia
   refine⟨by lia,?_⟩;refine fA (λhd=>?_) (λhd=>?_)
   ·exact k t (.inr ⟨I1,hl,hd,I2⟩)
   ·refine⟨_,by lia,(hW _ _ _).mpr ⟨t+1,rfl,rfl,⟨by lia,λd a b=>?_⟩,by lia,rfl⟩⟩;by_cases e:d=t
    ·rw[e];exact hd
    ·exact I2 d a 'B'
  ·refine k n (.inl ⟨rfl,λd a b=>I2 d a ?_⟩);refine AU λhc=>hl ?_;have:=uF (show 0<=t by lia) (show t<=d by lia);lia
abbrev O_q8:=OH Df_q8 1 ["number","start"] spLeast
abbrev s_q18:AD:=top 18
theorem sc_q18:FnScope ["number"] ["number"] (aC s_q18):=by infer_instance
abbrev Df_q18:=DfG "is_prime" s_q18 ["number"]
def spIsPrime (K:γ)(cl:Cl):Sp:=λvs H Q E=>∃(x:V) (nx:String),vs=[x]/\Kd K H x nx/\(bS x 0 1000000000=false->E (.ref cl.nn) none H)/\(∀n:Int,x=.int n->0<=n->n<=1000000000->Q (.bl (bX n)) H)
theorem tG {n r:Int}(hn:1<n)(h:wU n 2 r):r=n↔fD n:=by
 constructor
 ·intro e;rcases h with ⟨_,h⟩ | ⟨h1,h2,h3,h4⟩
  ·exact⟨by lia,h⟩
  ·subst e;have:=Ah (show (2:Int)<=r by lia) (show 0<=r by lia);lia
 ·intro hp;rcases h with ⟨h,_⟩ | ⟨h1,h2,h3,h4⟩
  ·exact h
  ·exact absurd h3 (hp.2 r h1 h2)
theorem ok_q18 (D:Df_q18 K mg f fd)(T:Txt K mg t1 t2 t3 t4 t5 cl)(o1:O_q2 P w K mg ad cl)(o2:O_q8 P w K mg ad):FnOk P w K mg ad (CXE P w) 5 f fd ["number"] (spIsPrime K cl):=by
 obtain⟨_,_,D_q2,G_q2⟩:=o1;obtain⟨_,_,D_q8,G_q8⟩:=o2;refine D.fn.okX sc_q18 (λvs H Q E h=>?_) (λcdv A ae s H vs Q E hr h=>?_)
 ·obtain⟨x,nx,rfl,_⟩:=h;rfl
 ·obtain⟨x,nx,rfl,tx,ke,kq⟩:=h;refine⟨_,(aE (fM (aX (G_q2.mono 'A') hr rfl D_q2.mgx D_q2.fn.kp D_q2.bd .nil (eR (λ_ _ _ h=>h)) (aA 'H' (aA aF (aA (bH (v:=.int _) rfl T.mg_MOST_TRIED ⟨_,rfl⟩) (aA bK aI)))))) (aH (aR (f9 (dU oZ 'H' aF 'E') (f8 (dU op_eq (aX (G_q8.mono 'A') hr rfl D_q8.mgx D_q8.fn.kp D_q8.bd .nil bF (aA 'H' (aA aF aI))) 'H' 'E')))))),?_⟩;refine bL (σ:=[some (x)]) rfl ?_;bv_omega;refine⟨x,nx,0,_,_,rfl,tx,⟨by decide,by decide,by decide⟩,λhx=>?_,ke⟩;obtain⟨n,rfl,x1,x2⟩:=jI hx;have k:=kq n rfl x1 x2;bv_omega;refine fA (λhl=>?_) (λhl=>?_)
  ·refine⟨n,2,rfl,⟨by lia,by lia,by lia,by lia⟩,λr hr=>?_⟩;bv_omega;have e:=tG hl hr;by_cases hp:fD n
   ·rw[gX hp] at k;rw[decide_eq_true (e.mpr hp)];exact k
   ·rw[dA hp] at k;rw[decide_eq_false (λz=>hp (e.mp z))];exact k
  ·have e:¬ fD n:=λh=>by have:=h.1;lia
   rw[dA e] at k;exact k
abbrev O_q18 (P:ρ)(w:Γ)(K:γ)(mg:Str->Option δ)(ad:ω)(cl:Cl):Prop:=∃f fd,Df_q18 K mg f fd/\FnOk P w K mg ad (CXE P w) 5 f fd ["number"] (spIsPrime K cl)
abbrev s_q22:AD:=top 24
theorem sc_q22:FnScope ["number","odd","often"] ["number"] (aC s_q22):=by infer_instance
abbrev Df_q22:=DfG "halved" s_q22 ["number"]
def spHalved:Sp:=λvs H Q _=>∃(m:Int),vs=[.int m]/\0<m/\∀p,H p=none->Q (.ref p) (upd H p (.tup [.int (op m),.int (tw m)]))
theorem ok_q22 (D:Df_q22 K mg f fd)(T:Txt K mg t1 t2 t3 t4 t5 cl):FnOk P w K mg ad CX0 1 f fd ["number"] spHalved:=by
 exists sc_q22
 ·obtain⟨m,rfl,_⟩:=h;rfl
 ·obtain⟨m,rfl,hm,k⟩:=h;refine⟨_,(aE (aV (i:=1) sc_q22.nd rfl 'F' 'H') (aE (aV (i:=2) sc_q22.nd rfl 'F' aF) (aE (cZ AE (bE op_eq (aN aZ 'I' aF) aF 'E') (aE (aV (i:=1) sc_q22.nd rfl 'F' (aN cI 'I' aF)) (aH (sG (i:=2) sc_q22.nd rfl (Or.inl rfl) aF tL)))) (aH (aR (nI (aA 'I' (aA 'J' aI)))))))),?_⟩;refine bL (σ:=[some (.int m),none,none]) rfl ?_;bv_omega;obtain⟨W,hW⟩:∃W:Nat->St->Hp->Prop,∀j σ H',W j σ H'↔∃o s,j=o.toNat/\σ=[some (.int m),some (.int o),some (.int s)]/\HvInv m o s/\H'=H:='O';refine⟨W,⟨_,(hW _ _ _).mpr ⟨_,_,rfl,rfl,mP hm,rfl⟩⟩,?_⟩;intro j σ H' hw;obtain⟨o,s',rfl,rfl,I,rfl⟩:=(hW _ _ _).mp hw;clear hw;have o0:=I.o0;bv_omega;refine⟨by decide,?_⟩;refine fA (λhe=>?_) (λhe=>?_)
  ·refine⟨λσ' H2=>∃m',m'<o.toNat/\W m' σ' H2,λ_ _ h=>h,?_⟩;exact⟨⟨by decide,by decide⟩,_,by lia,(hW _ _ _).mpr ⟨_,_,rfl,rfl,pG I he,rfl⟩⟩
  ·obtain⟨e1,e2⟩:=tP I he;refine⟨by show 2<=ψ;decide,λp hp=>?_⟩;rw[e1,e2];exact k p hp
abbrev O_q22:=OH Df_q22 1 ["number"] spHalved
abbrev s_q0:AD:=top 23
theorem sc_q0:FnScope ["n","base","odd","often","power","step"] ["n","base"] (aC s_q0):=by infer_instance
abbrev Df_q0:=DfG "lets_by_halves" s_q0 ["n","base"]
def spLets:Sp:=λvs H Q _=>∃(n b:Int),vs=[.int n,.int b]/\(3<=n/\n<=10^30/\b.natAbs<10^100)/\∀H',Same H H'->Q (.bl (aW n b)) H'
theorem ok_q0 (D:Df_q0 K mg f fd)(T:Txt K mg t1 t2 t3 t4 t5 cl)(o1:O_q22 P w K mg ad)(o2:O_q5 P w K mg ad):FnOk P w K mg ad CX0 2 f fd ["n","base"] spLets:=by
 obtain⟨_,_,D_q22,G_q22⟩:=o1;obtain⟨_,_,D_q5,G_q5⟩:=o2;exists sc_q0
 ·obtain⟨n,b,rfl,_⟩:=h;rfl
 ·obtain⟨n,b,rfl,⟨n3,n4,hb⟩,k⟩:=h;refine⟨_,(aE (kB (aX (G_q22.mono 'A') hr rfl D_q22.mgx D_q22.fn.kp D_q22.bd .nil bF (aA (aN eS 'H' aF) aI)) (xO (n:=2) rfl (lZ (bG (i:=2) sc_q0.nd rfl 'F') (lZ (bG (i:=3) sc_q0.nd rfl 'F') uV)))) (aE (aV (i:=4) sc_q0.nd rfl 'F' (aX (G_q5.mono 'A') hr rfl D_q5.mgx D_q5.fn.kp D_q5.bd .nil bF (aA 'I' (aA 'J' (aA 'H' aI))))) (aE (bW (bE op_eq (pv 4) aF 'E') (aH (aR cB)) bC) (aE (f6 AE rfl (eP rfl T.no_range (aA (pv 3) aI)) (bG (i:=5) sc_q0.nd rfl 'F') (aE (bW (bE op_eq (pv 4) (aN eS 'H' aF) 'E') (aH (aR cB)) bC) (aH (aV (i:=4) sc_q0.nd rfl 'F' (aN aZ (aN bI (pv 4) (pv 4)) 'H'))))) (aH (aR cB)))))),?_⟩;refine bL (σ:=[some (.int n),some (.int b),none,none,none,none]) rfl ?_;bv_omega;have opp:=nJ (m:=n-1) 'B' _ 'K';have twl:tw (n-1)<=100:=rK 100 (by have:(10:Int)^30<=2^100:='A';lia);refine⟨n-1,rfl,by lia,λp hp=>?_⟩;bv_omega;refine⟨_,SqT.of aD,rfl,?_⟩;have s1:Same H (upd H p (.tup [.int (op (n-1)),.int (tw (n-1))])):=λb o e=>by rw[aJ (aM e hp)];exact e
  generalize upd H p (.tup [.int (op (n-1)),.int (tw (n-1))])=H1 at s1 ⊢;bv_omega;refine⟨b,_,n,rfl,⟨hb,by lia,by lia,by lia⟩,?_⟩;bv_omega;have kk:=k H1 s1;unfold aW at kk;have p0:=AI (b^(op (n-1)).toNat) (show n≠0 by lia);have p1:=A8 (b^(op (n-1)).toNat) (show 0<n by lia);generalize b^(op (n-1)).toNat%n=p at kk p0 p1 ⊢;refine fA (λh1=>?_) (λh1=>?_)
  ·rw[decide_eq_true h1] at kk;exact kk
  ·rw[decide_eq_false h1,Bool.false_or] at kk;generalize tw (n-1)=s' at kk twl ⊢;refine⟨_,rfl,by lia,by lia,jL (n:=s') (λj σ H'=>H'=H1/\j<=s'/\∃q v,σ=[some (.int n),some (.int b),some (.int (op (n-1))),some (.int s'),some (.int q),v]/\0<=q/\q<n/\hvs n (s'-j) q=hvs n s' p) ⟨rfl,AY _,p,none,rfl,p0,p1,rfl⟩ ?_ ?_⟩
   ·rintro j σ H' hj ⟨rfl,_,q,v,rfl,q0,q1,hq⟩
    bv_omega;have es:s'-j=(s'-(j+1))+1:=by lia
    rw[es] at hq;refine fA (λh2=>?_) (λh2=>?_)
    ·have e:hvs n (s'-(j+1)+1) q=true:=by
      show (decide (q=n-1)||_)=true;rw[decide_eq_true h2];rfl
     rw[<- hq,e] at kk;exact kk
    ·refine⟨.inr ⟨by lia,by lia⟩,by lia,?_⟩;have e:hvs n (s'-(j+1)) (q*q%n)=hvs n s' p:=by
      rw[<- hq];show _=(decide (q=n-1)||_);rw[decide_eq_false h2];rfl
     exact⟨by lia,AI _ 'B',A8 _ 'B',e⟩
   ·rintro σ H' ⟨rfl,_,q,v,rfl,q0,q1,hq⟩
    bv_omega;rw[Nat.sub_self] at hq;rw[<- hq] at kk;exact kk
abbrev O_q0:=OH Df_q0 2 ["n","base"] spLets
def StAt (H:Hp)(a:ε):Prop:=∃x y,H a=some (.lst [.int x,.int y])/\0<=y/\y<2^32
def But (a:ε)(H H':Hp):Prop:=∀b o,b≠a->H b=some o->H' b=some o
structure Step (a:ε)(H H':Hp):Prop where
 st:StAt H' a
 but:But a H H'
theorem Step.trans {a:ε}{H H1 H2:Hp}(x:Step a H H1)(y:Step a H1 H2):Step a H H2:=⟨y.st,λb o hb e=>y.but b o hb (x.but b o hb e)⟩
theorem StAt.upd {H:Hp}{a:ε}{o:HO}(h:StAt H a)(hp:H p=none):StAt (upd H p o) a:=by obtain⟨x,y,e,r⟩:=h;exact⟨x,y,by rw[aJ (aM e hp)];exact e,r⟩
theorem Step.new {a:ε}{H H1:Hp}{o:HO}(x:Step a H H1)(hp:H1 p=none):Step a H (upd H1 p o) :=
 ⟨x.st.upd hp,λb u hb e=>by rw[aJ (aM (x.but b u hb e) hp)];exact x.but b u hb e⟩
theorem Step.refl {a:ε}{H:Hp}(h:StAt H a):Step a H H:=⟨h,λ_ _ _ e=>e⟩
theorem xX (a:Int)(h0:0<m)(h1:m<10^99):(a%m).natAbs<10^100:=by have:=AI a (show m≠0 by lia);have:=A8 a h0;lia
abbrev s_q3:AD:=top 35
theorem sc_q3:FnScope ["_law_script","_law_k"] ["_law_script","_law_k"] (aC s_q3):=by infer_instance
abbrev Df_q3:=DfG "_law_cell_at" s_q3 ["_law_script","_law_k"]
def spCell (K:γ):Sp:=λvs H Q _=>∃(a:ε) (ns:List Int) (k:Int),vs=[.ref a,.int k]/\SqL K H a (ns.map V.int)/\ns.length<=63/\0<=k/\∀v,Q (.int v) H
theorem ok_q3 (D:Df_q3 K mg f fd)(T:Txt K mg t1 t2 t3 t4 t5 cl):FnOk P w K mg ad CX0 1 f fd ["_law_script","_law_k"] (spCell K):=by
 exists sc_q3
 ·obtain⟨a,ns,k,rfl,_⟩:=h;rfl
 ·obtain⟨a,ns,k,rfl,hS,hl,h0,q⟩:=h;refine⟨_,(aE (bW (bE y6 'I' (aS cS 'D' T.no_len Dr (aA 'H' aI)) 'E') (aH (aR (cU bO 'H' 'I' 'G'))) bC) (aH (aR aF))),?_⟩;refine bL (σ:=[some (.ref a),some (.int k)]) rfl ?_;bv_omega;refine⟨_,.inl hS,?_⟩;rw[Ω];refine fA (λhk=>?_) (λ_=>q 0);obtain⟨j,rfl⟩:=CB h0;have hj:j<ns.length:=by lia
  refine⟨_,hS,.int (ns[j]),eF ?_,q _⟩;rw[Ae,AH hj];rfl
abbrev O_q3:=OG Df_q3 1 ["_law_script","_law_k"] spCell
abbrev s_q14:AD:=top 36
theorem sc_q14:FnScope ["_law_script","_law_k","_law_cell"] ["_law_script","_law_k"] (aC s_q14):=by infer_instance
abbrev Df_q14:=DfG "_law_state" s_q14 ["_law_script","_law_k"]
def spState (K:γ):Sp:=λvs H Q _=>∃(a:ε) (ns:List Int) (k:Int),vs=[.ref a,.int k]/\SqL K H a (ns.map V.int)/\ns.length<=63/\0<=k/\∀p x y,0<=y->y<2^32->H p=none->Q (.ref p) (upd H p (.lst [.int x,.int y]))
theorem ok_q14 (D:Df_q14 K mg f fd)(T:Txt K mg t1 t2 t3 t4 t5 cl)(o1:O_q3 P w K mg ad):FnOk P w K mg ad CX0 2 f fd ["_law_script","_law_k"] (spState K):=by
 obtain⟨_,_,D_q3,G_q3⟩:=o1;exists sc_q14
 ·obtain⟨a,ns,k,rfl,_⟩:=h;rfl
 ·obtain⟨a,ns,k,rfl,hS,hl,h0,q⟩:=h;refine⟨_,(aE (aV (i:=2) sc_q14.nd rfl 'F' (aX (G_q3.mono 'A') hr rfl D_q3.mgx D_q3.fn.kp D_q3.bd .nil bF (aA 'H' (aA 'I' aI)))) (aH (aR (eQ (aA (aS (jO rfl) 'D' T.no_max Ds (aA aF (aA (aN eS 'J' (aN sS aF aF)) aI))) (aA (aN aZ 'J' aF) aI)))))),?_⟩;refine bL (σ:=[some (.ref a),some (.int k),none]) rfl ?_;bv_omega;refine⟨a,ns,k,rfl,hS,hl,h0,λv=>?_⟩;bv_omega;refine⟨⟨by decide,by decide,by decide⟩,by decide,by show 2<=ψ;decide,λp hp=>q p _ _ ?_ ?_ hp⟩ <;> lia
abbrev O_q14:=OG Df_q14 2 ["_law_script","_law_k"] spState
abbrev s_q10:AD:=top 37
theorem sc_q10:FnScope ["_law_state_here","_law_many","_law_found","_law_mixed"] ["_law_state_here","_law_many"] (aC s_q10):=by infer_instance
abbrev Df_q10:=DfG "_law_choice" s_q10 ["_law_state_here","_law_many"]
def spTake:Sp:=λvs H Q _=>∃(a:ε) (m:Int),vs=[.ref a,.int m]/\(0<m/\m<10^90)/\StAt H a/\∀r H',0<=r->r<m->Step a H H'->Q (.int r) H'
theorem ok_q10 (D:Df_q10 K mg f fd)(T:Txt K mg t1 t2 t3 t4 t5 cl):FnOk P w K mg ad CX0 1 f fd ["_law_state_here","_law_many"] spTake:=by
 exists sc_q10
 ·obtain⟨a,m,rfl,_⟩:=h;rfl
 ·obtain⟨a,m,rfl,⟨m0,m1⟩,⟨x,y,hH,y0,y1⟩,q⟩:=h;refine⟨_,(aE (bW (bE oZ (cU bO 'H' aF 'G') aF 'E') (aE (aV (i:=2) sc_q10.nd rfl 'F' (aN aZ (cU bO 'H' aF 'G') 'I')) (aE (kB (aN cI (cU bO 'H' aF 'G') 'I') (nH 'H' aF fW)) (aH (aR 'J')))) bC) (aE (kB (aN aZ (aN bR (aN bI (cU bO 'H' aF 'G') aF) aF) aF) (nH 'H' aF fW)) (aE (aV (i:=3) sc_q10.nd rfl 'F' (aN aZ (aN bR (aN bR (aN bI (cU bO 'H' aF 'G') (cU bO 'H' aF 'G')) (aN bI aF (cU bO 'H' aF 'G'))) aF) aF)) (aE (aV (i:=3) sc_q10.nd rfl 'F' (aN aZ (aN bR (aN bI (pv 3) (pv 3)) (aN bI aF (pv 3))) aF)) (aH (aR (aN aZ (aN cI (pv 3) aF) 'I'))))))),?_⟩;refine bL (σ:=[some (.ref a),some (.int m),none,none]) rfl ?_;refine aK λR hR=>?_;bv_omega;refine⟨_,SqL.of hH,_,rfl,mii ?_⟩;refine fA (λhx=>?_) (λhx=>?_)
  ·refine⟨_,SqL.of hH,_,rfl,m0,_,SqL.of hH,_,rfl,⟨m0,by lia⟩,_,hH,_,rfl,q _ _ (AI _ 'B') (A8 _ m0) ⟨⟨_,_,aD,y0,y1⟩,λb o hb e=>by rw[aJ hb];exact e⟩⟩
  ·subst hR;refine aK λR hR=>?_;bv_omega;refine⟨_,SqL.of hH,_,rfl,.inr ⟨by lia,by lia⟩,by decide,_,hH,_,rfl,?_⟩;obtain⟨z,hz,e1,e2⟩:∃z,(y*48271+29)%2147483647=z/\0<=z/\z<2147483647:=⟨_,rfl,AI _ 'A',A8 _ 'A'⟩;rw[hz];clear hz;have S1:Step a H (upd H a (.lst ([V.int x,V.int y].set (Int.toNat 1) (.int z)))):=⟨⟨_,_,aD,e1,by lia⟩,λb o hb e=>by rw[aJ hb];exact e⟩;have h1:(upd H a (.lst ([V.int x,V.int y].set (Int.toNat 1) (.int z)))) a=some (.lst [V.int x,V.int z]):=aD;generalize upd H a (.lst ([V.int x,V.int y].set (Int.toNat 1) (.int z)))=H1 at S1 h1 ⊢;subst hR;refine aK λR hR=>?_;bv_omega;have zb:z.natAbs<10^100:=by lia
   refine⟨_,SqL.of h1,_,rfl,_,SqL.of h1,_,rfl,.inr ⟨zb,zb⟩,_,SqL.of h1,_,rfl,.inr ⟨by decide,zb⟩,by decide,?_⟩;obtain⟨u,hu,ub⟩:∃u,(z*z+39373*z+7)%2147483629=u/\u.natAbs<10^100:=⟨_,rfl,xX _ 'A' 'A'⟩;rw[hu];clear hu;subst hR;refine aK λR hR=>?_;bv_omega;refine⟨.inr ⟨ub,ub⟩,.inr ⟨by decide,ub⟩,by decide,?_⟩;generalize (u*u+16807*u)%2147483587=v;subst hR;bv_omega;exact⟨⟨by decide,by decide⟩,m0,q _ _ (AI _ 'B') (A8 _ m0) S1⟩
abbrev O_q10:=OH Df_q10 1 ["_law_state_here","_law_many"] spTake
theorem j9 {H:Hp}:∀ns:List Int,RepL K H (ns.map Dt.int) (ns.map V.int)
 | []=>rfl
 | n::r=>⟨_,_,rfl,rfl,j9 r⟩
theorem u5 {n:Int}(h0:0<=d)(h1:d<n)(h2:n<=10^40):d.natAbs<10^100:=by lia
theorem pH {l:Int}(h:0<l):(l/2).toNat<l.toNat:=by lia
abbrev s_q13:AD:=top 41
theorem sc_q13:FnScope ["_law_base","_law_often","_law_n","_law_found","_law_square","_law_left"] ["_law_base","_law_often","_law_n"] (aC s_q13):=by infer_instance
abbrev Df_q13:=DfG "_law_power" s_q13 ["_law_base","_law_often","_law_n"]
theorem ok_q13 (D:Df_q13 K mg f fd)(T:Txt K mg t1 t2 t3 t4 t5 cl):FnOk P w K mg ad CX0 1 f fd ["_law_base","_law_often","_law_n"] spPower:=by
 exists sc_q13
 ·obtain⟨b,o,n,rfl,_⟩:=h;rfl
 ·obtain⟨b,o,n,rfl,⟨hb,ho,hn,hn2⟩,k⟩:=h;refine⟨_,(aE (uR (i:=3) (j:=4) (l:=5) rfl sc_q13.nd rfl rfl rfl 'A' 'A' 'A' rfl rfl rfl (aA (aN aZ aF 'J') (aA (aN aZ 'H' 'J') (aA 'I' aI))) (by first | rfl | with_unfolding_all rfl)) (aE (cZ AE (bE oZ (pv 5) aF 'E') (aE (bW (bE op_eq (aN aZ (pv 5) aF) aF 'E') (aH (aV (i:=3) sc_q13.nd rfl 'F' (aN aZ (aN bI (pv 3) (pv 4)) 'J'))) bC) (aH (kA (i:=4) (j:=5) rfl sc_q13.nd rfl rfl 'A' rfl rfl (aA (aN aZ (aN bI (pv 4) (pv 4)) 'J') (aA (aN cI (pv 5) aF) aI)) (by first | rfl | with_unfolding_all rfl))))) (aH (aR (pv 3))))),?_⟩;refine bL (σ:=[some (.int b),some (.int o),some (.int n),none,none,none]) rfl ?_;bv_omega;refine⟨hn,hn,?_⟩;obtain⟨W,hW⟩:∃W:Nat->St->Hp->Prop,∀m σ H',W m σ H'↔∃d q l,m=l.toNat/\σ=[some (.int b),some (.int o),some (.int n),some (.int d),some (.int q),some (.int l)]/\PowInv b o n d q l/\H'=H:='O';refine⟨W,⟨_,(hW _ _ _).mpr ⟨_,_,_,rfl,rfl,i8 hn ho,rfl⟩⟩,?_⟩;intro m σ H' hw;obtain⟨d,q,l,rfl,rfl,I,rfl⟩:=(hW _ _ _).mp hw;clear hw;bv_omega;refine fA (λhl=>?_) (λhl=>?_)
  ·refine⟨λσ' H2=>∃m',m'<l.toNat/\W m' σ' H2,λ_ _ h=>h,?_⟩;have c1:CMulB d q:=.inr ⟨u5 I.d0 I.d1 hn2,u5 I.s0 I.s1 hn2⟩;have c2:CMulB q q:=.inr ⟨u5 I.s0 I.s1 hn2,u5 I.s0 I.s1 hn2⟩;have c3:t8 l 2:=⟨by decide,by decide⟩;refine⟨by decide,?_⟩;refine fA (λho=>?_) (λho=>?_)
   ·exact⟨c1,hn,c2,hn,c3,_,pH hl,(hW _ _ _).mpr ⟨_,_,_,rfl,rfl,oW hn I ho,rfl⟩⟩
   ·exact⟨c2,hn,c3,_,pH hl,(hW _ _ _).mpr ⟨_,_,_,rfl,rfl,lY hn I ho,rfl⟩⟩
  ·have e:=oX I hl;rw[<- e] at k;exact k
abbrev O_q13:=OH Df_q13 1 ["_law_base","_law_often","_law_n"] spPower
structure Nice (d:Dt):Prop where
 ok:okD d=true
 r:okR d=true
 len:mE d<=1000000
 dep:dep d<99
 cn:cnD d<=20000
abbrev s_q16:AD:=top 38
theorem sc_q16:FnScope ["_law_found","_law_due_here"] ["_law_found","_law_due_here"] (aC s_q16):=by infer_instance
abbrev Df_q16:=DfG "_law_same" s_q16 ["_law_found","_law_due_here"]
def spSame (K:γ):Sp:=λvs H Q _=>∃(d:Dt) (u v:V),vs=[u,v]/\(Rep K H d u/\Rep K H d v)/\Nice d/\Q (.bl true) H
theorem ok_q16 (D:Df_q16 K mg f fd)(T:Txt K mg t1 t2 t3 t4 t5 cl):FnOk P w K mg ad CX0 1 f fd ["_law_found","_law_due_here"] (spSame K):=by
 exists sc_q16
 ·obtain⟨d,u,v,rfl,_⟩:=h;rfl
 ·obtain⟨d,u,v,rfl,⟨R1,R2⟩,N,k⟩:=h;have hd:dep d<=100:=by have:=N.dep;lia
  refine⟨_,(aH (aR (dU op_eq (aS (bU hr.gd (eZ hr)) 'D' T.no_repr Ar (aA 'H' aI)) (aS (bU hr.gd (eZ hr)) 'D' T.no_repr Ar (aA 'I' aI)) 'E'))),?_⟩;refine bL (σ:=[some (u),some (v)]) rfl ?_;bv_omega;refine⟨u,d,rfl,R1,⟨N.ok,N.r,N.len,hd⟩,v,d,rfl,R2,⟨N.ok,N.r,N.len,hd⟩,mtt ?_⟩;rw[decide_eq_true rfl];exact k
abbrev O_q16:=OG Df_q16 1 ["_law_found","_law_due_here"] spSame
structure WordC (K:γ)(cl:Cl)(C:ε)(i:Nat):Prop where
 xc:XCls K C
 ex:PySem.W.exmOne K (.ref C) (.ref cl.pe)=some true
 ve:ι K (.ref C) (.type "ValueError")=some true
 k0:ι K (.ref C) (.ref cl.nn)=some (decide (i=0))
 k1:ι K (.ref C) (.ref cl.np)=some (decide (i=1))
 k2:ι K (.ref C) (.ref cl.pa)=some (decide (i=2))
 k3:ι K (.ref C) (.ref cl.pp)=some (decide (i=3))
 k4:ι K (.ref C) (.ref cl.nb)=some (decide (i=4))
 k5:ι K (.ref C) (.ref cl.nt)=some (decide (i=5))
 k6:ι K (.ref C) (.ref cl.nl)=some (decide (i=6))
 k7:ι K (.ref C) (.ref cl.nm)=some (decide (i=7))
 k8:ι K (.ref C) (.ref cl.nd)=some (decide (i=8))
 k9:ι K (.ref C) (.ref cl.tg)=some (decide (i=9))
theorem fU {n:Nat}(h:n<=1000):n<=ψ:=AX (bP h)
noncomputable def m4 (i:Nat):Str:=if i=0 then "number" else "bases"
theorem xdS {H H':Hp}(h:∀d,dx=some d->∃fs,H d=some (.xd fs))(s:Same H H'):∀d,dx=some d->∃fs,H' d=some (.xd fs):=λd e=>let ⟨fs,q⟩:=h d e;⟨fs,s _ _ q⟩
theorem gU {K:γ}{H:Hp}{a:ε}{c:V}{u:δ}{b:Bool}{Q:VK}(ha:H a=some (dE dx a (.ref C)))(hx:∀d,dx=some d->∃fs,H d=some (.xd fs))(xc:XCls K C)(ec:vU c=some u)(hk:ι K (.ref C) u=some b)(q:Q (.bl b) H):r6 K [.ref a,c] H Q:=⟨a,C,dx,c,u,b,rfl,ha,hx,xc,ec,hk,q⟩
noncomputable def fO (i:Nat):List Bool:=[decide (i=0),decide (i=1),decide (i=2),decide (i=3),decide (i=4),decide (i=5),decide (i=6),decide (i=7),decide (i=8),decide (i=9)]
abbrev s_q12:AD:=top 39
theorem sc_q12:FnScope ["_law_e","_law_some"] ["_law_e"] (aC s_q12):=by infer_instance
abbrev Df_q12:=DfG "_law_marks" s_q12 ["_law_e"]
def spMarks (K:γ)(cl:Cl):Sp:=λvs H Q _=>∃(a C:ε) (dx:Option ε) (i:Nat),vs=[.ref a]/\H a=some (dE dx a (.ref C))/\(∀d,dx=some d->∃fs,H d=some (.xd fs))/\WordC K cl C i/\∀p H',Same H H'->H' p=some (.lst ((fO i).map V.bl))->Q (.ref p) H'
theorem ok_q12 (D:Df_q12 K mg f fd)(T:Txt K mg t1 t2 t3 t4 t5 cl):FnOkM P w K mg ad 1 f fd ["_law_e"] (spMarks K cl):=by
 refine D.fn.okM sc_q12 (λvs H Q E h=>?_) (λcdv A ae s H vs Q E hr h=>?_)
 ·obtain⟨a,C,dx,i,rfl,_⟩:=h;rfl
 ·obtain⟨a,C,dx,i,rfl,ha,hx,W,k⟩:=h;refine⟨_,(aE (aV (i:=1) sc_q12.nd rfl 'F' (eQ (aA (aS aU 'D' T.no_isinstance Φ (aA 'H' (aA (bH (v:=.ref _) rfl T.mg_NoNumber rfl) aI))) (aA (aS aU 'D' T.no_isinstance Φ (aA 'H' (aA (bH (v:=.ref _) rfl T.mg_NoPrime rfl) aI))) (aA (aS aU 'D' T.no_isinstance Φ (aA 'H' (aA (bH (v:=.ref _) rfl T.mg_NoPair rfl) aI))) (aA (aS aU 'D' T.no_isinstance Φ (aA 'H' (aA (bH (v:=.ref _) rfl T.mg_NoPaper rfl) aI))) aI)))))) (aE (aV (i:=1) sc_q12.nd rfl 'F' (aN nN 'I' (eQ (aA (aS aU 'D' T.no_isinstance Φ (aA 'H' (aA (bH (v:=.ref _) rfl T.mg_NoBases rfl) aI))) (aA (aS aU 'D' T.no_isinstance Φ (aA 'H' (aA (bH (v:=.ref _) rfl T.mg_NoText rfl) aI))) (aA (aS aU 'D' T.no_isinstance Φ (aA 'H' (aA (bH (v:=.ref _) rfl T.mg_NoLine rfl) aI))) (aA (aS aU 'D' T.no_isinstance Φ (aA 'H' (aA (bH (v:=.ref _) rfl T.mg_NoName rfl) aI))) aI))))))) (aH (aR (aN nN 'I' (eQ (aA (aS aU 'D' T.no_isinstance Φ (aA 'H' (aA (bH (v:=.ref _) rfl T.mg_NoDeed rfl) aI))) (aA (aS aU 'D' T.no_isinstance Φ (aA 'H' (aA (bH (v:=.ref _) rfl T.mg_TooGreat rfl) aI))) aI)))))))),?_⟩;refine bL (σ:=[some (.ref a),none]) rfl ?_;bv_omega;refine gU ha hx W.xc rfl W.k0 (gU ha hx W.xc rfl W.k1 (gU ha hx W.xc rfl W.k2 (gU ha hx W.xc rfl W.k3 ⟨by show 4<=ψ;decide,λp hp=>?_⟩)));obtain⟨L1,e1⟩:∃L,[V.bl (decide (i=0)),V.bl (decide (i=1)),V.bl (decide (i=2)),V.bl (decide (i=3))]=L:=⟨_,rfl⟩;rw[e1];have z1:L1.length=4:=by rw[<- e1];rfl
  have h1:=keep (u:=.lst L1) ha hp;have s1:Same H (upd H p (.lst L1)):=λb o e=>keep e hp;have m1:(upd H p (.lst L1)) p=some (.lst L1):=aD;have x1:=xdS hx s1;generalize upd H p (.lst L1)=H1 at h1 s1 m1 x1 ⊢;refine gU h1 x1 W.xc rfl W.k4 (gU h1 x1 W.xc rfl W.k5 (gU h1 x1 W.xc rfl W.k6 (gU h1 x1 W.xc rfl W.k7 ⟨by show 4<=ψ;decide,λp1 hp1=>?_⟩)));obtain⟨L2,e2⟩:∃L,[V.bl (decide (i=4)),V.bl (decide (i=5)),V.bl (decide (i=6)),V.bl (decide (i=7))]=L:=⟨_,rfl⟩;rw[e2];have z2:L2.length=4:=by rw[<- e2];rfl
  refine⟨_,keep m1 hp1,_,aD,fU (by rw[z1,z2];decide),λp2 hp2=>?_⟩;have h2:=keep (u:=.lst (L1++L2)) (keep (u:=.lst L2) h1 hp1) hp2;have s2:Same H (upd (upd H1 p1 (.lst L2)) p2 (.lst (L1++L2))):=λb o e=>keep (keep (s1 b o e) hp1) hp2;have m2:(upd (upd H1 p1 (.lst L2)) p2 (.lst (L1++L2))) p2=some (.lst (L1++L2)):=aD;have x2:=xdS hx s2;generalize (upd (upd H1 p1 (.lst L2)) p2 (.lst (L1++L2)))=H2 at h2 s2 m2 x2 ⊢;refine gU h2 x2 W.xc rfl W.k8 (gU h2 x2 W.xc rfl W.k9 ⟨by show 2<=ψ;decide,λp3 hp3=>?_⟩);refine⟨_,keep m2 hp3,_,aD,fU (by rw[AM,z1,z2];exact(show 4+4+2<=1000 by decide)),λp4 hp4=>?_⟩;exact k p4 _ (λb o e=>keep (keep (s2 b o e) hp3) hp4) (by rw[<- e1,<- e2];exact aD)
abbrev MM_q12 (P:ρ)(w:Γ)(K:γ)(mg:Str->Option δ)(ad:ω)(cl:Cl):Prop:=∃f fd,Df_q12 K mg f fd/\FnOkM P w K mg ad 1 f fd ["_law_e"] (spMarks K cl)
abbrev s_q15:AD:=top 40
theorem sc_q15:FnScope ["_law_call","_law_found","_law_e","_law_marks_here","_law_words"] ["_law_call"] (aC s_q15):=by infer_instance
abbrev Df_q15:=DfG "_law_said" s_q15 ["_law_call"]
def spSaid (P:ρ)(w:Γ)(K:γ)(mg:Str->Option δ)(cl:Cl)(b:ω):Sp:=λvs H Q _=>∃(fl:ε) (fdl:AC) (spL:Sp) (C:ε) (i:Nat),vs=[.ref fl]/\H fl=some (iM fl fdl)/\FnOk P w K mg b (CXE P w) 10 fl fdl [] spL/\Binds K fdl [] []/\WordC K cl C i/\(i=0\/i=4) /\
 (∀R:XK,(∀H1,Same H H1->R (.ref C) none H1)->spL [] H (λ_ _=>False) R)/\∀H'',Same H H''->Q (.str (m4 i)) H''
theorem ok_q15 (D:Df_q15 K mg f fd)(T:Txt K mg t1 t2 t3 t4 t5 cl)(o1:MM_q12 P w K mg ad cl):FnOk P w K mg ad CX0 11 f fd ["_law_call"] (spSaid P w K mg cl ad):=by
 obtain⟨_,_,D_q12,M_q12⟩:=o1;exists sc_q15
 ·obtain⟨fl,fdl,spL,C,i,rfl,_⟩:=h;rfl
 ·obtain⟨fl,fdl,spL,C,i,rfl,hfl,F,hB,W,hi,kE,k⟩:=h;refine⟨_,(aE (uO (ie:=2) sc_q15.nd rfl rfl rfl rfl rfl rfl rfl T.mg_PrimeError (uN (i:=0) rfl (Or.inl rfl) hr) (λv=>(aE (aV (i:=3) sc_q15.nd rfl 'F' (sQ (M_q12.mono 'A') (RoomM.of hr) rfl D_q12.mgx D_q12.fn.kp D_q12.bd .nil (aA 'J' aI))) (aE (bW (PW.pt (r9 (cG (bZ (aS (iL (K:=K) rfl) 'D' T.no_isinstance Φ (aA 'J' (aA (fN (v:=.ty "ValueError") rfl T.no_ValueError PyProof.Rows.Boot.«ValueError» rfl) aI))))) (nE (bE jA (sR (K:=K) rfl Az PySem.F.slot_list_count PySem.F.type_list_count sZ (pv 3) (aA cB aI)) aF 'E')))) (aH (aR bK)) bC) (aE (bW (bZ (cU (gT (K:=K) rfl) (pv 3) aF 'G')) (aH (aR (nI (aA bK (aA (l7 (K:=K) rfl 'J' rfl) (aA (l7 (K:=K) rfl 'J' rfl) aI)))))) bC) (aE (aV (i:=4) sc_q15.nd rfl 'F' (eQ (aA bK (aA bK (aA bK (aA bK (aA bK (aA bK (aA bK (aA bK (aA bK aI))))))))))) (aH (aR (cU (gT (K:=K) rfl) (pv 4) (sR (K:=K) rfl Az PySem.F.slot_list_index PySem.F.type_list_index sY (pv 3) (aA cB aI)) 'G'))))))))) (aH sF)),?_⟩;refine bL (σ:=[some (.ref fl),none,none,none,none]) rfl ?_;refine aK λR hR=>?_;dsimp only[dM];rename_i wE rE;refine⟨fdl,hfl,spL,F,hB,kE _ λH0 s0=>⟨W.ex,λa ha=>?_⟩⟩;have s1:Same H (upd H0 a (vR a (.ref C))):=λb o e=>keep (s0 b o e) ha;have e1:(upd H0 a (vR a (.ref C))) a=some (vR a (.ref C)):=aD;generalize upd H0 a (vR a (.ref C))=H1 at s1 e1 ⊢;refine⟨a,C,none,i,rfl,e1,(λ_ z=>nomatch z),W,λp H2 s2 m2=>?_⟩;have e2:=s2 _ _ e1;bv_omega;refine gU e2 (λ_ z=>nomatch z) W.xc rfl W.ve (mbb ?_);refine ifn 'A' ?_;refine⟨.inl ⟨_,SqL.of m2⟩,fO i,m2,?_⟩;have ct:((fO i).countP id:Nat)=1:=by rcases hi with rfl | rfl <;> rfl
  refine ifn (by rw[ct];exact λh=>h rfl) ?_;refine⟨_,SqL.of m2,V.bl (decide (i=9)),rfl,mbb ?_⟩;refine ifn (by rcases hi with rfl | rfl <;> decide) ?_;refine⟨by show 9<=ψ;decide,λp6 hp6=>?_⟩;have m6:=keep (u:=.lst [V.str (ζ "number"),V.str (ζ "prime"),V.str (ζ "pair"),V.str (ζ "paper"),V.str (ζ "bases"),V.str (ζ "text"),V.str (ζ "line"),V.str (ζ "name"),V.str (ζ "deed")]) m2 hp6;refine⟨.inl ⟨_,SqL.of m6⟩,fO i,m6,i,?_,?_,?_,_,SqL.of aD,V.str (m4 i),?_,k _ (λb o e=>keep (s2 b o (s1 b o e)) hp6)⟩
  ·rcases hi with rfl | rfl <;> rfl
  ·intro m hm;rcases hi with rfl | rfl
   ·lia
   ·have:m=0\/m=1\/m=2\/m=3:=by lia
    rcases this with rfl | rfl | rfl | rfl <;> rfl
  ·lia
  ·rcases hi with rfl | rfl <;> rfl
abbrev OB_q15 (P:ρ)(w:Γ)(K:γ)(mg:Str->Option δ)(cl:Cl):Prop:=∃f fd,Df_q15 K mg f fd/\∀b,FnOk P w K mg b CX0 11 f fd ["_law_call"] (spSaid P w K mg cl b)
theorem j8 {H:Hp}:∀ {ds:List Dt} {xs:List V} {j:Nat} {x:V},RepL K H ds xs->xs[j]? = some x->∃d,ds[j]? = some d/\Rep K H d x
 | [],_,j,x,R,hx=>by cases (show _=[] from R);cases hx
 | d::ds,_,j,x,R,hx=>by
  obtain⟨y,ys,rfl,Ry,R⟩:=R
  match j,hx with
  | 0,hx=>cases hx;exact⟨d,rfl,Ry⟩
  | j+1,hx=>exact j8 (j:=j) R hx
theorem xK {H:Hp}:∀ {d:Dt} {x:V},Rep K H d x->vI x=true->∃i,d=.int i/\x=.int i
 | .int i,_,h,_=>by cases (show _=V.int i from h);exact⟨i,rfl,rfl⟩
 | .non,_,h,z=>by cases (show _=V.non from h);cases z
 | .bl b,_,h,z=>by cases (show _=V.bl b from h);cases z
 | .str x,_,h,z=>by cases (show _=V.str x from h);cases z
 | .tup ds,_,h,z=>by obtain⟨a,xs,rfl,_⟩:=h;cases z
 | .lst ds,_,h,z=>by obtain⟨a,xs,rfl,_⟩:=h;cases z
 | .emp,_,h,z=>by obtain⟨a,rfl,_⟩:=h;cases z
theorem uM {H:Hp}{d:Dt}{x:V}{lo:Int}(R:Rep K H d x)(h:bS x lo hi=true):∃b,d=.int b/\x=.int b/\lo<=b/\b<=hi:=by
 have hw:vI x=true:=by cases x <;> first | rfl | cases h
 obtain⟨b,e1,e2⟩:=xK R hw;subst e2;have h:(decide (lo<=b)&&decide (b<=hi))=true:=h;rw[Ξ] at h;exact⟨b,e1,rfl,of_decide_eq_true h.1,of_decide_eq_true h.2⟩
theorem x8 {d:Dt}(h:eX (kdD d) "tuple" = true):∃ds,d=.tup ds:=by cases d <;> first | exact⟨_,rfl⟩ | cases h
theorem u4 {d:Dt}(ht:¬ eX (kdD d) "tuple" = true):eX (kdD d) "tuple" = false:=by cases h:eX (kdD d) "tuple" with | true=>exact absurd h ht | false=>rfl
theorem n0 {a:ε}{xs:List V}{g:TG}{tb:TS}{D:Ends}{σ:St}{H:Hp}(e:σ[i]? = some (some (.ref a)))(ha:SqT K H a xs)(h:lN (λ_ H R=>R (Itt K a) H) g tb D σ H):lN (yB K (dL i)) g tb D σ H:=by show mO σ[i]? _;rw[e];exact⟨a,rfl,⟨xs,ha⟩,h⟩
noncomputable def cX:Int->List Dt->Bool
 | _,[]=>true
 | l,.int b::ds=>decide (l+1<=b/\b<=50)&&cX b ds
 | _,_::_=>false
noncomputable def g8:Dt->Bool
 | .tup ds=>decide (1<=ds.length/\ds.length<=6)&&cX 1 ds
 | _=>false
theorem dR {l b:Int}{ds:List Dt}:cX l (.int b::ds)=(decide (l+1<=b/\b<=50)&&cX b ds):=rfl
theorem iZ:∀ {ds:List Dt} {l:Int},1<=l->cX l ds=true->∃bs:List Int,ds=bs.map Dt.int/\∀b∈bs,2<=b/\b<=50
 | [],_,_,_=>⟨[],rfl,λ_ h=>nomatch h⟩
 | .int b::ds,l,h0,h=>by
  rw[dR] at h;obtain⟨u,v⟩:=AK.mp h;have u:=of_decide_eq_true u;obtain⟨bs,rfl,hb⟩:=iZ (l:=b) 'B' v;exact⟨b::bs,rfl,λc hc=>by
   rcases AV.mp hc with rfl | hc
   ·lia
   ·exact hb c hc⟩
 | .non::_,_,_,h=>nomatch h
 | .bl _::_,_,_,h=>nomatch h
 | .str _::_,_,_,h=>nomatch h
 | .tup _::_,_,_,h=>nomatch h
 | .lst _::_,_,_,h=>nomatch h
 | .emp::_,_,_,h=>nomatch h
theorem rC {d:Dt}(h:g8 d=true):∃bs:List Int,d=.tup (bs.map Dt.int)/\∀b∈bs,2<=b/\b<=50:=by
 cases d with
 | tup ds =>
  obtain⟨u,v⟩:=AK.mp (show (decide (1<=ds.length/\ds.length<=6)&&cX 1 ds)=true from h);obtain⟨bs,rfl,hb⟩:=iZ 'A' v;exact⟨bs,rfl,hb⟩
 | _=>cases h
theorem i6 {H:Hp}:∀ {bs:List Int} {xs:List V},RepL K H (bs.map Dt.int) xs->xs=bs.map V.int
 | [],_,h=>h
 | b::bs,_,⟨x,r,e,e1,h⟩=>by cases (show x=.int b from e1);rw[e,i6 h];rfl
abbrev s_q19:AD:=top 32
theorem sc_q19:FnScope ["thing","last","base"] ["thing"] (aC s_q19):=by infer_instance
abbrev Df_q19:=DfG "is_bases" s_q19 ["thing"]
def spIB (K:γ):Sp:=λvs H Q _=>∃(d:Dt) (u:V),vs=[u]/\Rep K H d u/\Q (.bl (g8 d)) H
theorem ok_q19 (D:Df_q19 K mg f fd)(T:Txt K mg t1 t2 t3 t4 t5 cl)(o1:O_q7 P w K mg ad):FnOk P w K mg ad CX0 3 f fd ["thing"] (spIB K):=by
 obtain⟨_,_,D_q7,G_q7⟩:=o1;exists sc_q19
 ·obtain⟨d,u,rfl,_⟩:=h;rfl
 ·obtain⟨d,u,rfl,R,k⟩:=h;refine⟨_,(aE (bW (PW.pt (r9 (cG (bZ (aS cT 'D' T.no_isinstance Φ (aA 'H' (aA (fN (v:=.ty "tuple") rfl T.no_tuple Dj rfl) aI))))) (nE (cG (sE jB jB aF (aS cS 'D' T.no_len Dr (aA 'H' aI)) (bH (v:=.int _) rfl T.mg_MOST_BASES ⟨_,rfl⟩)))))) (aH (aR cB)) bC) (aE (aV (i:=1) sc_q19.nd rfl 'F' (aN eS (bH (v:=.int _) rfl T.mg_LEAST_BASE ⟨_,rfl⟩) aF)) (aE (f6 AE rfl (nG 'H') (bG (i:=2) sc_q19.nd rfl 'F') (aE (bW (cG (bZ (aX (G_q7.mono 'A') hr rfl D_q7.mgx D_q7.fn.kp D_q7.bd .nil bF (aA 'J' (aA (aN bR 'I' aF) (aA (bH (v:=.int _) rfl T.mg_GREATEST_BASE ⟨_,rfl⟩) aI)))))) (aH (aR cB)) bC) (aH (aV (i:=1) sc_q19.nd rfl 'F' 'J')))) (aH (aR cB))))),?_⟩;refine bL (σ:=[some (u),none,none]) rfl ?_;refine aK λR1 sq1=>?_;bv_omega;refine isk (cY R) (mbb ?_);by_cases ht:eX (kdD d) "tuple" = true
  case neg =>
   refine ifp (by rw[u4 ht]) ?_;have e:g8 d=false:=by
    cases d with
    | tup ds=>exact absurd rfl ht
    | _=>rfl
   rwa [e] at k
  refine ifn (by rw[ht];decide) ?_;obtain⟨ds,rfl⟩:=x8 ht;have R0:=R;obtain⟨a,xs,rfl,ha,RL⟩:=R0;have lx:=RL.length;refine⟨a,rfl,xs,.inr ha,?_⟩;have ek:g8 (.tup ds)=(decide (1<=ds.length/\ds.length<=6)&&cX 1 ds):=rfl;by_cases h1:1<=ds.length
  case neg =>
   rw[ek,decide_eq_false (λh=>h1 h.1)] at k;exact ifn 'B' k
  refine ifp 'B' ?_;by_cases h6:ds.length<=6
  case neg =>
   rw[ek,decide_eq_false (λh=>h6 h.2)] at k;exact ifp 'B' k
  refine ifn 'B' ?_;rw[ek,decide_eq_true ⟨h1,h6⟩,BS] at k;subst sq1;refine aK λR1 sq1=>?_;bv_omega;subst sq1;refine aK λR1 sq1=>?_;refine n0 (K:=K) rfl ha ?_;obtain⟨Pv,hPv⟩:∃Pv:Nat->St->Hp->Prop,∀i σ H',Pv i σ H'↔∃(l:Int) (v2:Option V),σ=[some (.ref a),some (.int l),v2]/\H'=H/\cX 1 ds=cX l (ds.drop i):='O';refine kZ (xs:=xs) Pv ((hPv _ _ _).mpr ⟨1,_,rfl,rfl,rfl⟩) (λi σ H' _ h=>?_) ?_ ?_
  ·obtain⟨_,_,_,rfl,_⟩:=(hPv _ _ _).mp h;exact ha
  ·intro i x σ H' hx h;obtain⟨l,v2,rfl,rfl,er⟩:=(hPv _ _ _).mp h;obtain⟨d,hd,Rd⟩:=j8 RL hx;have dr:ds.drop i=d::ds.drop (i+1):=by
    obtain⟨hi,e⟩:=A0.mp hd;rw[<- e];exact List.drop_eq_getElem_cons hi
   rw[dr] at er;bv_omega;refine⟨x,_,l+1,50,rfl,cY Rd,mbb ?_⟩;cases hb:bS x (l+1) 50 with
   | false =>
    refine ifp rfl ?_;have:cX l (d::ds.drop (i+1))=false:=by
     cases d with
     | int b =>
      cases (show x=.int b from Rd);rw[dR];have:¬ (l+1<=b/\b<=50):=λh=>by rw[c0 h.1 h.2] at hb;cases hb
      rw[decide_eq_false this];rfl
     | _=>rfl
    rw[er,this] at k;exact k
   | true =>
    refine ifn 'A' ?_;obtain⟨b,rfl,rfl,b1,b2⟩:=uM Rd hb;rw[dR,decide_eq_true ⟨b1,b2⟩,BS] at er;exact(hPv _ _ _).mpr ⟨b,_,rfl,rfl,er⟩
  ·intro σ H' h;obtain⟨l,v2,rfl,rfl,er⟩:=(hPv _ _ _).mp h;rw[<- lx,List.drop_length] at er;subst sq1;bv_omega;rw[er] at k;exact k
abbrev O_q19:=OG Df_q19 3 ["thing"] spIB
abbrev s_q4:AD:=top 31
theorem sc_q4:FnScope ["thing","name"] ["thing","name"] (aC s_q4):=by infer_instance
abbrev Df_q4:=DfG "want_bases" s_q4 ["thing","name"]
def spWB (K:γ)(cl:Cl):Sp:=λvs H Q E=>∃(d:Dt) (u:V) (z:Str),vs=[u,.str z]/\Rep K H d u/\z.length<=100/\(g8 d=true->Q .non H)/\(g8 d=false->E (.ref cl.nb) none H)
def wF:TE:=λσ H Q=>∃nm,σ[1]? = some (some (.str nm))/\nm.length<=100/\∀z,Q (.str z) H
theorem tD {a:Str}(ha:a.length<=100):∀ σ H Q,wF σ H Q->cV (jX (dL 1)) (cV (tC (.str a)) nX) Ca σ H Q:=by
 rintro σ H Q ⟨nm,e1,b3,k⟩
 have e0:Ca.length=0:=rfl;have sz:∀ {x:Str},x.length<=1000->x.length<=ψ:=λh=>AX (bP h);refine moo e1 (.inl ⟨nm,rfl,sz 'B',nm,rfl,sz ?_,a,rfl,sz ?_,sz ?_,k _⟩) <;> simp only[Str.length_append,e0] <;> lia
theorem ok_q4 (D:Df_q4 K mg f fd)(T:Txt K mg t1 t2 t3 t4 t5 cl)(o1:O_q19 P w K mg ad):FnOk P w K mg ad (CXE P w) 4 f fd ["thing","name"] (spWB K cl):=by
 obtain⟨_,_,D_q19,G_q19⟩:=o1;refine D.fn.okX sc_q4 (λvs H Q E h=>?_) (λcdv A ae s H vs Q E hr h=>?_)
 ·obtain⟨d,u,z,rfl,_⟩:=h;rfl
 ·obtain⟨d,u,z,rfl,R,zl,k1,k2⟩:=h;refine⟨_,(aH (bW (cG (bZ (aX (G_q19.mono 'A') hr rfl D_q19.mgx D_q19.fn.kp D_q19.bd .nil bF (aA 'H' aI)))) (aH (lW i7 rfl rfl T.mg_NoBases T.xc_NoBases (sL (t':=wF) (i9 (cQ (kD 'I') (cQ bK sI))) (tD 'A')))) bC)),?_⟩;refine bL (σ:=[some (u),some (.str z)]) rfl ?_;bv_omega;refine⟨d,u,rfl,R,mbb ?_⟩;cases e:g8 d with
  | true=>exact ifn 'A' (k1 e)
  | false=>exact ifp 'A' ⟨_,rfl,zl,λ_=>k2 e⟩
abbrev O_q4 (P:ρ)(w:Γ)(K:γ)(mg:Str->Option δ)(ad:ω)(cl:Cl):Prop:=∃f fd,Df_q4 K mg f fd/\FnOk P w K mg ad (CXE P w) 4 f fd ["thing","name"] (spWB K cl)
abbrev s_q6:AD:=top 33
theorem sc_q6:FnScope ["n","bases","base"] ["n","bases"] (aC s_q6):=by infer_instance
abbrev Df_q6:=DfG "all_let_by" s_q6 ["n","bases"]
def spAL (K:γ):Sp:=λvs H Q _=>∃(n:Int) (a:ε) (bs:List Int),vs=[.int n,.ref a]/\(3<=n/\n<=20000)/\SqT K H a (bs.map V.int)/\(∀b∈bs,2<=b/\b<=50)/\∀H',Same H H'->Q (.bl (bs.all (aW n))) H'
theorem ok_q6 (D:Df_q6 K mg f fd)(T:Txt K mg t1 t2 t3 t4 t5 cl)(o1:O_q0 P w K mg ad):FnOk P w K mg ad CX0 3 f fd ["n","bases"] (spAL K):=by
 obtain⟨_,_,D_q0,G_q0⟩:=o1;exists sc_q6
 ·obtain⟨n,a,bs,rfl,_⟩:=h;rfl
 ·obtain⟨n,a,bs,rfl,⟨n3,n2⟩,ha,hb,k⟩:=h;refine⟨_,(aE (f6 AE rfl (nG 'I') (bG (i:=2) sc_q6.nd rfl 'F') (aH (bW (cG (bZ (aX (G_q0.mono 'A') hr rfl D_q0.mgx D_q0.fn.kp D_q0.bd .nil bF (aA 'H' (aA 'J' aI))))) (aH (aR cB)) bC))) (aH (aR cB))),?_⟩;refine bL (σ:=[some (.int n),some (.ref a),none]) rfl ?_;refine aK λR1 sq1=>?_;refine n0 (K:=K) rfl ha ?_;obtain⟨Pv,hPv⟩:∃Pv:Nat->St->Hp->Prop,∀i σ H',Pv i σ H'↔∃(v2:Option V),σ=[some (.int n),some (.ref a),v2]/\Same H H'/\bs.all (aW n)=(bs.drop i).all (aW n):='O';refine kZ (xs:=bs.map V.int) Pv ((hPv _ _ _).mpr ⟨_,rfl,Same.refl _,rfl⟩) (λi σ H' _ h=>?_) ?_ ?_
  ·obtain⟨_,_,S,_⟩:=(hPv _ _ _).mp h;exact S.tk.sq ha
  ·intro i x σ H' hx h;obtain⟨v2,rfl,S,er⟩:=(hPv _ _ _).mp h;have hm:=Ae (f:=V.int) (l:=bs) (i:=i);rw[hx] at hm;obtain⟨b,hbi,rfl⟩:∃b,bs[i]? = some b/\x=.int b:=by
    cases q:bs[i]? with
    | none=>rw[q] at hm;cases hm
    | some b=>rw[q] at hm;cases hm;exact⟨b,rfl,rfl⟩
   have bb:=hb b (AR hbi);have dr:bs.drop i=b::bs.drop (i+1):=by obtain⟨hi,e⟩:=A0.mp hbi;rw[<- e];exact List.drop_eq_getElem_cons hi
   rw[dr] at er;bv_omega;refine⟨n,b,rfl,⟨n3,by lia,by lia⟩,λH2 S2=>mbb ?_⟩;cases hv:aW n b with
   | false =>
    refine ifp rfl ?_;have:bs.all (aW n)=false:=by rw[er,BR,hv];rfl
    have k:=k H2 (S.trans S2)
    rwa [this] at k
   | true =>
    refine ifn 'A' ((hPv _ _ _).mpr ⟨_,rfl,S.trans S2,?_⟩);rw[er,BR,hv];rfl
  ·intro σ H' h;obtain⟨v2,rfl,S,er⟩:=(hPv _ _ _).mp h;rw[Ω,List.drop_length] at er;subst sq1;bv_omega;have k:=k H' S
   rwa [er] at k
abbrev O_q6:=OG Df_q6 3 ["n","bases"] spAL
abbrev s_q21:AD:=top 30
theorem sc_q21:FnScope ["most","bases"] ["most","bases"] (aC s_q21):=by infer_instance
abbrev Df_q21:=DfG "fooled" s_q21 ["most","bases"]
def spFo (K:γ)(cl:Cl):Sp:=λvs H Q E=>∃(x:V) (nm:String) (d:Dt) (u:V),vs=[x,u]/\Kd K H x nm/\Rep K H d u/\(bS x 3 20000=false->E (.ref cl.nn) none H) /\
 ∀m,x=.int m->3<=m->m<=20000->(g8 d=false->E (.ref cl.nb) none H)/\∀bs:List Int,d=.tup (bs.map Dt.int)->(∀b∈bs,2<=b/\b<=50)->g8 d=true->∀D H',Same H H'->H D=none->H' D=some (.lst ((fo (nS 3 (m+1)) bs).map V.int))->Q (.ref D) H'
abbrev OB_q6 (P:ρ)(w:Γ)(K:γ)(mg:Str->Option δ)(cl:Cl):Prop:=∃f fd,Df_q6 K mg f fd/\∀b,FnOk P w K mg b CX0 3 f fd ["n","bases"] (spAL K)
abbrev OB_q18 (P:ρ)(w:Γ)(K:γ)(mg:Str->Option δ)(cl:Cl):Prop:=∃f fd,Df_q18 K mg f fd/\∀b,FnOk P w K mg b (CXE P w) 5 f fd ["number"] (spIsPrime K cl)
theorem ok_q21 (D:Df_q21 K mg f fd)(T:Txt K mg t1 t2 t3 t4 t5 cl)(o1:O_q2 P w K mg ad cl)(o2:O_q4 P w K mg ad cl)(o3:OB_q6 P w K mg cl)(o4:OB_q18 P w K mg cl):FnOk P w K mg ad (CXE P w) 6 f fd ["most","bases"] (spFo K cl):=by
 obtain⟨_,_,D_q2,G_q2⟩:=o1;obtain⟨_,_,D_q4,G_q4⟩:=o2;obtain⟨_,_,D_q6,B_q6⟩:=o3;obtain⟨_,_,D_q18,B_q18⟩:=o4;refine D.fn.okX sc_q21 (λvs H Q E h=>?_) (λcdv A ae s H vs Q E hr h=>?_)
 ·obtain⟨x,nm,d,u,rfl,_⟩:=h;rfl
 ·obtain⟨x,nm,d,u,rfl,kd,R,k0,k⟩:=h;refine⟨_,(aE (fM (aX (G_q2.mono 'A') hr rfl D_q2.mgx D_q2.fn.kp D_q2.bd .nil (eR (λ_ _ _ h=>h)) (aA 'H' (aA aF (aA (bH (v:=.int _) rfl T.mg_MOST_FOOLED ⟨_,rfl⟩) (aA bK aI)))))) (aE (fM (aX (G_q4.mono 'A') hr rfl D_q4.mgx D_q4.fn.kp D_q4.bd .nil (eR (λ_ _ _ h=>h)) (aA 'I' (aA bK aI)))) (aH (PS.nox (aR (sM (N:=["n","bases"]) (js:=[none,some 1]) 'D' rfl (λ_=>rfl) (qH rfl T.no_range (aA aF (aA (aN bR 'H' aF) (aA aF aI)))) (by intro b _ _ _ _;exact(bG (i:=0) (show List.Nodup (["n","bases"]:List Str) by decide) rfl 'F')) (by intro b _ _ _ _;exact f7 (PW.pt (sD (bZ (aX ((B_q6 b).mono 'A') hr rfl D_q6.mgx D_q6.fn.kp D_q6.bd .nil bF (aA 'H' (aA 'I' aI)))) (oV (cG (bZ (aX ((B_q18 b).mono 'A') hr rfl D_q18.mgx D_q18.fn.kp D_q18.bd .nil kF (aA 'H' aI)))))))) (by intro b _ _ _ _;exact 'H'))))))),?_⟩;refine bL (σ:=[some (x),some (u)]) rfl ?_;refine aK λR1 sq1=>?_;bv_omega;refine⟨x,nm,_,_,_,rfl,kd,⟨by decide,by decide,by show 4<=100;decide⟩,λhx=>?_,k0⟩;obtain⟨m,rfl,m1,m9⟩:=jI hx;obtain⟨k1,k2⟩:=k m rfl m1 m9;subst sq1;refine aK λR1 sq1=>?_;bv_omega;refine⟨d,u,_,rfl,R,by decide,λhb=>?_,k1⟩;obtain⟨bs,rfl,hbs⟩:=rC hb;have kk:=k2 bs rfl hbs hb;obtain⟨a,xs,rfl,ha,RL⟩:=R;cases i6 RL;subst sq1;bv_omega;refine eI ?_;rename_i wT;refine⟨by decide,by decide,by lia,by lia,λb D hcb hD=>?_⟩;have kk:=kk D;obtain⟨Pv,hPv⟩:∃Pv:Nat->St->Hp->Prop,∀i σ H2,Pv i σ H2↔(∃v1,σ=[v1,some (.ref a)])/\Same H H2/\H2 D=some (.lst ((fo i bs).map V.int)):='O';refine mV (lo:=3) (n:=nS 3 (m+1)) Pv ((hPv _ _ _).mpr ⟨⟨_,rfl⟩,λb o e=>keep e hD,by rw[pJ];exact aD⟩) ?_ ?_
  ·intro i σ H2 hi h;obtain⟨⟨v1,rfl⟩,s2,d2⟩:=(hPv _ _ _).mp h;have im:3+(i:Int)*2<=m:=by
    unfold nS at hi
    split at hi <;> lia
   have fs:=pK i bs;have fl:=lA i bs;rename_i CT;refine⟨_,a,bs,rfl,⟨by lia,by lia⟩,s2.tk.sq ha,hbs,λH3 s3=>mbb ?_⟩;have d3:=s3 _ _ d2;unfold fkB at fs;cases e:bs.all (aW (3+(i:Int)*2)) with
   | false =>
    refine ifn 'A' ?_;rw[e,D4,if_neg 'A',BB] at fs;exact(hPv _ _ _).mpr ⟨⟨_,rfl⟩,λb o e=>s3 _ _ (s2 _ _ e),by rw[fs];exact d3⟩
   | true =>
    refine ifp rfl ⟨_,_,rfl,cY (K:=K) (d:=.int (3+(i:Int)*2)) rfl,(λh=>by rw[c0 'B' 'B'] at h;cases h),λn' en _ _=>?_⟩;cases en;rw[e,BS] at fs;refine mbb ?_;cases e2:bX (3+(i:Int)*2) with
    | true =>
     rw[e2,if_neg 'A',BB] at fs;exact ifn 'A' ((hPv _ _ _).mpr ⟨⟨_,rfl⟩,λb o e=>s3 _ _ (s2 _ _ e),by rw[fs];exact d3⟩)
    | false =>
     rw[e2,if_pos 'A'] at fs;refine ifp rfl ⟨_,d3,?_,(hPv _ _ _).mpr ⟨⟨_,rfl⟩,λb o e=>?_,?_⟩⟩
     ·rw[Ω,BX];lia
     ·rw[aJ (aM e hD)];exact s3 _ _ (s2 _ _ e)
     ·rw[aD,fs,Aw];rfl
  ·intro σ H2 h;obtain⟨⟨v1,rfl⟩,s2,d2⟩:=(hPv _ _ _).mp h;exact kk H2 s2 hD d2
theorem xD {X:Cx}{tg:Δ}{tl:TE}(hl:SE X l tl):PI X tg l (yB X.K tl):=nG hl.h
theorem eM {X:Cx}{tg a b c:Δ}{ta:TA}{p:Pos}(hg:Gl X "range")(hm:X.mg "range" = none)(ha:SA X [a,b,c] ta)(hs:autoParam (Θ [a,b,c] X.env=[(false,A5 a X.env),(false,A5 b X.env),(false,A5 c X.env)]) L2.au3._auto_1)(hs2:autoParam (Θ [b,c] X.env=[(false,A5 b X.env),(false,A5 c X.env)]) L2.au3._auto_1) :
  PI X tg (.Call (.Name "range" p) [a,b,c] [] pos) (pF ta):=qG hg hm ha.h hs hs2
theorem xE {X:Cx}{o i:Δ}{to ti:TE}{t:wA}(ho:SE X o to)(hi:SE X i ti)(hs:yM X t)(ha:autoParam (∀v,Ci (.Subscript o i pos) X.env v=(do
   let ov <- CZ [v] (A5 o X.env)
   let iv <- CZ [v,ov] (A5 i X.env)
   standAt pos
   CZ [v,ov,iv] (setItem ov iv v)
   release [v,ov,iv] [])) L2.au2._auto_1):PG X (.Subscript o i pos) (qV to ti t):=nH ho.h hi.h hs ha
abbrev s_q1:AD:=top 42
theorem sc_q1:FnScope ["_law_n","_law_base","_law_odd","_law_often","_law_power_here","_law_turn"] ["_law_n","_law_base"] (aC s_q1):=by infer_instance
abbrev Df_q1:=DfG "_law_by_halves" s_q1 ["_law_n","_law_base"]
def spLHalves:Sp:=λvs H Q _=>∃(n b:Int),vs=[.int n,.int b]/\(3<=n/\n<=10^30/\b.natAbs<10^100)/\Q (.bl (aW n b)) H
theorem ok_q1 (D:Df_q1 K mg f fd)(T:Txt K mg t1 t2 t3 t4 t5 cl)(o2:O_q13 P w K mg ad):FnOk P w K mg ad CX0 2 f fd ["_law_n","_law_base"] spLHalves:=by
 obtain⟨_,_,D_q13,G_q13⟩:=o2;exists sc_q1
 ·obtain⟨n,b,rfl,_⟩:=h;rfl
 ·obtain⟨n,b,rfl,⟨n3,n4,hb⟩,kk⟩:=h;refine⟨_,(aE (kA (i:=2) (j:=3) rfl sc_q1.nd rfl rfl 'A' rfl rfl (aA (aN eS 'H' aF) (aA aF aI)) (by first | rfl | with_unfolding_all rfl)) (aE (cZ AE (bE op_eq (aN aZ 'J' aF) aF 'E') (aH (kA (i:=2) (j:=3) rfl sc_q1.nd rfl rfl 'A' rfl rfl (aA (aN cI 'J' aF) (aA (aN bR (pv 3) aF) aI)) (by first | rfl | with_unfolding_all rfl)))) (aE (aV (i:=4) sc_q1.nd rfl 'F' (aX (G_q13.mono 'A') hr rfl D_q13.mgx D_q13.fn.kp D_q13.bd .nil bF (aA 'I' (aA 'J' (aA 'H' aI))))) (aE (bW (bE op_eq (pv 4) aF 'E') (aH (aR cB)) bC) (aE (f6 AE rfl (eP rfl T.no_range (aA (pv 3) aI)) (bG (i:=5) sc_q1.nd rfl 'F') (aE (bW (bE op_eq (pv 4) (aN eS 'H' aF) 'E') (aH (aR cB)) bC) (aH (aV (i:=4) sc_q1.nd rfl 'F' (aN aZ (aN bI (pv 4) (pv 4)) 'H'))))) (aH (aR cB))))))),?_⟩;refine bL (σ:=[some (.int n),some (.int b),none,none,none,none]) rfl ?_;refine aK λR1 sq1=>?_;bv_omega;subst sq1;refine aK λR1 sq1=>?_;have opp:=nJ (m:=n-1) 'B' _ 'K';have twl:tw (n-1)<=100:=rK 100 (by have:(10:Int)^30<=2^100:='A';lia);obtain⟨W,hW⟩:∃W:Nat->St->Hp->Prop,∀j σ H',W j σ H'↔∃o s,j=o.toNat/\σ=[some (.int n),some (.int b),some (.int o),some (.int s),none,none]/\HvInv (n-1) o s/\H'=H:='O';bv_omega;refine⟨W,⟨_,(hW _ _ _).mpr ⟨_,_,rfl,rfl,mP 'B',rfl⟩⟩,?_⟩;intro j σ H' hw;obtain⟨o,s',rfl,rfl,I,rfl⟩:=(hW _ _ _).mp hw;clear hw;have o0:=I.o0;bv_omega;refine⟨by decide,?_⟩;by_cases he:o%2=0
  ·refine ifp (by first | exact he | (rw[he])) ⟨λσ' H2=>∃m',m'<o.toNat/\W m' σ' H2,λ_ _ h=>h,?_⟩;bv_omega;exact⟨⟨by decide,by decide⟩,_,by lia,(hW _ _ _).mpr ⟨_,_,rfl,rfl,pG I he,rfl⟩⟩
  ·obtain⟨e1,e2⟩:=tP I he;refine ifn (by first | exact he | exact λh=>he (V.int.inj h)) ?_;rw[e1,e2];subst sq1;refine aK λR1 sq1=>?_;bv_omega;refine⟨b,_,n,rfl,⟨hb,by lia,by lia,by lia⟩,?_⟩;unfold aW at kk;have p0:=AI (b^(op (n-1)).toNat) (show n≠0 by lia);have p1:=A8 (b^(op (n-1)).toNat) (show 0<n by lia);generalize b^(op (n-1)).toNat%n=p at kk p0 p1 ⊢;subst sq1;refine aK λR1 sq1=>?_;bv_omega;by_cases h1:p=1
   ·rw[decide_eq_true h1] at kk;exact ifp (by rw[h1]) kk
   refine ifn (by first | exact h1 | exact λh=>h1 (V.int.inj h)) ?_;rw[decide_eq_false h1,Bool.false_or] at kk;clear I e2 hW;generalize tw (n-1)=s' at kk twl ⊢;subst sq1;refine aK λR1 sq1=>?_;refine dN ?_;bv_omega;refine⟨by lia,by lia,pI (n:=s') (λj σ H2=>H2=H'/\j<=s'/\∃q v,σ=[some (.int n),some (.int b),some (.int (op (n-1))),some (.int s'),some (.int q),v]/\0<=q/\q<n/\hvs n (s'-j) q=hvs n s' p) ⟨rfl,AY _,p,none,rfl,p0,p1,rfl⟩ ?_ ?_⟩
   ·rintro j σ H2 hj ⟨rfl,_,q,v,rfl,q0,q1,hq⟩
    bv_omega;have es:s'-j=(s'-(j+1))+1:=by lia
    rw[es] at hq;by_cases h2:q=n-1
    ·have e:hvs n (s'-(j+1)+1) q=true:=by
      show (decide (q=n-1)||_)=true;rw[decide_eq_true h2];rfl
     rw[<- hq,e] at kk;exact ifp (by rw[h2]) kk
    ·refine ifn (by first | exact h2 | exact λh=>h2 (V.int.inj h)) ⟨.inr ⟨by lia,by lia⟩,?_⟩;have e:hvs n (s'-(j+1)) (q*q%n)=hvs n s' p:=by
      rw[<- hq];show _=(decide (q=n-1)||_);rw[decide_eq_false h2];rfl
     exact⟨by lia,by lia,AI _ 'B',A8 _ 'B',e⟩
   ·rintro σ H2 ⟨rfl,_,q,v,rfl,q0,q1,hq⟩
    subst sq1;bv_omega;rw[Nat.sub_self] at hq;rw[<- hq] at kk;exact kk
abbrev O_q1:=OH Df_q1 2 ["_law_n","_law_base"] spLHalves
abbrev s_q9:AD:=top 44
theorem sc_q9:FnScope ["_law_n","_law_base"] ["_law_n","_law_base"] (aC s_q9):=by infer_instance
abbrev Df_q9:=DfG "_law_is_let" s_q9 ["_law_n","_law_base"]
def spIL:Sp:=λvs H Q _=>∃(n b:Int),vs=[.int n,.int b]/\(3<=n/\n<=20000/\2<=b/\b<=50)/\Q (.bl (aW n b)) H
theorem ok_q9 (D:Df_q9 K mg f fd)(T:Txt K mg t1 t2 t3 t4 t5 cl)(o1:O_q1 P w K mg ad):FnOk P w K mg ad CX0 3 f fd ["_law_n","_law_base"] spIL:=by
 obtain⟨_,_,D_q1,G_q1⟩:=o1;exists sc_q9
 ·obtain⟨n,b,rfl,_⟩:=h;rfl
 ·obtain⟨n,b,rfl,⟨n3,n4,b2,b5⟩,kk⟩:=h;refine⟨_,(aH (aR (f9 (dU jA (aN aZ 'I' 'H') aF 'E') (f8 (aX (G_q1.mono 'A') hr rfl D_q1.mgx D_q1.fn.kp D_q1.bd .nil bF (aA 'H' (aA (aN aZ 'I' 'H') aI))))))),?_⟩;refine bL (σ:=[some (.int n),some (.int b)]) rfl ?_;bv_omega;rw[<- qU n3] at kk;have r0:=AI b (show n≠0 by lia);have r1:=A8 b (show 0<n by lia);refine⟨by lia,?_⟩;by_cases z:b%n=0
  ·rw[decide_eq_false (λh=>h z)] at kk;exact ifn (λh=>h z) kk
  ·rw[decide_eq_true z,BS] at kk;exact ifp z ⟨by lia,n,b%n,rfl,⟨n3,by lia,by lia⟩,kk⟩
abbrev OB_q9 (P:ρ)(w:Γ)(K:γ)(mg:Str->Option δ)(cl:Cl):Prop:=∃f fd,Df_q9 K mg f fd/\∀b,FnOk P w K mg b CX0 3 f fd ["_law_n","_law_base"] spIL
theorem jN:∀fs:List Int,(fs.map V.int).all eB=true
 | []=>rfl
 | _::fs=>by rw[Bg,BR,jN fs];rfl
theorem vM (b:Int)(fs:List Int):inV (V.int b) (fs.map V.int)=decide (b∈fs):=by
 by_cases h:b∈fs
 ·rw[decide_eq_true h];exact List.any_eq_true.mpr ⟨.int b,Aa.mpr ⟨b,h,rfl⟩,decide_eq_true rfl⟩
 ·rw[decide_eq_false h];cases w:inV (V.int b) (fs.map V.int) with
  | false=>rfl
  | true =>
   obtain⟨y,hy,ey⟩:=List.any_eq_true.mp w;obtain⟨i,hi,rfl⟩:=Aa.mp hy;have:i=b:=of_decide_eq_true ey;exact absurd (this ▸ hi) h
theorem Step.setN {a L:ε}{H H1:Hp}{o:HO}(x:Step a H H1)(hn:H L=none)(nL:L≠a):Step a H (upd H1 L o):=by obtain⟨u,v,e,r⟩:=x.st;exact⟨⟨u,v,by rw[aJ nL.symm];exact e,r⟩,λb w hb eb=>by rw[aJ (aM eb hn)];exact x.but b w hb eb⟩
theorem gD {H:Hp}{q:ε}{o:HO}(h:(upd H q o) p=none):H p=none:=by
 by_cases e:p=q
 ·subst e;rw[aD] at h;cases h
 ·rwa [aJ e] at h
theorem none_of {H H':Hp}(S:Same H H')(h:H' p=none):H p=none:=by
 cases e:H p with
 | none=>rfl
 | some o=>rw[S _ _ e] at h;cases h
theorem oS:∀(ns:List Int) (l:Int),(∀b∈ns,l+1<=b/\b<=50)->ns.Nodup->ns.Pairwise (·<=·)->cX l (ns.map Dt.int)=true
 | [],_,_,_,_=>rfl
 | b::ns,l,hb,nd,pw=>by obtain⟨p1,p2⟩:=List.pairwise_cons.mp pw;obtain⟨n1,n2⟩:=BC.mp nd;show cX l (.int b::ns.map Dt.int)=true;rw[dR,decide_eq_true (hb b AL),BS];refine oS ns b (λc hc=>⟨?_,(hb c (AQ _ hc)).2⟩) n2 p2;have:=p1 c hc;have:c≠b:=λe=>n1 (e ▸ hc);lia
abbrev s_q11:AD:=top 43
theorem sc_q11:FnScope ["_law_state_here","_law_found","_law_turn","_law_base"] ["_law_state_here"] (aC s_q11):=by infer_instance
abbrev Df_q11:=DfG "_law_bases" s_q11 ["_law_state_here"]
def spBs (K:γ):Sp:=λvs H Q _=>∃(a:ε),vs=[.ref a]/\StAt H a/\∀(bs:List Int) (p:ε) (H':Hp),(g8 (.tup (bs.map Dt.int))=true/\∀b∈bs,2<=b/\b<=50)->Step a H H'->SqT K H' p (bs.map V.int)->Q (.ref p) H'
theorem ok_q11 (D:Df_q11 K mg f fd)(T:Txt K mg t1 t2 t3 t4 t5 cl)(o1:O_q10 P w K mg ad):FnOk P w K mg ad CX0 2 f fd ["_law_state_here"] (spBs K):=by
  obtain⟨_,_,D_q10,G_q10⟩:=o1;exists sc_q11
  · obtain⟨a,rfl,_⟩:=h;rfl
  · obtain⟨a,rfl,hst,kk⟩:=h;refine yF (aQ (b7 (i:=1) sc_q11.nd rfl 'F' (cO aL)) (aQ (eL AE rfl (eO rfl T.no_range (aB (cA bR aG (bN (G_q10.mono 'A') hr rfl D_q10.mgx D_q10.fn.kp D_q10.bd .nil bF (aB (sv 0) (aB aG aL)))) aL)) (bG (i:=2) sc_q11.nd rfl 'F') (aQ (b7 (i:=3) sc_q11.nd rfl 'F' (lQ bO (cO (aB aG (aB aG (aB aG (aB aG (aB (cA bR aG (bN (G_q10.mono 'A') hr rfl D_q10.mgx D_q10.fn.kp D_q10.bd .nil bF (aB (sv 0) (aB aG aL)))) aL)))))) (bN (G_q10.mono 'A') hr rfl D_q10.mgx D_q10.fn.kp D_q10.bd .nil bF (aB (sv 0) (aB aG aL))) 'G')) (bM (lO (c8 kG (sv 3) (sv 1) (by with_unfolding_all rfl)) (bM (j0 (wJ Az By Dh jE (sv 1) (aB (sv 3) aL))))
 dQ)))) (bM (eK (iX iK 'D' T.no_tuple Dj (aB (bV lC 'D' T.no_sorted PyProof.Rows.boot_sorted (aB (sv 1) aL)) aL)))))) ?_
    refine bL (σ:=[some (.ref a),none,none,none]) rfl ?_;refine aK λR1 sq1=>?_;bv_omega;refine⟨AY _,λL hL=>?_⟩;have s1:Step a H (upd H L (.lst [])):=(Step.refl hst).new hL;have l1:(upd H L (.lst [])) L=some (.lst (([]:List Int).map V.int)):=aD;have nL:L≠a:=by obtain⟨_,_,e,_⟩:=hst;exact(aM e hL).symm
    generalize upd H L (.lst [])=H1 at s1 l1 ⊢;subst sq1;refine aK λR1 sq1=>?_;refine dN ?_;bv_omega;refine⟨a,6,rfl,⟨by decide,by decide⟩,s1.st,λy H2 y0 y1 s2=>mii ⟨by lia,by lia,?_⟩⟩;have l2:=s2.but _ _ nL l1;have s12:=s1.trans s2;obtain⟨Pv,hPv⟩:∃Pv:Nat->St->Hp->Prop,∀i σ H',Pv i σ H'↔∃(fs:List Int) (v2 v3:Option V),σ=[some (.ref a),some (.ref L),v2,v3]/\Step a H H'/\H' L=some (.lst (fs.map V.int))/\fs.Nodup/\(∀b∈fs,2<=b/\b<=50)/\fs.length<=i/\(1<=i->fs≠[]):='O';refine pI (n:=(1+y).toNat) Pv ((hPv _ _ _).mpr ⟨[],_,_,rfl,s12,l2,List.nodup_nil,(λ_ h=>nomatch h),ο _,λh=>by lia⟩) ?_ ?_
    · intro i σ H3 hi hP;obtain⟨fs,v2,v3,rfl,s3,l3,nd,fb,fl,fn⟩:=(hPv _ _ _).mp hP;refine aK λR2 sq2=>?_;bv_omega;refine⟨a,49,rfl,⟨by decide,by decide⟩,s3.st,λz H4 z0 z1 s4=>mii ⟨by show 5<=ψ;decide,λq hq=>⟨a,5,rfl,⟨by decide,by decide⟩,s4.st.upd hq,λx H5 x0 x1 s5=>?_⟩⟩⟩;have s35:=(s4.new (o:=.lst [V.int 2,V.int 3,V.int 5,V.int 7,V.int (2+z)]) hq).trans s5;have q5:=s5.but _ _ (by
        obtain⟨_,_,e,_⟩:=s4.st;exact(aM e hq).symm) (aD (H:=H4) (a:=q) (o:=.lst [V.int 2,V.int 3,V.int 5,V.int 7,V.int (2+z)]))
      obtain⟨b,eb,b2,b5⟩:∃b:Int,atI [V.int 2,V.int 3,V.int 5,V.int 7,V.int (2+z)] x=some (.int b)/\2<=b/\b<=50:=by
        have h:x=0\/x=1\/x=2\/x=3\/x=4:=by lia
        rcases h with rfl | rfl | rfl | rfl | rfl
        · exact⟨_,rfl,by decide,by decide⟩
        · exact⟨_,rfl,by decide,by decide⟩
        · exact⟨_,rfl,by decide,by decide⟩
        · exact⟨_,rfl,by decide,by decide⟩
        · exact⟨_,rfl,by lia,by lia⟩
      refine⟨_,_,rfl,SqL.of q5,_,eb,?_⟩;have l5:=s35.but _ _ nL l3;have s05:=s3.trans s35;clear q5 eb;subst sq2;bv_omega;refine⟨L,_,rfl,.inl (SqL.of l5),rfl,jN fs,mbb ?_⟩;have ei:=vM b fs;cases hv:inV (V.int b) (fs.map V.int) with
      | true =>
        refine ifn 'A' ((hPv _ _ _).mpr ⟨fs,_,_,rfl,s05,l5,nd,fb,by lia,λ_ z=>?_⟩);rw[z] at hv;cases hv
      | false =>
        rw[hv] at ei;have nm:b ∉ fs:=of_decide_eq_false ei.symm;have hL0:H L=none:=hL;refine ifp rfl ⟨.inl ⟨_,SqL.of l5⟩,_,l5,bP (by rw[Ω];lia),(hPv _ _ _).mpr ⟨fs++[b],_,_,rfl,s05.setN hL0 nL,by rw[aD,Aw];rfl,?_,?_,by rw[AM];exact Nat.succ_le_succ fl,λ_ z=>?_⟩⟩
        · rw[List.nodup_append];refine⟨nd,by simp,λx hx y hy e=>?_⟩;rw[B9.mp hy] at e;exact nm (e ▸ hx)
        · intro c hc;rcases Af.mp hc with hc | hc
          · exact fb c hc
          · rw[B9.mp hc];exact⟨b2,b5⟩
        · cases fs <;> cases z
    · intro σ H3 hP;obtain⟨fs,v2,v3,rfl,s3,l3,nd,fb,fl,fn⟩:=(hPv _ _ _).mp hP;subst sq1;bv_omega;refine⟨L,fs,rfl,l3,by lia,λp ns hp pm pw=>⟨p,rfl,_,.inl ⟨SqL.of aD,λt ht=>?_⟩⟩⟩;have hb:∀b∈ns,2<=b/\b<=50:=λb hb=>fb b (pm.mem_iff.mp hb);refine kk ns t _ ⟨?_,hb⟩ ((s3.new hp).new ht) (SqT.of aD);have ln:=pm.length_eq;have ne:ns≠[]:=λz=>by
        rw[z] at ln;exact fn 'B' (List.length_eq_zero_iff.mp ln.symm)
      have pos:1<=ns.length:=by
        cases ns with
        | nil=>exact absurd rfl ne
        | cons=>exact Nat.succ_le_succ (AY _)
      show (decide (1<=(ns.map Dt.int).length/\(ns.map Dt.int).length<=6)&&cX 1 (ns.map Dt.int))=true;rw[Ω,decide_eq_true ⟨pos,by lia⟩,BS];exact oS ns 1 (λb h=>⟨by have:=hb b h;lia,(hb b h).2⟩) ((pm.nodup_iff).mpr nd) pw
abbrev O_q11:=OG Df_q11 2 ["_law_state_here"] spBs
abbrev s_q20:AD:=top 45
theorem sc_q20:FnScope ["_law_most","_law_bases_here","_law_known","_law_part","_law_multiple","_law_found","_law_base"] ["_law_most","_law_bases_here"] (aC s_q20):=by infer_instance
abbrev Df_q20:=DfG "_law_due" s_q20 ["_law_most","_law_bases_here"]
def spDue (K:γ):Sp:=λvs H Q _=>∃(m:Nat) (bs:List Int) (p:ε),vs=[.int m,.ref p]/\(3<=m/\m<=8100/\∀b∈bs,2<=b/\b<=50)/\SqT K H p (bs.map V.int)/\∀D H',Same H H'->H D=none->H' D=some (.lst ((fo (nK 2 3 (m+1)) bs).map V.int))->Q (.ref D) H'
theorem ok_q20 (D:Df_q20 K mg f fd)(T:Txt K mg t1 t2 t3 t4 t5 cl)(o1:OB_q9 P w K mg cl):FnOk P w K mg ad CX0 4 f fd ["_law_most","_law_bases_here"] (spDue K):=by
  obtain⟨_,_,D_q9,B_q9⟩:=o1;exists sc_q20
  · obtain⟨m,bs,p,rfl,_⟩:=h;rfl
  · obtain⟨m,bs,p,rfl,⟨m3,m8,hbs⟩,hp,kk⟩:=h;refine yF (aQ (b7 (i:=2) sc_q20.nd rfl 'F' (cA xU (cO (aB fX aL)) (cA bR (sv 0) aG))) (aQ (eL AE rfl (eM rfl T.no_range (aB aG (aB (cA bR (sv 0) aG) (aB aG aL)))) (bG (i:=3) sc_q20.nd rfl 'F') (bM (lO (SW.st (w6 (c8 jB (cA bI (sv 3) (sv 3)) (sv 0) 'E') (uD (rV (lQ bO (sv 2) (sv 3) 'G'))))) (bM (eL AE rfl (eM rfl T.no_range (aB (cA bI (sv 3) (sv 3)) (aB (cA bR (sv 0) aG) (aB (cA bI aG (sv 3)) aL)))) (bG (i:=4) sc_q20.nd rfl 'F') (bM (xB fX (xE (sv 2) (sv 4) fW)))))
 dQ))) (aQ (oN (iv:=5) sc_q20.nd rfl 'F' (N:=["_law_n","_law_known"]) (js:=[none,some 2]) 'D' rfl (λ_=>rfl) (eM rfl T.no_range (aB aG (aB (cA bR (sv 0) aG) (aB aG aL)))) (by intro b _ _ _ _;exact(bG (i:=0) (show List.Nodup (["_law_n","_law_known"]:List Str) by decide) rfl 'F')) (by intro b _ _ _ _;exact f7 (cG (bZ (cU (gT (K:=K) rfl) 'I' 'H' 'G')))) (by intro b _ _ _ _;exact 'H')) (aQ (eL AE rfl (xD (sv 1)) (bG (i:=6) sc_q20.nd rfl 'F') (bM (oN (iv:=5) sc_q20.nd rfl 'F' (N:=["_law_n","_law_base"]) (js:=[none,some 6]) 'D' rfl (λ_=>rfl) (uK (sv 5)) (by intro b _ _ _ _;exact(bG (i:=0) (show List.Nodup (["_law_n","_law_base"]:List Str) by decide) rfl 'F')) (by intro b _ _ _ _;exact f7 (bZ (aX ((B_q9 b).mono 'A') hr rfl D_q9.mgx D_q9.fn.kp D_q9.bd .nil bF (aA 'H' (aA 'I' aI))))) (by intro b _ _ _ _;exact 'H')))) (bM (eK (sv 5))))))) ?_
    refine bL (σ:=[some (.int m),some (.ref p),none,none,none,none,none]) rfl ?_;refine aK λR1 sq1=>?_;bv_omega;refine⟨by show 1<=ψ;decide,λp1 hp1=>⟨p1,_,_,rfl,rfl,aD,by lia,by lia,by rw[BX];show 1*_<=_;lia,λKp hKp=>?_⟩⟩;have S2:Same H (upd (upd H p1 (.lst [.bl true])) Kp (.lst (A6 ((m:Int)+1).toNat [V.bl true]).flatten)):=λb o e=>keep (keep e hp1) hKp;have k2:(upd (upd H p1 (.lst [.bl true])) Kp (.lst (A6 ((m:Int)+1).toNat [V.bl true]).flatten)) Kp=some (.lst ((A6 (m+1) true).map V.bl)):=by rw[aD,List.map_replicate,show ((m:Int)+1).toNat=m+1 by lia,List.flatten_replicate_singleton]
    have hK0:H Kp=none:=gD hKp;generalize upd (upd H p1 (.lst [.bl true])) Kp (.lst (A6 ((m:Int)+1).toNat [V.bl true]).flatten)=H2 at S2 k2 ⊢;subst sq1;refine aK λR1 sq1=>?_;refine iT ?_;bv_omega;have hlen:∀ {kb:List Bool} {q:Nat},Sv m q kb->(kb.map V.bl).length=m+1:=λh=>by rw[Ω];exact h.len
    refine⟨by decide,by decide,by decide,by decide,by lia,by lia,?_⟩;obtain⟨Pv,hPv⟩:∃Pv:Nat->St->Hp->Prop,∀i σ H',Pv i σ H'↔∃(kb:List Bool) (v3 v4:Option V),σ=[some (.int m),some (.ref p),some (.ref Kp),v3,v4,none,none]/\Same H H'/\H' Kp=some (.lst (kb.map V.bl))/\Sv m (3+2*i) kb:='O';refine tT Pv ((hPv _ _ _).mpr ⟨_,_,_,rfl,S2,k2,rQ m⟩) ?_ ?_
    · intro i σ H3 hi hP;obtain⟨kb,v3,v4,rfl,S3,k3,sv⟩:=(hPv _ _ _).mp hP;have im:=sW 'A' hi;obtain⟨q,hq⟩:∃q,q=3+2*i:=⟨_,rfl⟩;have eq:(3:Int)+(i:Int)*2=(q:Int):=by lia
      rw[eq] at im ⊢;rw[<- hq] at sv;have qn:3+2*(i+1)=q+2:=by lia
      have qo:q%2=1:=by lia
      have q8:q<=8100:=by lia
      have qq:q*q<=8100*8100:=Nat.mul_le_mul q8 q8;have qqi:((q*q:Nat):Int)=(q:Int)*q:=Ax q q;have kat:∃b,kb[q]? = some b:=⟨_,AH (by rw[sv.len];lia)⟩;obtain⟨b,hb⟩:=kat;bv_omega;refine⟨.inr ⟨by lia,by lia⟩,?_⟩;by_cases g:q*q<=m
      case neg =>
        refine ifn 'B' ((hPv _ _ _).mpr ⟨kb,_,_,rfl,S3,k3,by rw[qn];exact rT sv qo g⟩)
      refine ifp 'B' ⟨_,SqL.of k3,.bl b,eF (by rw[Ae,hb];rfl),mbb ?_⟩;cases b with
      | false=>exact ifn 'A' ((hPv _ _ _).mpr ⟨kb,_,_,rfl,S3,k3,by rw[qn];exact rS sv qo 'B' 'B' hb⟩)
      | true =>
        refine ifp rfl ?_;refine iT ?_;bv_omega;refine⟨.inr ⟨by lia,by lia⟩,.inr ⟨by lia,by lia⟩,by lia,by lia,by lia,by lia,by lia,by lia,?_⟩;obtain⟨Pw,hPw⟩:∃Pw:Nat->St->Hp->Prop,∀j σ H',Pw j σ H'↔∃(kb:List Bool) (v4:Option V),σ=[some (.int m),some (.ref p),some (.ref Kp),some (.int q),v4,none,none]/\Same H H'/\H' Kp=some (.lst (kb.map V.bl))/\Sw m q j kb:='O';refine tT Pw ((hPw _ _ _).mpr ⟨kb,_,rfl,S3,k3,rO sv⟩) ?_ ?_
        · intro j σ H4 hj hP4;obtain⟨kb,v4,rfl,S4,k4,sw⟩:=(hPw _ _ _).mp hP4;have jm:=sW 'B' hj;have ej:(q:Int)*q+(j:Int)*(2*q)=((q*q+2*q*j:Nat):Int):=by
            rw[Int.natCast_add,Ax,Ax,Ax,Int.mul_comm (j:Int)];rfl
          rw[ej] at jm ⊢;bv_omega;have jx:q*q+2*q*j<=m:=by lia
          refine⟨_,k4,q*q+2*q*j,?_,(hPw _ _ _).mpr ⟨kb.set (q*q+2*q*j) false,_,rfl,λb o e=>?_,?_,uC sw jx⟩⟩
          · unfold ixN;rw[Ω,sw.len,if_pos 'B',if_pos 'B',Int.toNat_natCast]
          · rw[aJ (aM e hK0)];exact S4 _ _ e
          · rw[aD,List.map_set]
        · intro σ H4 hP4;obtain⟨kb,v4,rfl,S4,k4,sw⟩:=(hPw _ _ _).mp hP4;have je:=sX (k:=2*(q:Int)) (lo:=(q:Int)*q) (hi:=(m:Int)+1) 'B' 'B';refine(hPv _ _ _).mpr ⟨kb,_,_,rfl,S4,k4,qn ▸ wZ sw qo 'B' ?_⟩;have ej:(q:Int)*q+(nK (2*q) (q*q) (m+1):Int)*(2*q)=((q*q+2*q*nK (2*q) (q*q) (m+1):Nat):Int):=by
            rw[Int.natCast_add,Ax,Ax,Ax,Int.mul_comm (nK (2*q) (q*q) (m+1):Int)];rfl
          rw[ej] at je;lia
    · intro σ H3 hP;obtain⟨kb,v3,v4,rfl,S3,k3,sv⟩:=(hPv _ _ _).mp hP;have em:=sX (k:=2) (lo:=3) (hi:=(m:Int)+1) 'A' 'B';have am:∀x,3<=x->x<=m->x%2=1->kb[x]? = some (bX (x:Int)):=λx h3 hm ho=>rR sv 'B' h3 hm ho;clear hP hPv Pv;subst sq1;dsimp only;refine aK λR1 sq1=>?_;dsimp only[dM,dP];refine eI ?_;rename_i pF;refine⟨by decide,by decide,by decide,by decide,by lia,by lia,λb D hcb hD=>?_⟩;obtain⟨Pu,hPu⟩:∃Pu:Nat->St->Hp->Prop,∀i σ H',Pu i σ H'↔(∃v1,σ=[v1,some (.ref Kp)])/\Same H3 H'/\H' D=some (.lst ((fo i []).map V.int)):='O';refine mW Pu ((hPu _ _ _).mpr ⟨⟨_,rfl⟩,λb o e=>keep e hD,by rw[pJ];exact aD⟩) ?_ ?_
      · intro i σ H4 hi hP;obtain⟨⟨v1,rfl⟩,S4,d4⟩:=(hPu _ _ _).mp hP;have im:=sW 'A' hi;have fs:=pK i [];have fl:=lA i [];have ka:=am (3+2*i) 'B' 'B' 'B';rename_i CT;have e3:(3:Int)+(i:Int)*2=((3+2*i:Nat):Int):=by lia
        have fk:fkB [] (3+(i:Int)*2) = !bX (3+(i:Int)*2):=rfl;rw[fk] at fs;rw[<- e3] at ka;have k4:=S4 _ _ k3;refine⟨_,SqL.of k4,.bl (bX (3+(i:Int)*2)),?_,mbb ?_⟩
        · have:=eF (xs:=kb.map V.bl) (j:=3+2*i) (v:=V.bl (bX (3+(i:Int)*2))) (by rw[Ae,ka];rfl)
          rwa [<- e3] at this
        cases e:bX (3+(i:Int)*2) with
        | true =>
          rw[e,if_neg 'A',BB] at fs;exact ifn 'A' ((hPu _ _ _).mpr ⟨⟨_,rfl⟩,S4,by rw[fs];exact d4⟩)
        | false =>
          rw[e,if_pos 'A'] at fs;refine ifp rfl ⟨_,d4,?_,(hPu _ _ _).mpr ⟨⟨_,rfl⟩,λb o e=>?_,?_⟩⟩
          · rw[Ω,BX];lia
          · rw[aJ (aM e hD)];exact S4 _ _ e
          · rw[aD,fs,Aw];rfl
      · intro σ H4 hP;obtain⟨⟨v1,rfl⟩,S4,d4⟩:=(hPu _ _ _).mp hP;clear hP hPu Pu;subst sq1;refine aK λR1 sq1=>?_;bv_omega;have S34:=S3.trans S4;have hD0:H D=none:=none_of S3 hD;generalize hN:nK 2 3 ((m:Int)+1)=N at d4 kk;have NM:(N:Int)*2<=m:=by
          rw[<- hN];unfold nK
          split
          · lia
          · lia
        clear em am k3 sv S3 S4 hD hcb;refine n0 (K:=K) rfl (S34.tk.sq hp) ?_;obtain⟨Pz,hPz⟩:∃Pz:Nat->St->Hp->Prop,∀i σ H',Pz i σ H'↔∃(D':ε) (v6:Option V),σ=[some (.int m),some (.ref p),some (.ref Kp),v3,v4,some (.ref D'),v6]/\Same H H'/\H D'=none/\H' D'=some (.lst ((fo N (bs.take i)).map V.int)):='O';refine kZ (xs:=bs.map V.int) Pz ((hPz _ _ _).mpr ⟨D,_,rfl,S34,hD0,d4⟩) (λi σ H' _ h=>?_) ?_ ?_
        · obtain⟨_,_,_,S,_⟩:=(hPz _ _ _).mp h;exact S.tk.sq hp
        · intro i x σ H5 hx hP;obtain⟨D',v6,rfl,S5,hD',d5⟩:=(hPz _ _ _).mp hP;have hm:=Ae (f:=V.int) (l:=bs) (i:=i);rw[hx] at hm;obtain⟨b,hbi,rfl⟩:∃b,bs[i]? = some b/\x=.int b:=by
            cases q:bs[i]? with
            | none=>rw[q] at hm;cases hm
            | some b=>rw[q] at hm;cases hm;exact⟨b,rfl,rfl⟩
          have bb:=hbs b (AR hbi);have tk:bs.take (i+1)=bs.take i++[b]:=by rw[List.take_succ,hbi];rfl
          bv_omega;refine eI ?_;rename_i tO;refine⟨⟨_,SqL.of d5⟩,λbs' E hcb hE=>?_⟩;have fb:=mS (k:=N) (bs:=bs.take i);have fl:=lA N (bs.take i);have fa:=qW N (bs.take i) b;rw[<- tk] at fa;generalize fo N (bs.take i)=F at d5 fb fl fa;obtain⟨Pq,hPq⟩:∃Pq:Nat->St->Hp->Prop,∀j σ H',Pq j σ H'↔(∃v1,σ=[v1,some (.int b)])/\Same H5 H'/\H' E=some (.lst (((F.take j).filter λn=>aW n b).map V.int)):='O';refine qY (xs:=F.map V.int) Pq ((hPq _ _ _).mpr ⟨⟨_,rfl⟩,λb o e=>keep e hE,aD⟩) (λj σ H' hj h=>SqL.of (((hPq _ _ _).mp h).2.1 _ _ d5)) ?_ ?_
          · intro j y σ H6 hy hP6;obtain⟨⟨v1,rfl⟩,S6,e6⟩:=(hPq _ _ _).mp hP6;have hm:=Ae (f:=V.int) (l:=F) (i:=j);rw[hy] at hm;obtain⟨n,hn,rfl⟩:∃n,F[j]? = some n/\y=.int n:=by
              cases q:F[j]? with
              | none=>rw[q] at hm;cases hm
              | some b=>rw[q] at hm;cases hm;exact⟨b,rfl,rfl⟩
            have nb:=fb n (AR hn);have tj:((F.take (j+1)).filter λn=>aW n b)=((F.take j).filter λn=>aW n b)++(if aW n b=true then [n] else []):=by
              rw[List.take_succ,hn,List.filter_append]
              congr 1
              show List.filter _ [n]=_;rw[List.filter_cons,List.filter_nil]
            have lj:((F.take j).filter λn=>aW n b).length<=10000:=by refine AN (List.length_filter_le _ _) ?_;rw[CQ];lia
            rename_i CT;refine⟨n,b,rfl,⟨nb.1,by lia,bb.1,bb.2⟩,mbb ?_⟩;cases e:aW n b with
            | true =>
              rw[e,if_pos rfl] at tj;refine ifp rfl ⟨_,e6,?_,(hPq _ _ _).mpr ⟨⟨_,rfl⟩,λb o e=>?_,?_⟩⟩
              · rw[Ω,BX];lia
              · rw[aJ (aM e hE)];exact S6 _ _ e
              · rw[aD,tj,Aw];rfl
            | false =>
              rw[e,if_neg 'A',BB] at tj;exact ifn 'A' ((hPq _ _ _).mpr ⟨⟨_,rfl⟩,S6,by rw[tj];exact e6⟩)
          · intro σ H6 hP6;obtain⟨⟨v1,rfl⟩,S6,e6⟩:=(hPq _ _ _).mp hP6;rw[Ω,Dg,<- fa] at e6;exact(hPz _ _ _).mpr ⟨E,_,rfl,S5.trans S6,none_of S5 hE,e6⟩
        · intro σ H5 hP;obtain⟨D',v6,rfl,S5,hD',d5⟩:=(hPz _ _ _).mp hP;subst sq1;bv_omega;rw[Ω,Dg] at d5;exact kk D' H5 S5 hD' d5
abbrev O_q20:=OG Df_q20 4 ["_law_most","_law_bases_here"] spDue
end
section
variable {P:ρ}{w:Γ}{K:γ}{mg:Str->Option δ}{ad:ω}{t1 t2 t3 t4 t5:Tok}{cl:Cl}{f:ε}
theorem cL {H:Hp}{q:ε}{o u:HO}(e:H q=some o)(hp:H p=none):(upd H p u) q=some o:=by rw[aJ (aM e hp)];exact e
theorem Step.tk {a:ε}{H H':Hp}(h:StAt H a)(s:Step a H H'):TK H H':=λb xs r=>by
 obtain⟨x,y,e,_⟩:=h;have ne:∀u,H b=some u->u ≠ .lst [.int x,.int y]->b≠a:=λu e' n z=>by rw[z,e] at e';cases e';exact n rfl
 rcases r with r | ⟨u,r⟩
 ·exact .inl (s.but b _ (ne _ r (by intro z;cases z)) r)
 ·exact .inr ⟨u,s.but b _ (ne _ r (by intro z;cases z)) r⟩
theorem Step.same {a:ε}{H H1 H2:Hp}(s:Step a H H1)(S:Same H1 H2):Step a H H2:=by obtain⟨x,y,e,r⟩:=s.st;exact⟨⟨x,y,S _ _ e,r⟩,λb o hb e=>S _ _ (s.but b o hb e)⟩
theorem StAt.ne {a:ε}{H:Hp}(h:StAt H a)(hp:H p=none):p≠a:=by obtain⟨x,y,e,_⟩:=h;exact(aM e hp).symm
def isX (K:γ)(σ:St)(H:Hp)(t:TE)(d:Dt):Prop:=∀H1,Same H H1->∀Q:VK,(∀v H',Same H1 H'->Rep K H' d v->Q v H')->t σ H1 Q
def tI (K:γ)(σ:St)(H:Hp)(t:TA)(ds:List Dt):Prop:=∀H1,Same H H1->∀Q:List V->Hp->Prop,(∀vs H',Same H1 H'->RepL K H' ds vs->Q vs H')->t σ H1 Q
section
variable {σ:St}{H:Hp}
theorem nY {t:TE}{v:V}{d:Dt}(h:∀H1,∀Q:VK,Q v H1->t σ H1 Q)(r:∀H1,Rep K H1 d v):isX K σ H t d:=λH1 S Q q=>h H1 Q (q v H1 (Same.refl _) (r _))
theorem gW:tI K σ H jW []:=λH1 S Q h=>h _ H1 (Same.refl _) rfl
theorem jH {t:TE}{ta:TA}{d:Dt}{ds:List Dt}(h1:isX K σ H t d)(h2:tI K σ H ta ds):tI K σ H (dO t ta) (d::ds):=λH1 S Q h =>
 h1 H1 S _ λv H2 S2 R2=>h2 H2 (S.trans S2) _ λvs H3 S3 R3=>h _ H3 (S2.trans S3) ⟨v,vs,rfl,Rep.sm S3 d R2,R3⟩
theorem kX {ta:TA}{ds:List Dt}(hl:ds.length<=1000)(h1:tI K σ H ta ds):isX K σ H (nD ta) (.tup ds):=λH1 S Q h =>
 h1 H1 S _ λvs H2 S2 R2=>⟨by rw[<- R2.length];exact AX (bP hl),λp hp=>by
  have S3:Same H2 (upd H2 p (.tup vs)):=λb o e=>cL e hp;exact h _ _ (S2.trans S3) ⟨p,vs,rfl,SqT.of aD,RepL.sm S3 ds R2⟩⟩
theorem vH {a:ε}{ds es:List Dt}{tb:TE}(hv:σ[i]? = some (some (.ref a)))(R:Rep K H (.tup ds) (.ref a))(hl:ds.length+es.length<=1000)(h2:isX K σ H tb (.tup es)):isX K σ H (tOp (wL K) (dL i) tb) (.tup (ds++es)):=λH1 S Q h=>by refine moo hv (h2 H1 S _ λv H2 S2 R2=>?_);obtain⟨a',xs,e,ha,RL⟩:=Rep.sm (S.trans S2) _ R;cases e;obtain⟨b,ys,rfl,hb,RM⟩:=R2;exact⟨a,b,xs,ys,rfl,rfl,ha,hb,by rw[<- RL.length,<- RM.length];exact AX (bP hl),λp H' S' hp=>h _ H' (S2.trans S') ⟨p,_,rfl,hp,RepL.append (RepL.sm S' _ RL) (RepL.sm S' _ RM)⟩⟩
theorem vE {ta:TA}{tb:TE}{ds:List Dt}{Q:VK}(hl:ds.length<=1000)(h:tI K σ H ta ds)(q:∀p vs H',Same H H'->H p=none->H' p=some (.lst vs)->RepL K H' ds vs->tb σ H' λy H2=>lV K (.ref p) y H2 Q):tOp (lV K) (lM ta) tb σ H Q :=
 h H (Same.refl _) _ λvs H2 S2 R2=>⟨by rw[<- R2.length];exact AX (bP hl),λp hp=>by
  have S3:Same H2 (upd H2 p (.lst vs)):=λb o e=>cL e hp;exact q p vs _ (S2.trans S3) (none_of S2 hp) aD (RepL.sm S3 ds R2)⟩
end
def wB (st:ε)(d:Dt)(v:V):Prop:=∀ds,d=.lst ds->v ≠ .ref st
def isN (K:γ)(st:ε)(σ:St)(H:Hp)(t:TE)(d:Dt):Prop:=∀H1,Same H H1->∀Q:VK,(∀v H',Same H1 H'->Rep K H' d v->wB st d v->Q v H')->t σ H1 Q
noncomputable def RepN (K:γ)(st:ε)(H:Hp):List Dt->List V->Prop
 | [],vs=>vs=[]
 | d::ds,vs=>∃v r,vs=v::r/\Rep K H d v/\wB st d v/\RepN K st H ds r
theorem RepN.length {st:ε}{H:Hp}:∀ {ds:List Dt} {vs:List V},RepN K st H ds vs->vs.length=ds.length
 | [],_,h=>by rw[show _=[] from h];rfl
 | d::ds,_,⟨v,r,e,_,_,h⟩=>by rw[e,B1,B1,RepN.length h]
theorem RepN.sm {st:ε}{H H':Hp}(S:Same H H'):∀ {ds:List Dt} {vs:List V},RepN K st H ds vs->RepN K st H' ds vs
 | [],_,h=>h
 | d::ds,_,⟨v,r,e,a,b,h⟩=>⟨v,r,e,Rep.sm S d a,b,RepN.sm S h⟩
theorem RepN.app {st:ε}{H:Hp}{es:List Dt}{us:List V}(g:RepN K st H es us):∀ {ds:List Dt} {vs:List V},RepN K st H ds vs->RepN K st H (ds++es) (vs++us)
 | [],_,h=>by cases (show _=[] from h);exact g
 | d::ds,_,⟨v,r,e,a,b,h⟩=>by subst e;exact⟨v,_,rfl,a,b,RepN.app g h⟩
theorem RepN.get {st:ε}{H:Hp}:∀ {ds:List Dt} {vs:List V} {i:Nat} {v:V},RepN K st H ds vs->vs[i]? = some v->∃d,d∈ds/\Rep K H d v/\wB st d v
 | [],_,i,v,h,g=>by cases (show _=[] from h);cases g
 | d::ds,_,0,v,⟨x,r,e,a,b,h⟩,g=>by subst e;cases g;exact⟨d,AL,a,b⟩
 | d::ds,_,i+1,v,⟨x,r,e,a,b,h⟩,g=>by subst e;obtain⟨d',m,q⟩:=RepN.get (i:=i) h g;exact⟨d',AQ _ m,q⟩
def vJ (K:γ)(st:ε)(σ:St)(H:Hp)(t:TA)(ds:List Dt):Prop:=∀H1,Same H H1->∀Q:List V->Hp->Prop,(∀vs H',Same H1 H'->RepN K st H' ds vs->Q vs H')->t σ H1 Q
section
variable {σ:St}{H:Hp}{st:ε}
theorem tK:vJ K st σ H jW []:=λH1 S Q h=>h _ H1 (Same.refl _) rfl
theorem qQ {t:TE}{ta:TA}{d:Dt}{ds:List Dt}(h1:isN K st σ H t d)(h2:vJ K st σ H ta ds):vJ K st σ H (dO t ta) (d::ds):=λH1 S Q h =>
 h1 H1 S _ λv H2 S2 R2 n2=>h2 H2 (S.trans S2) _ λvs H3 S3 R3=>h _ H3 (S2.trans S3) ⟨v,vs,rfl,Rep.sm S3 d R2,n2,R3⟩
theorem nZ {t:TE}{d:Dt}(h:isX K σ H t d)(hd:∀ds,d ≠ .lst ds):isN K st σ H t d:=λH1 S Q q=>h H1 S Q λv H' S' R=>q v H' S' R λds e=>absurd e (hd ds)
theorem tJ {a:ε}{ds:List Dt}(hs:H st≠none)(hv:σ[i]? = some (some (.ref a)))(R:Rep K H (.tup ds) (.ref a)):isN K st σ H (tCB (λxs H Q=>∃p ys,xs=[V.ref p]/\(SqL K H p ys\/SqT K H p ys)/\∀l,H l=none->Q (.ref l) (upd H l (.lst ys))) (dO (dL i) jW)) (.lst ds):=λH1 S Q h=>by
 refine moo hv ?_;obtain⟨a',xs,e,ha,RL⟩:=Rep.sm S _ R;cases e;refine⟨a,xs,rfl,.inr ha,λl hl=>?_⟩;have S3:Same H1 (upd H1 l (.lst xs)):=λb o e=>cL e hl;refine h _ _ S3 ⟨l,xs,rfl,SqL.of aD,RepL.sm S3 _ RL⟩ λ_ _ z=>?_;cases z;cases q:H st with
 | none=>exact hs q
 | some o=>rw[S _ _ q] at hl;cases hl
theorem vF {ta:TA}{ds:List Dt}{Q:VK}(hl:ds.length<=1000)(h:vJ K st σ H ta ds)(q:∀p vs H',Same H H'->H p=none->H' p=some (.lst vs)->RepN K st H' ds vs->Q (.ref p) H'):lM ta σ H Q :=
 h H (Same.refl _) _ λvs H2 S2 R2=>⟨by rw[R2.length];exact AX (bP hl),λp hp=>by
  have S3:Same H2 (upd H2 p (.lst vs)):=λb o e=>cL e hp;exact q p vs _ (S2.trans S3) (none_of S2 hp) aD (RepN.sm S3 R2)⟩
end
theorem lS {st:ε}{H H1:Hp}{d:Dt}{v:V}(hst:StAt H st)(s:Step st H H1)(nl:∀ds,d=.lst ds->noLL ds=true)(nd:(∀ds,d ≠ .lst ds)->noL d=true)(R:Rep K H d v)(n:wB st d v):Rep K H1 d v:=by
 cases d with
 | lst ds =>
  obtain⟨a,xs,rfl,q,RL⟩:=R;refine⟨a,xs,rfl,?_,RepL.mono (s.tk hst) _ (nl ds rfl) RL⟩;have ne:a≠st:=λz=>n ds rfl (by rw[z]);rcases q with (q | ⟨o,q⟩) | q
  ·exact .inl (.inl (s.but _ _ ne q))
  ·exact .inl (.inr ⟨o,s.but _ _ ne q⟩)
  ·exact .inr q
 | _=>exact Rep.mono (s.tk hst) _ (nd λ_ z=>nomatch z) R
end
section
variable {P:ρ}{w:Γ}{K:γ}{mg:Str->Option δ}{ad:ω}{t1 t2 t3 t4 t5:Tok}{cl:Cl}{f:ε}
def KX (Pt pc:ε)(H H':Hp):Prop:=∀b o,b≠Pt->b≠pc->H b=some o->H' b=some o
structure Lm (Pt pc:ε)(q:Str)(H:Hp)(fl:ε)(fd:AC)(c':ε):Prop where
 n1:fl≠Pt
 n2:fl≠pc
 n3:c'≠Pt
 n4:c'≠pc
 lam:H fl=some (iM fl fd)
 cod:H c'=some (mZ c' q)
theorem oD {X:Cx}{σ:St}{b:ω}{M H':Hp}{pc c':ε}{params:Bv}{body:Δ}{sc:Ac}{ctv:δ}{N:List Str}{js:List Nat}{vs:List V}{sp:Hp->VK->XK->Prop}{Q':VK}(hc:dC X σ b)(g:Lm Pt pc q M fl (Au "<lambda>" qual params body sc (bT sc X.env) pm (.ref c') ctv) c')(sm:Same M H')(W:WordC K cl C i)(hi:i=0\/i=4)(hck:jG sc X.env.scope N X.N js=true)(hinj:(X.env.cells.map (·.2)).Nodup)(hhas:∀x,X.env.scope.names.lookup x=some .cell->∃c,X.env.cells.lookup x=some c)(hv:vs.length=js.length)(hσ:∀(i j:Nat) (v:V),js[i]? = some j->vs[i]? = some v->σ[j]? = some (some v))(hp:∀pm cd ctv,bindArgs (Au "<lambda>" qual params body sc (bT sc X.env) pm cd ctv) ⟨[],[]⟩=pure [])(hbody:∀(A:Around) (ae:List Env) (s:η) (H:Hp) (Q:VK) (E:XK),Room 9 (A.deeper (Av qual sc s.heap.objs.size fl (.ref c') (bT sc X.env)))->sp H Q E->∃t,PE (mU P w K mg b N qual sc fl (.ref c') (bT sc X.env) A ae s H E) body t/\t (vs.map some) H Q)(hR:∀R:XK,(∀H1,Same H' H1->R (.ref C) none H1)->sp H' (λ_ _=>False) R)(hQ:∀H'',Same H' H''->Q' (.str (m4 i)) H'')(hq:qual=q):spSaid P w K mg cl b [.ref fl] H' Q' E0:=by subst hq;obtain⟨l1,l2,l3,l4⟩:=qO hck hinj hhas hc hv hσ;exact⟨fl,_,_,C,i,rfl,sm _ _ g.lam,xZ l1 l2 l3 l4 hbody,qP hp,W,hi,λR h=>⟨rfl,sm _ _ g.lam,sm _ _ g.cod,hR R h⟩,hQ⟩
def yL (H H':Hp):Prop:=∀b o,H b=some o->(∀ps,o ≠ .tbl ps)->H' b=some o
mutual
theorem Rep.s0 {K:γ}{H H':Hp}(S:yL H H'):∀(d:Dt) {v:V},Rep K H d v->Rep K H' d v
 | .non,v,h=>h
 | .bl _,v,h=>h
 | .int _,v,h=>h
 | .str _,v,h=>h
 | .tup ds,v,h=>by
  obtain⟨a,xs,e,q,r⟩:=h;refine⟨a,xs,e,?_,RepL.s0 S ds r⟩;rcases q with (q | ⟨o,q⟩) | q
  ·exact .inl (.inl (S _ _ q λ_ z=>nomatch z))
  ·exact .inl (.inr ⟨o,S _ _ q λ_ z=>nomatch z⟩)
  ·exact .inr q
 | .lst ds,v,h=>by
  obtain⟨a,xs,e,q,r⟩:=h;refine⟨a,xs,e,?_,RepL.s0 S ds r⟩;rcases q with (q | ⟨o,q⟩) | q
  ·exact .inl (.inl (S _ _ q λ_ z=>nomatch z))
  ·exact .inl (.inr ⟨o,S _ _ q λ_ z=>nomatch z⟩)
  ·exact .inr q
 | .emp,v,h=>by obtain⟨a,e,q⟩:=h;exact⟨a,e,S _ _ q λ_ z=>nomatch z⟩
theorem RepL.s0 {K:γ}{H H':Hp}(S:yL H H'):∀(ds:List Dt) {xs:List V},RepL K H ds xs->RepL K H' ds xs
 | [],xs,h=>h
 | d::ds,xs,h=>by obtain⟨x,r,e,a,b⟩:=h;exact⟨x,r,e,Rep.s0 S d a,RepL.s0 S ds b⟩
end
theorem fL {H H':Hp}(t:TabOk H Pt q)(s:SameX Pt H H'):yL H H':=λb o e n=>s b o (λz=>by
 obtain⟨ps,e3,_⟩:=t;rw[z,e3] at e;cases e;exact n _ rfl) e
structure Ws (K:γ)(cl:Cl):Prop where
 w0:WordC K cl cl.nn 0
 w4:WordC K cl cl.nb 4
noncomputable def qL:Str:=("law" : Str) ++ ".<locals>." ++ "<lambda>"
theorem Step.tab {a:ε}{H H1:Hp}(st:StAt H a)(x:Step a H H1)(t:TabOk H Pt q):TabOk H1 Pt q:=t.kept λb o e n=>x.but b o (λz=>by
 obtain⟨u,v,e',_⟩:=st;rw[z,e'] at e;cases e;exact n _ rfl) e
end
section
variable {P:ρ}{w:Γ}{K:γ}{mg:Str->Option δ}{ad:ω}{t1 t2 t3 t4 t5:Tok}{cl:Cl}{f:ε}
theorem rM {ti:TI}{g:TG}{tb:TS}{D:Ends}{σ:St}{H:Hp}(h:∀B:TS,B=tb->lN ti g B D σ H):lN ti g tb D σ H:=h tb rfl
theorem t9 {c:Int}(h0:0<=c)(h1:c<3):∃z:Int,atI [V.int 60,V.int 3000,V.int 8000] c=some (.int z)/\1<=z/\z<=8000:=by
 have h:c=0\/c=1\/c=2:=by lia
 rcases h with rfl | rfl | rfl <;> exact⟨_,rfl,by decide,by decide⟩
theorem tY (xs:List V)(v:V):iJ (xs++[v]) (some (-1)) none=[v]:=by
 have e:(-1+(((xs++[v]).length:Nat):Int)).toNat=xs.length:=by rw[AM,BZ];lia
 show List.take ((xs++[v]).length-(-1+(((xs++[v]).length:Nat):Int)).toNat) (List.drop (-1+(((xs++[v]).length:Nat):Int)).toNat (xs++[v]))=[v];have e2:(xs++[v]).length-xs.length=1:=by rw[AM,BZ];lia
 rw[e,List.drop_left,e2];rfl
theorem cC:∀ {a b:List Int},a.map Dt.int=b.map Dt.int->a=b
 | [],[],_=>rfl
 | [],_::_,h=>nomatch h
 | _::_,[],h=>nomatch h
 | x::a,y::b,h=>by have h1:=(List.cons.inj h).1;cases h1;rw[cC (List.cons.inj h).2]
theorem iY (c:Int):∀(bs:List Int) (l:Int),cX l (bs.map Dt.int++[.int c,.int c])=false
 | [],l=>by show (decide (l+1<=c/\c<=50)&&(decide (c+1<=c/\c<=50)&&true))=false;rw[decide_eq_false (show ¬ (c+1<=c/\c<=50) by lia),D4,C7]
 | b::bs,l=>by show (decide (l+1<=b/\b<=50)&&cX b (bs.map Dt.int++[.int c,.int c]))=false;rw[iY c bs b,C7]
noncomputable def n8 (l:List Dt)(c:Int):List Dt:=[.tup [],.lst l,.tup (l++[.int c]),.tup [.int 1],.tup [.int 51],.tup [.int 3,.int 2],.tup [.int 2,.bl true],.tup [.int 2,.str (ζ "3")],.non,.int 2]
noncomputable def rD:Dt:=.tup [.int 2,.int 3,.int 4,.int 5,.int 6,.int 7,.int 8]
noncomputable def farL:List Dt:=[.int 2,.int 20001,.int 0,.int (-1),.bl true,.non,.str (ζ "9"),.tup [.int 9],.int (10^20)]
theorem vN {H:Hp}{d:Dt}{v:V}(hd:d∈farL)(R:Rep K H d v):bS v 3 20000=false:=by
 unfold farL at hd;simp only[AV,CY,or_false] at hd;rcases hd with rfl | rfl | rfl | rfl | rfl | rfl | rfl | rfl | rfl
 all_goals first | (obtain⟨a,xs,e,_⟩:=R;subst e;rfl) | (have e:v=_:=R;subst e;decide)
theorem yE:∀d∈farL,noL d=true:=λd hd=>BM.mp (show farL.all noL=true by decide) d hd
theorem yK {bs:List Int}{c:Int}:∀d∈n8 ((bs++[c]).map Dt.int) c++[rD],g8 d=false:=by
 intro d hd;unfold n8 rD at hd;simp only[BO,Bo,AV,CY,or_false] at hd;rcases hd with rfl | rfl | rfl | rfl | rfl | rfl | rfl | rfl | rfl | rfl | rfl
 all_goals first | rfl | skip
 show (decide _&&cX 1 ((bs++[c]).map Dt.int++[.int c]))=false;rw[Aw,List.append_assoc];rw[show [c].map Dt.int++[Dt.int c]=[.int c,.int c] from rfl,iY c bs 1,C7]
theorem cJ:∀ {bs:List Int},(∀b∈bs,0<=b/\b<=20000)->okDL (bs.map Dt.int)=true/\noLL (bs.map Dt.int)=true/\noEL (bs.map Dt.int)=true/\lenDL (bs.map Dt.int)=103*bs.length/\depL (bs.map Dt.int)=0
 | [],_=>⟨rfl,rfl,rfl,rfl,rfl⟩
 | b::bs,h=>by
  obtain⟨i1,i2,i3,i4,i5⟩:=cJ (bs:=bs) λc hc=>h c (AQ _ hc);have hb:=h b AL;refine⟨?_,?_,?_,?_,?_⟩
  ·show (decide (b.natAbs<10^100)&&okDL (bs.map Dt.int))=true;rw[decide_eq_true 'B',i1];rfl
  ·exact i2
  ·exact i3
  ·show 101+2+lenDL (bs.map Dt.int)=103*(bs.length+1);rw[i4];lia
  ·show max 0 (depL (bs.map Dt.int))=0;rw[i5];rfl
theorem qM {F:List Int}(h:∀b∈F,0<=b/\b<=20000)(hl:F.length<=9000):Nice (.lst (F.map Dt.int)):=by
 obtain⟨i1,i2,i3,i4,i5⟩:=cJ h;refine⟨i1,?_,?_,?_,AY _⟩
 ·show (noEL (F.map Dt.int)||_)=true;rw[i3];rfl
 ·show lenDL (F.map Dt.int)+3<=_;rw[i4];lia
 ·show depL (F.map Dt.int)+1<99;rw[i5];decide
theorem nQ {F:List Int}(h:∀b∈F,0<=b/\b<=20000)(hl:F.length<=9):okD (.tup (F.map Dt.int))=true/\okR (.tup (F.map Dt.int))=true/\mE (.tup (F.map Dt.int))<=1000000/\L2.dep (.tup (F.map Dt.int))<=100:=by
 obtain⟨i1,i2,i3,i4,i5⟩:=cJ h;refine⟨i1,?_,?_,?_⟩
 ·show (noEL (F.map Dt.int)||_)=true;rw[i3];rfl
 ·show lenDL (F.map Dt.int)+3<=_;rw[i4];lia
 ·show depL (F.map Dt.int)+1<=100;rw[i5];decide
theorem pick {st:ε}{H H1 H2:Hp}{ds:List Dt}{vs:List V}{y:Int}{Q:V->Prop}(hst:StAt H st)(np:H p=none)(hp:H1 p=some (.lst vs))(R:RepL K H1 ds vs)(s:Step st H1 H2)(y0:0<=y)(y1:y<ds.length)(sb:∀d∈ds,∀v,Rep K H1 d v->Rep K H2 d v)(q:∀d v,d∈ds->Rep K H2 d v->Q v):∃xs i,V.int y=.int i/\SqL K H2 p xs/\∃v,atI xs i=some v/\Q v:=by
 have ne:p≠st:=λe=>by obtain⟨_,_,e',_⟩:=hst;rw[<- e,np] at e';cases e'
 obtain⟨n,rfl⟩:∃n:Nat,y=(n:Int):=⟨y.toNat,by lia⟩;have hl:=R.length;obtain⟨v,hv⟩:∃v,vs[n]? = some v:=⟨_,AH 'B'⟩;obtain⟨d,hd,Rd⟩:=j8 R hv;have hm:=AR hd;exact⟨vs,(n:Int),rfl,SqL.of (s.but _ _ ne hp),v,eF hv,q d v hm (sb d hm v Rd)⟩
theorem yJ {bs:List Int}{c:Int}(hb:∀b∈bs++[c],0<=b/\b<=20000)(hl:(bs++[c]).length<=9):∀d∈n8 ((bs++[c]).map Dt.int) c++[rD],((∀ds,d=.lst ds->noLL ds=true)/\((∀ds,d ≠ .lst ds)->noL d=true))/\okD d=true/\okR d=true/\mE d<=1000000/\L2.dep d<=100:=by
 have hc:=hb c 'C';have hb2:∀b∈bs++[c]++[c],0<=b/\b<=20000:=λb h=>by
  rcases Af.mp h with h | h
  ·exact hb b h
  ·rw[B9.mp h];exact hc
 obtain⟨i1,i2,i3,i4,i5⟩:=cJ hb;obtain⟨j1,j2,j3,j4,j5⟩:=cJ hb2;have ej:(bs++[c]).map Dt.int++[Dt.int c]=(bs++[c]++[c]).map Dt.int:=by rw[Aw (l₂:=[c]) (l₁:=bs++[c])];rfl
 have l2:(bs++[c]++[c]).length<=10:=by rw[AM];show _+1<=10;lia
 intro d hd;unfold n8 rD at hd;simp only[BO,Bo,AV,CY,or_false] at hd;rcases hd with rfl | rfl | rfl | rfl | rfl | rfl | rfl | rfl | rfl | rfl | rfl
 all_goals first | exact⟨⟨(λ_ z=>nomatch z),λ_=>rfl⟩,rfl,rfl,by decide,by decide⟩ | skip
 ·refine⟨⟨λds e=>by cases e;exact i2,λh=>absurd rfl (h _)⟩,i1,?_,?_,?_⟩
  ·show (noEL ((bs++[c]).map Dt.int)||_)=true;rw[i3];rfl
  ·show lenDL ((bs++[c]).map Dt.int)+3<=_;rw[i4];lia
  ·show depL ((bs++[c]).map Dt.int)+1<=100;rw[i5];decide
 ·rw[ej];refine⟨⟨(λ_ z=>nomatch z),λ_=>j2⟩,j1,?_,?_,?_⟩
  ·show (noEL ((bs++[c]++[c]).map Dt.int)||_)=true;rw[j3];rfl
  ·show lenDL ((bs++[c]++[c]).map Dt.int)+3<=_;rw[j4];lia
  ·show depL ((bs++[c]++[c]).map Dt.int)+1<=100;rw[j5];decide
abbrev OB_q21 (P:ρ)(w:Γ)(K:γ)(mg:Str->Option δ)(cl:Cl):Prop:=∃f fd,Df_q21 K mg f fd/\∀b,FnOk P w K mg b (CXE P w) 6 f fd ["most","bases"] (spFo K cl)
theorem Lm.self {H:Hp}{c':ε}{fd:AC}(tb:TabOk H Pt q)(l:H fl=some (iM fl fd))(c:H c'=some (mZ c' q)):Lm Pt Pt q H fl fd c':=by
 obtain⟨ps,e3,_⟩:=tb;have n1:fl≠Pt:=λz=>by rw[z,e3] at l;exact nomatch AA l
 have n2:c'≠Pt:=λz=>by rw[z,e3] at c;exact nomatch AA c
 exact⟨n1,n1,n2,n2,l,c⟩
abbrev s_law:AD:=top 46
theorem sc_law:FnScope ["_law_script","_law_k","_law_state_here","_law_most","_law_bases_here","_law_due_here","_law_kept","_law_turn","_law_found","_law_some","_law_bad","_law_odd"] ["_law_script"] (aC s_law):=by infer_instance
def spLaw (K:γ)(Pt:ε):Sp:=λvs H Q _=>∃(a:ε) (ns:List Int),vs=[.ref a]/\SqL K H a (ns.map V.int)/\ns.length<=63/\H Pt=some (.tbl #[])/\∀H',Q (.bl true) H'
theorem ok_law {c:ε}{kV ct:δ}(lk:K.lookup f=some ⟨oc,od,.func (AJ "law" "law" (bJ s_law) (aY s_law) (aC s_law) .none kV doc pm an (.ref c) ct),osl⟩)(hcd:At K (.ref c) "law" = true)(hd:C8 ad c Pt)(bm:ad.BuiltinsAt mg Pt)(T:Txt K mg t1 t2 t3 t4 t5 cl)(W0:WordC K cl cl.nn 0)(W4:WordC K cl cl.nb 4)(o1:O_q14 P w K mg ad)(o2:O_q10 P w K mg ad)(o3:O_q11 P w K mg ad)(o4:O_q20 P w K mg ad)(o6:O_q16 P w K mg ad)(o7:OB_q15 P w K mg cl)(o8:OB_q21 P w K mg cl):FnOk P w K mg ad CX0 20 f (AJ "law" "law" (bJ s_law) (aY s_law) (aC s_law) .none kV doc pm an (.ref c) ct) ["_law_script"] (spLaw K Pt):=by
  have W:Ws K cl:=⟨W0,W4⟩;obtain⟨_,_,D_q14,G_q14⟩:=o1;obtain⟨_,_,D_q10,G_q10⟩:=o2;obtain⟨_,_,D_q11,G_q11⟩:=o3;obtain⟨_,_,D_q20,G_q20⟩:=o4;obtain⟨_,_,D_q16,G_q16⟩:=o6;obtain⟨_,_,D_q15,B_q15⟩:=o7;obtain⟨_,_,D_q21,B_q21⟩:=o8;have G_q21:=B_q21 ad;refine yD lk hcd sc_law (λvs H Q E h=>?_) (λA ae s H vs Q E hr h=>?_)
  · obtain⟨a,ns,rfl,_⟩:=h;rfl
  · obtain⟨sa,ns,rfl,hS,hlen,hT,k⟩:=h;refine yF (aQ (eL AE rfl (eO rfl T.no_range (aB (bV (jO rfl) 'D' T.no_max Ds (aB aG (aB (bV (qZ rfl) 'D' T.no_min PyProof.Rows.boot_min (aB (bV cS 'D' T.no_len Dr (aB (sv 0) aL)) (aB aG aL))) aL))) aL)) (bG (i:=1) sc_law.nd rfl 'F') (aQ (b7 (i:=2) sc_law.nd rfl 'F' (bN (G_q14.mono 'A') hr rfl D_q14.mgx D_q14.fn.kp D_q14.bd .nil bF (aB (sv 0) (aB (sv 1) aL)))) (aQ (b7 (i:=3) sc_law.nd rfl 'F' (cA bR aG (bN (G_q10.mono 'A') hr rfl D_q10.mgx D_q10.fn.kp D_q10.bd .nil bF (aB (sv 2) (aB (lQ bO (cO (aB aG (aB aG (aB aG aL)))) (bN (G_q10.mono 'A') hr rfl D_q10.mgx D_q10.fn.kp D_q10.bd .nil bF (aB (sv 2) (aB aG aL))) 'G') aL))))) (aQ (b7 (i:=4) sc_law.nd rfl 'F' (bN (G_q11.mono 'A') hr rfl D_q11.mgx D_q11.fn.kp D_q11.bd .nil bF (aB (sv 2) aL))) (aQ (xA (i:=5) (j:=6) rfl sc_law.nd rfl rfl 'A' rfl rfl (aB (bN (G_q20.mono 'A') hr rfl D_q20.mgx D_q20.fn.kp D_q20.bd .nil bF (aB (sv 3) (aB (sv 4) aL))) (aB (bV (bU hr.gd (eZ hr)) 'D' T.no_repr Ar (aB (sv 4) aL)) aL)) (by first | rfl | with_unfolding_all rfl)) (aQ (eL AE rfl (eO rfl T.no_range (aB aG aL)) (bG (i:=7) sc_law.nd rfl 'F') (aQ (b7 (i:=8) sc_law.nd rfl 'F' (bN (G_q21.mono 'A') hr rfl D_q21.mgx D_q21.fn.kp D_q21.bd .nil kF (aB (sv 3) (aB (sv 4) aL)))) (aQ (lO (SW.st (wH (w8 (rV (bN (G_q16.mono 'A') hr rfl D_q16.mgx D_q16.fn.kp D_q16.bd .nil bF (aB (sv 8) (aB (sv 5) aL))))) (rP (c8 jA (bV (bU hr.gd (eZ hr)) 'D' T.no_repr Ar (aB (sv 4) aL)) (sv 6) 'E')))) (bM (eK fX))
 dQ) (aQ (j0 (xG Az PySem.F.slot_list_reverse PySem.F.type_list_reverse nR (sv 8))) (bM (j0 (wJ Az By Dh jE (sv 8) (aB aG aL)))))))) (aQ (b7 (i:=9) sc_law.nd rfl 'F' (cO (aB (cF aL) (aB (iX lD 'D' T.no_list PyProof.Rows.boot_list (aB (sv 4) aL)) (aB (cA uZ (sv 4) (lP uI (sv 4) (oO (wI rH aG)) oP)) (aB (cF (aB aG aL)) (aB (cF (aB aG aL)) (aB (cF (aB aG (aB aG aL))) (aB (cF (aB aG (aB fX aL))) (aB (cF (aB aG (aB j7 aL))) (aB rX (aB aG aL)))))))))))) (aQ (b7 (i:=10) sc_law.nd rfl 'F' (lQ bO (cA nN (sv 9) (cO (aB (cF (aB aG (aB aG (aB aG (aB aG (aB aG (aB aG (aB aG aL)))))))) aL))) (bN (G_q10.mono 'A') hr rfl D_q10.mgx D_q10.fn.kp D_q10.bd .nil bF (aB (sv 2) (aB aG aL))) 'G')) (aQ (b7 (i:=11) sc_law.nd rfl 'F' (lQ bO (cO (aB aG (aB aG (aB aG (aB (wI rH aG) (aB fX (aB rX (aB j7 (aB (cF (aB aG aL)) (aB (cA sS aG aG) aL)))))))))) (bN (G_q10.mono 'A') hr rfl D_q10.mgx D_q10.fn.kp D_q10.bd .nil bF (aB (sv 2) (aB aG aL))) 'G')) (aQ (b7 (i:=6) sc_law.nd rfl 'F' (bV (bU hr.gd (eZ hr)) 'D' T.no_repr Ar (aB (sv 10) aL))) (aQ (lO (SW.st (wH (c8 jA (lR (sp:=λb=>spSaid P w K mg cl b) (λb=>(B_q15 b).mono 'A') hr (λ_=>rfl) rfl D_q15.mgx D_q15.fn.kp D_q15.bd .nil bF (aB (oQ (N:=["_law_most","_law_bad"]) (js:=[3,10]) ⟨rfl,hd,bm⟩ 'D' rfl) aL)) j7 'E') (rP (c8 jA (bV (bU hr.gd (eZ hr)) 'D' T.no_repr Ar (aB (sv 10) aL)) (sv 6) 'E')))) (bM (eK fX))
 dQ) (bM (lO (c8 jA (lR (sp:=λb=>spSaid P w K mg cl b) (λb=>(B_q15 b).mono 'A') hr (λ_=>rfl) rfl D_q15.mgx D_q15.fn.kp D_q15.bd .nil bF (aB (oQ (N:=["_law_odd","_law_bad"]) (js:=[11,10]) ⟨rfl,hd,bm⟩ 'D' rfl) aL)) j7 'E') (bM (eK fX))
 dQ))))))))))))) (bM (eK (xH (oR (sT (eZ hr)) (lP uJ (bN (G_q21.mono 'A') hr rfl D_q21.mgx D_q21.fn.kp D_q21.bd .nil kF (aB aG (aB (cF (aB aG aL)) aL))) oP (oO aG)) (cO (aB aG (aB aG (aB aG (aB aG aL))))) 'E') (xF (oR (sT (eZ hr)) (bN (G_q21.mono 'A') hr rfl D_q21.mgx D_q21.fn.kp D_q21.bd .nil kF (aB aG (aB (cF (aB aG (aB aG aL))) aL))) (cO aL) 'E')))))) ?_
    refine bL (σ:=[some (.ref sa),none,none,none,none,none,none,none,none,none,none,none]) rfl ?_;refine aK λR0 hR0=>?_;dsimp only[dM];refine rM λB hB=>?_;refine dN ?_;bv_omega;refine⟨_,.inl hS,?_⟩;obtain⟨Pl,hPl⟩:∃Pl:Nat->St->Hp->Prop,∀i σ H',Pl i σ H'↔SameX Pt H H'/\TabOk H' Pt qL/\∃v1 v2 v3 v4 v5 v6 v7 v8 v9 v10 v11,σ=[some (.ref sa),v1,v2,v3,v4,v5,v6,v7,v8,v9,v10,v11]:='O';refine⟨?_,?_,pI Pl ((hPl _ _ _).mpr ⟨SameX.refl _ _,pY hT,none,none,none,none,none,none,none,none,none,none,none,rfl⟩) ?_ ?_⟩
    · rw[Ω];repeat' split
      all_goals lia
    · rw[Ω];repeat' split
      all_goals lia
    · intro i σ H1 hi hP;obtain⟨S,TB,v1,v2,v3,v4,v5,v6,v7,v8,v9,v10,v11,rfl⟩:=(hPl _ _ _).mp hP;clear hP;dsimp only[cW,DG,DH];rw[hB];clear hB B;refine aK λR hR=>?_;bv_omega;refine⟨sa,ns,_,rfl,S.seq hT hS,hlen,by lia,λa x y y0 y1 ha=>?_⟩;have nb:∀b o,b≠Pt->H b=some o->b≠a:=λb o hb e=>aM (S b o hb e) ha;have S0:SameX Pt H (upd H1 a (.lst [.int x,.int y])):=λb o hb e=>by rw[aJ (nb b o hb e)];exact S b o hb e
      have TB0:TabOk (upd H1 a (.lst [.int x,.int y])) Pt qL:=TB.same λb o e=>by rw[aJ (aM e ha)];exact e
      have st0:StAt (upd H1 a (.lst [.int x,.int y])) a:=⟨x,y,aD,y0,y1⟩;generalize upd H1 a (.lst [.int x,.int y])=H2 at S0 TB0 st0 ⊢;clear S TB ha;subst hR;refine aK λR hR=>?_;bv_omega;refine⟨by show 3<=ψ;decide,λp hp=>?_⟩;refine⟨a,3,rfl,⟨by decide,by decide⟩,st0.upd hp,λx H4 x0 x1 s4=>?_⟩;have s04:Step a H2 H4:=((Step.refl st0).new hp).trans s4;have hp4:H4 p=some (.lst [.int 60,.int 3000,.int 8000]):=s4.but _ _ (st0.ne hp) aD;obtain⟨wd,ew,w1,w2⟩:=t9 x0 x1;refine⟨_,_,rfl,SqL.of hp4,_,ew,a,wd,rfl,⟨by lia,by lia⟩,s04.st,λy H5 y0 y1 s5=>mii ?_⟩;have s05:=s04.trans s5;obtain⟨m,hm⟩:∃m:Nat,3+y=(m:Int):=⟨(3+y).toNat,by lia⟩;have m3:3<=m:=by lia
      have m8:m<=8003:=by lia
      rw[hm];clear s04 s5 hp4 ew w1 w2 y0 y1 x0 x1 hp s4 hm y;subst hR;refine aK λR hR=>?_;bv_omega;refine⟨a,rfl,s05.st,λbs pb H6 ⟨hB,hbs⟩ s6 hpb=>?_⟩;have s06:=s05.trans s6;have hbs':∀b∈bs,0<=b/\b<=20000:=λb hb=>by have:=hbs b hb;lia
      have bl:1<=bs.length/\bs.length<=6:=by have h:=(AK.mp (show (decide (1<=(bs.map Dt.int).length/\(bs.map Dt.int).length<=6)&&cX 1 (bs.map Dt.int))=true from hB)).1;rw[Ω] at h;exact of_decide_eq_true h
      obtain⟨b1,b2,b3,b4⟩:=nQ hbs' 'B';clear s05 s6;subst hR;refine aK λR hR=>?_;bv_omega;refine⟨m,bs,pb,rfl,⟨m3,by lia,hbs⟩,hpb,λD H7 S7 hD d7=>⟨.ref pb,.tup (bs.map Dt.int),rfl,⟨pb,_,rfl,S7.tk.sq hpb,j9 bs⟩,⟨b1,b2,b3,b4⟩,?_⟩⟩;have s07:=s06.same S7;have hpb:=S7.tk.sq hpb;have fob:=mS (k:=nK 2 3 ((m:Int)+1)) (bs:=bs);have fol:=lA (nK 2 3 ((m:Int)+1)) bs;have NM:(nK 2 3 ((m:Int)+1):Int)*2<=m:=by
        unfold nK
        split <;> lia
      have eN:nS 3 ((m:Int)+1)=nK 2 3 ((m:Int)+1):=rfl;have niceF:=qM (F:=fo (nK 2 3 ((m:Int)+1)) bs) (λb hb=>by have:=fob b hb;lia) 'B';clear s06 S7 hD;subst hR;refine aK λR hR=>?_
      try dsimp only[dM]
      refine dN ?_;bv_omega;obtain⟨Pt',hPt⟩:∃Pt':Nat->St->Hp->Prop,∀i' σ H',Pt' i' σ H'↔Same H7 H'/\∃v7 v8,σ=[some (.ref sa),some (.int (0+(i:Int))),some (.ref a),some (.int m),some (.ref pb),some (.ref D),some (.str (shD (.tup (bs.map Dt.int)))),v7,v8,v9,v10,v11]:='O';refine⟨by decide,by decide,pI Pt' ((hPt _ _ _).mpr ⟨Same.refl _,_,_,rfl⟩) ?_ ?_⟩
      · intro i' σ H8 hi' hP;obtain⟨S8,v7,v8,rfl⟩:=(hPt _ _ _).mp hP;clear hP;dsimp only[cW,DG,DH];refine aK λR hR=>?_;bv_omega;have R8:Rep K H8 (.tup (bs.map Dt.int)) (.ref pb):=⟨pb,_,rfl,S8.tk.sq hpb,j9 bs⟩;refine⟨.int m,_,.tup (bs.map Dt.int),.ref pb,rfl,cY (K:=K) (d:=.int m) rfl,R8,(λh=>by rw[c0 'B' 'B'] at h;cases h),λm' e _ _=>?_⟩;cases e;refine⟨(λh=>by rw[hB] at h;cases h),λbs' e hb' _ D' H9 S9 hD' d9=>?_⟩;cases cC (Dt.tup.inj e);rw[eN] at d9;subst hR;refine aK λR hR=>?_;bv_omega;have S89:=S8.trans S9;have dD:=S89 _ _ d7;have RF:∀ {H':Hp} {D0:ε} {F:List Int},H' D0=some (.lst (F.map V.int))->Rep K H' (.lst (F.map Dt.int)) (.ref D0):=λh=>⟨_,_,rfl,SqL.of h,j9 _⟩;refine⟨.lst ((fo (nK 2 3 ((m:Int)+1)) bs).map Dt.int),.ref D',.ref D,rfl,⟨RF d9,RF dD⟩,niceF,mbb (ifn 'A' ⟨.ref pb,.tup (bs.map Dt.int),rfl,Rep.sm S9 _ R8,⟨b1,b2,b3,b4⟩,mtt (ifn (λh=>h rfl) ?_)⟩)⟩;subst hR;rename_i wY lU;refine⟨.inl ⟨_,SqL.of d9⟩,_,d9,.inl ⟨_,SqL.of aD⟩,_,aD,(by rw[List.length_reverse,Ω,BX];lia),(hPt _ _ _).mpr ⟨λb o e=>?_,_,_,rfl⟩⟩;have ne:b≠D':=aM (S8 _ _ e) hD';rw[aJ ne,aJ ne];exact S89 _ _ e
      · intro σ H8 hP;obtain⟨S8,v7,v8,rfl⟩:=(hPt _ _ _).mp hP;clear hP hPt Pt';have s08:=s07.same S8;have hpb:=S8.tk.sq hpb;clear s07 S8 d7 fob fol NM eN niceF;obtain⟨ini,c,rfl⟩:∃ini c,bs=ini++[c]:=⟨bs.dropLast,bs.getLast (λz=>by rw[z] at bl;exact absurd bl.1 'A'),(List.dropLast_concat_getLast _).symm⟩;subst hR
        try dsimp only
        refine aK λR hR=>?_;dsimp only[dM,dP];have Rb:Rep K H8 (.tup ((ini++[c]).map Dt.int)) (.ref pb):=⟨pb,_,rfl,hpb,j9 _⟩;have hstn:H8 a≠none:=λz=>by obtain⟨_,_,e,_⟩:=s08.st;rw[e] at z;cases z
        refine vF (K:=K) (st:=a) (ds:=n8 ((ini++[c]).map Dt.int) c) (show 10<=1000 by decide) ?_ λp vs H9 S9 np hp R9=>?_
        · unfold n8
          repeat' (first | exact tK | refine qQ ?_ ?_)
          · exact nZ (kX 'A' gW) λ_ z=>nomatch z
          · exact tJ hstn rfl Rb
          · refine nZ (vH rfl Rb (by rw[Ω];show _+1<=_;lia) (es:=[.int c]) λH1 S Q h=>?_) λ_ z=>nomatch z;rename_i tSl oH fF;refine⟨pb,_,rfl,(S.tk.sq hpb),λp H' S' hp=>h _ H' S' ⟨p,_,rfl,hp,?_⟩⟩;rw[Aw];rw[show [c].map V.int=[V.int c] from rfl,tY];exact⟨_,_,rfl,rfl,rfl⟩
          all_goals refine nZ ?_ λ_ z=>nomatch z
          all_goals repeat' (first | exact gW | refine jH ?_ ?_ | exact nY (λ_ _ q=>q) (λ_=>rfl) | refine kX 'A' ?_)
        have s09:=s08.same S9;have hpb:=S9.tk.sq hpb;clear Rb hstn s08;subst hR;refine aK λR hR=>?_;bv_omega;refine⟨by show 7<=ψ;decide,λq1 h1=>⟨by show 1<=ψ;decide,λq2 h2=>⟨vs,cL (cL hp h1) h2,_,aD,by rw[R9.length,BX];show 10+1<=_;decide,λq3 h3=>?_⟩⟩⟩;have SA:Same H9 (upd (upd (upd H9 q1 (.tup [.int 2,.int 3,.int 4,.int 5,.int 6,.int 7,.int 8])) q2 (.lst [.ref q1])) q3 (.lst (vs++[.ref q1]))):=λb o e=>cL (cL (cL e h1) h2) h3;have m1:(upd (upd (upd H9 q1 (.tup [.int 2,.int 3,.int 4,.int 5,.int 6,.int 7,.int 8])) q2 (.lst [.ref q1])) q3 (.lst (vs++[.ref q1]))) q1=some (.tup [.int 2,.int 3,.int 4,.int 5,.int 6,.int 7,.int 8]):=cL (cL aD h2) h3;have m3:(upd (upd (upd H9 q1 (.tup [.int 2,.int 3,.int 4,.int 5,.int 6,.int 7,.int 8])) q2 (.lst [.ref q1])) q3 (.lst (vs++[.ref q1]))) q3=some (.lst (vs++[.ref q1])):=aD;have n3:H9 q3=none:=gD (gD h3);generalize upd (upd (upd H9 q1 (.tup [.int 2,.int 3,.int 4,.int 5,.int 6,.int 7,.int 8])) q2 (.lst [.ref q1])) q3 (.lst (vs++[.ref q1]))=HA at SA m1 m3 ⊢;have RA:RepN K a HA (n8 ((ini++[c]).map Dt.int) c++[rD]) (vs++[.ref q1]):=RepN.app (show RepN K a HA [rD] [.ref q1] from ⟨_,[],rfl,⟨q1,_,rfl,SqT.of m1,j9 [2,3,4,5,6,7,8]⟩,(λ_ z=>nomatch z),rfl⟩) (RepN.sm SA R9);have sA:=s09.same SA;have nq3:q3≠a:=s09.st.ne n3;clear h1 h2 h3 n3 m1 hp np S9;refine⟨a,11,rfl,⟨by decide,by decide⟩,sA.st,λy HB y0 y1 sB=>?_⟩;have mB:=sB.but _ _ nq3 m3;obtain⟨yn,rfl⟩:∃yn:Nat,y=(yn:Int):=⟨y.toNat,by lia⟩;have vl:(vs++[V.ref q1]).length=11:=by rw[RA.length];rfl
        obtain⟨v,hv⟩:∃v,(vs++[V.ref q1])[yn]? = some v:=⟨_,AH 'B'⟩;obtain⟨d,hd,Rd,nd⟩:=RA.get hv;have no:=yK d hd;obtain⟨⟨n1,n2⟩,k1,k2,k3,k4⟩:=yJ hbs' 'B' d hd;have Rd:=lS sA.st sB n1 n2 Rd nd;have sB0:=sA.trans sB;refine⟨_,_,rfl,SqL.of mB,v,eF hv,?_⟩;clear hd hv RA mB m3 SA sB s09 R9 hpb vl;subst hR;refine aK λR hR=>?_;dsimp only[dM,dP];refine vE (K:=K) (ds:=farL) 'A' ?_ λp vs H3 S3 np hp R3=>?_
        · unfold farL
          repeat' (first | exact gW | refine jH ?_ ?_ | exact nY (λ_ _ q=>q) (λ_=>rfl) | refine kX 'A' ?_)
          exact nY (λ_ _ q=>⟨⟨by decide,by decide,by decide⟩,q⟩) (λ_=>congrArg V.int 'A')
        bv_omega;refine⟨a,9,rfl,⟨by decide,by decide⟩,(sB0.same S3).st,λy HC y0 y1 s4=>?_⟩;refine pick (ds:=farL) sB0.st np hp R3 s4 y0 y1 (λd hd v R=>Rep.mono (s4.tk (sB0.same S3).st) d (yE d hd) R) λdf vf hdf Rf=>?_;have Rd:=lS (sB0.same S3).st s4 n1 n2 (Rep.sm S3 _ Rd) nd;have sC:=(sB0.same S3).trans s4;have TBC:TabOk HC Pt qL:=sC.tab st0 TB0;clear R3 S3 np hp y0 y1 s4 sB0;subst hR;refine aK λR hR=>?_;bv_omega;refine⟨v,d,rfl,Rd,⟨k1,k2,k3,k4⟩,?_⟩;subst hR;refine aK λR hR=>?_;rename_i jY;refine⟨TBC,λf1 c1 ct1 M1 hf1 sx1 tb1 lam1 cod1 b hc=>?_⟩;have g1:=Lm.self tb1 lam1 cod1;have Rd1:=Rep.s0 (fL TBC sx1) _ Rd;have Rf1:=Rep.s0 (fL TBC sx1) _ Rf;refine oD hc g1 (Same.refl M1) W.w4 (.inr rfl) (N:=["_law_most","_law_bad"]) (js:=[3,10]) (vs:=[.int m,v]) rfl (cE _ _ [] 'C' 'C') (λx hx=>eE hx) rfl (λi j v e1 e2=>match i,e1,e2 with | 0,e1,e2=>by cases e1;cases e2;rfl | 1,e1,e2=>by cases e1;cases e2;rfl | _+2,e1,_=>by cases e1) (λ_ _ _=>rfl) (sp:=λH Q E=>spFo K cl [.int m,v] H Q E) (λA ae s H Q E hr hsp=>⟨_,(aX ((B_q21 b).mono 'A') hr rfl D_q21.mgx D_q21.fn.kp D_q21.bd .nil (gA (λ_ _ _ h=>h)) (aA 'H' (aA 'I' aI))),hsp⟩) (λR hR=>⟨.int m,_,d,v,rfl,cY (K:=K) (d:=.int m) rfl,Rd1,(λh=>by rw[c0 'B' 'B'] at h;cases h),λm' e _ _=>⟨λ_=>hR M1 (Same.refl _),λbs' _ _ hB'=>by rw[no] at hB';cases hB'⟩⟩) (λM2 s2=>?_) rfl;have Rd2:=Rep.sm s2 _ Rd1;have Rf2:=Rep.sm s2 _ Rf1;refine mtt (ifn (λh=>h rfl) ⟨v,d,rfl,Rd2,⟨k1,k2,k3,k4⟩,mtt (ifn (λh=>h rfl) ?_)⟩);have sx2:SameX Pt HC M2:=sx1.trans (SameX.of s2);have TB2:=tb1.same s2;clear g1 hc lam1 cod1 tb1 sx1 s2 hf1 Rd1 Rf1 Rd Rf;subst hR;rename_i jY;refine⟨TB2,λf3 c3 ct3 M3 hf3 sx3 tb3 lam3 cod3 b hc=>?_⟩;have g3:=Lm.self tb3 lam3 cod3;have Rd3:=Rep.s0 (fL TB2 sx3) _ Rd2;have Rf3:=Rep.s0 (fL TB2 sx3) _ Rf2;refine oD hc g3 (Same.refl M3) W.w0 (.inl rfl) (N:=["_law_odd","_law_bad"]) (js:=[11,10]) (vs:=[vf,v]) rfl (cE _ _ [] 'C' 'C') (λx hx=>eE hx) rfl (λi j v e1 e2=>match i,e1,e2 with | 0,e1,e2=>by cases e1;cases e2;rfl | 1,e1,e2=>by cases e1;cases e2;rfl | _+2,e1,_=>by cases e1) (λ_ _ _=>rfl) (sp:=λH Q E=>spFo K cl [vf,v] H Q E) (λA ae s H Q E hr hsp=>⟨_,(aX ((B_q21 b).mono 'A') hr rfl D_q21.mgx D_q21.fn.kp D_q21.bd .nil (gA (λ_ _ _ h=>h)) (aA 'H' (aA 'I' aI))),hsp⟩) (λR hR=>⟨vf,_,d,v,rfl,cY Rf3,Rd3,λ_=>hR M3 (Same.refl _),λq' e h1 h2=>by have:=vN hdf Rf3;rw[e,c0 h1 h2] at this;cases this⟩) (λM4 s4=>?_) rfl;refine mtt (ifn (λh=>h rfl) ?_);have sx4:=(sx2.trans sx3).trans (SameX.of s4);exact(hPl _ _ _).mpr ⟨λb o h1 e=>sx4 b o h1 (sC.but b o (nb b o h1 e) (S0 b o h1 e)),tb3.same s4,_,_,_,_,_,_,_,_,_,_,_,rfl⟩
    · intro σ H1 hP;obtain⟨S,TB,v1,v2,v3,v4,v5,v6,v7,v8,v9,v10,v11,rfl⟩:=(hPl _ _ _).mp hP;clear hP;subst hR0;dsimp only;rename_i tSl oH fF;refine⟨by show 1<=ψ;decide,λp hp=>?_⟩;have nb0:∀ {A:Prop},bS (.int 20000) 3 20000=false->A:=λh=>by cases h
      refine⟨.int 20000,_,.tup [.int 2],.ref p,rfl,cY (K:=K) (d:=.int 20000) rfl,⟨p,_,rfl,SqT.of aD,j9 [2]⟩,nb0,λm' e _ _=>?_⟩;cases e;refine⟨(λh=>by cases h),λbs' e _ _ D H2 S2 hD d2=>?_⟩;cases cC (Dt.tup.inj (show Dt.tup ([2].map Dt.int)=_ from e));rw[show nS 3 ((20000:Int)+1)=9999 by decide,fo2] at d2;refine⟨D,_,rfl,SqL.of d2,λq hq=>⟨by show 4<=ψ;decide,λr hr=>?_⟩⟩;have R4:∀ {H':Hp} {D0:ε},H' D0=some (.lst ([2047,3277,4033,4681].map V.int))->Rep K H' (.lst ([2047,3277,4033,4681].map Dt.int)) (.ref D0):=λh=>⟨_,_,rfl,SqL.of h,j9 _⟩;refine⟨[2047,3277,4033,4681].map Dt.int,[2047,3277,4033,4681].map Dt.int,.inr ⟨R4 (cL aD hr),R4 aD⟩,by decide,⟨by decide,by decide⟩,?_⟩;rw[eqDL_self];refine mbb (ifp rfl ?_);refine⟨by show 2<=ψ;decide,λp2 hp2=>?_⟩;refine⟨.int 20000,_,.tup [.int 2,.int 3],.ref p2,rfl,cY (K:=K) (d:=.int 20000) rfl,⟨p2,_,rfl,SqT.of aD,j9 [2,3]⟩,nb0,λm' e _ _=>?_⟩;cases e;refine⟨(λh=>by cases h),λbs' e _ _ D' H3 S3 hD' d3=>?_⟩;cases cC (Dt.tup.inj (show Dt.tup ([2,3].map Dt.int)=_ from e));rw[show nS 3 ((20000:Int)+1)=9999 by decide,zM] at d3;refine⟨AY _,λr2 hr2=>?_⟩;refine⟨[],[],.inr ⟨⟨D',_,rfl,SqL.of (cL d3 hr2),rfl⟩,⟨r2,_,rfl,SqL.of aD,rfl⟩⟩,by decide,⟨by decide,by decide⟩,?_⟩;rw[eqDL_self];exact k _
end
theorem us1 (h:us.length=1):∃a,us=[a]:=by
 cases us with
 | nil=>cases h
 | cons a r=>cases r with
  | nil=>exact⟨a,rfl⟩
  | cons b s=>cases h
theorem us2 (h:us.length=2):∃a b,us=[a,b]:=by
 cases us with
 | nil=>cases h
 | cons a r =>
  obtain⟨b,rfl⟩:=us1 (Nat.succ.inj h);exact⟨a,b,rfl⟩
theorem us3 (h:us.length=3):∃a b c,us=[a,b,c]:=by
 cases us with
 | nil=>cases h
 | cons a r =>
  obtain⟨b,c,rfl⟩:=us2 (Nat.succ.inj h);exact⟨a,b,c,rfl⟩
theorem us4 (h:us.length=4):∃a b c d,us=[a,b,c,d]:=by
 cases us with
 | nil=>cases h
 | cons a r =>
  obtain⟨b,c,d,rfl⟩:=us3 (Nat.succ.inj h);exact⟨a,b,c,d,rfl⟩
theorem bA {K:γ}{h:ω}{mg:Str->Option δ}{x:Str}{st:AD}{ps:List Str}{f:ε}{kV ct:δ}(X:K.In h)(G:h.Ns A4 mg)(a:Ai K A4 x=some (some (.ref f)))(l:K.lookup f=some ⟨oc,od,.func (AJ x x (bJ st) (aY st) (aC st) .none kV doc pm an cdv ct),osl⟩)(c:At K cdv x=true)(k:Am K (.ref f)=true)(hb:∀(kV doc pm:δ) (an:Option ε) (cdv ct:δ) (us:List δ),us.length=ps.length->bindArgs (AJ x x (bJ st) (aY st) (aC st) .none kV doc pm an cdv ct) ⟨us,[]⟩=pure (ps.zip us)):∃fd,Def K mg x st ps f fd:=by have F:=yC (st:=st) l c k;exact⟨_,F,F.binds hb,AW X G a⟩
section
variable {P:ρ}{w:Γ}{K:γ}{mg:Str->Option δ}{ad:ω}
theorem all_ok {t1 t2 t3 t4 t5:Tok}{cl:Cl}{c:ε}{kV ct:δ}(lk:K.lookup fa=some ⟨oc,od,.func (AJ "law" "law" (bJ s_law) (aY s_law) (aC s_law) .none kV doc pm an (.ref c) ct),osl⟩)(hcd:At K (.ref c) "law" = true)(hd:C8 ad c Pt)(bm:ad.BuiltinsAt mg Pt)(T:Txt K mg t1 t2 t3 t4 t5 cl)(W0:WordC K cl cl.nn 0)(W4:WordC K cl cl.nb 4)(d_q17:∃f fd,Df_q17 K mg f fd)(d_q7:∃f fd,Df_q7 K mg f fd)(d_q2:∃f fd,Df_q2 K mg f fd)(d_q8:∃f fd,Df_q8 K mg f fd)(d_q18:∃f fd,Df_q18 K mg f fd)(d_q5:∃f fd,Df_q5 K mg f fd)(d_q22:∃f fd,Df_q22 K mg f fd)(d_q0:∃f fd,Df_q0 K mg f fd)(d_q19:∃f fd,Df_q19 K mg f fd)(d_q4:∃f fd,Df_q4 K mg f fd)(d_q6:∃f fd,Df_q6 K mg f fd)(d_q21:∃f fd,Df_q21 K mg f fd)(d_q3:∃f fd,Df_q3 K mg f fd)(d_q14:∃f fd,Df_q14 K mg f fd)(d_q10:∃f fd,Df_q10 K mg f fd)(d_q16:∃f fd,Df_q16 K mg f fd)(d_q12:∃f fd,Df_q12 K mg f fd)(d_q15:∃f fd,Df_q15 K mg f fd)(d_q13:∃f fd,Df_q13 K mg f fd)(d_q1:∃f fd,Df_q1 K mg f fd)(d_q9:∃f fd,Df_q9 K mg f fd)(d_q11:∃f fd,Df_q11 K mg f fd)(d_q20:∃f fd,Df_q20 K mg f fd):FnOk P w K mg ad CX0 20 fa (AJ "law" "law" (bJ s_law) (aY s_law) (aC s_law) .none kV doc pm an (.ref c) ct) ["_law_script"] (spLaw K Pt):=by obtain⟨f_q17,fd_q17,D_q17⟩:=d_q17;obtain⟨f_q7,fd_q7,D_q7⟩:=d_q7;obtain⟨f_q2,fd_q2,D_q2⟩:=d_q2;obtain⟨f_q8,fd_q8,D_q8⟩:=d_q8;obtain⟨f_q18,fd_q18,D_q18⟩:=d_q18;obtain⟨f_q5,fd_q5,D_q5⟩:=d_q5;obtain⟨f_q22,fd_q22,D_q22⟩:=d_q22;obtain⟨f_q0,fd_q0,D_q0⟩:=d_q0;obtain⟨f_q19,fd_q19,D_q19⟩:=d_q19;obtain⟨f_q4,fd_q4,D_q4⟩:=d_q4;obtain⟨f_q6,fd_q6,D_q6⟩:=d_q6;obtain⟨f_q21,fd_q21,D_q21⟩:=d_q21;obtain⟨f_q3,fd_q3,D_q3⟩:=d_q3;obtain⟨f_q14,fd_q14,D_q14⟩:=d_q14;obtain⟨f_q10,fd_q10,D_q10⟩:=d_q10;obtain⟨f_q16,fd_q16,D_q16⟩:=d_q16;obtain⟨f_q12,fd_q12,D_q12⟩:=d_q12;obtain⟨f_q15,fd_q15,D_q15⟩:=d_q15;obtain⟨f_q13,fd_q13,D_q13⟩:=d_q13;obtain⟨f_q1,fd_q1,D_q1⟩:=d_q1;obtain⟨f_q9,fd_q9,D_q9⟩:=d_q9;obtain⟨f_q11,fd_q11,D_q11⟩:=d_q11;obtain⟨f_q20,fd_q20,D_q20⟩:=d_q20;have O_q17:∃f fd,Df_q17 K mg f fd/\FnOk P w K mg ad CX0 1 f fd _ _:=⟨_,_,D_q17,ok_q17 D_q17 T⟩;have O_q7:∃f fd,Df_q7 K mg f fd/\FnOk P w K mg ad CX0 2 f fd _ _:=⟨_,_,D_q7,ok_q7 D_q7 T O_q17⟩;have O_q2:∃f fd,Df_q2 K mg f fd/\FnOk P w K mg ad (CXE P w) 3 f fd _ _:=⟨_,_,D_q2,ok_q2 D_q2 T O_q7⟩;have O_q8:∃f fd,Df_q8 K mg f fd/\FnOk P w K mg ad CX0 1 f fd _ _:=⟨_,_,D_q8,ok_q8 D_q8 T⟩;have O_q18:∃f fd,Df_q18 K mg f fd/\FnOk P w K mg ad (CXE P w) 5 f fd _ _:=⟨_,_,D_q18,ok_q18 D_q18 T O_q2 O_q8⟩;have OB_q18:OB_q18 P w K mg cl:=⟨_,_,D_q18,λb=>ok_q18 D_q18 T ⟨_,_,D_q2,ok_q2 D_q2 T ⟨_,_,D_q7,ok_q7 D_q7 T ⟨_,_,D_q17,ok_q17 D_q17 T⟩⟩⟩ ⟨_,_,D_q8,ok_q8 D_q8 T⟩⟩;have O_q5:∃f fd,Df_q5 K mg f fd/\FnOk P w K mg ad CX0 1 f fd _ _:=⟨_,_,D_q5,ok_q5 D_q5 T⟩;have O_q22:∃f fd,Df_q22 K mg f fd/\FnOk P w K mg ad CX0 1 f fd _ _:=⟨_,_,D_q22,ok_q22 D_q22 T⟩;have O_q0:∃f fd,Df_q0 K mg f fd/\FnOk P w K mg ad CX0 2 f fd _ _:=⟨_,_,D_q0,ok_q0 D_q0 T O_q22 O_q5⟩;have O_q19:∃f fd,Df_q19 K mg f fd/\FnOk P w K mg ad CX0 3 f fd _ _:=⟨_,_,D_q19,ok_q19 D_q19 T O_q7⟩;have O_q4:∃f fd,Df_q4 K mg f fd/\FnOk P w K mg ad (CXE P w) 4 f fd _ _:=⟨_,_,D_q4,ok_q4 D_q4 T O_q19⟩;have O_q6:∃f fd,Df_q6 K mg f fd/\FnOk P w K mg ad CX0 3 f fd _ _:=⟨_,_,D_q6,ok_q6 D_q6 T O_q0⟩;have OB_q6:OB_q6 P w K mg cl:=⟨_,_,D_q6,λb=>ok_q6 D_q6 T ⟨_,_,D_q0,ok_q0 D_q0 T ⟨_,_,D_q22,ok_q22 D_q22 T⟩ ⟨_,_,D_q5,ok_q5 D_q5 T⟩⟩⟩;have O_q21:∃f fd,Df_q21 K mg f fd/\FnOk P w K mg ad (CXE P w) 6 f fd _ _:=⟨_,_,D_q21,ok_q21 D_q21 T O_q2 O_q4 OB_q6 OB_q18⟩;have OB_q21:OB_q21 P w K mg cl:=⟨_,_,D_q21,λb=>ok_q21 D_q21 T ⟨_,_,D_q2,ok_q2 D_q2 T ⟨_,_,D_q7,ok_q7 D_q7 T ⟨_,_,D_q17,ok_q17 D_q17 T⟩⟩⟩ ⟨_,_,D_q4,ok_q4 D_q4 T ⟨_,_,D_q19,ok_q19 D_q19 T ⟨_,_,D_q7,ok_q7 D_q7 T ⟨_,_,D_q17,ok_q17 D_q17 T⟩⟩⟩⟩ ⟨_,_,D_q6,λb=>ok_q6 D_q6 T ⟨_,_,D_q0,ok_q0 D_q0 T ⟨_,_,D_q22,ok_q22 D_q22 T⟩ ⟨_,_,D_q5,ok_q5 D_q5 T⟩⟩⟩ ⟨_,_,D_q18,λb=>ok_q18 D_q18 T ⟨_,_,D_q2,ok_q2 D_q2 T ⟨_,_,D_q7,ok_q7 D_q7 T ⟨_,_,D_q17,ok_q17 D_q17 T⟩⟩⟩ ⟨_,_,D_q8,ok_q8 D_q8 T⟩⟩⟩;have O_q3:∃f fd,Df_q3 K mg f fd/\FnOk P w K mg ad CX0 1 f fd _ _:=⟨_,_,D_q3,ok_q3 D_q3 T⟩;have O_q14:∃f fd,Df_q14 K mg f fd/\FnOk P w K mg ad CX0 2 f fd _ _:=⟨_,_,D_q14,ok_q14 D_q14 T O_q3⟩;have O_q10:∃f fd,Df_q10 K mg f fd/\FnOk P w K mg ad CX0 1 f fd _ _:=⟨_,_,D_q10,ok_q10 D_q10 T⟩;have O_q16:∃f fd,Df_q16 K mg f fd/\FnOk P w K mg ad CX0 1 f fd _ _:=⟨_,_,D_q16,ok_q16 D_q16 T⟩;have MM_q12:MM_q12 P w K mg ad cl:=⟨_,_,D_q12,ok_q12 D_q12 T⟩;have O_q15:∃f fd,Df_q15 K mg f fd/\FnOk P w K mg ad CX0 11 f fd _ _:=⟨_,_,D_q15,ok_q15 D_q15 T MM_q12⟩;have OB_q15:OB_q15 P w K mg cl:=⟨_,_,D_q15,λb=>ok_q15 D_q15 T ⟨_,_,D_q12,ok_q12 D_q12 T⟩⟩;have O_q13:∃f fd,Df_q13 K mg f fd/\FnOk P w K mg ad CX0 1 f fd _ _:=⟨_,_,D_q13,ok_q13 D_q13 T⟩;have O_q1:∃f fd,Df_q1 K mg f fd/\FnOk P w K mg ad CX0 2 f fd _ _:=⟨_,_,D_q1,ok_q1 D_q1 T O_q13⟩;have O_q9:∃f fd,Df_q9 K mg f fd/\FnOk P w K mg ad CX0 3 f fd _ _:=⟨_,_,D_q9,ok_q9 D_q9 T O_q1⟩;have OB_q9:OB_q9 P w K mg cl:=⟨_,_,D_q9,λb=>ok_q9 D_q9 T ⟨_,_,D_q1,ok_q1 D_q1 T ⟨_,_,D_q13,ok_q13 D_q13 T⟩⟩⟩;have O_q11:∃f fd,Df_q11 K mg f fd/\FnOk P w K mg ad CX0 2 f fd _ _:=⟨_,_,D_q11,ok_q11 D_q11 T O_q10⟩;have O_q20:∃f fd,Df_q20 K mg f fd/\FnOk P w K mg ad CX0 4 f fd _ _:=⟨_,_,D_q20,ok_q20 D_q20 T OB_q9⟩;exact ok_law lk hcd hd bm T W0 W4 O_q14 O_q10 O_q11 O_q20 O_q16 OB_q15 OB_q21
theorem cl_mk {KK:γ}{h:ω}{mg:Str->Option δ}{pe nn np pa pp nb nt nl nm nd tg:ε}(X:KK.In h)(G:h.Ns A4 mg)(a0:Ai KK A4 "PrimeError" = some (some (.ref pe)))(a1:Ai KK A4 "NoNumber" = some (some (.ref nn)))(a2:Ai KK A4 "NoPrime" = some (some (.ref np)))(a3:Ai KK A4 "NoPair" = some (some (.ref pa)))(a4:Ai KK A4 "NoPaper" = some (some (.ref pp)))(a5:Ai KK A4 "NoBases" = some (some (.ref nb)))(a6:Ai KK A4 "NoText" = some (some (.ref nt)))(a7:Ai KK A4 "NoLine" = some (some (.ref nl)))(a8:Ai KK A4 "NoName" = some (some (.ref nm)))(a9:Ai KK A4 "NoDeed" = some (some (.ref nd)))(a10:Ai KK A4 "TooGreat" = some (some (.ref tg)))(x0:g9 KK nn)(x1:g9 KK nb)(w0:WordC KK ⟨pe,nn,np,pa,pp,nb,nt,nl,nm,nd,tg⟩ nn 0)(w1:WordC KK ⟨pe,nn,np,pa,pp,nb,nt,nl,nm,nd,tg⟩ nb 4)  : ∃cl:Cl,(mg "PrimeError" = some (.ref cl.pe)/\mg "NoNumber" = some (.ref cl.nn)/\mg "NoPrime" = some (.ref cl.np)/\mg "NoPair" = some (.ref cl.pa)/\mg "NoPaper" = some (.ref cl.pp)/\mg "NoBases" = some (.ref cl.nb)/\mg "NoText" = some (.ref cl.nt)/\mg "NoLine" = some (.ref cl.nl)/\mg "NoName" = some (.ref cl.nm)/\mg "NoDeed" = some (.ref cl.nd)/\mg "TooGreat" = some (.ref cl.tg))/\g9 KK cl.nn/\g9 KK cl.nb/\WordC KK cl cl.nn 0/\WordC KK cl cl.nb 4 :=
 ⟨⟨pe,nn,np,pa,pp,nb,nt,nl,nm,nd,tg⟩,⟨AW X G a0,AW X G a1,AW X G a2,AW X G a3,AW X G a4,AW X G a5,AW X G a6,AW X G a7,AW X G a8,AW X G a9,AW X G a10⟩,x0,x1,w0,w1⟩
theorem fin_of {Pr:ρ}{w:Γ}{KK:γ}{mg:Str->Option δ}{c:ε}{kV ct:δ}(hmg:mg "law" = some (.ref fa))(hm:mg "law" = some (.ref fl))(hl:KK.lookup fl=some ⟨oc,od,.func (AJ "law" "law" (bJ s_law) (aY s_law) (aC s_law) .none kV doc pm an (.ref c) ct),osl⟩)(hc:At KK (.ref c) "law" = true)(hh:CU KK c Pt=true)(hn:KK.lookup Pt=none)(all:∀ad:ω,KK.In ad->ad.BuiltinsAt mg Pt->KK.lookup fl=some ⟨oc,od,.func (AJ "law" "law" (bJ s_law) (aY s_law) (aC s_law) .none kV doc pm an (.ref c) ct),osl⟩->At KK (.ref c) "law" = true->C8 ad c Pt->FnOk Pr w KK mg ad CX0 20 fl (AJ "law" "law" (bJ s_law) (aY s_law) (aC s_law) .none kV doc pm an (.ref c) ct) ["_law_script"] (spLaw KK Pt)) :
  ∃(fd:AC) (c:ε),CU KK c Pt=true/\KK.lookup Pt=none/\(∀(s:η) (u:δ),D5 s fd ⟨[u],[]⟩ [("_law_script",u)])/\∀ad:ω,KK.In ad->ad.Ns A4 mg->ad.BuiltinsAt mg Pt->FnOk Pr w KK mg ad CX0 20 fa fd ["_law_script"] (spLaw KK Pt):=by
 have e0:=hmg.symm.trans hm;cases e0;exact⟨_,c,hh,hn,λs u=>.of_eq rfl,λad kb nb bm=>all ad kb bm hl hc (PySem.W.codeHd_of_K kb hh)⟩
end
end PP
set_option maxHeartbeats 0
noncomputable def OP.lo:List PySem.Str:=[ζ "__name__",ζ "PrimeError",ζ "NoNumber",ζ "NoPrime",ζ "NoPair",ζ "NoPaper",ζ "NoBases",ζ "NoText",ζ "NoLine",ζ "NoName",ζ "NoDeed",ζ "TooGreat",ζ "MOST_TRIED",ζ "is_whole",ζ "is_between",ζ "want_between",ζ "is_prime",ζ "least_part",ζ "power_rest",ζ "lets_by_halves",ζ "halved",ζ "MOST_FOOLED",ζ "MOST_BASES",ζ "LEAST_BASE",ζ "GREATEST_BASE",ζ "fooled",ζ "want_bases",ζ "is_bases",ζ "all_let_by",ζ "_law_cell_at",ζ "_law_state",ζ "_law_choice",ζ "_law_same",ζ "_law_marks",ζ "_law_said",ζ "_law_power",ζ "_law_by_halves",ζ "_law_bases",ζ "_law_is_let",ζ "_law_due"]
theorem OP.pwe:PySem.Challenge.pw_primepapers_k52_numbers_fooled=PySem.Challenge.pw_primepapers_k52_numbers_fooled:=rfl
name_quick pT for PySem.Challenge.pw_primepapers_k52_numbers_fooled by OP.pwe
open PySem PySem.W PyProof.Rows in
local macro_rules | `(tactic| o_head $H)=>`(tactic| (
 refine PySem.W.holds_open (q:=(OP.qOf 46 PySem.Challenge.pw_primepapers_k52_numbers_fooled)) (loose:=OP.lo) (Xt:=λs=>xlAt (OP.qOf 46 PySem.Challenge.pw_primepapers_k52_numbers_fooled) ([("MOST_TRIED",AF 1000000000),("MOST_FOOLED",AF 20000),("MOST_BASES",AF 6),("LEAST_BASE",AF 2),("GREATEST_BASE",AF 50)]:List (PySem.Str×Bh)) s&&recOk (PySem.Challenge.rw_primepapers_k52_numbers_fooled.row.records) s) (XP:=XL (OP.qOf 46 PySem.Challenge.pw_primepapers_k52_numbers_fooled) ([("MOST_TRIED",AF 1000000000),("MOST_FOOLED",AF 20000),("MOST_BASES",AF 6),("LEAST_BASE",AF 2),("GREATEST_BASE",AF 50)]:List (PySem.Str×Bh))) (Yf:=Hook.obs $H) (Ya:=Hook.val $H) (YP:=Hook.says $H) (N:=20000)
  (OP.left_tw 20000 PySem.W.Fast.pT_eq (by kernel_rfl) 'A' (λs=>by kernel_rfl) 'A' (λw os=>by kernel_rfl))
  (Hook.of $H) (Hook.keeps $H) (λs e=>xl_of s (AK.mp e).1) XL.keeps 'D' 'D' 'D' (λs e=>recFacts_of (AK.mp e).2) 'D' (by first | assumption | decide +kernel) (by decide +kernel) ⟨rfl,rfl,rfl,rfl,rfl,by decide +kernel⟩ ?hw ?hc))
open PySem PySem.W PyProof.Rows
set_option maxRecDepth 100000 in
set_option maxHeartbeats 0 in
theorem PySem.Challenge.cw_primepapers_k52_numbers_fooled_holds : PySem.Challenge.rw_primepapers_k52_numbers_fooled.Holds := by
 w_on;o_law;k_head;(case hw=>w_witness2)
 k_fill
 refine L2.rG (l:=PySem.Challenge.rw_primepapers_k52_numbers_fooled) (n:=63) (k:=20) (x := "_law_script") (CX:=λ_=>L2.CX0) (sp:=λPt _ K=>PP.spLaw K Pt) rfl 'A' rfl ⟨rfl,by decide,by decide,rfl⟩ (λw h Y=>⟨PySem.W.km_in_of Y,PySem.W.km_tabs_of Y _ (List.Mem.head _)⟩) ?F ?S ?C
 case S=>exact λw K H a ns hl _ hS hT=>⟨a,ns,rfl,hS,hl,hT,λ_=>rfl⟩
 case C=>exact λ_ _ _ _ _ z=>z
 case F =>
  intro w mg fa h KX G hX hmg;have d_q17:∃f fd,PP.Df_q17 (L2.KOf KX) mg f fd:=by ac_rfl
  have d_q7:∃f fd,PP.Df_q7 (L2.KOf KX) mg f fd:=by ac_rfl
  have d_q2:∃f fd,PP.Df_q2 (L2.KOf KX) mg f fd:=by ac_rfl
  have d_q8:∃f fd,PP.Df_q8 (L2.KOf KX) mg f fd:=by ac_rfl
  have d_q18:∃f fd,PP.Df_q18 (L2.KOf KX) mg f fd:=by ac_rfl
  have d_q5:∃f fd,PP.Df_q5 (L2.KOf KX) mg f fd:=by ac_rfl
  have d_q22:∃f fd,PP.Df_q22 (L2.KOf KX) mg f fd:=by ac_rfl
  have d_q0:∃f fd,PP.Df_q0 (L2.KOf KX) mg f fd:=by ac_rfl
  have d_q19:∃f fd,PP.Df_q19 (L2.KOf KX) mg f fd:=by ac_rfl
  have d_q4:∃f fd,PP.Df_q4 (L2.KOf KX) mg f fd:=by ac_rfl
  have d_q6:∃f fd,PP.Df_q6 (L2.KOf KX) mg f fd:=by ac_rfl
  have d_q21:∃f fd,PP.Df_q21 (L2.KOf KX) mg f fd:=by ac_rfl
  have d_q3:∃f fd,PP.Df_q3 (L2.KOf KX) mg f fd:=by ac_rfl
  have d_q14:∃f fd,PP.Df_q14 (L2.KOf KX) mg f fd:=by ac_rfl
  have d_q10:∃f fd,PP.Df_q10 (L2.KOf KX) mg f fd:=by ac_rfl
  have d_q16:∃f fd,PP.Df_q16 (L2.KOf KX) mg f fd:=by ac_rfl
  have d_q12:∃f fd,PP.Df_q12 (L2.KOf KX) mg f fd:=by ac_rfl
  have d_q15:∃f fd,PP.Df_q15 (L2.KOf KX) mg f fd:=by ac_rfl
  have d_q13:∃f fd,PP.Df_q13 (L2.KOf KX) mg f fd:=by ac_rfl
  have d_q1:∃f fd,PP.Df_q1 (L2.KOf KX) mg f fd:=by ac_rfl
  have d_q9:∃f fd,PP.Df_q9 (L2.KOf KX) mg f fd:=by ac_rfl
  have d_q11:∃f fd,PP.Df_q11 (L2.KOf KX) mg f fd:=by ac_rfl
  have d_q20:∃f fd,PP.Df_q20 (L2.KOf KX) mg f fd:=by ac_rfl
  have c_MOST_TRIED:∃t,mg "MOST_TRIED" = some (.int 1000000000 t):=by exact L2.cK hX 'C'
  have c_MOST_FOOLED:∃t,mg "MOST_FOOLED" = some (.int 20000 t):=by exact L2.cK hX 'C'
  have c_MOST_BASES:∃t,mg "MOST_BASES" = some (.int 6 t):=by exact L2.cK hX 'C'
  have c_LEAST_BASE:∃t,mg "LEAST_BASE" = some (.int 2 t):=by exact L2.cK hX 'C'
  have c_GREATEST_BASE:∃t,mg "GREATEST_BASE" = some (.int 50 t):=by exact L2.cK hX 'C'
  have n_len:mg "len" = none:=by injections
  have n_isinstance:mg "isinstance" = none:=by injections
  have n_int:mg "int" = none:=by injections
  have n_bool:mg "bool" = none:=by injections
  have n_range:mg "range" = none:=by injections
  have n_abs:mg "abs" = none:=by injections
  have n_max:mg "max" = none:=by injections
  have n_min:mg "min" = none:=by injections
  have n_tuple:mg "tuple" = none:=by injections
  have n_str:mg "str" = none:=by injections
  have n_all:mg "all" = none:=by injections
  have n_repr:mg "repr" = none:=by injections
  have n_list:mg "list" = none:=by injections
  have n_zip:mg "zip" = none:=by injections
  have n_sorted:mg "sorted" = none:=by injections
  have n_ValueError:mg "ValueError" = none:=by injections
  have d_cl:∃cl:PP.Cl,(mg "PrimeError" = some (.ref cl.pe)/\mg "NoNumber" = some (.ref cl.nn)/\mg "NoPrime" = some (.ref cl.np)/\mg "NoPair" = some (.ref cl.pa)/\mg "NoPaper" = some (.ref cl.pp)/\mg "NoBases" = some (.ref cl.nb)/\mg "NoText" = some (.ref cl.nt)/\mg "NoLine" = some (.ref cl.nl)/\mg "NoName" = some (.ref cl.nm)/\mg "NoDeed" = some (.ref cl.nd)/\mg "TooGreat" = some (.ref cl.tg))/\L2.g9 (L2.KOf KX) cl.nn/\L2.g9 (L2.KOf KX) cl.nb/\PP.WordC (L2.KOf KX) cl cl.nn 0/\PP.WordC (L2.KOf KX) cl cl.nb 4:=by
   dsimp only[L2.KOf];refine' PP.cl_mk KX G ?a0 ?a1 ?a2 ?a3 ?a4 ?a5 ?a6 ?a7 ?a8 ?a9 ?a10 ?x0 ?x1 ?w0 ?w1
   (case a0=>k_is)
   (case a1=>k_is)
   (case a2=>k_is)
   (case a3=>k_is)
   (case a4=>k_is)
   (case a5=>k_is)
   (case a6=>k_is)
   (case a7=>k_is)
   (case a8=>k_is)
   (case a9=>k_is)
   (case a10=>k_is)
   (case x0=>kernel_rfl)
   (case x1=>kernel_rfl)
   case w0 =>
    refine⟨⟨?_,?_,?_,?_,?_,?_,?_,?_⟩,?_,?_,?_,?_,?_,?_,?_,?_,?_,?_,?_,?_⟩ <;> kernel_rfl
   case w1 =>
    refine⟨⟨?_,?_,?_,?_,?_,?_,?_,?_⟩,?_,?_,?_,?_,?_,?_,?_,?_,?_,?_,?_,?_⟩ <;> kernel_rfl
  obtain⟨t_MOST_TRIED,c_MOST_TRIED⟩:=c_MOST_TRIED;obtain⟨t_MOST_FOOLED,c_MOST_FOOLED⟩:=c_MOST_FOOLED;obtain⟨t_MOST_BASES,c_MOST_BASES⟩:=c_MOST_BASES;obtain⟨t_LEAST_BASE,c_LEAST_BASE⟩:=c_LEAST_BASE;obtain⟨t_GREATEST_BASE,c_GREATEST_BASE⟩:=c_GREATEST_BASE;obtain⟨cl,⟨m_PrimeError,m_NoNumber,m_NoPrime,m_NoPair,m_NoPaper,m_NoBases,m_NoText,m_NoLine,m_NoName,m_NoDeed,m_TooGreat⟩,x_NoNumber,x_NoBases,W0,W4⟩:=d_cl;have T:PP.Txt (L2.KOf KX) mg t_MOST_TRIED t_MOST_FOOLED t_MOST_BASES t_LEAST_BASE t_GREATEST_BASE cl:={ mg_MOST_TRIED:=c_MOST_TRIED,mg_MOST_FOOLED:=c_MOST_FOOLED,mg_MOST_BASES:=c_MOST_BASES,mg_LEAST_BASE:=c_LEAST_BASE,mg_GREATEST_BASE:=c_GREATEST_BASE,no_len:=n_len,no_isinstance:=n_isinstance,no_int:=n_int,no_bool:=n_bool,no_range:=n_range,no_abs:=n_abs,no_max:=n_max,no_min:=n_min,no_tuple:=n_tuple,no_str:=n_str,no_all:=n_all,no_repr:=n_repr,no_list:=n_list,no_zip:=n_zip,no_sorted:=n_sorted,no_ValueError:=n_ValueError,mg_PrimeError:=m_PrimeError,mg_NoNumber:=m_NoNumber,mg_NoPrime:=m_NoPrime,mg_NoPair:=m_NoPair,mg_NoPaper:=m_NoPaper,mg_NoBases:=m_NoBases,mg_NoText:=m_NoText,mg_NoLine:=m_NoLine,mg_NoName:=m_NoName,mg_NoDeed:=m_NoDeed,mg_TooGreat:=m_TooGreat,xc_NoNumber:=x_NoNumber,xc_NoBases:=x_NoBases }
  try dsimp only[L2.KOf]
  dsimp only[L2.KOf] at T W0 W4 d_q17 d_q7 d_q2 d_q8 d_q18 d_q5 d_q22 d_q0 d_q19 d_q4 d_q6 d_q21 d_q3 d_q14 d_q10 d_q16 d_q12 d_q15 d_q13 d_q1 d_q9 d_q11 d_q20;refine' PP.fin_of hmg (AW KX G ?a) ?l ?c ?d ?e (λad kb bm lk hcd hd=>PP.all_ok lk hcd hd bm T W0 W4 d_q17 d_q7 d_q2 d_q8 d_q18 d_q5 d_q22 d_q0 d_q19 d_q4 d_q6 d_q21 d_q3 d_q14 d_q10 d_q16 d_q12 d_q15 d_q13 d_q1 d_q9 d_q11 d_q20)
  (case a=>k_is);(case l=>k_is);(case c=>k_is)
  case d=>kernel_rfl
  case e=>kernel_rfl

end
