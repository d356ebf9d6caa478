import PyProof.Rows.All
import Wide.All
import OpenK.AllK
import Wide.FinOn
import Lean
import PyProof.EqAt
import PyProof.EqKinds
import PyProof.TupleCall
import PySem.Challenge.RW_troupe_k43_papers_looked_at
set_option Elab.async false
set_option genSizeOf false
set_option bootstrap.genMatcherCode false
set_option compiler.extract_closed false
set_option genSizeOfSpec false
set_option linter.all false
set_option maxRecDepth 100000
open Array renaming getD_eq_getD_getElem?->dJ,length_toList->eG,getElem?_toList->iA,getElem?_eq_getElem->jO,replicate->kM,getElem?_eq_some_iff->sM,getElem?_setIfInBounds->sN,toList_push->xY,mem_toList_iff->Da,getElem?_eq_none->Dh,toList_filterMap->Dn,toList_inj->Kc,getElem_mem->Ki,size_setIfInBounds->Km,size_replicate->Kn,getElem?_replicate->Ko,foldl_toList->Kp,forIn_toList->Ku,size_map->Kv,size_push->Kw
open Bool renaming and_eq_true->aE,false_ne_true->aK,not_eq_true'->bQ,false_eq_true->eC,or_eq_true->eD,true_and->eS,false_and->hZ,eq_iff_iff->kQ,false_or->xS,not_true->xX,and_eq_true_iff->K2,and_false->K9,not_eq_true->LN
open Int renaming toNat_natCast->jQ,natCast_nonneg->yC,toNat_of_nonneg->Kz
open List renaming range->aA,length_map->aC,map_cons->aG,getElem?_eq_getElem->aH,replicate->aM,length_cons->aN,size_toArray->aQ,mem_cons_self->aY,mem_cons->aZ,mem_cons_of_mem->bE,mem_map->bG,getElem?_map->bI,mem_singleton->bJ,length_append->bL,find?_cons->bO,map_map->bU,range'->bX,map_append->cE,mem_range->cO,mem_append->cU,length_range->cY,getD_eq_getElem?_getD->cZ,length_set->dI,nodup_cons->dP,length_replicate->eB,mem_append_right->eI,filterMap_eq_map'->eJ,mem_filter->fE,all_eq_true->fF,all_cons->fG,getElem?_eq_some_iff->fU,length_singleton->fV,any_cons->fW,map_congr_left->gP,filterMap_cons->hV,filter_cons->iC,getElem_mem->iU,range'_succ->iV,range_eq_range'->iW,length_filter_le->iX,append_nil->jM,getElem?_append_right->jN,contains_iff_mem->jP,mem_append_left->kJ,mem_of_getElem?->kK,replicate_succ->kL,pairwise_iff_getElem->kN,not_mem_nil->kO,lookup_cons->kP,mem_filterMap->lU,length_take->lV,getElem?_append_left->lW,map_nil->lX,flatten_cons->lY,foldl_cons->lZ,length_nil->mC,range_succ_eq_map->mF,drop_zero->mH,getElem_of_mem->mK,getElem?_eq_none->mM,length->oE,getElem?_replicate->oF,length_drop->oG,append_assoc->oH,Pairwise->oI,take_of_length_le->oJ,filterMap_cons_some->oM,mem_range'_1->oO,getElem?_set_self->sG,getElem?_set_ne->sH,nodup_nil->sJ,mem_of_mem_drop->sO,nodup_append->sP,mem_of_mem_take->sQ,nil_append->sS,any_eq_true->sT,dropLast_concat_getLast->sU,map_take->sV,of_mem_zip->xP,take_sublist->xQ,reverse_cons->xR,drop_eq_getElem_cons->xT,all_map->xU,nodup_range->xV,map_singleton->xZ,getElem_map->yA,findSome?_cons->yD,filter_congr->yE,eq_nil_of_length_eq_zero->D9,length_eq_zero_iff->D_,find?_some->Dc,find?_eq_none->Dd,filterMap_cons_none->De,pairwise_map->Dk,pairwise_append->Dl,getElem_take->Dm,range_succ->Do,foldl_append->Dp,getElem?_cons_succ->Dq,eraseIdx_eq_take_drop_succ->Dr,sublist_nil->Ds,map_drop->Dt,getElem_inj->K3,getElem?_take_of_lt->K5,filterMap_map->K6,eraseIdxIfInBounds_toArray->K_,length_dropLast->Ka,filterMap->Kd,mem_erase_of_ne->Ke,length_erase_of_mem->Kf,length_pos_of_mem->Kg,mem_of_find?_eq_some->Kq,getElem_range->Kr,pairwise_lt_range->Ks,ext_getElem->Kx,drop_length->LA,dropLast_eq_take->LB,forIn_cons->LC,sum_append->LD,cons_append->LF,length_range'->LG,length_eq_one_iff->LH,filter_sublist->LI,mem_reverse->LJ,find?_map->LK,getLast_eq_getElem->LL,filter_eq_nil_iff->LM,head?_cons->LO,mem_iff_getElem->LP
open Nat renaming le_refl->aF,le_trans->aW,ne_of_lt->bD,lt_of_lt_of_le->dH,lt_irrefl->fT,zero_le->fX,lt_trans->gO,zero_add->iB,le_of_lt->kI,lt_succ_of_lt->mJ,ne_of_gt->oD,lt_succ_self->oK,min_eq_left->oN,le_succ->sI,sub_zero->sL,le_add_right->sR,lt_trichotomy->xW,not_lt_zero->yB,pow_le_pow_right->yF,le_of_eq->D7,lt_or_ge->Dg,lt_succ_of_le->Di,le_of_lt_succ->Dj,mul_le_mul->Du,succ_le_succ->K8,lt_of_le_of_lt->Kb,testBit_two_pow_sub_one->Kh,zero_testBit->Kj,testBit_or->Kk,testBit_two_pow->Kl,lt_of_succ_lt_succ->Ky
open Option renaming some->eA,map_eq_some_iff->mD,map_map->yG,isSome_map->D8,isSome_iff_exists->K4,getD_none->K7,mem_def->Kt
namespace K43
theorem both1{a b:Bool}(h:(a&&b)=true):a=true:=(K2.mp h).1
theorem both2{a b:Bool}(h:(a&&b)=true):b=true:=(K2.mp h).2
noncomputable def vw:PySem.Program:=PySem.W.view PySem.Challenge.pw_troupe_k43_papers_looked_at [1,2,3,4,5,7,8,9,10,11,12,14,16,17,18,19,20,21,22,23,24,26,27,28,29,30,31,32,33,35,36,37,39,40,41,42,43,44,45,46,47,48,49,50,51,52,53,54,55,56]
end K43
section
open PySem PySem.W PyProof.Rows
set_option maxHeartbeats 0
local macro_rules
  | `(tactic| o_head $H)=>`(tactic| (
    apply holds_open (N:=4100) (q:=K43.vw) (loose:=[])
      (Yf:=($H).obs) (Ya:=($H).val) (YP:=($H).says)
      (XP:=XL K43.vw []) (Xt:=fun s=>xlAt K43.vw [] s&&recOk (PySem.Challenge.rw_troupe_k43_papers_looked_at.row.toRowW).records s)
      (by intro w;kernel_rfl) ($H).of ($H).keeps
      (fun s e=>xl_of s (K43.both1 e)) XL.keeps
      rfl rfl rfl
      (fun s e=>recFacts_of (K43.both2 e))
      rfl (by assumption) (by decide +kernel)
      (by refine⟨rfl,rfl,rfl,rfl,rfl,?_⟩;decide +kernel)))
open_top K43.hd for PySem.Challenge.rw_troupe_k43_papers_looked_at
end
set_option Elab.async false
set_option linter.all false
set_option maxRecDepth 100000
namespace L2
open PySem PySem.Spec PyProof.Rows
noncomputable abbrev Key:=Sum Int Str
noncomputable def kR:Key->Value->Bool
 |.inl k,v=>Value.isInt k v
 |.inr x,v=>Value.isStrOf x v
noncomputable def keyH(w:World):Key->Int
 |.inl k=>hashInt k
 |.inr x=>hashStr w x
theorem gQ:∀{k:Key} {v:Value},kR k v=true->(∃i t,k=Sum.inl i/\v=Value.int i t)\/(∃x t,k=Sum.inr x/\v=Value.str x t)
 |.inl i,v,h=>by
  obtain⟨t,e⟩:=Value.isInt_shape (k:=i) (v:=v) h
  exact .inl ⟨i,t,rfl,e⟩
 |.inr x,v,h=>by
  obtain⟨t,e⟩:=Value.isStrOf_shape (x:=x) (v:=v) h
  exact .inr ⟨x,t,rfl,e⟩
theorem Dv(i:Int)(t:Tok):kR (.inl i) (.int i t)=true:=by simp[kR,Value.isInt]
theorem Dw(x:Str)(t:Tok):kR (.inr x) (.str x t)=true:=by simp[kR,Value.isStrOf]
theorem key_ll(a b:Int):decide ((Sum.inl a:Key)=Sum.inl b)=(a==b):=by
 by_cases e:a=b
 ·subst e;simp
 ·have h:¬(Sum.inl a:Key)=Sum.inl b:=λq=>e (Sum.inl.inj q)
  rw[decide_eq_false h]
  exact(beq_eq_false_iff_ne.mpr e).symm
theorem key_rr(a b:Str):decide ((Sum.inr a:Key)=Sum.inr b)=decide (a=b):=by
 by_cases e:a=b
 ·subst e;simp
 ·have h:¬(Sum.inr a:Key)=Sum.inr b:=λq=>e (Sum.inr.inj q)
  rw[decide_eq_false h,decide_eq_false e]
theorem key_lr(a:Int)(b:Str):decide ((Sum.inl a:Key)=Sum.inr b)=false:=decide_eq_false (λq=>nomatch q)
theorem key_rl(a:Str)(b:Int):decide ((Sum.inr a:Key)=Sum.inl b)=false:=decide_eq_false (λq=>nomatch q)
noncomputable def bR(prog:Program)(w:World):PySem.KeyKind prog w Key where
 is:=kR
 hash:=keyH w
 inj:=λv a b ha hb=>by
  rcases gQ ha with⟨i,t,rfl,rfl⟩|⟨x,t,rfl,rfl⟩
  ·rcases gQ hb with⟨j,u,rfl,e⟩|⟨y,u,rfl,e⟩
   ·injection e with e1 _;rw[e1]
   ·exact nomatch e
  ·rcases gQ hb with⟨j,u,rfl,e⟩|⟨y,u,rfl,e⟩
   ·exact nomatch e
   ·injection e with e1 _;rw[e1]
 byValue:=λk v h=>by
  rcases gQ h with⟨i,t,rfl,rfl⟩|⟨x,t,rfl,rfl⟩<;>rfl
 pyHash:=λhv h=>by
  rcases gQ hv with⟨i,t,rfl,rfl⟩|⟨x,t,rfl,rfl⟩
  ·exact wpAny_pyHash_int h
  ·exact wpAny_pyHash_str h
 eqBool:=λhu hv h=>by
  rcases gQ hu with⟨i,t,rfl,rfl⟩|⟨x,t,rfl,rfl⟩
  ·rcases gQ hv with⟨j,u,rfl,rfl⟩|⟨y,u,rfl,rfl⟩
   ·rw[key_ll]at h;exact wpAny_eqBool_int h
   ·rw[key_lr]at h;exact SeqAt.EqAt.int_str i t y u _ _ _ _ h
  ·rcases gQ hv with⟨j,u,rfl,rfl⟩|⟨y,u,rfl,rfl⟩
   ·rw[key_rl]at h;exact SeqAt.EqAt.str_int x t j u _ _ _ _ h
   ·rw[key_rr]at h;exact wpAny_eqBool_str h
 «strs»:=λk x t v h=>by
  rcases gQ h with⟨i,u,rfl,e⟩|⟨y,u,rfl,e⟩
  ·exact nomatch e
  ·injection e with e1 _
   subst e1
   cases v<;>rfl
theorem Dx(prog:Program)(w:World)(i:Int)(t:Tok):(bR prog w).is (.inl i) (.int i t)=true:=Dv i t
theorem Dy(prog:Program)(w:World)(x:Str)(t:Tok):(bR prog w).is (.inr x) (.str x t)=true:=Dw x t
inductive V where
 |non|bl (b:Bool)|int (i:Int)|str (x:Str)|byt (b:Array UInt8)|flt (b:UInt64)|ref (a:Addr)|ty (n:String)
 deriving DecidableEq
noncomputable def RelV:V->Value->Prop
 |.non,u=>u=Value.none
 |.bl b,u=>u=Value.bool b
 |.int i,u=>∃t,u=Value.int i t
 |.str x,u=>∃t,u=Value.str x t
 |.byt b,u=>∃t,u=Value.bytes b t
 |.flt b,u=>∃t,u=Value.float b t
 |.ref a,u=>u=Value.ref a
 |.ty n,u=>u=Value.type n
noncomputable abbrev Vals:List V->List Value->Prop:=Paired RelV
theorem Vals.length{xs:List V}{us:List Value}(r:Vals xs us):xs.length=us.length:=Paired.length r
theorem Vals.get:∀{xs:List V} {us:List Value} {i:Nat} {x:V},Vals xs us->xs[i]?=some x->∃u,us[i]?=some u/\RelV x u
 |_,_,_,_,.nil,e=>by simp at e
 |_,_,0,_,.cons r _,e=>by simp at e;subst e;exact⟨_,rfl,r⟩
 |_,_,i+1,x,.cons _ t,e=>by
  obtain⟨u,h1,h2⟩:=Vals.get (i:=i) (x:=x) t (by simpa using e)
  exact⟨u,by simpa using h1,h2⟩
theorem Vals.set{x:V}{u:Value}(r:RelV x u):∀{xs:List V} {us:List Value} (i:Nat),Vals xs us->Vals (xs.set i x) (us.set i u)
 |_,_,_,.nil=>.nil
 |_,_,0,.cons _ t=>.cons r t
 |_,_,i+1,.cons q t=>.cons q (Vals.set r i t)
theorem Vals.append:∀{xs ys:List V} {us ws:List Value},Vals xs us->Vals ys ws->Vals (xs++ys) (us++ws)
 |_,_,_,_,.nil,s=>s
 |_,_,_,_,.cons r t,s=>.cons r (Vals.append t s)
theorem Vals.take:∀{xs:List V} {us:List Value} (n:Nat),Vals xs us->Vals (xs.take n) (us.take n)
 |_,_,0,_=>.nil
 |_,_,_+1,.nil=>.nil
 |_,_,n+1,.cons r t=>.cons r (Vals.take n t)
theorem Vals.drop:∀{xs:List V} {us:List Value} (n:Nat),Vals xs us->Vals (xs.drop n) (us.drop n)
 |_,_,0,r=>r
 |_,_,_+1,.nil=>.nil
 |_,_,n+1,.cons _ t=>Vals.drop n t
noncomputable def RelO:Option V->Option Value->Prop
 |some v,some u=>RelV v u
 |none,none=>True
 |_,_=>False
noncomputable def KV{κ:Type}:List (κ×V)->List (κ×Value)->Prop:=Paired λ(p:κ×V) (q:κ×Value)=>p.1=q.1/\RelV p.2 q.2
noncomputable def kV:Key->V
 |.inl i=>.int i
 |.inr x=>.str x
inductive HO where
 |lst (xs:List V)
 |tup (xs:List V)
 |dK (kvs:List (Key×V))|dT (kvs:List (List Key×V))
 |set (S:Int->Bool) (n:Nat)
 |ins (C dx:Addr) (fs:List (Str×V))
 |own (x:Addr)
 |xd (fs:List (Str×V))
 |met (f x:Addr)
 |rng (lo hi:Int)
 |frz (o:Obj) (u:HO)
 |tbl (ps:Array Value)
 |ext (φ:Heap->Prop)
noncomputable abbrev Hp:=Addr->Option HO
noncomputable def upd(H:Hp)(a:Addr)(o:HO):Hp:=λb=>if b=a then some o else H b
theorem bY{H:Hp}{a:Addr}{o:HO}:upd H a o a=some o:=by unfold upd;rw[if_pos rfl]
theorem aI{H:Hp}{a b:Addr}{o:HO}(h:b≠a):upd H a o b=H b:=by unfold upd;rw[if_neg h]
theorem yH{H:Hp}{a:Addr}{o u:HO}:upd (upd H a o) a u=upd H a u:=by
 funext b;unfold upd;split<;>rfl
theorem kS{H:Hp}{a b:Addr}{o u:HO}(h:H a=some o)(h':H b=some u)(d:o≠u):a≠b:=by
 intro e;subst e;rw[h]at h';exact d (eA.inj h')
theorem fH{H:Hp}{a b:Addr}{o:HO}(h:H a=some o)(h':H b=none):a≠b:=by
 intro e;subst e;rw[h]at h';cases h'
section
variable(P:Program)(w:World)
noncomputable def ObjOk(H:Hp)(h:Heap)(a:Addr):HO->Prop
 |.lst xs=>xs.length<=sizeLine/\∃(its:List Value) (n:Nat),Vals xs its/\h.get? a=some {cls:=.type "list", data:=.seq its.toArray n}
 |.tup xs=>xs.length<=sizeLine/\∃its:List Value,Vals xs its/\IsTup h a its.toArray
 |.dK kvs=>kvs.length<=sizeLine/\(a==sysModules)=false/\∃vs,KV kvs vs/\h.DictOf (bR P w) a vs
 |.dT kvs=>kvs.length<=sizeLine/\(a==sysModules)=false/\∃xs:List (List Key×Addr×Value),
  Paired (λ(p:List Key×V) (q:List Key×Addr×Value)=>p.1=q.1/\H q.2.1=some (.tup (p.1.map kV))/\RelV p.2 q.2.2) kvs xs /\
  ∃o es ep,h.get? a=some o/\o.ExactDict/\o.data=.dict es ep/\es.toList=xs.map (entryOfKey (tupleKind (bR P w)))/\(xs.map (·.1)).Nodup
 |.set S n=>h.SetOf (intKind P w) a S n
 |.ins C dx fs=>H dx=some (.own a)/\fs.length<=1000/\dx≠a/\h.get? a=some (PySem.W.instObj C dx) /\
  ∃mA,h.Ns1 dx mA/\(∀f,RelO (fs.lookup f) (mA f))/\PySem.Within mA (fs.map (·.1))
 |.own _=>∃o,h.get? a=some o
 |.xd fs=>∃mA,h.Ns1 a mA/\∀f,RelO (fs.lookup f) (mA f)
 |.rng lo hi=>∃t u v,h.get? a=some {cls:=.type "range", data:=.fields #[.int lo t,.int hi u,.int 1 v] }
 |.frz o u=>h.get? a=some o/\ObjOk H h a u
 |.tbl ps=>h.get? a=some {cls:=.none,data:=.fields ps}
 |.met f x=>h.get? a=some (PySem.W.methodObj (.ref f) (.ref x))
 |.ext φ=>φ h/\(∃o,h.get? a=some o)/\∀h1 h2:Heap,φ h1->(∀o,h1.get? a=some o->h2.get? a=some o)->φ h2
noncomputable def HOk(H:Hp)(h:Heap):Prop:=∀a o,H a=some o->ObjOk P w H h a o
end
section
variable{P:Program}{w:World}{H H':Hp}{h h':Heap}{a:Addr}{o:HO}
theorem ObjOk.lt(x:ObjOk P w H h a o):a<h.objs.size:=by
 cases o with
 |lst xs=>obtain⟨_,_,_,_,e⟩:=x;exact Heap.lt_size e
 |tup xs=>obtain⟨_,_,_,p⟩:=x;exact p.lt
 |dK kvs=>obtain⟨_,_,_,_,o,_,_,e,_⟩:=x;exact Heap.lt_size e
 |dT kvs=>obtain⟨_,_,_,_,o,_,_,e,_⟩:=x;exact Heap.lt_size e
 |set S n=>obtain⟨o,_,_,_,e,_⟩:=x;exact Heap.lt_size e
 |ins C dx fs=>obtain⟨_,_,_,e,_⟩:=x;exact Heap.lt_size e
 |own y=>obtain⟨_,e⟩:=x;exact Heap.lt_size e
 |xd fs=>obtain⟨_,⟨_,_,_,e,_⟩,_⟩:=x;exact Heap.lt_size e
 |rng lo hi=>obtain⟨_,_,_,e⟩:=x;exact Heap.lt_size e
 |frz ob u=>obtain⟨e,_⟩:=x;exact Heap.lt_size e
 |tbl ps=>exact Heap.lt_size (show h.get? a=some _ from x)
 |met f y=>exact Heap.lt_size (show h.get? a=some _ from x)
 |ext φ=>obtain⟨_,⟨_,e⟩,_⟩:=x;exact Heap.lt_size e
theorem Paired.mapP{α β:Type}{F G:α->β->Prop}:∀{l₁:List α} {l₂:List β},Paired F l₁ l₂->(∀a b,F a b->G a b)->Paired G l₁ l₂
 |_,_,.nil,_=>.nil
 |_,_,.cons r t,f=>.cons (f _ _ r) (Paired.mapP t f)
theorem ObjOk.stay(x:ObjOk P w H h a o)(k:∀b u,(b=a\/H b=some (.own a))->h.get? b=some u->h'.get? b=some u)
 (ho:∀b,H b=some (.own a)->H' b=some (.own a)) (ht:∀b xs,H b=some (.tup xs)->H' b=some (.tup xs)):ObjOk P w H' h' a o:=by
 induction o with
 |lst xs=>obtain⟨z,its,n,r,e⟩:=x;exact⟨z,its,n,r,k _ _ (.inl rfl) e⟩
 |tup xs=>obtain⟨z,its,r,ob,e,c⟩:=x;exact⟨z,its,r,ob,k _ _ (.inl rfl) e,c⟩
 |dK kvs=>obtain⟨z,y,vs,r,ob,es,ep,e,c⟩:=x;exact⟨z,y,vs,r,ob,es,ep,k _ _ (.inl rfl) e,c⟩
 |dT kvs=>
  obtain⟨z,y,xs,r,ob,es,ep,e,c⟩:=x
  exact⟨z,y,xs,Paired.mapP r λp q z=>⟨z.1,ht _ _ z.2.1,z.2.2⟩,ob,es,ep,k _ _ (.inl rfl) e,c⟩
 |set S n=>obtain⟨ob,es,ep,t,e,c⟩:=x;exact⟨ob,es,ep,t,k _ _ (.inl rfl) e,c⟩
 |ins C dx fs=>
  obtain⟨d,z,ne,e,mA,⟨od,es,ep,e2,c⟩,r⟩:=x
  exact⟨ho _ d,z,ne,k _ _ (.inl rfl) e,mA,⟨od,es,ep,k _ _ (.inr d) e2,c⟩,r⟩
 |own y=>obtain⟨ob,e⟩:=x;exact⟨ob,k _ _ (.inl rfl) e⟩
 |xd fs=>obtain⟨mA,⟨od,es,ep,e,c⟩,r⟩:=x;exact⟨mA,⟨od,es,ep,k _ _ (.inl rfl) e,c⟩,r⟩
 |rng lo hi=>obtain⟨t,u,v,e⟩:=x;exact⟨t,u,v,k _ _ (.inl rfl) e⟩
 |frz ob u ih=>obtain⟨e,q⟩:=x;exact⟨k _ _ (.inl rfl) e,ih q⟩
 |tbl ps=>
  have e:h.get? a=some {cls:=.none,data:=.fields ps}:=x
  show h'.get? a=some {cls:=.none,data:=.fields ps}
  exact k a _ (.inl rfl) e
 |met f y=>
  have e:h.get? a=some (PySem.W.methodObj (.ref f) (.ref y)):=x
  show h'.get? a=some (PySem.W.methodObj (.ref f) (.ref y))
  exact k a _ (.inl rfl) e
 |ext φ=>obtain⟨p,⟨o,e⟩,st⟩:=x;exact⟨st _ _ p λo q=>k _ _ (.inl rfl) q,⟨o,k _ _ (.inl rfl) e⟩,st⟩
theorem HOk.lt(x:HOk P w H h)(e:H a=some o):a<h.objs.size:=(x a o e).lt
theorem HOk.fresh(x:HOk P w H h)(e:h.objs.size<=a):H a=none:=by
 cases q:H a with
 |none=>rfl
 |some u=>exact absurd (dH (x.lt q) e) (fT _)
theorem HOk.kept(x:HOk P w H h)(k:∀b u,h.get? b=some u->h'.get? b=some u):HOk P w H h':=λa o e=>
 (x a o e).stay (λb u _ q=>k b u q) (λ_ q=>q) λ_ _ q=>q
theorem HOk.laid(x:HOk P w H h)(k:∀b u,h.get? b=some u->h'.get? b=some u)(hp:h.objs.size<=a)(new:ObjOk P w (upd H a o) h' a o):HOk P w (upd H a o) h':=λb u e=>by
 have hn:=x.fresh hp
 by_cases hb:b=a
 ·subst hb;rw[bY]at e;cases e;exact new
 ·rw[aI hb]at e
  exact(x b u e).stay (λc v _ q=>k c v q) (λc q=>by rw[aI (fH q hn)];exact q) λc xs q=>by rw[aI (fH q hn)];exact q
end
noncomputable def Rd(H:Hp)(a:Addr)(u:HO):Prop:=H a=some u\/∃o,H a=some (.frz o u)
theorem Rd.ok{P:Program}{w:World}{H:Hp}{h:Heap}{a:Addr}{u:HO}(r:Rd H a u)(x:HOk P w H h):ObjOk P w H h a u:=by
 rcases r with r|⟨o,r⟩
 ·exact x a u r
 ·obtain⟨_,q⟩:=x a _ r
  exact q
noncomputable def Mut:Option HO->Prop
 |some (.lst _)=>True
 |some (.dK _)=>True
 |some (.dT _)=>True
 |some (.set _ _)=>True
 |some (.ins _ _ _)=>True
 |some (.ext _)=>True
 |_=>False
section
variable{P:Program}{w:World}{H:Hp}{h h':Heap}{x e:Addr}{o':HO}
theorem HOk.write(ok:HOk P w H h)(mu:Mut (H x))(he:e=x\/H e=some (.own x))(k:∀b u,b≠e->h.get? b=some u->h'.get? b=some u)(heo:∃u,h'.get? e=some u)
 (new:ObjOk P w (upd H x o') h' x o'):HOk P w (upd H x o') h':=λb u q=>by
 have nown:∀c y,H c=some (.own y)->c≠x:=λc y r z=>by subst z;rw[r]at mu;exact mu
 have ntup:∀c xs,H c=some (.tup xs)->c≠x:=λc xs r z=>by subst z;rw[r]at mu;exact mu
 by_cases hb:b=x
 ·subst hb;rw[bY]at q;cases q;exact new
 ·rw[aI hb]at q
  by_cases hbe:b=e
  ·have q':H b=some (.own x):=by
    rcases he with z|z
    ·exact absurd (hbe.trans z) hb
    ·rw[hbe];exact z
   rw[q]at q';cases q'
   obtain⟨v,hv⟩:=heo
   exact⟨v,by rw[hbe];exact hv⟩
  ·refine(ok b u q).stay (λc v hc r=>k c v ?_ r) (λc r=>by rw[aI (nown c b r)];exact r) λc xs r=>by rw[aI (ntup c xs r)];exact r
   rcases hc with rfl|hc
   ·exact hbe
   ·rintro rfl
    rcases he with z|z
    ·exact nown c b hc z
    ·rw[hc]at z;cases z;exact hb rfl
end
set_option genInjectivity false in
structure Un(fs ex:List Addr)(H H':Hp)(h h':Heap):Prop where
 keep:∀b o,h.get? b=some o->H b=none->b∉fs->b∉ex->h'.get? b=some o
 slot:∀b o,h.get? b=some o->H b=none->b∈fs->b∉ex->∃sl,h'.get? b=some {o with slots:=sl}
 free:∀b o,h.get? b=some o->H b=none->b∉ex->H' b=none
 there:∀b o,h.get? b=some o->b∉ex->∃o',h'.get? b=some o'
 tups:∀b xs,H b=some (.tup xs)->H' b=some (.tup xs)
 frzs:∀b o u,H b=some (.frz o u)->H' b=some (.frz o u)
 tbls:∀b ps,H b=some (.tbl ps)->∃more,H' b=some (.tbl (ps++more))
section
variable{fs fs' ex ex':List Addr}{H H1 H2:Hp}{h h1 h2 h':Heap}{a x e:Addr}{o:HO}
theorem Un.any(u:Un fs ex H H1 h h1){b:Addr}{ob:Obj}(q:h.get? b=some ob)(n:H b=none)(hx:b∉ex):∃sl,h1.get? b=some {ob with slots:=sl}:=by
 by_cases hb:b∈fs
 ·exact u.slot b ob q n hb hx
 ·exact⟨ob.slots,u.keep b ob q n hb hx⟩
theorem Un.kept(k:∀b u,h.get? b=some u->h'.get? b=some u):Un fs ex H H h h':=
 ⟨λb ob q _ _ _=>k b ob q,λb ob q _ _ _=>⟨ob.slots,k b ob q⟩,λ_ _ _ n _=>n,λb ob q _=>⟨ob,k b ob q⟩,λ_ _ q=>q,λ_ _ _ q=>q,λ_ ps q=>⟨#[],by rw[q];simp⟩⟩
theorem Un.refl:Un fs ex H H h h:=Un.kept λ_ _ q=>q
theorem Un.laid(k:∀b u,h.get? b=some u->h'.get? b=some u)(hp:h.objs.size<=a)(hn:H a=none):Un fs ex H (upd H a o) h h' where
 keep:=λb u q _ _ _=>k b u q
 slot:=λb u q _ _ _=>⟨u.slots,k b u q⟩
 free:=λb u q n _=>by rw[aI (bD (dH (Heap.lt_size q) hp))];exact n
 there:=λb u q _=>⟨u,k b u q⟩
 tups:=λb xs q=>by rw[aI (fH q hn)];exact q
 frzs:=λb u xs q=>by rw[aI (fH q hn)];exact q
 tbls:=λb ps q=>⟨#[],by rw[aI (fH q hn),q];simp⟩
theorem Un.write(mu:Mut (H x))(he:e=x\/H e=some (.own x))(k:∀b u,b≠e->h.get? b=some u->h'.get? b=some u)(heo:∃u,h'.get? e=some u):Un fs ex H (upd H x o) h h':=by
 have hx:∀b,H b=none->b≠x:=λb n z=>by subst z;rw[n]at mu;exact mu
 have hb:∀b,H b=none->b≠e:=λb n z=>by
  subst z
  rcases he with r|r
  ·exact hx b n r
  ·rw[n]at r;cases r
 have hm:∀b u,H b=some u->¬Mut (some u)->b≠x:=λb u q nm z=>by subst z;rw[q]at mu;exact nm mu
 refine⟨λb u q n _ _=>k b u (hb b n) q,λb u q n _ _=>⟨u.slots,k b u (hb b n) q⟩,λb u q n _=>by rw[aI (hx b n)];exact n,λb u q _=>?_,
  λb xs q=>by rw[aI (hm b _ q λz=>z)];exact q,λb u xs q=>by rw[aI (hm b _ q λz=>z)];exact q,λb ps q=>⟨#[],by rw[aI (hm b _ q λz=>z),q];simp⟩⟩
 by_cases hbe:b=e
 ·subst hbe;exact heo
 ·exact⟨u,k b u hbe q⟩
end
noncomputable def trk(h:Heap)(H:Hp):List Addr:=(aA h.objs.size).filter λa=>(H a).isSome
noncomputable def iD(h:Heap)(H:Hp):Heap:=PySem.W.hideAll h (trk h H)
theorem Dz(h:Heap)(H:Hp):(iD h H).objs.size=h.objs.size:=PySem.W.hideAll_size _ _
theorem EA{h:Heap}{H:Hp}{b:Addr}{o:Obj}(e:h.get? b=some o)(n:H b=none):(iD h H).get? b=some o:=
 PySem.W.hideAll_get _ e λhm=>by
  have q:(H b).isSome=true:=(fE.mp hm).2
  rw[n]at q;simp at q
theorem EB{h:Heap}{H:Hp}{b:Addr}{o:Obj}(e:(iD h H).get? b=some o):h.get? b=some o/\H b=none:=by
 have e':h.get? b=some o:=PySem.W.of_hideAll (trk h H) e
 refine⟨e',?_⟩
 cases q:H b with
 |none=>rfl
 |some x=>
  have hm:b∈trk h H:=fE.mpr ⟨cO.mpr (Heap.lt_size e'),by simp[q]⟩
  have z:(iD h H).get? b=none:=PySem.W.hideAll_none (trk h H) hm
  rw[z]at e;cases e
set_option genInjectivity false in
structure Mod(K:PySem.W.Frag)(mg:Str->Option Value)(base:Heap):Prop where
 kin:K.In base
 glob:base.Ns mainGlobals mg
 blt:∃mb,base.Ns builtinsNs mb/\∀x:Str,x ≠ "__name__" -> mb x=bootBuiltins x
 nolimit:base.NoLimit
set_option genInjectivity false in
structure Cx where
 prog:Program
 w:World
 K:PySem.W.Frag
 mg:Str->Option Value
 base:Heap
 A:Around
 N:List Str
 s₀:Shared
 H₀:Hp
 env:Env
 outer:List Env
 stack:List Env
 ex:List Addr
 fn:Str->Bool
 calm:Bool
 pn:List (Addr×Obj)
 xe:Value->Shared->Prop
noncomputable def frs(l:List Env):List Addr:=l.filterMap (·.frame)
noncomputable abbrev Cx.fs(X:Cx):List Addr:=frs X.outer
noncomputable def Vis(sc:Scope)(x:Str):Prop:=sc.names.lookup x=some .local\/sc.names.lookup x=some .cell\/sc.names.lookup x=some .free
noncomputable def Loc(sc:Scope)(x:Str):Prop:=sc.names.lookup x=some .local\/sc.names.lookup x=some .cell
noncomputable def Look(env:Env)(h:Heap)(m:Str->Option Value)(x:Str)(u:Value):Prop:=
 (env.kindOf x=some .local/\m x=some u)\/((env.kindOf x=some .cell\/env.kindOf x=some .free)/\∃c,env.cells.lookup x=some c/\h.IsCell c (some u))
set_option genInjectivity false in
structure Cx.Ok(X:Cx):Prop where
 mod:Mod X.K X.mg X.base
 kind:X.env.scope.kind=.function
 glob:X.env.globals=mainGlobals
 blt:X.env.builtins=builtinsNs
 above:X.s₀.heap.objs.size<=X.env.locals
 inj:∀x y c,X.env.cells.lookup x=some c->X.env.cells.lookup y=some c->x=y
 has:∀x,(X.env.kindOf x=some .cell\/X.env.kindOf x=some .free)->∃c,X.env.cells.lookup x=some c
 cab:∀x c,X.fn x=true->X.env.cells.lookup x=some c->X.s₀.heap.objs.size<=c
 hd:X.calm=true->X.A.handled=none
 frames:X.A.frames=some X.stack
 stk:X.stack=X.outer\/(X.stack=X.env::X.outer/\X.env.frame=some X.env.locals)
 exf:∀b∈X.ex,b≠X.env.locals/\∀x c,X.env.cells.lookup x=some c->c≠b
 bs:∀b o,X.base.get? b=some o->X.s₀.heap.get? b=some o/\X.H₀ b=none
 bsz:X.base.objs.size<=X.s₀.heap.objs.size
 noex:∀b o,X.base.get? b=some o->b∉X.ex
 exfs:∀b∈X.ex,b∉X.fs
 funs:X.s₀.heap.FunFrames X.base X.outer
 frf:∀b∈X.fs,X.H₀ b=none
set_option genInjectivity false in
structure Inv(X:Cx)(pins:List (Addr×Obj))(σ:List (Option V))(H:Hp)(s:Shared):Prop where
 ok:X.Ok
 os:s.os=X.s₀.os
 bare:AllBare s.gens
 base:Un X.fs X.ex X.H₀ H X.s₀.heap s.heap
 loc:∃m,s.heap.Ns X.env.locals m/\∀(i:Nat)(x:Str)(v:V),X.N[i]?=some x->σ[i]?=some (some v)->Vis X.env.scope x->∃u,RelV v u/\Look X.env s.heap m x u
 cell:∀x c,X.env.cells.lookup x=some c->∃v,s.heap.IsCell c v
 free:H X.env.locals=none
 freeC:∀x c,X.env.cells.lookup x=some c->H c=none
 pin:∀p∈X.pn++pins,s.heap.get? p.1=some p.2/\H p.1=none/\p.1≠X.env.locals/\p.1∉X.fs/\∀v,p.2.data≠.cell v
 hok:HOk X.prog X.w H s.heap
 len:σ.length=X.N.length
section
variable{X:Cx}{pins:List (Addr×Obj)}{σ:List (Option V)}{H H':Hp}{s:Shared}{h':Heap}
theorem Cx.Ok.nofr(ok:X.Ok){b:Addr}{o:Obj}(e:X.base.get? b=some o):b∉X.fs:=λhb=>by
 have:=(ok.funs.mem hb).1
 rw[e]at this;cases this
theorem Inv.bs(I:Inv X pins σ H s):∀b o,X.base.get? b=some o->s.heap.get? b=some o/\H b=none:=λb o e=>
 ⟨I.base.keep b o (I.ok.bs b o e).1 (I.ok.bs b o e).2 (I.ok.nofr e) (I.ok.noex b o e),I.base.free b o (I.ok.bs b o e).1 (I.ok.bs b o e).2 (I.ok.noex b o e)⟩
theorem Inv.bk(I:Inv X pins σ H s):∀b o,X.base.get? b=some o->s.heap.get? b=some o:=λb o e=>(I.bs b o e).1
theorem Inv.mod(I:Inv X pins σ H s):Mod X.K X.mg X.base:=I.ok.mod
theorem Inv.kIn(I:Inv X pins σ H s):X.K.In s.heap:=I.ok.mod.kin.keeps I.bk
theorem Inv.lt(I:Inv X pins σ H s):X.env.locals<s.heap.objs.size:=let ⟨_,hn,_⟩:=I.loc;hn.lt
theorem Inv.sz(I:Inv X pins σ H s):X.s₀.heap.objs.size<=s.heap.objs.size:=aW I.ok.above (kI I.lt)
theorem Inv.nofs(I:Inv X pins σ H s){a:Addr}(h:s.heap.objs.size<=a):a∉X.fs:=λhb=>by
 obtain⟨_,o,ho,_⟩:=I.ok.funs.mem hb
 exact absurd (dH (Heap.lt_size ho) (aW I.sz h)) (fT _)
theorem Inv.cne(I:Inv X pins σ H s):∀x c,X.env.cells.lookup x=some c->c≠X.env.locals:=λx c e z=>by
 obtain⟨v,o,ho,hd⟩:=I.cell x c e
 obtain⟨m,⟨o',es,ep,ho',hd',_⟩,_⟩:=I.loc
 rw[z,ho']at ho;cases ho;rw[hd']at hd;cases hd
theorem Inv.funs(I:Inv X pins σ H s):s.heap.FunFrames X.base X.outer:=by
 have all:∀(l:List Env),(∀b∈frs l,b∈X.fs)->X.s₀.heap.FunFrames X.base l->s.heap.FunFrames X.base l:=by
  intro l
  induction l with
  |nil=>intro _ _;trivial
  |cons env r ih=>
   intro hs hl
   obtain⟨hk,⟨L,o,hf,hn,ho,hd⟩,hr⟩:=hl
   have hL:L∈X.fs:=hs L (by unfold frs;rw[hV,hf];exact aY)
   obtain⟨sl,e⟩:=I.base.slot L o ho (I.ok.frf L hL) hL λz=>I.ok.exfs L z hL
   exact⟨hk,⟨L,_,hf,hn,e,hd⟩,ih (λb hb=>hs b (by unfold frs;rw[hV,hf];exact bE _ hb)) hr⟩
 exact all X.outer (λ_ hb=>hb) I.ok.funs
theorem Inv.stack(I:Inv X pins σ H s):s.heap.FunFrames X.base X.stack:=by
 rcases I.ok.stk with e|⟨e,hf⟩
 ·rw[e];exact I.funs
 ·rw[e]
  obtain⟨m,hn,_⟩:=I.loc
  refine .cons (by rw[I.ok.kind];decide) hf hn ?_ I.funs
  exact Heap.get?_none_of_le (aW I.ok.bsz I.ok.above)
theorem Inv.stkSub(I:Inv X pins σ H s):∀b∈frs X.stack,b∈X.env.locals::X.fs:=λb hb=>by
 rcases I.ok.stk with e|⟨e,hf⟩
 ·rw[e]at hb;exact bE _ hb
 ·rw[e]at hb
  unfold frs at hb
  rw[hV,hf]at hb
  exact hb
theorem Inv.stkFree(I:Inv X pins σ H s):∀b∈frs X.stack,H b=none:=λb hb=>by
 rcases aZ.mp (I.stkSub b hb)with e|hb
 ·rw[e];exact I.free
 ·obtain⟨_,o,ho,_⟩:=I.ok.funs.mem hb
  exact I.base.free b o ho (I.ok.frf b hb) λz=>I.ok.exfs b z hb
theorem Inv.step{g':Array GenState}{t':Nat}{d':Drawn}{ch:List Addr}(I:Inv X pins σ H s)
 (hch:∀b∈ch,(b∈X.ex\/X.s₀.heap.objs.size<=b)/\b≠X.env.locals/\(∀x c,X.env.cells.lookup x=some c->c≠b)/\∀p∈X.pn++pins,p.1≠b)
 (keep:∀b o,b≠X.env.locals->b∉X.fs->b∉ch->s.heap.get? b=some o->H b=none->h'.get? b=some o)
 (slot:∀b o,b≠X.env.locals->b∈X.fs->b∉ch->s.heap.get? b=some o->H b=none->∃sl,h'.get? b=some {o with slots:=sl}) (free:∀b o,b∉ch->s.heap.get? b=some o->H b=none->H' b=none)
 (there:∀b o,b∉ch->s.heap.get? b=some o->∃o',h'.get? b=some o')
 (tups:∀b xs,H b=some (.tup xs)->H' b=some (.tup xs)) (frzs:∀b o u,H b=some (.frz o u)->H' b=some (.frz o u)) (tbls:∀b ps,H b=some (.tbl ps)->∃more,H' b=some (.tbl (ps++more)))
 (ns:∀m,s.heap.Ns X.env.locals m->h'.Ns X.env.locals m) (hok:HOk X.prog X.w H' h') (hg:AllBare g') :
 Inv X pins σ H' {s with heap:=h',gens:=g',drawn:=d',toks:=t' }:=by
 have neL:∀b o,X.s₀.heap.get? b=some o->b≠X.env.locals:=λb o e=>bD (dH (Heap.lt_size e) I.ok.above)
 have neC:∀b o,X.s₀.heap.get? b=some o->b∉X.ex->b∉ch:=λb o e hx hb=>by
  rcases(hch b hb).1 with z|z
  ·exact hx z
  ·exact absurd (dH (Heap.lt_size e) z) (fT _)
 have cellK:∀x c,X.env.cells.lookup x=some c->∀v,s.heap.IsCell c v->h'.IsCell c v:=λx c e v ⟨o,ho,hd⟩=>by
  have nch:c∉ch:=λz=>(hch c z).2.2.1 x c e rfl
  by_cases hc:c∈X.fs
  ·obtain⟨sl,q⟩:=slot c o (I.cne x c e) hc nch ho (I.freeC x c e)
   exact⟨_,q,hd⟩
  ·exact⟨o,keep c o (I.cne x c e) hc nch ho (I.freeC x c e),hd⟩
 refine⟨I.ok,I.os,hg,⟨λb o e n hb hx=>?_,λb o e n hb hx=>?_,λb o e n hx=>?_,λb o e hx=>?_,λb xs e=>tups b xs (I.base.tups b xs e),λb o xs e=>frzs b o xs (I.base.frzs b o xs e),λb ps e=>?_⟩,?_,λx c e=>?_,?_,λx c e=>?_,λp hp=>?_,hok,I.len⟩
 ·exact keep b o (neL b o e) hb (neC b o e hx) (I.base.keep b o e n hb hx) (I.base.free b o e n hx)
 ·obtain⟨sl,e1⟩:=I.base.slot b o e n hb hx
  obtain⟨sl',e2⟩:=slot b _ (neL b o e) hb (neC b o e hx) e1 (I.base.free b o e n hx)
  exact⟨sl',e2⟩
 ·obtain⟨o',e1⟩:=I.base.there b o e hx
  exact free b o' (neC b o e hx) e1 (I.base.free b o e n hx)
 ·obtain⟨o',e1⟩:=I.base.there b o e hx
  exact there b o' (neC b o e hx) e1
 ·obtain⟨m1,e1⟩:=I.base.tbls b ps e
  obtain⟨m2,e2⟩:=tbls b _ e1
  exact⟨m1++m2,by rw[e2,Array.append_assoc]⟩
 ·obtain⟨m,hn,hl⟩:=I.loc
  refine⟨m,ns m hn,λi x v e1 e2 e3=>?_⟩
  obtain⟨u,r,l⟩:=hl i x v e1 e2 e3
  refine⟨u,r,?_⟩
  rcases l with l|⟨k,c,e,z⟩
  ·exact .inl l
  ·exact .inr ⟨k,c,e,cellK x c e _ z⟩
 ·obtain⟨v,z⟩:=I.cell x c e
  exact⟨v,cellK x c e v z⟩
 ·obtain⟨m,⟨o,_,_,ho,_⟩,_⟩:=I.loc
  exact free _ o (λz=>(hch _ z).2.1 rfl) ho I.free
 ·obtain⟨v,o,ho,hd⟩:=I.cell x c e
  exact free c o (λz=>(hch c z).2.2.1 x c e rfl) ho (I.freeC x c e)
 ·obtain⟨e,n,ne,nf,d⟩:=I.pin p hp
  have nch:p.1∉ch:=λz=>(hch p.1 z).2.2.2 p hp rfl
  exact⟨keep p.1 p.2 ne nf nch e n,free p.1 p.2 nch e n,ne,nf,d⟩
theorem Inv.un{t':Nat}(I:Inv X pins σ H s)(u:Un X.fs [] H H' s.heap h')(hok:HOk X.prog X.w H' h'):Inv X pins σ H' {s with heap:=h',toks:=t' }:=by
 obtain⟨m,⟨o,es,ep,ho,r⟩,_⟩:=id I.loc
 obtain⟨sl,hL⟩:=u.any ho I.free (by simp)
 exact I.step (g':=s.gens) (d':=s.drawn) (ch:=[]) (λ_ z=>nomatch z) (λb o _ hb _ e n=>u.keep b o e n hb (by simp)) (λb o _ hb _ e n=>u.slot b o e n hb (by simp)) (λb o _ e n=>u.free b o e n (by simp)) (λb o _ e=>u.there b o e (by simp)) u.tups u.frzs u.tbls (λm' hm=>by
  obtain⟨o',es',ep',ho',r'⟩:=hm
  rw[ho]at ho';cases ho'
  exact⟨_,es',ep',hL,r'⟩) hok I.bare
theorem Inv.call{g':Array GenState}{t':Nat}{d':Drawn}{ch:List Addr}(I:Inv X pins σ H s)(u:Un (frs X.stack) ch H H' s.heap h')(hok:HOk X.prog X.w H' h')(hg:AllBare g')
 (hch:∀b∈ch,(b∈X.ex\/X.s₀.heap.objs.size<=b)/\b≠X.env.locals/\(∀x c,X.env.cells.lookup x=some c->c≠b)/\∀p∈X.pn++pins,p.1≠b) :
 Inv X pins σ H' {s with heap:=h',gens:=g',drawn:=d',toks:=t' }:=by
 obtain⟨m,⟨o,es,ep,ho,r⟩,_⟩:=id I.loc
 obtain⟨sl,hL⟩:=u.any ho I.free λz=>(hch _ z).2.1 rfl
 exact I.step (ch:=ch) hch (λb o hL hb hc e n=>u.keep b o e n (λz=>(aZ.mp (I.stkSub b z)).elim hL hb) hc) (λb o _ _ hc e n=>u.any e n hc) (λb o hc e n=>u.free b o e n hc) (λb o hc e=>u.there b o e hc) u.tups u.frzs u.tbls (λm' hm=>by
  obtain⟨o',es',ep',ho',r'⟩:=hm
  rw[ho]at ho';cases ho'
  exact⟨_,es',ep',hL,r'⟩) hok hg
theorem Inv.turned{t':Nat}{it:Addr}(I:Inv X pins σ H s)(k:∀b o,b≠it->s.heap.get? b=some o->h'.get? b=some o)(hn:H it=none)(hL:it≠X.env.locals)
 (h1:it∈X.ex\/X.s₀.heap.objs.size<=it) (h2:∀x c,X.env.cells.lookup x=some c->c≠it) (h3:∀p∈X.pn++pins,p.1≠it):Inv X pins σ H {s with heap:=h',toks:=t' }:=by
 have nit:∀b u,H b=some u->b≠it:=λb u e z=>by rw[z,hn]at e;cases e
 refine I.step (g':=s.gens) (d':=s.drawn) (ch:=[it]) (λb hb=>?_) (λb o _ _ hc e _=>k b o (λz=>hc (by simp[z])) e) (λb o _ _ hc e _=>⟨o.slots,k b o (λz=>hc (by simp[z])) e⟩) (λ_ _ _ _ n=>n)
  (λb o hc e=>⟨o,k b o (λz=>hc (by simp[z])) e⟩) (λ_ _ e=>e) (λ_ _ _ e=>e) (λb ps e=>⟨#[],by rw[e];simp⟩) (λm hm=>?_) (λb u e=>?_) I.bare
 ·have e:b=it:=by simpa using hb
  subst e
  exact⟨h1,hL,h2,h3⟩
 ·obtain⟨o,es,ep,ho,r⟩:=hm
  exact⟨o,es,ep,k _ o (Ne.symm hL) ho,r⟩
 ·refine(I.hok b u e).stay (λc v hc q=>k c v ?_ q) (λ_ q=>q) λ_ _ q=>q
  rcases hc with z|z
  ·rw[z];exact nit b u e
  ·exact nit c _ z
theorem Inv.tok(I:Inv X pins σ H s)(t:Nat):Inv X pins σ H {s with toks:=t}:=I.un (h':=s.heap) (t':=t) Un.refl I.hok
theorem Inv.kept{t':Nat}(I:Inv X pins σ H s)(k:∀b u,s.heap.get? b=some u->h'.get? b=some u):Inv X pins σ H {s with heap:=h',toks:=t' }:=I.un (Un.kept k) (I.hok.kept k)
theorem Inv.laid{a:Addr}{o:HO}{t':Nat}(I:Inv X pins σ H s)(k:∀b u,s.heap.get? b=some u->h'.get? b=some u)(hp:s.heap.objs.size<=a)(new:ObjOk X.prog X.w (upd H a o) h' a o) :
 Inv X pins σ (upd H a o) {s with heap:=h',toks:=t' }:=I.un (Un.laid k hp (I.hok.fresh hp)) (I.hok.laid k hp new)
theorem Inv.write{x e:Addr}{o:HO}{t':Nat}(I:Inv X pins σ H s)(mu:Mut (H x))(he:e=x\/H e=some (.own x))(k:∀b u,b≠e->s.heap.get? b=some u->h'.get? b=some u)(heo:∃u,h'.get? e=some u)
 (new:ObjOk X.prog X.w (upd H x o) h' x o):Inv X pins σ (upd H x o) {s with heap:=h',toks:=t' }:=I.un (Un.write mu he k heo) (I.hok.write mu he k heo new)
theorem Inv.pins_of{pins':List (Addr×Obj)}(I:Inv X pins σ H s)(h:∀p∈pins',s.heap.get? p.1=some p.2/\H p.1=none/\p.1≠X.env.locals/\p.1∉X.fs/\∀v,p.2.data≠.cell v):Inv X pins' σ H s:=
 ⟨I.ok,I.os,I.bare,I.base,I.loc,I.cell,I.free,I.freeC,λp hp=>(cU.mp hp).elim (λz=>I.pin p (kJ _ z)) (h p),I.hok,I.len⟩
theorem yI{N:List Str}(hN:N.Nodup){i j:Nat}{x:Str}(a:N[i]?=some x)(b:N[j]?=some x):i=j:=by
 obtain⟨h1,e1⟩:=fU.mp a
 obtain⟨h2,e2⟩:=fU.mp b
 exact(K3 hN).mp (e1.trans e2.symm)
theorem yJ{M:Model}{A:Around}{E:Value->Shared->Prop}{i:Nat}{x:Str}{v:V}{u:Value}{Q:Unit->Shared->Prop}(I:Inv X pins σ H s)(hN:X.N.Nodup)(hi:X.N[i]?=some x)(hx:Loc X.env.scope x)(r:RelV v u)
 (h:∀s',Inv X pins (σ.set i (some v)) H s'->(∃a,Heap.SameBut a s.heap s'.heap/\(a=X.env.locals\/X.env.cells.lookup x=some a))->Q () s') (hf:X.fn x=true\/X.env.scope.names.lookup x=some .local:=by first|exact .inl rfl|exact .inr rfl|assumption):wpAny M A (storeName X.env x u) Q E s:=by
 obtain⟨m,hn,hl⟩:=id I.loc
 have hcls:(X.env.scope.kind==.class||(X.env.scope.kind==.module&&X.env.locals != X.env.globals))=false:=by rw[I.ok.kind];rfl
 have hiσ:i<σ.length:=by rw[I.len];exact(fU.mp hi).1
 have cne:=I.cne
 have tracked:∀{a:Addr} {h':Heap},(∃o,s.heap.get? a=some o/\H a=none)->Heap.SameBut a s.heap h'->HOk X.prog X.w H h':=λ{a h'} ha hs b ob e=>by
  obtain⟨_,_,hfree⟩:=ha
  refine(I.hok b ob e).stay (λc w' hc q=>(hs.2 c ?_).trans q) (λ_ q=>q) λ_ _ q=>q
  rintro rfl
  rcases hc with rfl|hc
  ·rw[hfree]at e;cases e
  ·rw[hfree]at hc;cases hc
 rcases hx with hk|hk
 ·refine wpAny_storeName_local hk hn (λh' hn' hs=>?_) hcls
  obtain⟨oL,_,_,hoL,_⟩:=id hn
  refine h _ ⟨I.ok,I.os,I.bare,⟨λb o e n hb hx=>?_,λb o e n hb hx=>?_,I.base.free,λb o e hx=>?_,I.base.tups,I.base.frzs,I.base.tbls⟩,⟨_,hn',λj y v' e1 e2 e3=>?_⟩,λy c e=>?_,I.free,I.freeC,λp hp=>?_,tracked ⟨oL,hoL,I.free⟩ hs,by simpa using I.len⟩ ⟨_,hs,.inl rfl⟩
  ·exact(hs.2 b (bD (dH (Heap.lt_size e) I.ok.above))).trans (I.base.keep b o e n hb hx)
  ·obtain⟨sl,e1⟩:=I.base.slot b o e n hb hx
   exact⟨sl,(hs.2 b (bD (dH (Heap.lt_size e) I.ok.above))).trans e1⟩
  ·obtain⟨o',e1⟩:=I.base.there b o e hx
   exact⟨o',(hs.2 b (bD (dH (Heap.lt_size e) I.ok.above))).trans e1⟩
  ·by_cases hj:j=i
   ·subst hj
    rw[hi]at e1;cases e1
    rw[sG hiσ]at e2
    cases e2
    exact⟨u,r,.inl ⟨hk,by simp⟩⟩
   ·rw[sH (Ne.symm hj)]at e2
    obtain⟨u',r',q⟩:=hl j y v' e1 e2 e3
    refine⟨u',r',?_⟩
    rcases q with⟨k,e⟩|⟨k,c,e,z⟩
    ·refine .inl ⟨k,?_⟩
     have:y≠x:=λe=>hj (yI hN e1 (e▸hi))
     simp[this,e]
    ·exact .inr ⟨k,c,e,z.sameBut hs (cne y c e)⟩
  ·obtain⟨w',z⟩:=I.cell y c e
   exact⟨w',z.sameBut hs (cne y c e)⟩
  ·obtain⟨e,n,ne,nf,d⟩:=I.pin p hp
   exact⟨(hs.2 p.1 ne).trans e,n,ne,nf,d⟩
 ·have hfn:X.fn x=true:=by
   rcases hf with z|z
   ·exact z
   ·rw[z]at hk;cases hk
  obtain⟨c,hc⟩:=I.ok.has x (.inl hk)
  obtain⟨w',z⟩:=I.cell x c hc
  refine wpAny_storeName_cell I.ok.kind hk hc z (λh' hc' hs=>?_)
  obtain⟨oc,hoc,hocd⟩:=id z
  refine h {s with heap:=h' } ⟨I.ok,I.os,I.bare,⟨λb o e n hb hx=>?_,λb o e n hb hx=>?_,I.base.free,λb o e hx=>?_,I.base.tups,I.base.frzs,I.base.tbls⟩,⟨m,hn.sameBut hs (Ne.symm (cne x c hc)),λj y v' e1 e2 e3=>?_⟩,λy c' e=>?_,I.free,I.freeC,λp hp=>?_,tracked ⟨oc,hoc,I.freeC x c hc⟩ hs,by simpa using I.len⟩ ⟨c,hs,.inr hc⟩
  ·exact(hs.2 b (bD (dH (Heap.lt_size e) (I.ok.cab x c hfn hc)))).trans (I.base.keep b o e n hb hx)
  ·obtain⟨sl,e1⟩:=I.base.slot b o e n hb hx
   exact⟨sl,(hs.2 b (bD (dH (Heap.lt_size e) (I.ok.cab x c hfn hc)))).trans e1⟩
  ·obtain⟨o',e1⟩:=I.base.there b o e hx
   exact⟨o',(hs.2 b (bD (dH (Heap.lt_size e) (I.ok.cab x c hfn hc)))).trans e1⟩
  ·by_cases hj:j=i
   ·subst hj
    rw[hi]at e1;cases e1
    rw[sG hiσ]at e2
    cases e2
    exact⟨u,r,.inr ⟨.inl hk,c,hc,hc'⟩⟩
   ·rw[sH (Ne.symm hj)]at e2
    obtain⟨u',r',q⟩:=hl j y v' e1 e2 e3
    refine⟨u',r',?_⟩
    rcases q with q|⟨k,c',e,z'⟩
    ·exact .inl q
    ·refine .inr ⟨k,c',e,z'.sameBut hs ?_⟩
     rintro rfl
     exact hj (yI hN e1 (I.ok.inj _ _ _ e hc▸hi))
  ·by_cases hcc:c'=c
   ·subst hcc;exact⟨_,hc'⟩
   ·obtain⟨w2,z2⟩:=I.cell y c' e
    exact⟨w2,z2.sameBut hs hcc⟩
  ·obtain⟨e,n,ne,nf,d⟩:=I.pin p hp
   refine⟨(hs.2 p.1 ?_).trans e,n,ne,nf,d⟩
   intro q
   rw[q,hoc]at e
   have q':oc=p.2:=eA.inj e
   exact d w' (by rw[<-q'];exact hocd)
theorem yK{M:Model}{A:Around}{E:Value->Shared->Prop}{i:Nat}{x:Str}{v:V}{u:Value}{Q:Unit->Shared->Prop}(I:Inv X pins σ H s)(hN:X.N.Nodup)(hi:X.N[i]?=some x)(hx:Loc X.env.scope x)(r:RelV v u)
 (h:∀s',Inv X pins (σ.set i (some v)) H s'->Q () s') (hf:X.fn x=true\/X.env.scope.names.lookup x=some .local:=by first|exact .inl rfl|exact .inr rfl|assumption):wpAny M A (storeName X.env x u) Q E s:=
 yJ I hN hi hx r (λs' I' _=>h s' I') hf
theorem Inv.call'{s':Shared}{ch:List Addr}(I:Inv X pins σ H s)(ho:s'.os=s.os)(u:Un (frs X.stack) ch H H' s.heap s'.heap)(hok:HOk X.prog X.w H' s'.heap)(hg:AllBare s'.gens)
 (hch:∀b∈ch,(b∈X.ex\/X.s₀.heap.objs.size<=b)/\b≠X.env.locals/\(∀x c,X.env.cells.lookup x=some c->c≠b)/\∀p∈X.pn++pins,p.1≠b):Inv X pins σ H' s':=by
 obtain⟨h',g',d',t',o'⟩:=s'
 have e:o'=s.os:=ho
 subst e
 exact I.call (g':=g') (t':=t') (d':=d') u hok hg hch
end
noncomputable abbrev XK:=Value->Option Addr->Hp->Prop
noncomputable abbrev St:=List (Option V)
noncomputable abbrev VK:=V->Hp->Prop
noncomputable abbrev TE:=St->Hp->VK->Prop
noncomputable abbrev TT:=St->Hp->(Bool->Hp->Prop)->Prop
noncomputable abbrev TA:=St->Hp->(List V->Hp->Prop)->Prop
set_option genInjectivity false in
structure Ends where
 nx:St->Hp->Prop
 rt:VK
 bk:St->Hp->Prop:=λ_ _=>False
 ct:St->Hp->Prop:=λ_ _=>False
noncomputable abbrev TS:=Ends->St->Hp->Prop
noncomputable def EP(X:Cx)(pins:List (Addr×Obj))(σ:St)(Q:VK)(u:Value)(s':Shared):Prop:=∃v H',Inv X pins σ H' s'/\RelV v u/\Q v H'
noncomputable def TP(X:Cx)(pins:List (Addr×Obj))(σ:St)(Q:Bool->Hp->Prop)(b:Bool)(s':Shared):Prop:=∃H',Inv X pins σ H' s'/\Q b H'
noncomputable def AP(X:Cx)(pins:List (Addr×Obj))(σ:St)(Q:List V->Hp->Prop)(us:List Value)(s':Shared):Prop:=∃vs H',Inv X pins σ H' s'/\Vals vs us/\Q vs H'
noncomputable def SP(X:Cx)(pins:List (Addr×Obj))(D:Ends)(f:Flow)(s':Shared):Prop:=
 match f with
 |.next=>∃σ' H',Inv X pins σ' H' s'/\D.nx σ' H'
 |.brk=>∃σ' H',Inv X pins σ' H' s'/\D.bk σ' H'
 |.cont=>∃σ' H',Inv X pins σ' H' s'/\D.ct σ' H'
 |.ret u=>∃v σ' H',Inv X pins σ' H' s'/\RelV v u/\D.rt v H'
noncomputable def PE(X:Cx)(e:Expr)(t:TE):Prop:=
 ∀(pins:List (Addr×Obj))(s:Shared)(σ:St)(H:Hp)(Q:VK),Inv X pins σ H s->t σ H Q->wpAny (model X.prog X.w) X.A (eval e X.env) (EP X pins σ Q) X.xe s
noncomputable def PT(X:Cx)(e:Expr)(t:TT):Prop:=
 ∀(pins:List (Addr×Obj))(s:Shared)(σ:St)(H:Hp)(Q:Bool->Hp->Prop),Inv X pins σ H s->t σ H Q->wpAny (model X.prog X.w) X.A (isTrue e X.env (eval e X.env)) (TP X pins σ Q) X.xe s
noncomputable def PW(X:Cx)(e:Expr)(t:TT):Prop:=
 ∀(whole:Sem Value)(pins:List (Addr×Obj))(s:Shared)(σ:St)(H:Hp)(Q:Bool->Hp->Prop),Inv X pins σ H s->t σ H Q->wpAny (model X.prog X.w) X.A (isTrue e X.env whole) (TP X pins σ Q) X.xe s
theorem PW.pt{X:Cx}{e:Expr}{t:TT}(h:PW X e t):PT X e t:=h _
noncomputable def PA(X:Cx)(es:List Expr)(t:TA):Prop:=
 ∀(pos:Pos)(pins:List (Addr×Obj))(s:Shared)(σ:St)(H:Hp)(Q:List V->Hp->Prop),Inv X pins σ H s->t σ H Q->wpAny (model X.prog X.w) X.A (spliced (backTo pos (starEach es X.env))) (AP X pins σ Q) X.xe s
noncomputable def PS(X:Cx)(st:Stmt)(t:TS):Prop:=
 ∀(pins:List (Addr×Obj))(s:Shared)(σ:St)(H:Hp)(D:Ends),Inv X pins σ H s->t D σ H->wpAny (model X.prog X.w) X.A (exec st X.env) (SP X pins D) X.xe s
noncomputable def PSs(X:Cx)(st:List Stmt)(t:TS):Prop:=
 ∀(pins:List (Addr×Obj))(s:Shared)(σ:St)(H:Hp)(D:Ends),Inv X pins σ H s->t D σ H->wpAny (model X.prog X.w) X.A (execs st X.env) (SP X pins D) X.xe s
theorem thn{α:Type}{t:Sem α}{Q Q':α->Shared->Prop}{M:Model}{A:Around}{E:Value->Shared->Prop}{s:Shared}(h:wpAny M A t Q E s)(hQ:∀a s,Q a s->Q' a s):wpAny M A t Q' E s:=wpAny_mono h hQ λ_ _ x=>x
section
variable{X:Cx}
theorem bin{a b:Expr}{ta tb:TE}(ha:PE X a ta)(hb:PE X b tb){pins:List (Addr×Obj)}{s:Shared}{σ:St}{H:Hp}{R:V->V->Hp->Prop}(I:Inv X pins σ H s)(h:ta σ H λx H1=>tb σ H1 λy H2=>R x y H2)
 {α:Type} {Q:α->Shared->Prop} {f:Value->Value->Sem α}
 (hf:∀v u s2 x y H2,Inv X pins σ H2 s2->RelV x v->RelV y u->R x y H2->wpAny (model X.prog X.w) X.A (f v u) Q X.xe s2) :
 wpAny (model X.prog X.w) X.A (eval a X.env) (λv s₁=>wpAny (model X.prog X.w) X.A (eval b X.env) (λu s₂=>wpAny (model X.prog X.w) X.A (f v u) Q X.xe s₂) X.xe s₁) X.xe s:=by
 refine thn (ha pins s σ H _ I h) λv s1 ⟨x,H1,I1,r1,q1⟩=>?_
 refine thn (hb pins s1 σ H1 _ I1 q1) λu s2 ⟨y,H2,I2,r2,q2⟩=>?_
 exact hf v u s2 x y H2 I2 r1 r2 q2
noncomputable def tVar(i:Nat):TE:=λσ H Q=>∃v,σ[i]?=some (some v)/\Q v H
noncomputable def tC(v:V):TE:=λ_ H Q=>Q v H
theorem fJ {i:Nat} {x:Str} {pos:Pos} (hN:X.N[i]?=some x) (hv:Vis X.env.scope x) (hd:(x==("__debug__" : Str))=false:=by decide) (hcd:(x==("__classdict__" : Str))=false:=by decide):PE X (.Name x pos) (tVar i):=by
 intro pins s σ H Q I h
 obtain⟨v,e,h⟩:=h
 obtain⟨m,hn,hl⟩:=I.loc
 obtain⟨u,r,l⟩:=hl i x v hN e hv
 have fin:EP X pins σ Q u s:=⟨v,H,I,r,h⟩
 rcases l with⟨hk,hm⟩|⟨hk,c,hc,hcell⟩
 ·exact wpAny_Name (wpAny_loadName_local I.ok.kind hk hn hm fin) hd
 ·rcases hk with hk|hk
  ·exact wpAny_Name (wpAny_loadName_cell I.ok.kind hk hc hcell fin) hd
  ·exact wpAny_Name (wpAny_loadName_free I.ok.kind hk hc hcell fin hcd) hd
theorem pe_int{i j pos}:PE X (.Constant (.int i) j pos) (tC (.int i)):=λ_ _ _ H _ I h=>wpAny_Constant_int ⟨.int i,H,I.tok _,⟨_,rfl⟩,h⟩
theorem pe_bl{b j pos}:PE X (.Constant (.bool b) j pos) (tC (.bl b)):=λ_ _ _ H _ I h=>Constant_bool ⟨.bl b,H,I,rfl,h⟩
theorem pe_non{j pos}:PE X (.Constant .none j pos) (tC .non):=λ_ _ _ H _ I h=>Constant_none ⟨.non,H,I,rfl,h⟩
theorem pe_str{x j pos}:PE X (.Constant (.str x) j pos) (tC (.str x)):=λ_ _ _ H _ I h=>Calls.Constant_str ⟨.str x,H,I.tok _,⟨_,rfl⟩,h⟩
noncomputable def Gl(X:Cx)(x:Str):Prop:=X.env.kindOf x=some .globalImplicit
theorem sW{E:Value->Shared->Prop}{pins:List (Addr×Obj)}{s:Shared}{σ:St}{H:Hp}{x:Str}{u:Value}{pos:Pos}{Q:Value->Shared->Prop}(I:Inv X pins σ H s)(hg:Gl X x)(hm:X.mg x=some u)(h:Q u s)
 (hd:(x==("__debug__" : Str))=false:=by decide):wpAny (model X.prog X.w) X.A (eval (.Name x pos) X.env) Q E s:=
 Calls.Name_function_global I.ok.kind hg (Calls.loadGlobal_global (by rw[I.ok.glob];exact I.mod.glob.keeps I.bk) hm h) hd
theorem jR{E:Value->Shared->Prop}{pins:List (Addr×Obj)}{s:Shared}{σ:St}{H:Hp}{x:Str}{u:Value}{pos:Pos}{Q:Value->Shared->Prop}(I:Inv X pins σ H s)(hg:Gl X x)(hm:X.mg x=none)(hv:bootBuiltins x=some u)(h:Q u s)
 (hn:x ≠ "__name__" := by decide) (hd:(x==("__debug__" : Str))=false:=by decide):wpAny (model X.prog X.w) X.A (eval (.Name x pos) X.env) Q E s:=by
 obtain⟨mb,h1,h2⟩:=I.mod.blt
 exact Calls.Name_function_global I.ok.kind hg (Calls.loadGlobal_builtin (by rw[I.ok.glob];exact I.mod.glob.keeps I.bk) hm (by rw[I.ok.blt];exact h1.keeps I.bk) ((h2 x hn).trans hv) h) hd
theorem EC {x:Str} {v:V} {u:Value} {pos:Pos} (hg:Gl X x) (hm:X.mg x=some u) (r:RelV v u) (hd:(x==("__debug__" : Str))=false:=by decide):PE X (.Name x pos) (tC v):=
 λ_ _ _ H _ I h=>sW I hg hm ⟨v,H,I,r,h⟩ hd
theorem ED {x:Str} {v:V} {u:Value} {pos:Pos} (hg:Gl X x) (hm:X.mg x=none) (hv:bootBuiltins x=some u) (r:RelV v u) (hn:x ≠ "__name__" := by decide) (hd:(x==("__debug__" : Str))=false:=by decide):PE X (.Name x pos) (tC v):=
 λ_ _ _ H _ I h=>jR I hg hm hv ⟨v,H,I,r,h⟩ hn hd
variable{a b:Expr}{ta tb:TE}{pos:Pos}
variable{tA tB':TT}{rest:List Expr}
noncomputable def tAnd(t u:TT):TT:=λσ H Q=>t σ H λc H1=>if c=true then u σ H1 Q else Q false H1
noncomputable def tOr(t u:TT):TT:=λσ H Q=>t σ H λc H1=>if c=true then Q true H1 else u σ H1 Q
noncomputable def tNot(t:TT):TT:=λσ H Q=>t σ H λc H1=>Q (!c) H1
theorem EF(ha:PT X a tA):PW X (.BoolOp .And [a] pos) tA:=by
 intro wh pins s σ H Q I h
 refine isTrue_and (thn (ha pins s σ H Q I h) λc s1 e=>?_)
 cases c with
 |true=>exact isTrue_and_nil e
 |false=>exact e
theorem pw_or1(ha:PT X a tA):PW X (.BoolOp .Or [a] pos) tA:=by
 intro wh pins s σ H Q I h
 refine isTrue_or (thn (ha pins s σ H Q I h) λc s1 e=>?_)
 cases c with
 |false=>exact isTrue_or_nil e
 |true=>exact e
theorem pw_and(ha:PT X a tA)(hb:PW X (.BoolOp .And (b::rest) pos) tB'):PW X (.BoolOp .And (a::b::rest) pos) (tAnd tA tB'):=by
 intro wh pins s σ H Q I h
 refine isTrue_and (thn (ha pins s σ H _ I h) λc s1 ⟨H1,I1,q1⟩=>?_)
 cases c with
 |true=>exact hb wh pins s1 σ H1 Q I1 q1
 |false=>exact⟨H1,I1,q1⟩
theorem pw_or(ha:PT X a tA)(hb:PW X (.BoolOp .Or (b::rest) pos) tB'):PW X (.BoolOp .Or (a::b::rest) pos) (tOr tA tB'):=by
 intro wh pins s σ H Q I h
 refine isTrue_or (thn (ha pins s σ H _ I h) λc s1 ⟨H1,I1,q1⟩=>?_)
 cases c with
 |true=>exact⟨H1,I1,q1⟩
 |false=>exact hb wh pins s1 σ H1 Q I1 q1
theorem pt_not(ha:PT X a tA):PT X (.UnaryOp .Not a pos) (tNot tA):=by
 intro pins s σ H Q I h
 exact isTrue_not (ha pins s σ H (λc H1=>Q (!c) H1) I h)
theorem pe_one{op}{t:TE}(h:PE X a t):PE X (.BoolOp op [a] pos) t:=λpins s σ H Q I hw=>BoolOp_one (h pins s σ H Q I hw)
noncomputable def tIf(t:TT)(ta tb:TE):TE:=λσ H Q=>t σ H λc H1=>if c=true then ta σ H1 Q else tb σ H1 Q
theorem EG{c:Expr}(hc:PT X c tA)(ha:PE X a ta)(hb:PE X b tb):PE X (.IfExp c a b pos) (tIf tA ta tb):=by
 intro pins s σ H Q I h
 refine wpAny_IfExp (thn (hc pins s σ H _ I h) λd s1 ⟨H1,I1,q1⟩=>?_)
 cases d with
 |true=>exact ha pins s1 σ H1 Q I1 q1
 |false=>exact hb pins s1 σ H1 Q I1 q1
end
noncomputable def SqL(K:PySem.W.Frag)(H:Hp)(a:Addr)(xs:List V):Prop:=
 Rd H a (.lst xs) \/
  ∃(o:Obj) (its:Array Value) (n:Nat),K.lookup a=some o/\o.cls=.type "list" /\ o.dict=none/\o.data=.seq its n/\its.size<=sizeLine/\Vals xs its.toList
noncomputable def SqT(K:PySem.W.Frag)(H:Hp)(a:Addr)(xs:List V):Prop:=
 Rd H a (.tup xs) \/
  ∃(o:Obj) (its:Array Value) (n:Nat),K.lookup a=some o/\o.cls=.type "tuple" /\ o.data=.seq its n/\its.size<=sizeLine/\Vals xs its.toList
noncomputable def absV:Value->Option V
 |.none=>some .non
 |.bool b=>some (.bl b)
 |.int i _=>some (.int i)
 |.str x _=>some (.str x)
 |.bytes b _=>some (.byt b)
 |.float b _=>some (.flt b)
 |.ref a=>some (.ref a)
 |.type n=>some (.ty n)
 |_=>none
theorem RelV.abs{x:V}{u:Value}(r:RelV x u):absV u=some x:=by
 cases x with
 |non=>cases r;rfl
 |bl _=>cases r;rfl
 |int _=>obtain⟨t,rfl⟩:=r;rfl
 |str _=>obtain⟨t,rfl⟩:=r;rfl
 |byt _=>obtain⟨t,rfl⟩:=r;rfl
 |flt _=>obtain⟨t,rfl⟩:=r;rfl
 |ref _=>cases r;rfl
 |ty _=>cases r;rfl
theorem RelV.inj{x y:V}{u:Value}(r:RelV x u)(q:RelV y u):x=y:=eA.inj (r.abs.symm.trans q.abs)
theorem Vals.inj:∀{xs ys:List V} {us:List Value},Vals xs us->Vals ys us->xs=ys
 |_,_,_,.nil,.nil=>rfl
 |_,_,_,.cons r t,.cons r' t'=>by rw[r.inj r',Vals.inj t t']
section
variable{X:Cx}{pins:List (Addr×Obj)}{σ:St}{H:Hp}{s:Shared}{a:Addr}{xs ys:List V}
theorem SqL.of{K:PySem.W.Frag}(h:H a=some (.lst xs)):SqL K H a xs:=.inl (.inl h)
theorem Inv.list(I:Inv X pins σ H s)(h:SqL X.K H a xs):∃its:List Value,Vals xs its/\PlainL s.heap a its.toArray/\xs.length<=sizeLine:=by
 rcases h with h|⟨o,its,n,hk,hc,hd,hs,hz,r⟩
 ·obtain⟨z,its,n,r,e⟩:=h.ok I.hok
  exact⟨its,r,⟨_,n,e,rfl,rfl,rfl⟩,z⟩
 ·refine⟨its.toList,r,⟨o,n,I.kIn a o hk,hc,hd,by simpa using hs⟩,?_⟩
  have e:=r.length
  simp only[eG]at e
  lia
theorem Inv.tuple(I:Inv X pins σ H s)(h:SqT X.K H a xs):∃its:List Value,Vals xs its/\IsTup s.heap a its.toArray/\xs.length<=sizeLine:=by
 rcases h with h|⟨o,its,n,hk,hc,hs,hz,r⟩
 ·obtain⟨z,its,r,p⟩:=h.ok I.hok
  exact⟨its,r,p,z⟩
 ·refine⟨its.toList,r,⟨o,I.kIn a o hk,hc,n,by simpa using hs⟩,?_⟩
  have e:=r.length
  simp only[eG]at e
  lia
theorem Inv.list_inj(I:Inv X pins σ H s)(h:SqL X.K H a xs)(h':SqL X.K H a ys):xs=ys:=by
 obtain⟨its,r,⟨o,n,e,_,_,d⟩,_⟩:=I.list h
 obtain⟨its',r',⟨o',n',e',_,_,d'⟩,_⟩:=I.list h'
 rw[e]at e';cases e'
 rw[d]at d'
 injection d' with d1 _
 have:its=its':=by simpa using congrArg Array.toList d1
 subst this
 exact r.inj r'
theorem Inv.tuple_inj(I:Inv X pins σ H s)(h:SqT X.K H a xs)(h':SqT X.K H a ys):xs=ys:=by
 obtain⟨its,r,⟨o,e,_,n,d⟩,_⟩:=I.tuple h
 obtain⟨its',r',⟨o',e',_,n',d'⟩,_⟩:=I.tuple h'
 rw[e]at e';cases e'
 rw[d]at d'
 injection d' with d1 _
 have:its=its':=by simpa using congrArg Array.toList d1
 subst this
 exact r.inj r'
end
noncomputable abbrev Cx.wish(X:Cx)(E:Value->Shared->Prop):Cx:={X with xe:=E}
noncomputable abbrev Cx.nox(X:Cx):Cx:=X.wish λ_ _=>False
theorem Cx.Ok.wish{X:Cx}(ok:X.Ok)(E:Value->Shared->Prop):(X.wish E).Ok:=
 ⟨ok.mod,ok.kind,ok.glob,ok.blt,ok.above,ok.inj,ok.has,ok.cab,ok.hd,ok.frames,ok.stk,ok.exf,ok.bs,ok.bsz,ok.noex,ok.exfs,ok.funs,ok.frf⟩
theorem Cx.Ok.unwish{X:Cx}{E:Value->Shared->Prop}(ok:(X.wish E).Ok):X.Ok:=
 ⟨ok.mod,ok.kind,ok.glob,ok.blt,ok.above,ok.inj,ok.has,ok.cab,ok.hd,ok.frames,ok.stk,ok.exf,ok.bs,ok.bsz,ok.noex,ok.exfs,ok.funs,ok.frf⟩
section
variable{X:Cx}{pins:List (Addr×Obj)}{σ:St}{H:Hp}{s:Shared}{E:Value->Shared->Prop}
theorem Inv.wish(I:Inv X pins σ H s)(E:Value->Shared->Prop):Inv (X.wish E) pins σ H s:=⟨I.ok.wish E,I.os,I.bare,I.base,I.loc,I.cell,I.free,I.freeC,I.pin,I.hok,I.len⟩
theorem Inv.unwish(I:Inv (X.wish E) pins σ H s):Inv X pins σ H s:=⟨I.ok.unwish,I.os,I.bare,I.base,I.loc,I.cell,I.free,I.freeC,I.pin,I.hok,I.len⟩
theorem SP.unwish{D:Ends}{f:Flow}{s':Shared}(h:SP (X.wish E) pins D f s'):SP X pins D f s':=by
 cases f with
 |next=>obtain⟨σ',H',I,q⟩:=h;exact⟨σ',H',I.unwish,q⟩
 |brk=>obtain⟨σ',H',I,q⟩:=h;exact⟨σ',H',I.unwish,q⟩
 |cont=>obtain⟨σ',H',I,q⟩:=h;exact⟨σ',H',I.unwish,q⟩
 |ret u=>obtain⟨v,σ',H',I,r,q⟩:=h;exact⟨v,σ',H',I.unwish,r,q⟩
theorem PSs.nox{st:List Stmt}{t:TS}(h:PSs X.nox st t):PSs X st t:=λpins s σ H D I hw=>
 wpAny_mono (h pins s σ H D (I.wish _) hw) (λ_ _ q=>q.unwish) λ_ _ z=>False.elim z
end
section
variable{X:Cx}{st:Stmt}{rest:List Stmt}{t u:TS}{e:Expr}{te:TE}{pos:Pos}
noncomputable def tNext:TS:=λD σ H=>D.nx σ H
noncomputable def tSeq(t u:TS):TS:=λD σ H=>t {D with nx:=u D} σ H
theorem EH:PSs X [] tNext:=λ_ _ σ H _ I h=>wpAny_execs_nil ⟨σ,H,I,h⟩
theorem EI(h1:PS X st t)(h2:PSs X rest u):PSs X (st::rest) (tSeq t u):=by
 intro pins s σ H D I h
 refine wpAny_execs_cons (thn (h1 pins s σ H {D with nx:=u D} I h) λf s1 q=>?_)
 cases f with
 |next=>
  obtain⟨σ',H',I',q⟩:=q
  exact h2 pins s1 σ' H' D I' q
 |ret v=>exact q
 |brk=>exact q
 |cont=>exact q
theorem Inv.quiet{pins:List (Addr×Obj)}{σ:St}{H:Hp}{s:Shared}(I:Inv X pins σ H s):interactive X.env=false:=by simp[interactive,I.ok.kind]
noncomputable def tDrop(te:TE):TS:=λD σ H=>te σ H λ_ H1=>D.nx σ H1
theorem mN(he:PE X e te)(hs:swapsWith e none pos.line X.env=pure false:=by rfl):PS X (.Expr e pos) (tDrop te):=by
 intro pins s σ H D I h
 exact wpAny_Expr_any (thn (he pins s σ H _ I h) λv s1 ⟨x,H1,I1,r1,q1⟩=>⟨σ,H1,I1,q1⟩) I.quiet hs
noncomputable def tRet(te:TE):TS:=λD σ H=>te σ H D.rt
theorem sX(he:PE X e te):PS X (.Return (some e) pos) (tRet te):=by
 intro pins s σ H D I h
 exact wpAny_Return_some (thn (he pins s σ H _ I h) λv s1 ⟨x,H1,I1,r1,q1⟩=>⟨x,σ,H1,I1,r1,q1⟩)
noncomputable def tIfS(c:TT)(t u:TS):TS:=λD σ H=>c σ H λb H1=>if b=true then t D σ H1 else u D σ H1
theorem ps_if{c:Expr}{a b:List Stmt}{tc:TT}(hc:PT X c tc)(ha:PSs X a t)(hb:PSs X b u):PS X (.If c a b pos) (tIfS tc t u):=by
 intro pins s σ H D I h
 refine wpAny_If (thn (hc pins s σ H _ I h) λd s1 ⟨H1,I1,q1⟩=>?_)
 cases d with
 |true=>exact ha pins s1 σ H1 D I1 q1
 |false=>exact hb pins s1 σ H1 D I1 q1
end
noncomputable abbrev TG:=V->St->Hp->(St->Hp->Prop)->Prop
noncomputable abbrev TGs:=List V->St->Hp->(St->Hp->Prop)->Prop
noncomputable def PG(X:Cx)(target:Expr)(t:TG):Prop:=
 ∀(pins:List (Addr×Obj))(s:Shared)(σ:St)(H:Hp)(v:V)(u:Value)(Q:St->Hp->Prop),Inv X pins σ H s->RelV v u->t v σ H Q ->
  wpAny (model X.prog X.w) X.A (assign target X.env u) (λ_ s'=>∃σ' H',Inv X pins σ' H' s'/\Q σ' H') X.xe s
noncomputable def PGs(X:Cx)(ts:List Expr)(t:TGs):Prop:=
 ∀(pins:List (Addr×Obj))(s:Shared)(σ:St)(H:Hp)(vs:List V)(us:List Value)(Q:St->Hp->Prop),Inv X pins σ H s->Vals vs us->t vs σ H Q ->
  wpAny (model X.prog X.w) X.A (assignInOrder ((assignEach ts X.env).map (·.2)) us) (λ_ s'=>∃σ' H',Inv X pins σ' H' s'/\Q σ' H') X.xe s
noncomputable abbrev TSet:=V->V->V->Hp->(Hp->Prop)->Prop
noncomputable def PSet(X:Cx)(t:TSet):Prop:=
 ∀(pins:List (Addr×Obj))(s:Shared)(σ:St)(H:Hp)(o i v:V)(ov iv u:Value)(Q:Hp->Prop),Inv X pins σ H s->RelV o ov->RelV i iv->RelV v u->t o i v H Q ->
  wpAny (model X.prog X.w) X.A (setItem ov iv u) (λ_ s'=>∃H',Inv X pins σ H' s'/\Q H') X.xe s
section
variable{X:Cx}{pos:Pos}
noncomputable def yL(i:Nat):TG:=λv σ H Q=>Q (σ.set i (some v)) H
theorem yM{i:Nat}{x:Str}(hN:X.N.Nodup)(hi:X.N[i]?=some x)(hx:Loc X.env.scope x)(hf:X.fn x=true\/X.env.scope.names.lookup x=some .local:=by first|exact .inl rfl|exact .inr rfl|assumption):PG X (.Name x pos) (yL i):=by
 intro pins s σ H v u Q I r h
 exact wpAny_assign_Name (yK I hN hi hx r (λs' I'=>⟨_,H,I',h⟩) hf)
noncomputable def gNil:TGs:=λvs σ H Q=>vs=[]/\Q σ H
noncomputable def gCons(t:TG)(u:TGs):TGs:=λvs σ H Q=>∃v r,vs=v::r/\t v σ H λσ' H'=>u r σ' H' Q
theorem EJ:PGs X [] gNil:=by
 intro pins s σ H vs us Q I r h
 obtain⟨e,h⟩:=h
 subst e
 cases r
 exact assignInOrder_nil ⟨σ,H,I,h⟩
theorem EK{e:Expr}{es:List Expr}{t:TG}{u:TGs}(h1:PG X e t)(h2:PGs X es u)
 (hs:(assignEach (e::es) X.env).map (·.2)=assign e X.env::(assignEach es X.env).map (·.2):=by rfl):PGs X (e::es) (gCons t u):=by
 intro pins s σ H vs us Q I r h
 obtain⟨v,vr,e1,h⟩:=h
 subst e1
 cases r with
 |cons r rr=>
  rw[hs]
  refine assignInOrder_cons (thn (h1 pins s σ H _ _ _ I r h) λ_ s1 ⟨σ1,H1,I1,q1⟩=>?_)
  exact h2 pins s1 σ1 H1 _ _ Q I1 rr q1
noncomputable def gTup(K:PySem.W.Frag)(n:Nat)(t:TGs):TG:=λv σ H Q=>∃a xs,v=.ref a/\SqT K H a xs/\xs.length=n/\t xs σ H Q
theorem pg_tup{es:List Expr}{k:Nat}{t:TGs}{n:Nat}(hc:X.calm=true)(h:PGs X es t)
 (hn:(assignEach es X.env).length=n:=by rfl) (hst:(assignEach es X.env).findIdx? (·.1)=none:=by rfl):PG X (.Tuple es k pos) (gTup X.K n t):=by
 intro pins s σ H v u Q I r hw
 obtain⟨a,xs,e1,hq,hl,hw⟩:=hw
 subst e1
 cases r
 obtain⟨its,rv,ht,hz⟩:=I.tuple hq
 refine assign_Tuple_tuple (I.ok.hd hc) ht (by simp[hn,<-hl,rv.length]) hst λh' hx=>?_
 have I1:Inv X pins σ H {s with heap:=h' }:=I.kept (t':=s.toks) λb o e=>hx b o (bD (Heap.lt_size e)) e
 exact h pins _ σ H xs _ Q I1 (by simpa using rv) hw
noncomputable def gSub(to ti:TE)(t:TSet):TG:=λv σ H Q=>to σ H λo H1=>ti σ H1 λi H2=>t o i v H2 λH3=>Q σ H3
theorem pg_sub{o i:Expr}{to ti:TE}{t:TSet}(ho:PE X o to)(hi:PE X i ti)(hs:PSet X t)
 (ha:∀v,assign (.Subscript o i pos) X.env v=(do
  let ov<-holding [v] (eval o X.env)
  let iv<-holding [v,ov] (eval i X.env)
  standAt pos
  holding [v,ov,iv] (setItem ov iv v)
  release [v,ov,iv] []):=by intro _;rfl):PG X (.Subscript o i pos) (gSub to ti t):=by
 intro pins s σ H v u Q I r h
 rw[ha]
 refine wpAny_bind (wpAny_holding (thn (ho pins s σ H _ I h) λov s1 ⟨x,H1,I1,r1,q1⟩=>?_))
 refine wpAny_bind (wpAny_holding (thn (hi pins s1 σ H1 _ I1 q1) λiv s2 ⟨y,H2,I2,r2,q2⟩=>?_))
 refine wpAny_bind (wpAny_standAt (wpAny_bind (wpAny_holding (thn (hs pins s2 σ H2 x y v ov iv u _ I2 r1 r2 r q2) λ_ s3 ⟨H3,I3,q3⟩=>?_))))
 exact wpAny_release ⟨σ,H3,I3,q3⟩
noncomputable def tAsg(te:TE)(g:TG):TS:=λD σ H=>te σ H λx H1=>g x σ H1 D.nx
theorem yN{tg e:Expr}{te:TE}{g:TG}(he:PE X e te)(hg:PG X tg g)(hs:swapsWithSole [tg] e pos.line X.env=pure false:=by rfl)(hw:swappedStores [tg] e X.env=pure none:=by rfl)
 (h1:(assignEach [tg] X.env).map (·.2)=[assign tg X.env]:=by rfl):PS X (.Assign [tg] e pos) (tAsg te g):=by
 intro pins s σ H D I h
 refine wpAny_Assign_stores (thn (he pins s σ H _ I h) λv s1 ⟨x,H1,I1,r1,q1⟩=>?_) hs hw
 rw[h1]
 exact thn (hg pins s1 σ H1 x v _ I1 r1 q1) λ_ s2 q=>q
theorem mO{i:Nat}{x:Str}{e:Expr}{te:TE}{pos':Pos}(hN:X.N.Nodup)(hi:X.N[i]?=some x)(hx:Loc X.env.scope x)(he:PE X e te)(hs:swapsWith e (some (.Name x pos')) pos.line X.env=pure false:=by rfl)(hf:X.fn x=true\/X.env.scope.names.lookup x=some .local:=by first|exact .inl rfl|exact .inr rfl|assumption) :
 PS X (.Assign [.Name x pos'] e pos) (tAsg te (yL i)):=by
 intro pins s σ H D I h
 refine wpAny_Assign_Name (thn (he pins s σ H _ I h) λv s1 ⟨y,H1,I1,r1,q1⟩=>?_) hs
 exact yK I1 hN hi hx r1 (λs2 I2=>⟨_,H1,I2,q1⟩) hf
end
section
variable{X:Cx}{pos:Pos}
end
set_option genInjectivity false in
structure It where
 go:Nat->Hp->Prop
 yld:Nat->Hp->V->Hp->Prop
 stop:Nat->Hp->Prop
noncomputable def fY(X:Cx)(pins:List (Addr×Obj))(H:Hp)(b:Addr):Prop:=
 H b=none/\b≠X.env.locals/\b∉X.fs/\(b∈X.ex\/X.s₀.heap.objs.size<=b)/\(∀x c,X.env.cells.lookup x=some c->c≠b)/\∀p∈X.pn++pins,p.1≠b
theorem Inv.fpOk{X:Cx}{pins:List (Addr×Obj)}{σ:St}{H H':Hp}{s:Shared}{b:Addr}(I:Inv X pins σ H s)(hb:s.heap.objs.size<=b)(hn:H' b=none):fY X pins H' b:=by
 refine⟨hn,oD (dH I.lt hb),I.nofs hb,.inr (aW I.sz hb),λx c e z=>?_,λp hp z=>?_⟩
 ·obtain⟨v,q⟩:=I.cell x c e
  exact absurd (dH q.lt (by rw[z];exact hb)) (fT _)
 ·exact absurd (dH (Heap.lt_size (I.pin p hp).1) (by rw[z];exact hb)) (fT _)
set_option genInjectivity false in
structure Turn(P:Program)(w:World)(K:PySem.W.Frag)(tg:Expr)(J:It)(fp:List Addr)(it:Addr)(tn:Nat->Heap->Prop):Prop where
 mem:it∈fp
 obj:∀i h,tn i h->∀b∈fp,∃o,h.get? b=some o/\∀v,o.data≠.cell v
 keep:∀i h h',tn i h->(∀b∈fp,∀o,h.get? b=some o->h'.get? b=some o)->tn i h'
 item:∀(X:Cx),X.prog=P->X.w=w->X.K=K->X.calm=true->∀(i:Nat)(pins:List (Addr×Obj))(s:Shared)(σ:St)(H:Hp)(E:Value->Shared->Prop),Inv X pins σ H s->(∀b∈fp,fY X pins H b)->tn i s.heap->J.go i H ->
  wpAny (model P w) X.A (pyNext (.ref it)) (λr s1=>∃u,r=some u /\
   wpAny (model P w) X.A (letOwnedTupleGo tg (.ref it) u) (λ_ s2=>∃x H',Inv X pins σ H' s2/\RelV x u/\J.yld i H x H'/\tn (i+1) s2.heap/\∀b∈fp,H' b=none) E s1) E s
 done:∀(X:Cx),X.prog=P->X.w=w->X.K=K->X.calm=true->∀(i:Nat)(pins:List (Addr×Obj))(s:Shared)(σ:St)(H:Hp)(E:Value->Shared->Prop),Inv X pins σ H s->(∀b∈fp,fY X pins H b)->tn i s.heap->J.stop i H ->
  wpAny (model P w) X.A (pyNext (.ref it)) (λr s1=>r=none/\Inv X pins σ H s1) E s
 self:∀(A:Around)(i:Nat)(s:Shared)(Q:Value->Shared->Prop)(E:Value->Shared->Prop),tn i s.heap->Q (.ref it) s->wpAny (model P w) A (pyIter (.ref it)) Q E s
noncomputable abbrev TI:=St->Hp->(It->Hp->Prop)->Prop
noncomputable def PIE(X:Cx)(pins:List (Addr×Obj))(σ:St)(tg:Expr)(R:It->Hp->Prop)(itv:Value)(s2:Shared):Prop:=
 ∃(it:Addr)(fp:List Addr)(tn:Nat->Heap->Prop)(J:It)(H':Hp),itv=.ref it/\Inv X pins σ H' s2/\Turn X.prog X.w X.K tg J fp it tn/\tn 0 s2.heap/\(∀b∈fp,fY X pins H' b)/\R J H'
noncomputable def PI(X:Cx)(tg iter:Expr)(wi:TI):Prop:=
 ∀(pins:List (Addr×Obj))(s:Shared)(σ:St)(H:Hp)(R:It->Hp->Prop),Inv X pins σ H s->wi σ H R ->
  wpAny (model X.prog X.w) X.A (eval iter X.env) (λv s1=>wpAny (model X.prog X.w) X.A (pyIter v) (PIE X pins σ tg R) X.xe s1) X.xe s
theorem mP{M:Model}{A:Around}{E:Value->Shared->Prop}{s:Shared}{tg:Expr}{it:Addr}{u:Value}{o:Obj}{n:String}{vs:Array Value}{Q:Unit->Shared->Prop}(ho:s.heap.get? it=some o)(hc:o.cls=.type n)(hd:o.data=.fields vs)
 (hn:["enumerate", "zip", "dict_itemiterator", "dict_reverseitemiterator", "odict_iterator", "itertools.zip_longest", "itertools.pairwise"].contains n=false) (hQ:Q () s):wpAny M A (letOwnedTupleGo tg (.ref it) u) Q E s:=by
 unfold letOwnedTupleGo
 cases tg<;>first
  |exact wpAny_pure hQ
  |(cases u<;>first
   |exact wpAny_pure hQ
   | (refine wpAny_bind (wpAny_load ho ?_)
      rw[hc,hd]
      show wpAny M A (if(["enumerate", "zip", "dict_itemiterator", "dict_reverseitemiterator", "odict_iterator", "itertools.zip_longest", "itertools.pairwise"].contains n&&vs[0]?==some (rawInt _))=true then _ else _) Q E s
      rw[if_neg (by intro h;rw[hn,hZ]at h;cases h)]
      exact wpAny_pure hQ))
noncomputable def Itl(K:PySem.W.Frag)(a:Addr):It:=
 ⟨λi H=>∃xs x,SqL K H a xs/\xs[i]?=some x,λi H x H'=>H'=H/\∀xs,SqL K H a xs->xs[i]?=some x,λi H=>∃xs,SqL K H a xs/\xs.length<=i⟩
noncomputable def Itt(K:PySem.W.Frag)(a:Addr):It:=
 ⟨λi H=>∃xs x,SqT K H a xs/\xs[i]?=some x,λi H x H'=>H'=H/\∀xs,SqT K H a xs->xs[i]?=some x,λi H=>∃xs,SqT K H a xs/\xs.length<=i⟩
noncomputable def Itr(lo:Int)(n:Nat):It:=⟨λi _=>i<n,λi H x H'=>H'=H/\x=.int (lo+i),λi _=>n<=i⟩
theorem EL{P:Program}{w:World}{K:PySem.W.Frag}{tg:Expr}(a it:Addr):Turn P w K tg (Itl K a) [it] it (λi h=>h.IsListIter it a i) where
 mem:=by simp
 obj:=λi h st b hb=>by
  have e:b=it:=by simpa using hb
  subst e
  obtain⟨o,e,c,d⟩:=st
  exact⟨o,e,λv z=>by rw[d]at z;cases z⟩
 keep:=λi h h' st k=>st.at λo e=>k it (by simp) o e
 item:=by
  intro X hP hw hK hc i pins s σ H E I hf st hg
  subst hP hw hK
  obtain⟨xs,x,hq,hx⟩:=hg
  obtain⟨its,rv,p,hz⟩:=I.list hq
  obtain⟨u,hu,ru⟩:=rv.get hx
  obtain⟨f0,f1,f2,f3,f4,f5⟩:=hf it (by simp)
  refine wpAny_pyNext_list_item st p.isList (x:=u) (by simpa using hu) λh' st' sb=>?_
  have I1:Inv X pins σ H {s with heap:=h' }:=I.turned (t':=s.toks) (λb o hb e=>(sb.2 b hb).trans e) f0 f1 f3 f4 f5
  obtain⟨o,e,c,d⟩:=id st'
  exact⟨u,rfl,mP (s:={s with heap:=h' }) e c d (by decide) ⟨x,H,I1,ru,⟨rfl,λys hy=>by rw[I.list_inj hy hq];exact hx⟩,st',λb hb=>(hf b hb).1⟩⟩
 done:=by
  intro X hP hw hK hc i pins s σ H E I hf st hg
  subst hP hw hK
  obtain⟨xs,hq,hx⟩:=hg
  obtain⟨its,rv,p,hz⟩:=I.list hq
  obtain⟨f0,f1,f2,f3,f4,f5⟩:=hf it (by simp)
  have hl:=rv.length
  exact wpAny_pyNext_list_end (I.ok.hd hc) st p.isList (by simp;lia) λh' eb=>⟨rfl,I.turned (t':=s.toks) (λb o hb e=>eb b o hb e) f0 f1 f3 f4 f5⟩
 self:=λ_ _ _ _ _ st h=>wpAny_pyIter_listiter st h
theorem EM{P:Program}{w:World}{K:PySem.W.Frag}{tg:Expr}(a it:Addr):Turn P w K tg (Itt K a) [it] it (λi h=>h.IsTupleIter it a i) where
 mem:=by simp
 obj:=λi h st b hb=>by
  have e:b=it:=by simpa using hb
  subst e
  obtain⟨o,e,c,d⟩:=st
  exact⟨o,e,λv z=>by rw[d]at z;cases z⟩
 keep:=λi h h' st k=>st.at λo e=>k it (by simp) o e
 item:=by
  intro X hP hw hK hc i pins s σ H E I hf st hg
  subst hP hw hK
  obtain⟨xs,x,hq,hx⟩:=hg
  obtain⟨its,rv,p,hz⟩:=I.tuple hq
  obtain⟨u,hu,ru⟩:=rv.get hx
  obtain⟨f0,f1,f2,f3,f4,f5⟩:=hf it (by simp)
  refine wpAny_pyNext_tuple_item st (show s.heap.IsTuple a its.toArray from p) (x:=u) (by simpa using hu) λh' st' sb=>?_
  have I1:Inv X pins σ H {s with heap:=h' }:=I.turned (t':=s.toks) (λb o hb e=>(sb.2 b hb).trans e) f0 f1 f3 f4 f5
  obtain⟨o,e,c,d⟩:=id st'
  exact⟨u,rfl,mP (s:={s with heap:=h' }) e c d (by decide) ⟨x,H,I1,ru,⟨rfl,λys hy=>by rw[I.tuple_inj hy hq];exact hx⟩,st',λb hb=>(hf b hb).1⟩⟩
 done:=by
  intro X hP hw hK hc i pins s σ H E I hf st hg
  subst hP hw hK
  obtain⟨xs,hq,hx⟩:=hg
  obtain⟨its,rv,p,hz⟩:=I.tuple hq
  obtain⟨f0,f1,f2,f3,f4,f5⟩:=hf it (by simp)
  have hl:=rv.length
  exact wpAny_pyNext_tuple_end (I.ok.hd hc) st (show s.heap.IsTuple a its.toArray from p) (by simp;lia) λh' eb=>⟨rfl,I.turned (t':=s.toks) (λb o hb e=>eb b o hb e) f0 f1 f3 f4 f5⟩
 self:=λ_ _ _ _ _ st h=>wpAny_pyIter_tupleiter st h
theorem EN{P:Program}{w:World}{K:PySem.W.Frag}{tg:Expr}(it:Addr)(lo:Int)(n:Nat):Turn P w K tg (Itr lo n) [it] it (λi h=>IsRangeIter h it (lo+(i:Nat)*1) ((n:Int)-(i:Nat)) 1) where
 mem:=by simp
 obj:=λi h st b hb=>by
  have e:b=it:=by simpa using hb
  subst e
  exact⟨_,st,λv z=>by
   have z':Data.fields _=Data.cell v:=z
   cases z'⟩
 keep:=λi h h' st k=>k it (by simp) _ st
 item:=by
  intro X hP hw hK hc i pins s σ H E I hf st hg
  subst hP hw hK
  obtain⟨f0,f1,f2,f3,f4,f5⟩:=hf it (by simp)
  have W:=Walks.range (prog:=X.prog) (w:=X.w) (I.ok.hd hc) it lo 1 n
  refine W.item i s _ _ hg st λv h' tk hv st' kk=>?_
  obtain⟨t,rfl⟩:=hv
  have I1:Inv X pins σ H {s with heap:=h',toks:=tk}:=I.turned (λb o hb e=>kk b o (by simpa using hb) e) f0 f1 f3 f4 f5
  refine⟨_,rfl,mP (s:={s with heap:=h',toks:=tk}) (n := "range_iterator") st' rfl rfl (by decide) ⟨.int (lo+i),H,I1,⟨t,?_⟩,⟨rfl,rfl⟩,st',λb hb=>(hf b hb).1⟩⟩
  rw[Int.mul_one]
 done:=by
  intro X hP hw hK hc i pins s σ H E I hf st hg
  subst hP hw hK
  obtain⟨f0,f1,f2,f3,f4,f5⟩:=hf it (by simp)
  exact wpAny_pyNext_range_end (I.ok.hd hc) st (by have:n<=i:=hg;lia) λh' eb=>⟨rfl,I.turned (t':=s.toks) (λb o hb e=>eb b o hb e) f0 f1 f3 f4 f5⟩
 self:=λ_ _ _ _ _ st h=>wpAny_pyIter_rangeiter st h
section
variable{X:Cx}{tg:Expr}
theorem yO{pins:List (Addr×Obj)}{σ:St}{H:Hp}{s:Shared}{R:It->Hp->Prop}{E:Value->Shared->Prop}{lo hi:Int}{t u v:Tok}{tk:Nat}(I:Inv X pins σ H s)(h1:-(2^62)<=lo)(h2:lo<2^62)(h3:-(2^62)<=hi)(h4:hi<2^62)
 (q:R (Itr lo (hi-lo).toNat) H):wpAny (model X.prog X.w) X.A (pyIter (.ref s.heap.objs.size)) (PIE X pins σ tg R) E {s with heap:=s.heap.push {cls:=.type "range", data:=.fields #[.int lo t,.int hi u,.int 1 v] },toks:=tk}:=by
 refine wpAny_pyIter_range (IsRange.new ..) (small_one h1 h2 h3 h4) ?_
 have I1:Inv X pins σ H {s with heap:=s.heap.push {cls:=.type "range", data:=.fields #[.int lo t,.int hi u,.int 1 v] },toks:=tk}:=I.kept λb o e=>Heap.get?_push_of_some _ e
 refine⟨(s.heap.push {cls:=.type "range", data:=.fields #[.int lo t,.int hi u,.int 1 v] }).objs.size,[(s.heap.push {cls:=.type "range", data:=.fields #[.int lo t,.int hi u,.int 1 v] }).objs.size],_,_,H,rfl,
  I1.kept (t':=tk) λb o e=>Heap.get?_push_of_some _ e,EN _ lo (hi-lo).toNat,?_,λb hb=>?_,q⟩
 ·have e1:lo+((0:Nat):Int)*1=lo:=by simp
  have e2:(((hi-lo).toNat:Nat):Int)-((0:Nat):Int)=Builtin.Range.rangeSize lo hi 1:=by rw[rangeSize_one];split<;>lia
  show IsRangeIter _ _ (lo+((0:Nat):Int)*1) ((((hi-lo).toNat:Nat):Int)-((0:Nat):Int)) 1
  rw[e1,e2]
  exact Heap.get?_push_size _ rfl
 ·have e:b=(s.heap.push {cls:=.type "range", data:=.fields #[.int lo t,.int hi u,.int 1 v] }).objs.size:=by simpa using hb
  subst e
  exact I1.fpOk (aF _) (I1.hok.fresh (aF _))
noncomputable def iRng1(ta:TA):TI:=λσ H R=>ta σ H λvs H1=>∃j:Int,vs=[.int j] /\ -(2^62)<=j/\j<2^62/\R (Itr 0 j.toNat) H1
noncomputable def iRng2(ta:TA):TI:=λσ H R=>ta σ H λvs H1=>∃i j:Int,vs=[.int i,.int j]/\(-(2^62)<=i/\i<2^62 /\ -(2^62)<=j/\j<2^62)/\R (Itr i (j-i).toNat) H1
theorem EO {a:Expr} {ta:TA} {p pos:Pos} (hg:Gl X "range") (hm:X.mg "range" = none) (ha:PA X [a] ta) (hs:starEach [a] X.env=[(false,eval a X.env)]:=by rfl):PI X tg (.Call (.Name "range" p) [a] [] pos) (iRng1 ta):=by
 intro pins s σ H R I h
 refine Call_ (jR I hg hm boot_range (PyProof.Rows.callWith_type1 (thn (ha pos pins s σ H _ I h) λus s1 ⟨vs,H1,I1,r1,q1⟩=>?_) hs rfl))
 obtain⟨j,e,q1,q2,q⟩:=q1
 subst e
 cases r1 with
 |cons r rr=>
  cases rr
  obtain⟨t,rfl⟩:=r
  exact call_range_1 (yO I1 (by lia) (by lia) q1 q2 (by simpa using q))
theorem ER {a b:Expr} {ta:TA} {p pos:Pos} (hg:Gl X "range") (hm:X.mg "range" = none) (ha:PA X [a,b] ta) (hs:starEach [a,b] X.env=[(false,eval a X.env),(false,eval b X.env)]:=by rfl) (hs2:starEach [b] X.env=[(false,eval b X.env)]:=by rfl) :
 PI X tg (.Call (.Name "range" p) [a,b] [] pos) (iRng2 ta):=by
 intro pins s σ H R I h
 refine Call_ (jR I hg hm boot_range (PyProof.Rows.callWith_type1 (thn (ha pos pins s σ H _ I h) λus s1 ⟨vs,H1,I1,r1,q1⟩=>?_) (by rw[hs,hs2]) (by rw[hs2];rfl)))
 obtain⟨i,j,e,⟨q1,q2,q3,q4⟩,q⟩:=q1
 subst e
 cases r1 with
 |cons r rr=>
  cases rr with
  |cons r' rr=>
   cases rr
   obtain⟨t,rfl⟩:=r
   obtain⟨t',rfl⟩:=r'
   exact call_range_2 (yO I1 q1 q2 q3 q4 q)
noncomputable def tFor(wi:TI)(g:TG)(tb:TS):TS:=λD σ H=>wi σ H λJ H1=>∃W:Nat->Nat->St->Hp->Prop,(∃m,W 0 m σ H1)/\∀i m σ H,W i m σ H ->
 (J.stop i H/\D.nx σ H)\/(J.go i H/\∃N:St->Hp->Prop,(∀σ' H',N σ' H'->∃m',m'<m/\W (i+1) m' σ' H')/\∀x H',J.yld i H x H'->g x σ H' λσ2 H2=>tb {D with nx:=N,ct:=N,bk:=D.nx} σ2 H2)
noncomputable def kT(fp:List Addr)(h:Heap):List (Addr×Obj):=fp.filterMap λb=>(h.get? b).map λo=>(b,o)
theorem oP{fp:List Addr}{h:Heap}{b:Addr}{o:Obj}(hb:b∈fp)(e:h.get? b=some o):(b,o)∈kT fp h:=lU.mpr ⟨b,hb,by rw[e];rfl⟩
theorem ES{fp:List Addr}{h:Heap}{p:Addr×Obj}(hp:p∈kT fp h):p.1∈fp/\h.get? p.1=some p.2:=by
 obtain⟨b,hb,e⟩:=lU.mp hp
 cases q:h.get? b with
 |none=>rw[q]at e;cases e
 |some o=>
  rw[q]at e
  have e':(b,o)=p:=eA.inj e
  subst e'
  exact⟨hb,q⟩
theorem Inv.pinned{pins:List (Addr×Obj)}{σ:St}{H:Hp}{s:Shared}{fp:List Addr}(I:Inv X pins σ H s)(hf:∀b∈fp,fY X pins H b)(ho:∀b∈fp,∃o,s.heap.get? b=some o/\∀v,o.data≠.cell v):Inv X (pins++kT fp s.heap) σ H s:=
 I.pins_of λp hp=>(cU.mp hp).elim (λz=>I.pin p (eI _ z)) λz=>by
  obtain⟨hb,e⟩:=ES z
  obtain⟨f0,f1,f2,_⟩:=hf p.1 hb
  obtain⟨o,e',d⟩:=ho p.1 hb
  rw[e]at e';cases e'
  exact⟨e,f0,f1,f2,d⟩
theorem Inv.unpinned{pins pl:List (Addr×Obj)}{σ:St}{H:Hp}{s:Shared}(I:Inv X (pins++pl) σ H s):Inv X pins σ H s:=I.pins_of λp hp=>I.pin p (eI _ (kJ _ hp))
theorem ps_for{iter:Expr}{body:List Stmt}{wi:TI}{g:TG}{tb:TS}{pos:Pos}(hp:PassesOwn (model X.prog X.w) X.A X.env X.xe)(hc:X.calm=true)(hi:PI X tg iter wi)(hg:PG X tg g)(hb:PSs X body tb)
 (hs:∀x,foldedSetIterable iter X.env x=pure x:=by intro _;rfl):PS X (.For tg iter body [] pos) (tFor wi g tb):=by
 intro pins s σ H D I h
 refine wpAny_For (thn (hi pins s σ H _ I h) λv s1 h1=>thn h1 λitv s2 h2=>?_) hs
 obtain⟨it,fp,tn,J,H2,e,I2,T,st2,f2,W,⟨m0,w0⟩,turn⟩:=h2
 subst e
 have stat:∀{H':Hp},(∀b∈fp,H' b=none)->∀b∈fp,fY X pins H' b:=λhn b hb=>⟨hn b hb,(f2 b hb).2⟩
 refine codeAny_forLoop_any (λn s'=>∃i σ' H',Inv X pins σ' H' s'/\tn i s'.heap/\(∀b∈fp,H' b=none)/\W i n σ' H') ?_ m0 ⟨0,σ,H2,I2,st2,λb hb=>(f2 b hb).1,w0⟩
 rintro n s3 ⟨i,σ3,H3,I3,st3,fr3,w3⟩
 rcases turn i n σ3 H3 w3 with⟨stop,qn⟩|⟨go,N,hN,step⟩
 ·refine wpAny_passesOwn hp (thn (T.done X rfl rfl rfl hc i pins s3 σ3 H3 X.xe I3 (stat fr3) st3 stop) λr s4 ⟨hr,I4⟩=>?_)
  subst hr
  exact wpAny_execs_nil ⟨σ3,H3,I4,qn⟩
 ·refine wpAny_passesOwn hp (thn (T.item X rfl rfl rfl hc i pins s3 σ3 H3 X.xe I3 (stat fr3) st3 go) λr s4 ⟨u,hr,h4⟩=>?_)
  subst hr
  refine wpAny_passesOwn hp (thn h4 λ_ s5 ⟨x,H5,I5,r5,y5,st5,fr5⟩=>?_)
  have I5':=I5.pinned (stat fr5) (T.obj _ _ st5)
  refine wpAny_passesOwn hp (thn (hg _ s5 σ3 H5 x u _ I5' r5 (step x H5 y5)) λ_ s6 ⟨σ6,H6,I6,q6⟩=>?_)
  refine wpAny_passesOwn hp (thn (hb _ s6 σ6 H6 _ I6 q6) λf s7 q7=>?_)
  have again:∀{σ7:St} {H7:Hp},Inv X (pins++kT fp s5.heap) σ7 H7 s7->N σ7 H7->∃m,m<n/\∃i σ' H',Inv X pins σ' H' s7/\tn i s7.heap/\(∀b∈fp,H' b=none)/\W i m σ' H':=λ{σ7 H7} I7 n7=>by
   obtain⟨m',hm,w7⟩:=hN σ7 H7 n7
   refine⟨m',hm,i+1,σ7,H7,I7.unpinned,T.keep _ _ _ st5 λb hb o e=>(I7.pin (b,o) (eI _ (eI _ (oP hb e)))).1,λb hb=>?_,w7⟩
   obtain⟨o,e,d⟩:=T.obj _ _ st5 b hb
   exact(I7.pin (b,o) (eI _ (eI _ (oP hb e)))).2.1
  cases f with
  |next=>obtain⟨σ7,H7,I7,n7⟩:=q7;exact again I7 n7
  |cont=>obtain⟨σ7,H7,I7,n7⟩:=q7;exact again I7 n7
  |brk=>obtain⟨σ7,H7,I7,q7⟩:=q7;exact⟨σ7,H7,I7.unpinned,q7⟩
  |ret v=>obtain⟨x7,σ7,H7,I7,r7,q7⟩:=q7;exact⟨x7,σ7,H7,I7.unpinned,r7,q7⟩
end
noncomputable abbrev R2:=V->V->Hp->VK->Prop
noncomputable def OpR(X:Cx)(f:Value->Value->Sem Value)(r:R2):Prop:=
 ∀(pins:List (Addr×Obj))(s:Shared)(σ:St)(H:Hp)(x y:V)(v u:Value)(Q:VK),Inv X pins σ H s->RelV x v->RelV y u->r x y H Q ->
  wpAny (model X.prog X.w) X.A (f v u) (EP X pins σ Q) X.xe s
noncomputable def UnR(X:Cx)(f:Value->Sem Value)(r:V->Hp->VK->Prop):Prop:=
 ∀(pins:List (Addr×Obj))(s:Shared)(σ:St)(H:Hp)(x:V)(v:Value)(Q:VK),Inv X pins σ H s->RelV x v->r x H Q ->
  wpAny (model X.prog X.w) X.A (f v) (EP X pins σ Q) X.xe s
noncomputable def bZ(X:Cx)(f:Value)(r:List V->Hp->VK->Prop):Prop:=
 ∀(pins:List (Addr×Obj))(s:Shared)(σ:St)(H:Hp)(xs:List V)(us:List Value)(Q:VK),Inv X pins σ H s->Vals xs us->r xs H Q ->
  wpAny (model X.prog X.w) X.A (call f us) (EP X pins σ Q) X.xe s
noncomputable def TruR(X:Cx)(r:V->Hp->(Bool->Hp->Prop)->Prop):Prop:=
 ∀(pins:List (Addr×Obj))(s:Shared)(σ:St)(H:Hp)(x:V)(v:Value)(Q:Bool->Hp->Prop),Inv X pins σ H s->RelV x v->r x H Q ->
  wpAny (model X.prog X.w) X.A (truthy v) (TP X pins σ Q) X.xe s
noncomputable def tOp(r:R2)(ta tb:TE):TE:=λσ H Q=>ta σ H λx H1=>tb σ H1 λy H2=>r x y H2 Q
noncomputable def tUn(r:V->Hp->VK->Prop)(ta:TE):TE:=λσ H Q=>ta σ H λx H1=>r x H1 Q
noncomputable def rI(C:Int->Int->Prop)(g:Int->Int->V):R2:=λx y H Q=>∃i j,x=.int i/\y=.int j/\C i j/\Q (g i j) H
noncomputable def rI0(g:Int->Int->V):R2:=λx y H Q=>∃i j,x=.int i/\y=.int j/\Q (g i j) H
noncomputable def rU(g:Int->V):V->Hp->VK->Prop:=λx H Q=>∃i,x=.int i/\Q (g i) H
section
variable{X:Cx}{a b c:Expr}{ta tb tc:TE}{pos:Pos}
theorem binT(ha:PE X a ta)(hb:PE X b tb){pins:List (Addr×Obj)}{s:Shared}{σ:St}{H:Hp}{R:V->V->Hp->Prop}(I:Inv X pins σ H s)
 (h:ta σ H λx H1=>tb σ H1 λy H2=>R x y H2) {Q:Value->Shared->Prop} {f:Value->Value->Sem Value}
 (hf:∀v u s2 x y H2,Inv X pins σ H2 s2->RelV x v->RelV y u->R x y H2->wpAny (model X.prog X.w) X.A (f v u) Q X.xe s2) :
 wpAny (model X.prog X.w) X.A (eval a X.env) (λv s₁=>wpAny (model X.prog X.w) X.A (eval b X.env) (λu s₂=>wpAny (model X.prog X.w) X.A (f v u) Q X.xe s₂) X.xe s₁) X.xe s:=by
 refine thn (ha pins s σ H _ I h) λv s1 ⟨x,H1,I1,r1,q1⟩=>?_
 refine thn (hb pins s1 σ H1 _ I1 q1) λu s2 ⟨y,H2,I2,r2,q2⟩=>?_
 exact hf v u s2 x y H2 I2 r1 r2 q2
theorem pe_op{op:Operator}{r:R2}(ho:OpR X (binaryOp op) r)(ha:PE X a ta)(hb:PE X b tb):PE X (.BinOp a op b pos) (tOp r ta tb):=by
 intro pins s σ H Q I h
 exact wpAny_BinOp (binT ha hb I h λv u s2 x y H2 I2 rx ry q=>ho pins s2 σ H2 x y v u Q I2 rx ry q)
theorem pe_un{op:UnaryOp}{r:V->Hp->VK->Prop}(ho:UnR X (unaryOp op) r)(ha:PE X a ta):PE X (.UnaryOp op a pos) (tUn r ta):=by
 intro pins s σ H Q I h
 exact UnaryOp_ (thn (ha pins s σ H _ I h) λv s1 ⟨x,H1,I1,r1,q1⟩=>ho pins s1 σ H1 x v Q I1 r1 q1)
theorem opI{f:Value->Value->Sem Value}{C:Int->Int->Prop}{g:Int->Int->Int}
 (rule:∀(i j:Int)(t u:Tok)(s:Shared)(Q:Value->Shared->Prop)(E:Value->Shared->Prop),C i j->Q (.int (g i j) s.toks) {s with toks:=s.toks+1}->wpAny (model X.prog X.w) X.A (f (.int i t) (.int j u)) Q E s) :
 OpR X f (rI C λi j=>.int (g i j)):=by
 intro pins s σ H x y v u Q I rx ry h
 obtain⟨i,j,rfl,rfl,hc,q⟩:=h
 obtain⟨t,rfl⟩:=rx
 obtain⟨t',rfl⟩:=ry
 exact rule i j t t' s _ _ hc ⟨.int (g i j),H,I.tok _,⟨_,rfl⟩,q⟩
theorem opI0{f:Value->Value->Sem Value}{g:Int->Int->Int}
 (rule:∀(i j:Int)(t u:Tok)(s:Shared)(Q:Value->Shared->Prop)(E:Value->Shared->Prop),Q (.int (g i j) s.toks) {s with toks:=s.toks+1}->wpAny (model X.prog X.w) X.A (f (.int i t) (.int j u)) Q E s) :
 OpR X f (rI0 λi j=>.int (g i j)):=by
 intro pins s σ H x y v u Q I rx ry h
 obtain⟨i,j,rfl,rfl,q⟩:=h
 obtain⟨t,rfl⟩:=rx
 obtain⟨t',rfl⟩:=ry
 exact rule i j t t' s _ _ ⟨.int (g i j),H,I.tok _,⟨_,rfl⟩,q⟩
theorem oQ{f:Value->Value->Sem Value}{g:Int->Int->Bool}
 (rule:∀(i j:Int)(t u:Tok)(s:Shared)(Q:Value->Shared->Prop)(E:Value->Shared->Prop),Q (.bool (g i j)) s->wpAny (model X.prog X.w) X.A (f (.int i t) (.int j u)) Q E s) :
 OpR X f (rI0 λi j=>.bl (g i j)):=by
 intro pins s σ H x y v u Q I rx ry h
 obtain⟨i,j,rfl,rfl,q⟩:=h
 obtain⟨t,rfl⟩:=rx
 obtain⟨t',rfl⟩:=ry
 exact rule i j t t' s _ _ ⟨.bl (g i j),H,I,rfl,q⟩
noncomputable def CDiv(i j:Int):Prop:=0<j/\j<1073741824
noncomputable def CPow(i j:Int):Prop:=0<=j/\j<=1000000/\i.natAbs<2^64
noncomputable def CMul(i j:Int):Prop:=(-(2^64)<i/\i<2^64)\/(-(2^64)<j/\j<2^64)
theorem CMul.ok{i j:Int}(h:CMul i j):IntMulOk i j:=by
 rcases h with⟨h1,h2⟩|⟨h1,h2⟩
 ·exact .of_left (intBits_le_64 h1 h2)
 ·exact .of_right (intBits_le_64 h1 h2)
theorem op_add:OpR X (binaryOp .Add) (rI0 λi j=>.int (i+j)):=opI0 λ_ _ _ _ _ _ _ q=>add_int q
theorem op_sub:OpR X (binaryOp .Sub) (rI0 λi j=>.int (i-j)):=opI0 λ_ _ _ _ _ _ _ q=>sub_int q
theorem op_mul:OpR X (binaryOp .Mult) (rI CMul λi j=>.int (i*j)):=opI λ_ _ _ _ _ _ _ hc q=>mul_int q hc.ok
theorem ET:OpR X (binaryOp .FloorDiv) (rI CDiv λi j=>.int (i/j)):=opI λi j _ _ _ _ _ hc q=>by
 have h1:(0:Int)<j:=hc.1
 have h2:j<1073741824:=hc.2
 exact floordiv_int (by lia) (by rw[Int.fdiv_eq_ediv_of_nonneg i (by lia)];exact q) (.inl (PyProof.noPylong_small (by lia)))
theorem op_mod:OpR X (binaryOp .Mod) (rI (λ_ j=>0<j) λi j=>.int (i%j)):=opI λi j _ _ _ _ _ hc q=>by
 have h1:(0:Int)<j:=hc
 exact mod_int' (by lia) (by rw[Int.fmod_eq_emod_of_nonneg i (by lia)];exact q)
theorem op_pow:OpR X (binaryOp .Pow) (rI CPow λi j=>.int (i^j.toNat)):=opI λ_ _ _ _ _ _ _ hc q=>pow_int_small hc.1 hc.2.1 hc.2.2 q
theorem unI{f:Value->Sem Value}{g:Int->Int}
 (rule:∀(i:Int)(t:Tok)(s:Shared)(Q:Value->Shared->Prop)(E:Value->Shared->Prop),Q (.int (g i) s.toks) {s with toks:=s.toks+1}->wpAny (model X.prog X.w) X.A (f (.int i t)) Q E s) :
 UnR X f (rU λi=>.int (g i)):=by
 intro pins s σ H x v Q I rx h
 obtain⟨i,rfl,q⟩:=h
 obtain⟨t,rfl⟩:=rx
 exact rule i t s _ _ ⟨.int (g i),H,I.tok _,⟨_,rfl⟩,q⟩
theorem un_neg:UnR X (unaryOp .USub) (rU λi=>.int (-i)):=unI λ_ _ _ _ _ q=>neg_int q
end
section
variable{X:Cx}{a b c:Expr}{ta tb tc:TE}{pos:Pos}
theorem kU{pins:List (Addr×Obj)}{σ:St}{H:Hp}{s:Shared}{Q:VK}{k k':Bool}(I:Inv X pins σ H s)(q:Q (.bl k) H)(e:k=k'):EP X pins σ Q (.bool k') s:=by
 subst e
 exact⟨.bl k,H,I,rfl,q⟩
theorem op_lt:OpR X (compareOp .Lt) (rI0 λi j=>.bl (decide (i<j))):=oQ λ_ _ _ _ _ _ _ q=>lt_int q
theorem op_le:OpR X (compareOp .LtE) (rI0 λi j=>.bl (decide (i<=j))):=oQ λ_ _ _ _ _ _ _ q=>le_int q
theorem op_gt:OpR X (compareOp .Gt) (rI0 λi j=>.bl (decide (j<i))):=oQ λ_ _ _ _ _ _ _ q=>gt_int q
theorem op_ge:OpR X (compareOp .GtE) (rI0 λi j=>.bl (decide (j<=i))):=oQ λ_ _ _ _ _ _ _ q=>ge_int q
theorem EU:OpR X (compareOp .In) (λx y H Q=>∃i j,x=.str i/\y=.str j/\Q (.bl (!(Builtin.Str.occurrences j i 0 j.length 1).isEmpty)) H):=by
 intro pins s σ H x y v u Q I rx ry h
 obtain⟨i,j,rfl,rfl,q⟩:=h
 obtain⟨t,rfl⟩:=rx
 obtain⟨t',rfl⟩:=ry
 exact in_str (kU I q rfl)
theorem op_isN:OpR X (compareOp .Is) (λx y H Q=>y=.non/\Q (.bl (decide (x=.non))) H):=by
 intro pins s σ H x y v u Q I rx ry h
 obtain⟨rfl,q⟩:=h
 cases ry
 refine is_none_gen (kU I q ?_)
 cases x<;>first
  |(cases rx;rfl)
  |(obtain⟨t,rfl⟩:=rx;rfl)
theorem EV:OpR X (compareOp .IsNot) (λx y H Q=>y=.non/\Q (.bl (!decide (x=.non))) H):=by
 intro pins s σ H x y v u Q I rx ry h
 obtain⟨rfl,q⟩:=h
 cases ry
 refine isnot_none_gen (kU I q ?_)
 cases x<;>first
  |(cases rx;rfl)
  |(obtain⟨t,rfl⟩:=rx;rfl)
theorem EW:OpR X (compareOp .NotIn) (λx y H Q=>∃i j,x=.str i/\y=.str j/\Q (.bl (!(!(Builtin.Str.occurrences j i 0 j.length 1).isEmpty))) H):=by
 intro pins s σ H x y v u Q I rx ry h
 obtain⟨i,j,rfl,rfl,q⟩:=h
 obtain⟨t,rfl⟩:=rx
 obtain⟨t',rfl⟩:=ry
 exact notIn_str (kU I q rfl)
theorem EX{op:CmpOp}{r:R2}(ho:OpR X (compareOp op) r)(ha:PE X a ta)(hb:PE X b tb)(hm:behindInMarks op b=false):PE X (.Compare a [op] [b] pos) (tOp r ta tb):=by
 intro pins s σ H Q I h
 exact wpAny_Compare1 (binT ha hb I h λv u s2 x y H2 I2 rx ry q=>ho pins s2 σ H2 x y v u Q I2 rx ry q) hm
noncomputable def tTest(t:TE):TT:=λσ H Q=>t σ H λx H'=>∃k,x=.bl k/\Q k H'
theorem EY{op:CmpOp}{r:R2}(ho:OpR X (compareOp op) r)(ha:PE X a ta)(hb:PE X b tb)(hm:behindInMarks op b=false):PT X (.Compare a [op] [b] pos) (tTest (tOp r ta tb)):=by
 intro pins s σ H Q I h
 refine wpAny_isTrue_Compare1 (thn (ha pins s σ H _ I h) λv s1 ⟨x,H1,I1,r1,q1⟩=>thn (hb pins s1 σ H1 _ I1 q1) λu s2 ⟨y,H2,I2,r2,q2⟩=>
  thn (ho pins s2 σ H2 x y v u _ I2 r1 r2 q2) λc s3 ⟨z,H3,I3,r3,k,e,q3⟩=>?_) hm
 subst e
 cases r3
 exact wpAny_truthy_bool ⟨H3,I3,q3⟩
noncomputable def mQ(K:PySem.W.Frag)(x:V)(H:Hp)(k:Bool):Prop:=
 match x with
 |.non=>k=false
 |.bl b=>k=b
 |.int i=>k=(i != 0)
 |.str y=>y.length<=sizeLine/\k=((y.length:Int) != 0)
 |.byt y=>y.size<=sizeLine/\k=((y.size:Int) != 0)
 |.ref p=>(∃xs,SqL K H p xs/\k=!xs.isEmpty)\/(∃xs,SqT K H p xs/\k=!xs.isEmpty)\/∃kvs,H p=some (.dK kvs)/\k=!kvs.isEmpty
 |_=>False
theorem EZ{κ:Type}{kvs:List (κ×V)}{vs:List (κ×Value)}(r:KV kvs vs):(!vs.isEmpty)=!kvs.isEmpty:=by
 cases r<;>rfl
theorem yP{xs:List V}{its:List Value}(r:Vals xs its):(!its.toArray.isEmpty)=!xs.isEmpty:=by
 cases r<;>simp
theorem jS:(sizeLine:Nat)<2^63:=by rw[sizeLine_eq];decide
theorem oR:TruR X (λx H Q=>∃k,mQ X.K x H k/\Q k H):=by
 intro pins s σ H x v Q I rx h
 obtain⟨k,e,q⟩:=h
 have hl:=jS
 have hs:sizeLine=16777216:=sizeLine_eq
 cases x with
 |non=>
  cases rx
  have e':k=false:=e
  subst e'
  exact truthy_none ⟨H,I,q⟩
 |bl b=>
  cases rx
  have e':k=b:=e
  subst e'
  exact wpAny_truthy_bool ⟨H,I,q⟩
 |int i=>
  obtain⟨t,rfl⟩:=rx
  have e':k=(i != 0):=e
  subst e'
  exact PySem.P.truthy_int ⟨H,I,q⟩
 |str y=>
  obtain⟨t,rfl⟩:=rx
  obtain⟨hy,e'⟩:y.length<=sizeLine/\k=((y.length:Int) != 0):=e
  subst e'
  exact PySem.P.truthy_str (by lia) ⟨H,I.tok _,q⟩
 |byt y=>
  obtain⟨t,rfl⟩:=rx
  obtain⟨hy,e'⟩:y.size<=sizeLine/\k=((y.size:Int) != 0):=e
  subst e'
  exact PySem.W.truthy_bytes (by lia) ⟨H,I.tok _,q⟩
 |ref p=>
  cases rx
  have e':(∃xs,SqL X.K H p xs/\k=!xs.isEmpty)\/(∃xs,SqT X.K H p xs/\k=!xs.isEmpty)\/∃kvs,H p=some (.dK kvs)/\k=!kvs.isEmpty:=e
  rcases e' with⟨xs,hx,e'⟩|⟨xs,hx,e'⟩|⟨kvs,hx,e'⟩
  ·subst e'
   obtain⟨its,r,pl,hz⟩:=I.list hx
   have hlen:=r.length
   exact wpAny_truthy_list pl.isList (by simp only[aQ];lia) ⟨H,I.tok _,by rw[yP r];exact q⟩
  ·subst e'
   obtain⟨its,r,pl,hz⟩:=I.tuple hx
   have hlen:=r.length
   exact truthy_tuple pl (by simp only[aQ];lia) ⟨H,I.tok _,by rw[yP r];exact q⟩
  ·subst e'
   obtain⟨hz,hS,vs,r,m⟩:kvs.length<=sizeLine/\(p==sysModules)=false/\∃vs,KV kvs vs/\s.heap.DictOf (bR X.prog X.w) p vs:=I.hok p _ hx
   have hlen:kvs.length=vs.length:=Paired.length r
   exact wpAny_truthy_dict hS m (by lia) ⟨H,I.tok _,by rw[EZ r];exact q⟩
 |_=>exact(show False from e).elim
theorem E1(ha:PE X a ta)(he:∀whole,isTrue a X.env whole=(do let v<-whole;standAt a.pos;holding [v] (truthy v))) :
 PT X a (λσ H Q=>ta σ H λx H'=>∃k,mQ X.K x H' k/\Q k H'):=by
 intro pins s σ H Q I h
 exact isTrue_plain (thn (ha pins s σ H _ I h) λv s1 ⟨x,H1,I1,r1,q1⟩=>oR pins s1 σ H1 x v Q I1 r1 q1) (he _)
theorem E2:OpR X (binaryOp .Add) (λx y H Q=>∃i j,x=.str i/\y=.str j/\i.length+j.length<=sizeLine/\Q (.str (i++j)) H):=by
 intro pins s σ H x y v u Q I rx ry h
 obtain⟨i,j,rfl,rfl,hz,q⟩:=h
 obtain⟨t,rfl⟩:=rx
 obtain⟨t',rfl⟩:=ry
 exact add_str (λt' tk=>⟨.str (i++j),H,I.tok _,⟨_,rfl⟩,q⟩) hz
theorem fK{x:V}{us:List Value}(r:Vals [x] us):∃u,us=[u]/\RelV x u:=by
 cases r with
 |cons r1 r2=>cases r2;exact⟨_,rfl,r1⟩
theorem yQ{x y:V}{us:List Value}(r:Vals [x,y] us):∃u w',us=[u,w']/\RelV x u/\RelV y w':=by
 cases r with
 |cons r1 r2=>
  cases r2 with
  |cons r3 r4=>cases r4;exact⟨_,_,rfl,r1,r3⟩
theorem E3 (hc:X.calm=true):bZ X (.builtin "max") (λxs H Q=>∃i j,xs=[.int i,.int j]/\Q (.int (if j>i then j else i)) H):=by
 intro pins s σ H xs us Q I r h
 obtain⟨i,j,rfl,q⟩:=h
 obtain⟨u,w',rfl,⟨t,rfl⟩,⟨t',rfl⟩⟩:=yQ r
 refine max_two_ints (I.ok.hd hc) λh' tk k=>⟨_,H,I.kept k,?_,q⟩
 by_cases hj:j>i
 ·rw[if_pos hj,if_pos hj];exact⟨_,rfl⟩
 ·rw[if_neg hj,if_neg hj];exact⟨_,rfl⟩
theorem yR:bZ X (.type "int") (λxs H Q=>(∃i,xs=[.int i]/\Q (.int i) H)\/∃k,xs=[.bl k]/\Q (.int (if k then 1 else 0)) H):=by
 intro pins s σ H xs us Q I r h
 rcases h with⟨i,rfl,q⟩|⟨k,rfl,q⟩
 ·obtain⟨u,rfl,t,rfl⟩:=fK r
  exact call_int_int ⟨.int i,H,I,⟨_,rfl⟩,q⟩
 ·obtain⟨u,rfl,r1⟩:=fK r
  cases r1
  exact call_int_bool ⟨.int (if k then 1 else 0),H,I.tok _,⟨_,rfl⟩,q⟩
end
theorem RelO.some_of{v:V}{o:Option Value}(r:RelO (some v) o):∃u,o=some u/\RelV v u:=by
 cases o with
 |none=>exact(show False from r).elim
 |some u=>exact⟨u,rfl,r⟩
section
variable{X:Cx}{pins:List (Addr×Obj)}{σ:St}{H:Hp}{s:Shared}{a C dx:Addr}{fs:List (Str×V)}{f:Str}{v:V}{A:Around}{E:Value->Shared->Prop}
end
set_option genInjectivity false in
structure Room(k:Nat)(A:Around):Prop where
 hd:A.handled=none
 dp:A.depth+3*k+5<recursionLimit
 un:A.units+16*k+200<cLine
theorem Room.deeper{k:Nat}{A:Around}(r:Room (k+1) A)(env:Env):Room k (A.deeper env):=
 ⟨r.hd,by have:=r.dp;show A.depth+1+3*k+5<_;lia,by have:=r.un;show A.units+3+16*k+200<_;lia⟩
theorem Room.depth{k:Nat}{A:Around}(r:Room k A):A.depth<recursionLimit:=by have:=r.dp;lia
theorem Room.units{k:Nat}{A:Around}(r:Room k A):A.units+64<cLine:=by have:=r.un;lia
noncomputable def tNil:TA:=λ_ H Q=>Q [] H
noncomputable def tCons(ta:TE)(tr:TA):TA:=λσ H Q=>ta σ H λx H1=>tr σ H1 λxs H2=>Q (x::xs) H2
section
variable{X:Cx}{e:Expr}{es:List Expr}{te:TE}{t:TA}{pos:Pos}
theorem eK:PA X [] tNil:=λ_ _ _ _ H Q I h=>Calls.spliced_nil ⟨[],H,I,.nil,h⟩
theorem dM(ha:PE X e te)(hr:PA X es t)(hs:starEach (e::es) X.env=(false,eval e X.env)::starEach es X.env:=by rfl):PA X (e::es) (tCons te t):=by
 intro pos pins s σ H Q I h
 rw[hs]
 show wpAny _ _ (spliced ((false,eval e X.env)::backTo pos (starEach es X.env))) _ _ s
 refine Calls.spliced_cons (thn (ha pins s σ H _ I h) λu s1 ⟨x,H1,I1,r1,q1⟩=>?_)
 exact thn (hr pos pins s1 σ H1 _ I1 q1) λus s2 ⟨xs,H2,I2,r2,q2⟩=>⟨x::xs,H2,I2,.cons r1 r2,q2⟩
noncomputable def tTup(t:TA):TE:=λσ H Q=>t σ H λxs H1=>xs.length<=sizeLine/\∀p,H1 p=none->Q (.ref p) (upd H1 p (.tup xs))
noncomputable def tLst(t:TA):TE:=λσ H Q=>t σ H λxs H1=>xs.length<=sizeLine/\∀p,H1 p=none->Q (.ref p) (upd H1 p (.lst xs))
theorem pe_tup{x1}(h:PA X es t):PE X (.Tuple es x1 pos) (tTup t):=by
 intro pins s σ H Q I hq
 refine wpAny_Tuple_spliced (thn (h pos pins s σ H _ I hq) λus s1 ⟨xs,H1,I1,r,z,q⟩=>⟨by rw[<-r.length];exact z,?_⟩)
 have hf:H1 s1.heap.objs.size=none:=I1.hok.fresh (aF _)
 refine⟨.ref s1.heap.objs.size,upd H1 s1.heap.objs.size (.tup xs),I1.laid (t':=s1.toks) (λb u e=>Heap.get?_push_of_some _ e) (aF _) ?_,rfl,q _ hf⟩
 exact⟨z,us,r,⟨_,Heap.get?_push_size _ rfl,rfl,_,rfl⟩⟩
theorem pe_lst(h:PA X es t):PE X (.List es pos) (tLst t):=by
 intro pins s σ H Q I hq
 refine wpAny_List_spliced (thn (h pos pins s σ H _ I hq) λus s1 ⟨xs,H1,I1,r,z,q⟩=>⟨by rw[<-r.length];exact z,?_⟩)
 have hf:H1 s1.heap.objs.size=none:=I1.hok.fresh (aF _)
 refine⟨.ref s1.heap.objs.size,upd H1 s1.heap.objs.size (.lst xs),I1.laid (t':=s1.toks) (λb u e=>Heap.get?_push_of_some _ e) (aF _) ?_,rfl,q _ hf⟩
 exact⟨z,us,0,r,Heap.get?_push_size _ rfl⟩
end
noncomputable abbrev Sp:=List V->Hp->VK->XK->Prop
noncomputable abbrev CXT:=List Env->Hp->Shared->XK->Value->Shared->Prop
set_option genInjectivity false in
structure Env0(P:Program)(w:World)(K:PySem.W.Frag)(mg:Str->Option Value)(base:Heap)(A:Around)(outer:List Env)(s:Shared)(H:Hp):Prop where
 frames:A.frames=some outer
 mod:Mod K mg base
 bs:∀b o,base.get? b=some o->s.heap.get? b=some o/\H b=none
 bsz:base.objs.size<=s.heap.objs.size
 funs:s.heap.FunFrames base outer
 frf:∀b∈frs outer,H b=none
 hok:HOk P w H s.heap
 bare:AllBare s.gens
noncomputable def CE(outer:List Env)(P:Program)(w:World)(H:Hp)(s:Shared)(Q:VK)(u:Value)(s':Shared):Prop:=
 ∃v H',s'.os=s.os/\AllBare s'.gens/\Un (frs outer) [] H H' s.heap s'.heap/\HOk P w H' s'.heap/\RelV v u/\Q v H'
noncomputable def CR(CX:CXT)(outer:List Env)(P:Program)(w:World)(H:Hp)(s:Shared)(Q:VK)(E:XK)(r:Result)(s':Shared):Prop:=
 match r with
 |.ok (.ret u)=>CE outer P w H s Q u s'
 |.ok _=>False
 |.error e=>CX outer H s E e s'
set_option genInjectivity false in
structure FnOk(P:Program)(w:World)(K:PySem.W.Frag)(mg:Str->Option Value)(base:Heap)(CX:CXT)(k:Nat)(f:Addr)(fd:FuncData)(ps:List Str)(sp:Sp):Prop where
 len:∀vs H Q E,sp vs H Q E->vs.length=ps.length
 run:∀(A:Around)(outer:List Env)(s:Shared)(H:Hp)(args:Args)(us:List Value)(vs:List V)(Q:VK)(E:XK),Room k A->Env0 P w K mg base A outer s H->BindsTo s fd args (ps.zip us)->Vals vs us->sp vs H Q E ->
  codeAny (model P w) A (.call (.ref f) args) (CR CX outer P w H s Q E) s
section
variable{X:Cx}{pins:List (Addr×Obj)}{σ:St}{H:Hp}{s s':Shared}
theorem Inv.env0(I:Inv X pins σ H s):Env0 X.prog X.w X.K X.mg X.base X.A X.stack s H:=
 ⟨I.ok.frames,I.ok.mod,I.bs,aW I.ok.bsz I.sz,I.stack,I.stkFree,I.hok,I.bare⟩
theorem Inv.after{Q:VK}{u:Value}(I:Inv X pins σ H s)(h:CE X.stack X.prog X.w H s Q u s'):EP X pins σ Q u s':=by
 obtain⟨v,H',os,bare,un,hok,r,q⟩:=h
 obtain⟨hh,g,d,t,os'⟩:=s'
 obtain rfl:os'=s.os:=os
 exact⟨v,H',I.call (h':=hh) (g':=g) (d':=d) (t':=t) (ch:=[]) un hok bare (λb z=>absurd z (by simp)),r,q⟩
end
noncomputable def sY(sp:Sp)(dvs:List V)(E:XK)(t:TA):TE:=λσ H Q=>t σ H λvs H1=>sp (vs++dvs) H1 Q E
noncomputable def Binds(K:PySem.W.Frag)(fd:FuncData)(ps:List Str)(ds:List Value):Prop:=
 ∀(s:Shared)(us:List Value),K.In s.heap->(us++ds).length=ps.length->BindsTo s fd ⟨us,[]⟩ (ps.zip (us++ds))
theorem Binds.all{K:PySem.W.Frag}{fd:FuncData}{ps:List Str}(h:∀us:List Value,us.length=ps.length->bindArgs fd ⟨us,[]⟩=pure (ps.zip us)):Binds K fd ps []:=λs us _ hl=>by
 rw[jM]at hl⊢
 exact .of_eq (h us hl)
noncomputable def oS(CX:CXT)(X:Cx)(E:XK):Prop:=∀(pins:List (Addr×Obj))(σ:St)(H:Hp)(s:Shared)(e:Value)(s':Shared),Inv X pins σ H s->CX X.stack H s E e s'->X.xe e s'
section
variable{X:Cx}{CX:CXT}{k:Nat}{f C:Addr}{fd:FuncData}{ps:List Str}{sp:Sp}{dvs:List V}{ds:List Value}{E:XK}{x m:Str}{p pos apos:Pos}{e o:Expr}{es:List Expr}{ta:TE}{t:TA}
theorem yS{pins:List (Addr×Obj)}{σ:St}{H:Hp}{s:Shared}{Q:VK}{us:List Value}{vs:List V}(F:FnOk X.prog X.w X.K X.mg X.base CX k f fd ps sp)(hr:Room k X.A)(hb:Binds X.K fd ps ds)(hd:Vals dvs ds)(hx:oS CX X E)
 (I:Inv X pins σ H s) (r:Vals vs us) (h:sp (vs++dvs) H Q E):wpAny (model X.prog X.w) X.A (call (.ref f) us) (EP X pins σ Q) X.xe s:=by
 have r2:Vals (vs++dvs) (us++ds):=r.append hd
 have hl:(us++ds).length=ps.length:=by rw[<-r2.length];exact F.len _ _ _ _ h
 refine wpAny_call (codeAny_mono (F.run X.A X.stack s H ⟨us,[]⟩ (us++ds) (vs++dvs) Q E hr I.env0 (hb s us I.kIn hl) r2 h) λr s' hq=>?_)
 cases r with
 |error e=>exact hx pins σ H s e s' I hq
 |ok fl=>
  cases fl with
  |ret u=>exact I.after hq
  |next=>exact False.elim hq
  |brk=>exact False.elim hq
  |cont=>exact False.elim hq
theorem E4(F:FnOk X.prog X.w X.K X.mg X.base CX k f fd ps sp)(hr:Room k X.A)(hg:Gl X x)(hm:X.mg x=some (.ref f))(hk:PySem.W.keepIn X.K (.ref f)=true)(hb:Binds X.K fd ps ds)(hd:Vals dvs ds)(hx:oS CX X E)
 (ha:PA X (e::es) t) (hdb:(x==("__debug__" : Str))=false:=by decide) (he:starEach (e::es) X.env=(false,eval e X.env)::starEach es X.env:=by rfl) (hpl:(backTo pos (starEach es X.env)).any (·.1)=false:=by rfl) :
 PE X (.Call (.Name x p) (e::es) [] pos) (sY sp dvs E t):=by
 intro pins s σ H Q I h
 refine wpAny_Call_Name_kw (sW I hg hm ?_ hdb)
 refine PySem.W.callWith_K (h₀:=X.base) I.ok.mod.kin hk (thn (ha pos pins s σ H _ I h) λus s1 ⟨vs,H1,I1,r,q⟩=>⟨I1.kIn,?_⟩) he hpl
 exact yS F hr hb hd hx I1 r q
theorem E5(F:FnOk X.prog X.w X.K X.mg X.base CX k f fd ps sp)(hr:Room k X.A)(hg:Gl X x)(hm:X.mg x=some (.ref f))(hk:PySem.W.keepIn X.K (.ref f)=true)(hb:Binds X.K fd ps ds)(hd:Vals dvs ds)(hx:oS CX X E)
 (hdb:(x==("__debug__" : Str))=false:=by decide):PE X (.Call (.Name x p) [] [] pos) (sY sp dvs E tNil):=by
 intro pins s σ H Q I h
 refine wpAny_Call_Name_kw (sW I hg hm ?_ hdb)
 exact PySem.W.callWith_K0 I.kIn hk (yS (us:=[]) F hr hb hd hx I .nil h)
end
section
variable{X:Cx}{CX:CXT}{k:Nat}{f C:Addr}{fd:FuncData}{ps ks:List Str}{sp:Sp}{E:XK}{x m:Str}{p pos apos kpos:Pos}{e o:Expr}{es:List Expr}{kws:List Keyword}{te ta:TE}{t tk:TA}{nm:Option Str}
variable{g:List Value->List Value->List Value}{gV:List V->List V->List V}
end
set_option genInjectivity false in
structure FnScope(N P:List Str)(sc:Scope):Prop where
 kind:sc.kind=.function
 co:sc.isCoroutine=false
 gen:sc.isGenerator=false
 nd:N.Nodup
 pre:N.take P.length=P
 par:∀x∈P,sc.names.lookup x=some .local\/sc.names.lookup x=some .cell
 nofree:∀y∈sc.names,y.2≠.free
theorem yT{kindOf:Str->Option NameKind}{x:Str}:∀{binds:List (Str×Value)} {m:Str->Option Value},(∀v,(x,v)∉binds)->bindL kindOf binds m x=m x
 |[],_,_=>rfl
 |(n,v)::r,m,h=>by
  unfold bindL
  rw[yT λw hw=>h w (bE _ hw)]
  split
  ·have:x≠n:=by rintro rfl;exact h v aY
   simp[this]
  ·rfl
theorem yU{kindOf:Str->Option NameKind}{x:Str}:∀{binds:List (Str×Value)} {m:Str->Option Value},(∀v,(x,v)∉binds)->bindC kindOf binds m x=m x
 |[],_,_=>rfl
 |(n,v)::r,m,h=>by
  unfold bindC
  rw[yU λw hw=>h w (bE _ hw)]
  split
  ·rfl
  ·have:x≠n:=by rintro rfl;exact h v aY
   simp[this]
theorem yV{kindOf:Str->Option NameKind}{x:Str}{v:Value}:∀{P:List Str} {vs:List Value} {i:Nat} {m:Str->Option Value},P.Nodup->P[i]?=some x->vs[i]?=some v->kindOf x=some .local ->
 bindL kindOf (P.zip vs) m x=some v
 |[],_,_,_,_,h,_,_=>by simp at h
 |_::_,[],_,_,_,_,h,_=>by simp at h
 |p::P,w::vs,0,m,nd,h1,h2,hk=>by
  simp at h1 h2;subst h1;subst h2
  show bindL kindOf ((p,w)::P.zip vs) m p=_
  unfold bindL
  rw[yT λv hv=>(dP.mp nd).1 (xP hv).1,if_pos hk]
  simp
 |p::P,w::vs,i+1,m,nd,h1,h2,hk=>by
  show bindL kindOf ((p,w)::P.zip vs) m x=_
  unfold bindL
  exact yV (i:=i) (dP.mp nd).2 (by simpa using h1) (by simpa using h2) hk
theorem yW{kindOf:Str->Option NameKind}{x:Str}{v:Value}:∀{P:List Str} {vs:List Value} {i:Nat} {m:Str->Option Value},P.Nodup->P[i]?=some x->vs[i]?=some v->kindOf x≠some .local ->
 bindC kindOf (P.zip vs) m x=some v
 |[],_,_,_,_,h,_,_=>by simp at h
 |_::_,[],_,_,_,_,h,_=>by simp at h
 |p::P,w::vs,0,m,nd,h1,h2,hk=>by
  simp at h1 h2;subst h1;subst h2
  show bindC kindOf ((p,w)::P.zip vs) m p=_
  unfold bindC
  rw[yU λv hv=>(dP.mp nd).1 (xP hv).1,if_neg hk]
  simp
 |p::P,w::vs,i+1,m,nd,h1,h2,hk=>by
  show bindC kindOf ((p,w)::P.zip vs) m x=_
  unfold bindC
  exact yW (i:=i) (dP.mp nd).2 (by simpa using h1) (by simpa using h2) hk
noncomputable def cV(N:List Str)(vs:List V):St:=vs.map some++aM (N.length-vs.length) none
noncomputable def fZ(CX:CXT)(P:Program)(w:World)(K:PySem.W.Frag)(mg:Str->Option Value)(base:Heap)(N:List Str)(qual:Str)(scope:Scope)(f:Addr)(cd:Value)(A:Around)(outer:List Env)(s:Shared)(H:Hp)(E:XK):Cx where
 prog:=P
 w:=w
 K:=K
 mg:=mg
 base:=base
 A:=A.deeper (envOfC qual scope s.heap.objs.size f cd)
 N:=N
 s₀:=s
 H₀:=H
 env:=envOfC qual scope s.heap.objs.size f cd
 outer:=outer
 stack:=envOfC qual scope s.heap.objs.size f cd::outer
 ex:=[]
 calm:=true
 fn:=λ_=>true
 pn:=[]
 xe:=λe s'=>wpAny (model P w) (A.deeper (envOfC qual scope s.heap.objs.size f cd)) (leaving (envOfC qual scope s.heap.objs.size f cd) e) (λ_ s''=>CX outer H s E e s'') (λe' s''=>CX outer H s E e' s'') s'
theorem yX{sc:Scope}{n:Nat}{x:Str}(h:sc.names.lookup x=some .cell):∃c,(cellsFrom n sc.names []).lookup x=some c:=by
 have q:=PySem.W.cellsFrom_some sc.names n [] (.inl h)
 exact K4.mp q
theorem E6{CX:CXT}{P:Program}{w:World}{K:PySem.W.Frag}{mg:Str->Option Value}{base:Heap}{N ps:List Str}{qual:Str}{scope:Scope}{f:Addr}{cd:Value}{A:Around}{outer:List Env}{s s1:Shared}{H:Hp}{E:XK}{us:List Value}{vs:List V}
 (S:FnScope N ps scope) (hd:A.handled=none) (e0:Env0 P w K mg base A outer s H) (hl:vs.length=ps.length) (r:Vals vs us)
 (x:InCallC s s.heap.objs.size (bindL (envOfC qual scope s.heap.objs.size f cd).kindOf (ps.zip us) λ_=>none) (cellsFrom (s.heap.objs.size+1) scope.names []) (bindC (envOfC qual scope s.heap.objs.size f cd).kindOf (ps.zip us) λ_=>none) s1) :
 Inv (fZ CX P w K mg base N qual scope f cd A outer s H E) [] (cV N vs) H s1:=by
 have hpl:ps.length<=N.length:=by have:=congrArg oE S.pre;rw[lV]at this;lia
 obtain⟨h1,tk,rfl,hk⟩:=x.done
 have noA:∀b:Addr,b∉(fZ CX P w K mg base N qual scope f cd A outer s H E).ex:=λb z=>absurd (show b∈([]:List Addr)from z) (by simp)
 refine⟨⟨e0.mod,S.kind,rfl,rfl,aF _,λy z c h1 h2=>?_,λy hy=>?_,λy c _ h=>?_,λ_=>hd,Around.frames_deeper e0.frames,.inr ⟨rfl,rfl⟩,λb z=>absurd z (noA b),e0.bs,e0.bsz,λb _ _=>noA b,λb z=>absurd z (noA b),e0.funs,e0.frf⟩,
  rfl,e0.bare,Un.kept hk,⟨_,x.toInCall.ns,λi y v h1 h2 h3=>?_⟩,λy c h=>⟨_,x.cell y c h⟩,e0.hok.fresh (aF _),λy c h=>?_,λp hp=>absurd (show p∈([]:List (Addr×Obj))from hp) (by simp),e0.hok.kept hk,?_⟩
 ·exact name_of_addr x.apart (PySem.mem_of_lookup h1) (PySem.mem_of_lookup h2)
 ·have hy:scope.names.lookup y=some .cell\/scope.names.lookup y=some .free:=hy
  rcases hy with hy|hy
  ·exact yX hy
  ·exact absurd rfl (S.nofree _ (PySem.mem_of_lookup hy))
 ·exact kI (x.above y c (PySem.mem_of_lookup h))
 ·have hi:i<vs.length:=by
   unfold cV at h2
   by_cases hi:i<vs.length
   ·exact hi
   ·rw[jN (by simpa using hi)]at h2
    rw[oF]at h2
    split at h2<;>cases h2
  have ha:vs[i]?=some v:=by
   unfold cV at h2
   rw[lW (by simpa using hi),bI]at h2
   cases e:vs[i]? with
   |none=>rw[e]at h2;cases h2
   |some a=>rw[e]at h2;cases h2;rfl
  obtain⟨u,hu,rv⟩:=r.get ha
  have hp:ps[i]?=some y:=by
   rw[<-S.pre,K5 (by lia)];exact h1
  have ndP:ps.Nodup:=by rw[<-S.pre];exact S.nd.sublist (xQ _ _)
  refine⟨u,rv,?_⟩
  rcases S.par y (kK hp)with k|k
  ·exact .inl ⟨k,yV ndP hp hu k⟩
  ·obtain⟨c,e⟩:=yX (n:=s.heap.objs.size+1) k
   refine .inr ⟨.inl k,c,e,?_⟩
   have q:=x.cell y c e
   rw[yW ndP hp hu (by show scope.names.lookup y≠_;rw[k];decide)]at q
   exact q
 ·exact e0.hok.fresh (kI (x.above y c (PySem.mem_of_lookup h)))
 ·unfold cV
  show _=N.length
  rw[bL,aC,eB]
  lia
theorem fn_of{CX:CXT}{P:Program}{w:World}{K:PySem.W.Frag}{mg:Str->Option Value}{base:Heap}{k:Nat}{f:Addr}{name qual:Str}{params:Arguments}{body:List Stmt}{scope:Scope}{dV kV doc pm cdv ct oc:Value}{an od:Option Addr}
 {osl:Array (Option Value)} {N ps:List Str} {sp:Sp} (lk:K.lookup f=some ⟨oc,od,.func (PySem.W.fnOf name qual params body scope dV kV doc pm an cdv ct),osl⟩) (hcd:PySem.W.codeIn K cdv qual=true) (S:FnScope N ps scope)
 (len:∀vs H Q E,sp vs H Q E->vs.length=ps.length)
 (hbody:∀(A:Around)(outer:List Env)(s:Shared)(H:Hp)(vs:List V)(Q:VK)(E:XK),Room k (A.deeper (envOfC qual scope s.heap.objs.size f cdv))->sp vs H Q E ->
  ∃t,PSs (fZ CX P w K mg base N qual scope f cdv A outer s H E) body t/\t {nx:=λ_ H'=>Q .non H',rt:=Q} (cV N vs) H) :
 FnOk P w K mg base CX (k+1) f (PySem.W.fnOf name qual params body scope dV kV doc pm an cdv ct) ps sp:=by
 refine⟨len,λA outer s H args us vs Q E hr e0 hb r hsp=>?_⟩
 have hl:=len _ _ _ _ hsp
 have KX:K.In s.heap:=e0.mod.kin.keeps λb o e=>(e0.bs b o e).1
 have lim:s.heap.NoLimit:=e0.mod.nolimit.keeps λb o e=>(e0.bs b o e).1
 have hkind:∀y∈ps.zip us,scope.names.lookup y.1=some .local\/(scope.names.lookup y.1=some .cell/\((cellsFrom (s.heap.objs.size+1) scope.names []).lookup y.1).isSome=true):=λ⟨n,v⟩ hy=>by
  rcases S.par n (xP hy).1 with q|q
  ·exact .inl q
  ·exact .inr ⟨q,PySem.W.cellsFrom_some _ _ _ (.inl q)⟩
 refine codeAny_call_function hr.depth (KX _ _ lk) rfl S.co S.gen rfl (PySem.W.codeRec_of KX hcd) (hb _ _ _ _ ?_)
 refine wpAny_newFunctionEnv_cells S.kind hkind λenv he s1 x=>?_
 subst he
 refine⟨lim.keeps x.toInCall.keep,codeAny_func ?_⟩
 obtain⟨t,ht,hq⟩:=hbody A outer s H vs Q E (hr.deeper _) hsp
 have I:Inv (fZ CX P w K mg base N qual scope f cdv A outer s H E) [] (cV N vs) H s1:=E6 S hr.hd e0 hl r x
 refine wpAny_mono (ht [] s1 (cV N vs) H _ I hq) (λfl s' hs=>?_) λe s' hs=>hs
 have fin:∀{σ':St} {H':Hp} {v:V} {u:Value},Inv (fZ CX P w K mg base N qual scope f cdv A outer s H E) [] σ' H' s'->RelV v u->Q v H'->CE outer P w H s Q u s':=
  λ{σ' H' v u} J rv q=>⟨v,H',J.os,J.bare,J.base,J.hok,rv,q⟩
 cases fl with
 |ret u=>
  obtain⟨v,σ',H',J,rv,q⟩:=hs
  exact fin J rv q
 |next=>
  obtain⟨σ',H',J,q⟩:=hs
  exact fin (v:=V.non) (u:=Value.none) J rfl q
 |brk=>
  obtain⟨_,_,_,q⟩:=hs
  exact False.elim q
 |cont=>
  obtain⟨_,_,_,q⟩:=hs
  exact False.elim q
section
variable{X:Cx}{x:Str}{p pos:Pos}{e:Expr}{es:List Expr}{t:TA}{id T:String}{r:List V->Hp->VK->Prop}
noncomputable def tCB(r:List V->Hp->VK->Prop)(t:TA):TE:=λσ H Q=>t σ H λvs H1=>r vs H1 Q
theorem kW (hc:bZ X (.builtin id) r) (hg:Gl X x) (hm:X.mg x=none) (hv:bootBuiltins x=some (.builtin id)) (ha:PA X (e::es) t) (hn:x ≠ "__name__" := by decide) (hdb:(x==("__debug__" : Str))=false:=by decide)
 (he:starEach (e::es) X.env=(false,eval e X.env)::starEach es X.env:=by rfl) (hpl:(backTo pos (starEach es X.env)).any (·.1)=false:=by rfl):PE X (.Call (.Name x p) (e::es) [] pos) (tCB r t):=by
 intro pins s σ H Q I h
 refine wpAny_Call_Name_kw (jR I hg hm hv ?_ hn hdb)
 exact PyProof.Rows.callWith_builtin1 (thn (ha pos pins s σ H _ I h) λus s1 ⟨vs,H1,I1,r1,q1⟩=>hc pins s1 σ H1 vs us Q I1 r1 q1) he hpl
theorem jT (hc:bZ X (.type T) r) (hg:Gl X x) (hm:X.mg x=none) (hv:bootBuiltins x=some (.type T)) (ha:PA X (e::es) t) (hn:x ≠ "__name__" := by decide) (hdb:(x==("__debug__" : Str))=false:=by decide)
 (he:starEach (e::es) X.env=(false,eval e X.env)::starEach es X.env:=by rfl) (hpl:(backTo pos (starEach es X.env)).any (·.1)=false:=by rfl):PE X (.Call (.Name x p) (e::es) [] pos) (tCB r t):=by
 intro pins s σ H Q I h
 refine wpAny_Call_Name_kw (jR I hg hm hv ?_ hn hdb)
 exact PyProof.Rows.callWith_type1 (thn (ha pos pins s σ H _ I h) λus s1 ⟨vs,H1,I1,r1,q1⟩=>hc pins s1 σ H1 vs us Q I1 r1 q1) he hpl
end
end L2
namespace HT
open PySem PyProof.Rows
section
open PySem.SeqAt
open PySem.AutoSeq1 (wpAny_loadPart')
open PySem.MeetsSeq PySem.MeetsSeq2 PySem.MeetsSeq3
end
section
variable{prog:Program}{w:World}{A:Around}{E:Value->Shared->Prop}{s:Shared}
theorem cat_tup{t b:Addr}{vs ws:List Value}{Q:Value->Shared->Prop}(ht:IsTup s.heap t vs.toArray)(hb:IsTup s.heap b ws.toArray)(hv:vs≠[])
 (h1:ws=[]->Q (.ref t) s) (h2:ws≠[]->Q (.ref s.heap.objs.size) {s with heap:=s.heap.push {cls:=.type "tuple", data:=.seq (vs++ws).toArray} })
 (hsz:vs.length+ws.length<=sizeLine):wpAny (model prog w) A (binaryOp .Add (.ref t) (.ref b)) Q E s:=by
 obtain⟨⟨cls,dd,data,sl⟩,ho,hc,n,hd⟩:=id ht
 obtain⟨⟨cls2,dd2,data2,sl2⟩,ho2,hc2,n2,hd2⟩:=id hb
 simp only at hc hd hc2 hd2
 subst hc hd hc2 hd2
 have e:vs.toArray++ws.toArray=(vs++ws).toArray:=by simp
 by_cases hw:ws=[]
 ·exact concat_meets ⟨_,ho,rfl⟩ ⟨_,ho2,rfl⟩ noFill_tuple_add seq_tuple_add PySem.F.slot_tuple_add PySem.F.entry_tuple_add (PySem.F.args_tuple_add_2 _ _)
   (tuple_addW1 t b vs.toArray ws.toArray n n2 dd dd2 sl sl2 (by simpa using hv) (by simp[hw])) ⟨ho,ho2,h1 hw⟩
 ·refine concat_meets ⟨_,ho,rfl⟩ ⟨_,ho2,rfl⟩ noFill_tuple_add seq_tuple_add PySem.F.slot_tuple_add PySem.F.entry_tuple_add (PySem.F.args_tuple_add_2 _ _)
   (tuple_addW2 t b vs.toArray ws.toArray n n2 dd dd2 sl sl2 (by simpa using hv) (by simpa using hw) (by rw[aQ,aQ];exact hsz)) ⟨ho,ho2,?_⟩
  rw[e]
  exact h2 hw
noncomputable def sIx(n d:Nat):Option Int->Nat
 |none=>d
 |some v=>if v<0 then(v+(n:Int)).toNat else min v.toNat n
theorem sIx_le(n d:Nat)(hd:d<=n)(o:Option Int):sIx n d o<=n:=by
 cases o with
 |none=>exact hd
 |some v=>
  show(if v<0 then(v+(n:Int)).toNat else min v.toNat n)<=n
  by_cases hv:v<0
  ·rw[if_pos hv];lia
  ·rw[if_neg hv];exact Nat.min_le_right _ _
theorem yY(v:Int)(n d:Nat):(if v<0 then max (v+(n:Int)) 0 else min v (n:Int))=((sIx n d (some v):Nat):Int):=by
 show(if v<0 then max (v+(n:Int)) 0 else min v (n:Int))=(((if v<0 then(v+(n:Int)).toNat else min v.toNat n):Nat):Int)
 by_cases hv:v<0
 ·simp only[if_pos hv];lia
 ·simp only[if_neg hv];lia
theorem E7(lo hi:Option Int)(n:Nat):Builtin.Slice.sliceAdjust lo hi 1 (n:Int)=(((sIx n 0 lo:Nat):Int),((sIx n n hi:Nat):Int)):=by
 have h1:¬((1:Int)<0):=by lia
 unfold Builtin.Slice.sliceAdjust
 simp only[h1,if_false]
 refine Prod.ext ?_ ?_
 ·cases lo with
  |none=>rfl
  |some v=>exact yY v n 0
 ·cases hi with
  |none=>rfl
  |some v=>exact yY v n n
theorem E8(i j:Nat):Builtin.Slice.slicePlaces (i:Int) (j:Int) 1=j-i:=by
 unfold Builtin.Slice.slicePlaces
 have h1:(1:Int)>0:=by lia
 simp only[h1,if_true,Int.ediv_one]
 split<;>lia
theorem yZ{v:Value}{o:Option Int}{Q:Option Int->Shared->Prop}(p:IsPart v o)(h:Q o s):wpAny (model prog w) A (Builtin.Slice.slicePartIndex v) Q E s:=by
 cases p with
 |none=>exact slicePart_none h
 |int i t=>exact slicePart_int h
theorem sliceApplied_gen{sl:Addr}{vl vu:Value}{lo hi:Option Int}{n:Nat}{Q:Int×Int×Nat->Shared->Prop}(hs:s.heap.IsSliceOf sl vl vu .none)(pl:IsPart vl lo)(pu:IsPart vu hi)
 (h:Q (((sIx n 0 lo:Nat):Int),1,sIx n n hi-sIx n 0 lo) s):wpAny (model prog w) A (Builtin.Slice.sliceApplied (.ref sl) (pure (n:Int))) Q E s:=by
 obtain⟨os,hos,hcs,hds⟩:=id hs
 unfold Builtin.Slice.sliceApplied Builtin.Slice.sliceFields
 refine wpAny_bind (wpAny_bind (wpAny_field hos hds (x:=vl) rfl (wpAny_bind (wpAny_field hos hds (x:=vu) rfl (wpAny_bind (wpAny_field hos hds (x:=.none) rfl (wpAny_pure ?_)))))))
 refine wpAny_bind (slicePart_none ?_)
 show wpAny _ _ (if((1:Int)==0)=true then _ else _) _ _ s
 rw[if_neg (by decide)]
 refine wpAny_bind (yZ pl (wpAny_bind (yZ pu (wpAny_bind (wpAny_pure ?_)))))
 show wpAny _ _ (match Builtin.Slice.sliceAdjust lo hi 1 (n:Int)with|(lo,hi)=>pure (lo,(1:Int),Builtin.Slice.slicePlaces lo hi 1)) _ _ s
 rw[E7 lo hi n]
 show wpAny _ _ (pure (((sIx n 0 lo:Nat):Int),(1:Int),Builtin.Slice.slicePlaces ((sIx n 0 lo:Nat):Int) ((sIx n n hi:Nat):Int) 1)) _ _ s
 rw[E8]
 exact wpAny_pure h
theorem E9(xs:Array Value)(i k:Nat):((aA k).filterMap λ(m:Nat)=>xs[((i:Int)+(m:Int)*1).toNat]?).toArray=((xs.toList.drop i).take k).toArray:=by
 have e:(λ(m:Nat)=>xs[((i:Int)+(m:Int)*1).toNat]?)=λm=>xs[i+m]?:=by
  funext m
  have:((i:Int)+(m:Int)*1).toNat=i+m:=by lia
  rw[this]
 rw[e]
 have:=pick_run xs i k
 rw[K6]at this
 have e2:((λx=>xs[x]?)∘λx=>i+x)=λm=>xs[i+m]?:=rfl
 rw[e2]at this
 rw[this]
theorem getItem_tuple_cut{t sl:Addr}{items:Array Value}{vl vu:Value}{lo hi:Option Int}{Q:Value->Shared->Prop}(ht:IsTup s.heap t items)(hs:s.heap.IsSliceOf sl vl vu .none)(pl:IsPart vl lo)(pu:IsPart vu hi)
 (hw:¬(sIx items.size 0 lo=0/\sIx items.size items.size hi=items.size))
 (h:Q (.ref s.heap.objs.size) {s with heap:=s.heap.push {cls:=.type "tuple", data:=.seq ((items.toList.drop (sIx items.size 0 lo)).take (sIx items.size items.size hi-sIx items.size 0 lo)).toArray} })
 (hsz:items.size<=sizeLine):wpAny (model prog w) A (getItem (.ref t) (.ref sl)) Q E s:=by
 have htake:sizeOk (.seq ((items.toList.drop (sIx items.size 0 lo)).take (sIx items.size items.size hi-sIx items.size 0 lo)).toArray):=by
  show((items.toList.drop (sIx items.size 0 lo)).take (sIx items.size items.size hi-sIx items.size 0 lo)).toArray.size<=sizeLine
  rw[aQ,lV,oG,eG]
  lia
 have hj:sIx items.size items.size hi<=items.size:=sIx_le _ _ (aF _) hi
 obtain⟨os,hos,hcs,hds⟩:=id hs
 have hTs:s.TypeIs (.ref sl) "slice" := ⟨os,hos,hcs⟩
 unfold getItem
 try with_reducible refine wpAny_holding ?_
 first|refine wpAny_bind (wpAny_pure ?_)|skip
 refine wpAny_bind (wpAny_sequenceKey ht.typeIs (by decide) ?_)
 refine wpAny_bind (wpAny_callSpecial?_slot (name:=Str.ofString "__getitem__") ht.typeIs PyProof.Rows.slot_tuple_getitem
  (wpAny_call_entry PyProof.Rows.slot_tuple_getitem ht.typeIs entry_tuple_getitem ?_ (args_tuple_getitem _ _)))
 show wpAny _ _ (Builtin.Tuple.tupleItemsOf (.ref t)>>=_) _ _ s
 refine wpAny_bind (tupleItemsOf_ ht ?_)
 refine wpAny_bind (wpAny_typeOf hTs ?_)
 rw[if_pos (by decide)]
 refine wpAny_bind (sliceApplied_gen hs pl pu ?_)
 have hno:¬((((sIx items.size 0 lo:Nat):Int)==0&&(1:Int)==1&&(sIx items.size items.size hi-sIx items.size 0 lo)==items.size)=true):=by
  intro q
  rw[aE,aE]at q
  have q1:((sIx items.size 0 lo:Nat):Int)=0:=eq_of_beq q.1.1
  have q2:sIx items.size items.size hi-sIx items.size 0 lo=items.size:=eq_of_beq q.2
  exact hw ⟨by lia,by lia⟩
 show wpAny _ _ (if(((sIx items.size 0 lo:Nat):Int)==0&&(1:Int)==1&&(sIx items.size items.size hi-sIx items.size 0 lo)==items.size)=true then _ else _) _ _ s
 rw[if_neg hno,E9]
 first
  |exact wpAny_bind (m:=Builtin.Tuple.tupleExact _) (wpAny_newObj_type (wpAny_pure ⟨_,rfl,wpAny_pure h⟩) htake)
  |exact wpAny_bind (m:=Builtin.Tuple.tupleExact _) (wpAny_newObj_type (wpAny_bind (wpAny_pure (wpAny_pure ⟨_,rfl,wpAny_pure h⟩))) htake)
  |exact wpAny_bind (wpAny_bind (m:=Builtin.Tuple.tupleExact _) (wpAny_newObj_type (wpAny_pure (wpAny_pure ⟨_,rfl,wpAny_pure h⟩)) htake))
  |exact wpAny_bind (wpAny_bind (m:=Builtin.Tuple.tupleExact _) (wpAny_newObj_type (wpAny_pure ⟨_,rfl,wpAny_pure h⟩) htake))
end
end HT
namespace L2
open PySem PySem.Spec PyProof.Rows
noncomputable abbrev TO:=St->Hp->(Option Int->Hp->Prop)->Prop
noncomputable def PO(X:Cx)(e:Option Expr)(t:TO):Prop:=
 ∀(pins:List (Addr×Obj))(s:Shared)(σ:St)(H:Hp)(Q:Option Int->Hp->Prop),Inv X pins σ H s->t σ H Q ->
  wpAny (model X.prog X.w) X.A (evalPart e X.env) (λu s'=>∃o H',Inv X pins σ H' s'/\IsPart u o/\Q o H') X.xe s
noncomputable def E_:TO:=λ_ H Q=>Q none H
theorem Ea{ns:List Int}:∀{us:List Value},Vals (ns.map V.int) us->IntsAre us ns:=by
 induction ns with
 |nil=>intro us r;rw[lX]at r;cases r;exact .nil
 |cons n ns ih=>
  intro us r
  rw[aG]at r
  cases r with
  |cons r1 r2=>
   obtain⟨t,e⟩:=r1
   subst e
   exact .cons n t (ih r2)
section
variable{X:Cx}{e:Expr}{te:TE}{lo hi:Option Expr}{tl th:TO}{pos p2:Pos}
theorem Eb:PO X none E_:=by
 intro pins s σ H Q I h
 rw[evalPart_none]
 exact wpAny_pure ⟨none,H,I,.none,h⟩
noncomputable def SlR(X:Cx)(r:V->Option Int->Option Int->Hp->VK->Prop):Prop:=
 ∀(pins:List (Addr×Obj))(s:Shared)(σ:St)(H:Hp)(x:V)(v vl vu:Value)(lo hi:Option Int)(sl:Addr)(Q:VK),Inv X pins σ H s->RelV x v->s.heap.IsSliceOf sl vl vu .none->IsPart vl lo->IsPart vu hi->r x lo hi H Q ->
  ∃T id,typeLookup (.type T) "__getitem__" = pure (some (.builtin id))/\s.TypeIs v T/\wpAny (model X.prog X.w) X.A (getItem v (.ref sl)) (EP X pins σ Q) X.xe s
noncomputable def tSl(r:V->Option Int->Option Int->Hp->VK->Prop)(te:TE)(tl th:TO):TE:=λσ H Q=>te σ H λx H1=>tl σ H1 λl H2=>th σ H2 λu H3=>r x l u H3 Q
theorem Ec{r:V->Option Int->Option Int->Hp->VK->Prop}(hr:SlR X r)(he:PE X e te)(hl:PO X lo tl)(hu:PO X hi th):PE X (.Subscript e (.Slice lo hi none p2) pos) (tSl r te tl th):=by
 intro pins s σ H Q I h
 refine Subscript_ (thn (he pins s σ H _ I h) λv s1 ⟨x,H1,I1,r1,q1⟩=>?_)
 refine wpAny_Slice (thn (hl pins s1 σ H1 _ I1 q1) λvl s2 ⟨l,H2,I2,pl,q2⟩=>thn (hu pins s2 σ H2 _ I2 q2) λvu s3 ⟨u,H3,I3,pu,q3⟩=>?_)
 rw[evalPart_none]
 refine wpAny_pure ?_
 have I4:Inv X pins σ H3 {s3 with heap:=s3.heap.push {cls:=.type "slice", data:=.fields #[vl,vu,.none] } }:=I3.kept (t':=s3.toks) λb ob q=>Heap.get?_push_of_some _ q
 obtain⟨T,id,hT,ht,hg⟩:=hr pins {s3 with heap:=s3.heap.push {cls:=.type "slice", data:=.fields #[vl,vu,.none] } } σ H3 x v vl vu l u s3.heap.objs.size Q I4 r1 (Heap.IsSliceOf.new ..) pl pu q3
 show wpAny (model X.prog X.w) X.A (subscriptTail e (.Slice lo hi none p2) v (.ref s3.heap.objs.size)) (EP X pins σ Q) X.xe {s3 with heap:=s3.heap.push {cls:=.type "slice", data:=.fields #[vl,vu,.none] } }
 exact tail_any (ops:=[.ref s3.heap.objs.size,v]) ht hT hg (by with_unfolding_all rfl)
noncomputable def iY(xs:List V)(lo hi:Option Int):List V:=(xs.drop (HT.sIx xs.length 0 lo)).take (HT.sIx xs.length xs.length hi-HT.sIx xs.length 0 lo)
theorem zA(xs:List V)(lo hi:Option Int):(iY xs lo hi).length<=xs.length:=by
 unfold iY
 rw[lV,oG]
 lia
noncomputable def rSlT(K:PySem.W.Frag):V->Option Int->Option Int->Hp->VK->Prop:=λx lo hi H Q=>∃a xs,x=.ref a/\SqT K H a xs /\
 ¬(HT.sIx xs.length 0 lo=0/\HT.sIx xs.length xs.length hi=xs.length)/\∀p,H p=none->Q (.ref p) (upd H p (.tup (iY xs lo hi)))
theorem sl_tup:SlR X (rSlT X.K):=by
 intro pins s σ H x v vl vu lo hi sl Q I rx hs pl pu h
 obtain⟨a,xs,rfl,hx,hw,q⟩:=h
 cases rx
 obtain⟨its,r,ht,hz⟩:=I.tuple hx
 have hlen:its.toArray.size=xs.length:=by rw[aQ];exact r.length.symm
 refine⟨"tuple", _,PyProof.Rows.slot_tuple_getitem.lookup,ht.typeIs,?_⟩
 refine HT.getItem_tuple_cut ht hs pl pu (by rw[hlen];exact hw) ?_ (by rw[hlen];exact hz)
 rw[hlen]
 refine⟨.ref s.heap.objs.size,_,I.laid (t':=s.toks) (o:=.tup (iY xs lo hi)) (λb ob q=>Heap.get?_push_of_some _ q) (aF _) ?_,rfl,q _ (I.hok.fresh (aF _))⟩
 exact⟨aW (zA xs lo hi) hz,_,(r.drop (HT.sIx xs.length 0 lo)).take (HT.sIx xs.length xs.length hi-HT.sIx xs.length 0 lo),IsTup.new _ _⟩
noncomputable def rCatT(K:PySem.W.Frag):R2:=λx y H Q=>∃a b xs ys,x=.ref a/\y=.ref b/\SqT K H a xs/\SqT K H b ys/\xs≠[]/\xs.length+ys.length<=sizeLine /\
 (ys=[]->Q (.ref a) H)/\(ys≠[]->∀p,H p=none->Q (.ref p) (upd H p (.tup (xs++ys))))
theorem Vals.nil_iff{xs:List V}{us:List Value}(r:Vals xs us):us=[]↔xs=[]:=by
 cases r with
 |nil=>simp
 |cons _ _=>simp
theorem Ed:OpR X (binaryOp .Add) (rCatT X.K):=by
 intro pins s σ H x y v u Q I rx ry h
 obtain⟨a,b,xs,ys,rfl,rfl,ha,hb,hx,hz,q1,q2⟩:=h
 cases rx
 cases ry
 obtain⟨its,r1,p1,_⟩:=I.tuple ha
 obtain⟨its2,r2,p2,_⟩:=I.tuple hb
 refine HT.cat_tup p1 p2 (λz=>hx (r1.nil_iff.mp z)) (λz=>⟨.ref a,H,I,rfl,q1 (r2.nil_iff.mp z)⟩) (λz=>?_) (by rw[<-r1.length,<-r2.length];exact hz)
 refine⟨.ref s.heap.objs.size,_,I.laid (t':=s.toks) (o:=.tup (xs++ys)) (λb ob q=>Heap.get?_push_of_some _ q) (aF _) ?_,rfl,q2 (λw=>z (r2.nil_iff.mpr w)) _ (I.hok.fresh (aF _))⟩
 exact⟨by rw[bL];exact hz,_,r1.append r2,IsTup.new _ _⟩
end
noncomputable def ixN(n:Nat)(i:Int):Option Nat:=if 0<=i then(if i<n then some i.toNat else none)else if -(n:Int)<=i then some (i+n).toNat else none
noncomputable def atI{α:Type}(xs:List α)(i:Int):Option α:=(ixN xs.length i).bind λj=>xs[j]?
theorem sZ{n:Nat}{i:Int}{j:Nat}(h:ixN n i=some j):seqIndex? i n=some j/\j<n /\ -(n:Int)<=i/\i<n:=by
 unfold ixN at h
 by_cases h0:0<=i
 ·rw[if_pos h0]at h
  by_cases h1:i<n
  ·rw[if_pos h1]at h
   have e:i.toNat=j:=eA.inj h
   exact⟨by rw[seqIndex_of h0 h1,e],by lia,by lia,h1⟩
  ·rw[if_neg h1]at h;cases h
 ·rw[if_neg h0]at h
  by_cases h1:-(n:Int)<=i
  ·rw[if_pos h1]at h
   have e:(i+n).toNat=j:=eA.inj h
   exact⟨by rw[seqIndex_neg (by lia) h1,e],by lia,h1,by lia⟩
  ·rw[if_neg h1]at h;cases h
theorem tB{α:Type}{xs:List α}{i:Int}{v:α}(h:atI xs i=some v):∃j,seqIndex? i xs.length=some j/\xs[j]?=some v/\j<xs.length /\ -(xs.length:Int)<=i/\i<xs.length:=by
 unfold atI at h
 cases e:ixN xs.length i with
 |none=>rw[e]at h;cases h
 |some j=>
  rw[e]at h
  obtain⟨h1,h2,h3,h4⟩:=sZ e
  exact⟨j,h1,h,h2,h3,h4⟩
noncomputable def zB(b:Expr):Prop:=∀o i,subscripted b false o i=operate [o,i] (getItem o i)
noncomputable def IxR(X:Cx)(r:R2):Prop:=
 ∀(value slice:Expr)(pins:List (Addr×Obj))(s:Shared)(σ:St)(H:Hp)(x y:V)(v u:Value)(Q:VK),Inv X pins σ H s->RelV x v->RelV y u->r x y H Q ->
  subscripted slice false v u=operate [v,u] (getItem v u)->wpAny (model X.prog X.w) X.A (subscriptTail value slice v u) (EP X pins σ Q) X.xe s
noncomputable def MtR(X:Cx)(id:String)(r:V->List V->Hp->VK->Prop):Prop:=
 ∀(pins:List (Addr×Obj))(s:Shared)(σ:St)(H:Hp)(x:V)(xs:List V)(v:Value)(us:List Value)(Q:VK),Inv X pins σ H s->RelV x v->Vals xs us->r x xs H Q ->
  wpAny (model X.prog X.w) X.A (call (.builtin id) (v::us)) (EP X pins σ Q) X.xe s
section
variable{X:Cx}{a b:Expr}{ta tb:TE}{pos:Pos}
theorem pe_ix{r:R2}(hr:IxR X r)(ha:PE X a ta)(hb:PE X b tb)(hs:zB b):PE X (.Subscript a b pos) (tOp r ta tb):=by
 intro pins s σ H Q I h
 exact Subscript_ (binT ha hb I h λv u s2 x y H2 I2 rx ry q=>hr a b pins s2 σ H2 x y v u Q I2 rx ry q (hs _ _))
noncomputable def rIxL(K:PySem.W.Frag):R2:=λx y H Q=>∃p xs i v,x=.ref p/\y=.int i/\SqL K H p xs/\atI xs i=some v/\Q v H
noncomputable def rIxT(K:PySem.W.Frag):R2:=λx y H Q=>∃p xs i v,x=.ref p/\y=.int i/\SqT K H p xs/\atI xs i=some v/\Q v H
noncomputable def rIxS:R2:=λx y H Q=>∃z i c,x=.str z/\y=.int i/\z.length<=sizeLine/\atI z.cps.toList i=some c/\Q (.str ⟨#[c]⟩) H
theorem Ee:IxR X (rIxL X.K):=by
 intro value slice pins s σ H x y v u Q I rx ry h hs
 obtain⟨p,xs,i,z,rfl,rfl,hq,he,q⟩:=h
 cases rx
 obtain⟨t,rfl⟩:=ry
 obtain⟨its,r,pl,hz⟩:=I.list hq
 obtain⟨j,h1,h2,h3,h4,h5⟩:=tB he
 obtain⟨w,ew,rw'⟩:=r.get h2
 have hl:=r.length
 have hn:=jS
 have fin:EP X pins σ Q w s:=⟨z,H,I,rw',q⟩
 by_cases h0:0<=i
 ·have hj:i.toNat=j:=by
   rw[seqIndex_of h0 h5]at h1
   exact eA.inj h1
  exact item_listR pl.isList h0 (by lia) (by rw[hj];simpa using ew) fin hs
 ·have hj:(i+(its.toArray.size:Int)).toNat=j:=by
   rw[seqIndex_neg (by lia) h4]at h1
   rw[aQ,<-hl]
   exact eA.inj h1
  exact subscriptTail_builtinR (x:=w) pl.isList.typeIs slot_list_getitem.lookup
   (wpAny_getItem_list_neg (Q:=λr s'=>r=w/\EP X pins σ Q r s') pl.isList (by lia) (by rw[aQ]<;>lia) (by lia) (by rw[hj];simpa using ew) ⟨rfl,fin⟩) hs
theorem ix_tup:IxR X (rIxT X.K):=by
 intro value slice pins s σ H x y v u Q I rx ry h hs
 obtain⟨p,xs,i,z,rfl,rfl,hq,he,q⟩:=h
 cases rx
 obtain⟨t,rfl⟩:=ry
 obtain⟨its,r,pl,hz⟩:=I.tuple hq
 obtain⟨j,h1,h2,h3,h4,h5⟩:=tB he
 obtain⟨w,ew,rw'⟩:=r.get h2
 have hl:=r.length
 have hn:=jS
 have fin:EP X pins σ Q w s:=⟨z,H,I,rw',q⟩
 exact subscriptTail_builtinR (x:=w) pl.typeIs slot_tuple_getitem.lookup
  (getItem_tuple (j:=j) (Q:=λr s'=>r=w/\EP X pins σ Q r s') pl (by lia) (by lia) (by rw[aQ,<-hl];exact h1) (by simpa using ew) ⟨rfl,fin⟩) hs
theorem ix_str:IxR X rIxS:=by
 intro value slice pins s σ H x y v u Q I rx ry h hs
 obtain⟨z,i,c,rfl,rfl,hz,he,q⟩:=h
 obtain⟨t,rfl⟩:=rx
 obtain⟨t',rfl⟩:=ry
 obtain⟨j,h1,h2,h3,h4,h5⟩:=tB he
 have hl:z.cps.toList.length=z.length:=by simp[Str.length]
 rw[hl]at h1 h4 h5
 have hn:=jS
 exact tail_any (typeIs_str s z t) slot_str_getitem.lookup (getItem_str (c:=c) (by
  have e1:decide (i < -(2^63:Int))=false:=decide_eq_false (by lia)
  have e2:decide (i≥2^63)=false:=decide_eq_false (by lia)
  rw[e1,e2,Bool.or_false]) (by rw[h1];simpa using h2) ⟨.str ⟨#[c]⟩,H,I.tok _,⟨_,rfl⟩,q⟩) hs
theorem Ef (its:List Value) (n j:Nat) (u:Value):Obj.mapSeq (·.setIfInBounds j u) {cls:=.type "list", data:=.seq its.toArray n}={cls:=.type "list", data:=.seq (its.set j u).toArray n}:=by
 simp[Obj.mapSeq]
theorem Inv.lst{pins:List (Addr×Obj)}{σ:St}{H:Hp}{s:Shared}{p:Addr}{xs:List V}(I:Inv X pins σ H s)(h:H p=some (.lst xs)) :
 ∃(its:List Value) (n:Nat),Vals xs its/\s.heap.get? p=some {cls:=.type "list", data:=.seq its.toArray n}/\xs.length<=sizeLine:=by
 obtain⟨z,its,n,r,e⟩:=I.hok p _ h
 exact⟨its,n,r,e,z⟩
theorem Inv.lstUpd{pins:List (Addr×Obj)}{σ:St}{H:Hp}{s:Shared}{p:Addr}{xs ys:List V}{its its':List Value}{n n':Nat}{f:Obj->Obj}(I:Inv X pins σ H s)(h:H p=some (.lst xs))
 (ho:s.heap.get? p=some {cls:=.type "list", data:=.seq its.toArray n}) (hf:f {cls:=.type "list", data:=.seq its.toArray n}={cls:=.type "list", data:=.seq its'.toArray n' }) (r:Vals ys its') (hz:ys.length<=sizeLine) (t:Nat) :
 Inv X pins σ (upd H p (.lst ys)) {s with heap:=s.heap.update p f,toks:=t}:=by
 have e:(s.heap.update p f).get? p=some {cls:=.type "list", data:=.seq its'.toArray n' }:=by
  rw[Heap.get?_update_self f ho (by rw[hf]<;>rfl),hf]
 refine I.write (x:=p) (e:=p) (by rw[h];trivial) (.inl rfl) (λb u hb q=>(Heap.get?_update_other _ _ (Ne.symm hb)).trans q) ⟨_,e⟩ ?_
 exact⟨hz,its',n',r,e⟩
noncomputable def rSetL:V->V->V->Hp->(Hp->Prop)->Prop:=λo i v H Q=>∃p xs k j,o=.ref p/\i=.int k/\H p=some (.lst xs)/\ixN xs.length k=some j/\Q (upd H p (.lst (xs.set j v)))
theorem Eg:PSet X rSetL:=by
 intro pins s σ H o i v ov iv u Q I ro ri rv h
 obtain⟨p,xs,k,j,rfl,rfl,hp,hj,q⟩:=h
 cases ro
 obtain⟨t,rfl⟩:=ri
 obtain⟨its,n,r,ho,hz⟩:=I.lst hp
 obtain⟨h1,h2,h3,h4⟩:=sZ hj
 have hl:=r.length
 have hn:=jS
 have I':Inv X pins σ (upd H p (.lst (xs.set j v))) {s with heap:=s.heap.update p (Obj.mapSeq (·.setIfInBounds j u)) }:=
  I.lstUpd hp ho (Ef its n j u) (r.set rv j) (by rw[dI];exact hz) s.toks
 by_cases h0:0<=k
 ·have hk:k.toNat=j:=by
   rw[seqIndex_of h0 h4]at h1
   exact eA.inj h1
  exact PySem.W.ki_setAt ho h0 (by lia) (by rw[aQ,<-hl];exact h4) (by rw[hk];exact⟨_,I',q⟩)
 ·have hk:(k+(its.toArray.size:Int)).toNat=j:=by
   rw[seqIndex_neg (by lia) h3]at h1
   rw[aQ,<-hl]
   exact eA.inj h1
  exact PySem.W.ki_setBack ho (by lia) (by rw[aQ,<-hl];exact h3) (by lia) (by rw[hk];exact⟨_,I',q⟩)
theorem Eh(lo hi:Option Int)(n:Nat):(sliceBounds lo hi none n).1=((HT.sIx n 0 lo:Nat):Int)/\(sliceBounds lo hi none n).2.1=((HT.sIx n n hi:Nat):Int)/\(sliceBounds lo hi none n).2.2=1:=by
 refine⟨?_,?_,rfl⟩
 ·cases lo with
  |none=>simp[sliceBounds,HT.sIx]
  |some i=>
   simp only[sliceBounds,HT.sIx,K7,show(1:Int)>0 by decide,if_true]
   by_cases h:i<0
   ·simp only[h,if_true]<;>lia
   ·simp only[h,if_false]<;>lia
 ·cases hi with
  |none=>simp[sliceBounds,HT.sIx]
  |some i=>
   simp only[sliceBounds,HT.sIx,K7,show(1:Int)>0 by decide,if_true]
   by_cases h:i<0
   ·simp only[h,if_true]<;>lia
   ·simp only[h,if_false]<;>lia
theorem Ei(its:List Value)(lo hi:Option Int):slicePick its.toArray lo hi none=((its.drop (HT.sIx its.length 0 lo)).take (HT.sIx its.length its.length hi-HT.sIx its.length 0 lo)).toArray:=by
 obtain⟨h1,h2,h3⟩:=Eh lo hi its.toArray.size
 unfold slicePick
 rw[h1,h2,h3]
 simp only[sliceRange_one,pick_run,aQ]<;>rfl
noncomputable def rSlL(K:PySem.W.Frag):V->Option Int->Option Int->Hp->VK->Prop:=λx lo hi H Q=>∃a xs,x=.ref a/\SqL K H a xs/\∀p,H p=none->Q (.ref p) (upd H p (.lst (iY xs lo hi)))
theorem Ej:SlR X (rSlL X.K):=by
 intro pins s σ H x v vl vu lo hi sl Q I rx hs pl pu h
 obtain⟨a,xs,rfl,hx,q⟩:=h
 cases rx
 obtain⟨its,r,ht,hz⟩:=I.list hx
 have hlen:=r.length
 refine⟨"list", _,slot_list_getitem.lookup,ht.isList.typeIs,?_⟩
 refine wpAny_getItem_list_slice ht.isList hs pl pu .none (by simp) ?_ (by rw[aQ]<;>lia)
 rw[Ei,<-hlen]
 refine⟨.ref s.heap.objs.size,_,I.laid (t':=s.toks) (o:=.lst (iY xs lo hi)) (λb ob q=>Heap.get?_push_of_some _ q) (aF _) ?_,rfl,q _ (I.hok.fresh (aF _))⟩
 exact⟨aW (zA xs lo hi) hz,_,0,(r.drop (HT.sIx xs.length 0 lo)).take (HT.sIx xs.length xs.length hi-HT.sIx xs.length 0 lo),Heap.get?_push_size _ rfl⟩
theorem zC:bZ X (.builtin "len") (λxs H Q=>∃p ys,xs=[.ref p]/\(SqL X.K H p ys\/SqT X.K H p ys)/\Q (.int ys.length) H):=by
 intro pins s σ H xs us Q I r h
 obtain⟨p,ys,rfl,hq,q⟩:=h
 obtain⟨u,rfl,rx⟩:=fK r
 cases rx
 have hn:=jS
 rcases hq with hq|hq
 ·obtain⟨its,r',pl,hz⟩:=I.list hq
  have hlen:=r'.length
  exact Calls.call_len_list pl.isList (by simp only[aQ]<;>lia) ⟨.int ys.length,H,I.tok _,⟨s.toks+1,by rw[aQ,hlen]⟩,q⟩
 ·obtain⟨its,r',pl,hz⟩:=I.tuple hq
  have hlen:=r'.length
  exact len_tuple pl (by simp only[aQ]<;>lia) ⟨.int ys.length,H,I.tok _,⟨s.toks+1,by rw[aQ,hlen]⟩,q⟩
theorem Ek:bZ X (.builtin "len") (λxs H Q=>∃z,xs=[.str z]/\z.length<=sizeLine/\Q (.int z.length) H):=by
 intro pins s σ H xs us Q I r h
 obtain⟨z,rfl,hz,q⟩:=h
 obtain⟨u,rfl,t,rfl⟩:=fK r
 have hn:=jS
 exact len_str (by lia) ⟨.int z.length,H,I.tok _,⟨_,rfl⟩,q⟩
theorem zD:bZ X (.type "list") (λxs H Q=>∃p ys,xs=[.ref p]/\(SqL X.K H p ys\/SqT X.K H p ys)/\∀l,H l=none->Q (.ref l) (upd H l (.lst ys))):=by
 intro pins s σ H xs us Q I r h
 obtain⟨p,ys,rfl,hq,q⟩:=h
 obtain⟨u,rfl,rx⟩:=fK r
 cases rx
 have fin:∀(its:List Value),Vals ys its->ys.length<=sizeLine->∀(h':Heap)(c':Nat),(∀b o',s.heap.get? b=some o'->h'.get? b=some o') ->
  h'.get? s.heap.objs.size=some {cls:=.type "list", dict:=none,data:=.seq its.toArray c',slots:=#[] }->EP X pins σ Q (.ref s.heap.objs.size) {s with heap:=h' }:=λits r' hz h' c' kp e=>
  ⟨.ref s.heap.objs.size,_,I.laid (t':=s.toks) kp (aF _) (show ObjOk X.prog X.w _ h' _ (.lst ys)from⟨hz,its,c',r',e⟩),rfl,q _ (I.hok.fresh (aF _))⟩
 rcases hq with hq|hq
 ·obtain⟨its,r',pl,hz⟩:=I.list hq
  have hlen:=r'.length
  obtain⟨o,ho,hc,n,hd⟩:=pl.isList
  exact call_list_seq p (.inl rfl) ho hc hd (λh' c' kp e=>fin its r' hz h' c' kp e) (by simp only[aQ]<;>lia)
 ·obtain⟨its,r',pl,hz⟩:=I.tuple hq
  have hlen:=r'.length
  obtain⟨o,ho,hc,n,hd⟩:=pl
  exact call_list_seq p (.inr rfl) ho hc hd (λh' c' kp e=>fin its r' hz h' c' kp e) (by simp only[aQ]<;>lia)
theorem zE:bZ X (.type "tuple") (λxs H Q=>∃p ys,xs=[.ref p]/\((SqL X.K H p ys/\∀l,H l=none->Q (.ref l) (upd H l (.tup ys)))\/(SqT X.K H p ys/\Q (.ref p) H))):=by
 intro pins s σ H xs us Q I r h
 obtain⟨p,ys,rfl,h⟩:=h
 obtain⟨u,rfl,rx⟩:=fK r
 cases rx
 rcases h with⟨hq,q⟩|⟨hq,q⟩
 ·obtain⟨its,r',pl,hz⟩:=I.list hq
  have hlen:=r'.length
  refine call_tuple_list pl.isList (λh' kp=>?_) (by simp only[aQ]<;>lia)
  have I1:Inv X pins σ H {s with heap:=h' }:=I.kept (t':=s.toks) kp
  have I2:Inv X pins σ (upd H h'.objs.size (.tup ys)) {s with heap:=h'.push {cls:=.type "tuple", data:=.seq its.toArray} }:=
   I1.laid (t':=s.toks) (λb o e=>Heap.get?_push_of_some _ e) (aF _) (show ObjOk X.prog X.w _ _ _ (.tup ys)from⟨hz,its,r',IsTup.new _ _⟩)
  exact⟨.ref h'.objs.size,_,I2,rfl,q _ (I1.hok.fresh (aF _))⟩
 ·obtain⟨its,r',pl,hz⟩:=I.tuple hq
  exact call_tuple_same pl ⟨.ref p,H,I,rfl,q⟩
noncomputable def tyV(K:PySem.W.Frag)(T:String)(x:V)(H:Hp):Prop:=match x with
 |.str _=>T = "str"
 |.int _=>T = "int"
 |.ref p=>(T = "list" /\ ∃xs,SqL K H p xs)\/(T = "tuple" /\ ∃o,K.lookup p=some o/\o.cls=.type "tuple" /\ o.dict=none) \/
  (T = "dict" /\ ((∃kvs,H p=some (.dK kvs))\/∃kvs,H p=some (.dT kvs)))\/(T = "set" /\ ∃S n,H p=some (.set S n))
 |_=>False
theorem zF{pins:List (Addr×Obj)}{σ:St}{H:Hp}{s:Shared}{T:String}{x:V}{v:Value}(I:Inv X pins σ H s)(r:RelV x v)(ty:tyV X.K T x H) :
 s.TypeIs v T/\∀a,v=.ref a->∃ob,s.heap.get? a=some ob/\ob.dict=none:=by
 cases x with
 |str z=>
  obtain⟨t,rfl⟩:=r
  cases (show T = "str" from ty)
  exact⟨typeIs_str s z t,λ_ e=>nomatch e⟩
 |int i=>
  obtain⟨t,rfl⟩:=r
  cases (show T = "int" from ty)
  exact⟨typeIs_int s i t,λ_ e=>nomatch e⟩
 |ref p=>
  cases r
  rcases ty with⟨rfl,xs,hq⟩|⟨rfl,o,hk,hc,hd⟩|⟨rfl,hk⟩|⟨rfl,S,n,hk⟩
  ·obtain⟨its,_,pl,_⟩:=I.list hq
   refine⟨pl.isList.typeIs,λa e=>?_⟩
   cases e
   obtain⟨o,n,e,c,hd,_⟩:=pl
   exact⟨o,e,hd⟩
  ·refine⟨⟨o,I.kIn p o hk,hc⟩,λa e=>?_⟩
   cases e
   exact⟨o,I.kIn _ o hk,hd⟩
  ·have z:∃o,s.heap.get? p=some o/\o.ExactDict:=by
    rcases hk with⟨kvs,hk⟩|⟨kvs,hk⟩
    ·obtain⟨_,_,_,_,o,_,_,e,ex,_⟩:=I.hok p _ hk
     exact⟨o,e,ex⟩
    ·obtain⟨_,_,_,_,o,_,_,e,ex,_⟩:=I.hok p _ hk
     exact⟨o,e,ex⟩
   obtain⟨o,e,ex⟩:=z
   refine⟨⟨o,e,ex.1⟩,λa e2=>?_⟩
   cases e2
   exact⟨o,e,ex.2.1⟩
  ·obtain⟨o,_,_,_,e,ex,_⟩:=I.hok p _ hk
   refine⟨⟨o,e,ex.1⟩,λa e2=>?_⟩
   cases e2
   exact⟨o,e,ex.2.1⟩
 |_=>exact False.elim ty
noncomputable def tBM0(K:PySem.W.Frag)(T:String)(r:V->List V->Hp->VK->Prop)(to:TE):TE:=λσ H Q=>to σ H λx H1=>tyV K T x H1/\r x [] H1 Q
noncomputable def tBM(K:PySem.W.Frag)(T:String)(r:V->List V->Hp->VK->Prop)(to:TE)(t:TA):TE:=λσ H Q=>to σ H λx H1=>tyV K T x H1/\t σ H1 λxs H2=>r x xs H2 Q
variable{o e:Expr}{es:List Expr}{to:TE}{t:TA}{name:Str}{apos cpos:Pos}{T id:String}{r:V->List V->Hp->VK->Prop}
theorem zG (pa:PlainAttrs T) (slot:Slot T name id) (hty:typeOf (.builtin id)=pure (.type "method_descriptor")) (hm:MtR X id r) (ho:PE X o to)
 (hbase:attributeBase o name X.env (eval o X.env)=eval o X.env:=by rfl) (hline:(apos.endLine==cpos.line)=true:=by rfl):PE X (.Call (.Attribute o name apos) [] [] cpos) (tBM0 X.K T r to):=by
 intro pins s σ H Q I h
 refine wpAny_Call_method0_late hbase hline (thn (ho pins s σ H _ I h) λv s1 ⟨x,H1,I1,r1,ty,q1⟩=>?_)
 obtain⟨h1,h2⟩:=zF I1 r1 ty
 exact⟨T,id,pa,slot,hty,h1,h2,Calls.callWith_builtin rfl (PySem.evalArgs_none (hm pins s1 σ H1 x [] v [] Q I1 r1 .nil q1))⟩
theorem tD (pa:PlainAttrs T) (slot:Slot T name id) (hty:typeOf (.builtin id)=pure (.type "method_descriptor")) (hm:MtR X id r) (ho:PE X o to) (ha:PA X (e::es) t)
 (hbase:attributeBase o name X.env (eval o X.env)=eval o X.env:=by rfl)
 (hfew:((backTo cpos (starEach (e::es) X.env)).all (λx=>!x.1)&&(backToKw cpos (keywordEach [] X.env)).all (λx=>x.1.isSome)
  && decide ((e::es).length+([]:List Keyword).length+(if([]:List Keyword).isEmpty then 0 else 1)<30))=true:=by rfl)
 (hline:(apos.endLine==cpos.line)=true:=by rfl) (hs:starEach (e::es) X.env=(false,eval e X.env)::starEach es X.env:=by rfl) (hplain:(backTo cpos (starEach es X.env)).any (·.1)=false:=by rfl) :
 PE X (.Call (.Attribute o name apos) (e::es) [] cpos) (tBM X.K T r to t):=by
 intro pins s σ H Q I h
 refine wpAny_Call_method_late hbase hfew hline rfl (thn (ho pins s σ H _ I h) λv s1 ⟨x,H1,I1,r1,ty,q1⟩=>?_)
 obtain⟨h1,h2⟩:=zF I1 r1 ty
 refine⟨T,id,pa,slot,hty,h1,h2,?_⟩
 have hA:=ha cpos pins s1 σ H1 _ I1 q1
 rw[hs]at hA⊢
 refine Calls.callWith_builtin (by show(false||(backTo cpos (starEach es X.env)).any (·.1))=false;rw[hplain]<;>rfl) (Calls.evalArgs_plain ?_)
 exact thn hA λus s2 ⟨vs,H2,I2,r2,q2⟩=>hm pins s2 σ H2 x vs v us Q I2 r1 r2 q2
end
noncomputable def MtM(X:Cx)(id:String)(r:V->List V->Hp->VK->Prop):Prop:=
 ∀(pins:List (Addr×Obj))(s:Shared)(σ:St)(H:Hp)(x:V)(xs:List V)(v:Value)(us:List Value)(Q:VK),Inv X pins σ H s->RelV x v->Vals xs us->r x xs H Q ->
  wpAny (model X.prog X.w) X.A (call (.builtin id) (v::us)) (EP X pins σ Q) X.xe s
theorem Vals.one:∀{x:V} {us:List Value},Vals [x] us->∃u,us=[u]/\RelV x u
 |_,_,.cons r .nil=>⟨_,rfl,r⟩
theorem Vals.zero:∀{us:List Value},Vals [] us->us=[]
 |_,.nil=>rfl
theorem Vals.dropLast{xs:List V}{us:List Value}(h:Vals xs us):Vals xs.dropLast us.dropLast:=by
 induction h with
 |nil=>exact .nil
 |cons r t ih=>
  cases t with
  |nil=>exact .nil
  |cons q t'=>exact .cons r ih
theorem Vals.eraseIdx:∀{xs:List V} {us:List Value} (i:Nat),Vals xs us->Vals (xs.eraseIdx i) (us.eraseIdx i)
 |_,_,_,.nil=>.nil
 |_,_,0,.cons _ t=>t
 |_,_,i+1,.cons r t=>.cons r (Vals.eraseIdx i t)
theorem Vals.reverse{xs:List V}{us:List Value}(h:Vals xs us):Vals xs.reverse us.reverse:=by
 induction h with
 |nil=>exact .nil
 |cons r t ih=>rw[xR,xR];exact Vals.append ih (.cons r .nil)
theorem Vals.rep{xs:List V}{us:List Value}(h:Vals xs us):∀k:Nat,Vals (aM k xs).flatten (aM k us).flatten
 |0=>.nil
 |k+1=>by
  rw[kL,kL,lY,lY]
  exact Vals.append h (Vals.rep h k)
theorem El{α:Type}(l:List α):l.eraseIdx (l.length-1)=l.dropLast:=by
 induction l with
 |nil=>rfl
 |cons a r ih=>
  cases r with
  |nil=>rfl
  |cons b r=>
   have e:(a::b::r).length-1=((b::r).length-1)+1:=by
    have h1:(a::b::r).length=r.length+2:=rfl
    have h2:(b::r).length=r.length+1:=rfl
    lia
   rw[e,List.eraseIdx_cons_succ,ih]
   all_goals rfl
theorem zH{α:Type}:∀(l:List α)(i:Nat),(l.eraseIdx i).length<=l.length
 |[],_=>aF _
 |_::_,0=>sI _
 |_::r,i+1=>K8 (zH r i)
theorem zI(its:List Value):∀(k:Nat)(acc:List Value),
 List.foldl (λx1 x2=>x1++x2) acc.toArray (aM k its.toArray)=(acc++(aM k its).flatten).toArray
 |0,acc=>by simp
 |k+1,acc=>by
  have e:acc.toArray++its.toArray=(acc++its).toArray:=by simp
  have e2:(acc++its)++(aM k its).flatten=acc++(aM (k+1) its).flatten:=by
   rw[kL,lY,oH]
  rw[<-e2,<-zI its k (acc++its),<-e,kL,lZ]
section
variable{X:Cx}{pins:List (Addr×Obj)}{σ:St}{H:Hp}{s:Shared}{l b:Addr}{xs ys zs:List V}
theorem Inv.lset{its its':List Value}{n:Nat}{f:Array Value->Array Value}{t':Nat}(I:Inv X pins σ H s)(hH:H l=some (.lst xs))
 (e:s.heap.get? l=some {cls:=.type "list", data:=.seq its.toArray n}) (hf:f its.toArray=its'.toArray) (hv:Vals ys its') (hz:ys.length<=sizeLine) :
 Inv X pins σ (upd H l (.lst ys)) {s with heap:=s.heap.update l (Obj.mapSeq f),toks:=t' }:=by
 have q:=PySem.IsL.update e f
 rw[hf]at q
 refine I.write (x:=l) (e:=l) (by rw[hH];exact trivial) (.inl rfl) (λb' u hb hu=>(Heap.get?_update_other s.heap (Obj.mapSeq f) (Ne.symm hb)).trans hu) ⟨_,q⟩ ?_
 exact⟨hz,its',_,hv,q⟩
theorem Inv.lnew{its:List Value}{t':Nat}(I:Inv X pins σ H s)(hv:Vals ys its)(hz:ys.length<=sizeLine) :
 Inv X pins σ (upd H s.heap.objs.size (.lst ys)) {s with heap:=s.heap.push {cls:=.type "list", data:=.seq its.toArray},toks:=t' }:=
 I.laid (λ_ _ q=>Heap.get?_push_of_some _ q) (aF _) ⟨hz,its,0,hv,Heap.get?_push_size _ rfl⟩
theorem Inv.fresh(I:Inv X pins σ H s):H s.heap.objs.size=none:=I.hok.fresh (aF _)
theorem Inv.lstM (I:Inv X pins σ H s) (hH:H l=some (.lst xs)):xs.length<=sizeLine/\∃(its:List Value) (n:Nat),Vals xs its/\xs.length=its.length/\s.heap.get? l=some {cls:=.type "list", data:=.seq its.toArray n}:=by
 obtain⟨z,its,n,r,e⟩:=I.hok l _ hH
 exact⟨z,its,n,r,r.length,e⟩
theorem Em{n:Nat}(h:n<=sizeLine):Builtin.List.listTooLong n=false:=by
 unfold Builtin.List.listTooLong
 exact decide_eq_false (by lia)
end
section
variable{X:Cx}
noncomputable def En:V->List V->Hp->VK->Prop:=λx vs H Q=>∃l xs y,x=.ref l/\vs=[y]/\H l=some (.lst xs)/\xs.length<sizeLine/\Q .non (upd H l (.lst (xs++[y])))
theorem zJ:MtM X "list.append" En:=by
 intro pins s σ H x vs v us Q I rx rv h
 obtain⟨l,xs,y,rfl,rfl,hH,hz,q⟩:=h
 cases rx
 obtain⟨u,rfl,ru⟩:=rv.one
 obtain⟨z,its,n,r,hl,e⟩:=I.lstM hH
 refine call_meets F.slot_list_append ⟨_,e,rfl⟩ F.entry_list_append (F.args_list_append_2 _ _) (PySem.list_append l its.toArray n u (by rw[aQ];lia)) ⟨e,?_⟩
 refine⟨.non,_,I.lset (its':=its++[u]) hH e (by simp) (r.append (.cons ru .nil)) ?_,rfl,q⟩
 rw[bL,fV]
 lia
noncomputable def Eo:V->List V->Hp->VK->Prop:=λx vs H Q=>∃l b xs zs,x=.ref l/\vs=[.ref b]/\H l=some (.lst xs)/\H b=some (.lst zs)/\xs.length+zs.length<=sizeLine/\Q .non (upd H l (.lst (xs++zs)))
theorem Ep:MtM X "list.extend" Eo:=by
 intro pins s σ H x vs v us Q I rx rv h
 obtain⟨l,b,xs,zs,rfl,rfl,hH,hB,hz,q⟩:=h
 cases rx
 obtain⟨u,rfl,ru⟩:=rv.one
 cases ru
 obtain⟨z,its,n,r,hl,e⟩:=I.lstM hH
 obtain⟨z2,its2,n2,r2,hl2,e2⟩:=I.lstM hB
 have hsz:its.toArray.size+its2.toArray.size<=sizeLine:=by rw[aQ,aQ];lia
 have hlong:¬(!its.toArray.isEmpty&&Builtin.List.listTooLong (its.toArray.size+its2.toArray.size))=true:=by
  rw[Em hsz,K9]
  exact aK
 refine call_meets F.slot_list_extend ⟨_,e,rfl⟩ F.entry_list_extend (F.args_list_extend_2 _ _)
  (AutoSeq1.list_extend_list_list_0 l its.toArray n b its2.toArray n2 hlong (by rw[aQ];lia) (by lia)) ⟨e,e2,?_⟩
 refine⟨.non,_,I.lset (its':=its++its2) hH e (by simp) (r.append r2) ?_,rfl,q⟩
 rw[bL]
 lia
noncomputable def rPop:V->List V->Hp->VK->Prop:=λx vs H Q=>∃l xs y,x=.ref l/\vs=[]/\H l=some (.lst xs)/\xs[xs.length-1]?=some y/\Q y (upd H l (.lst xs.dropLast))
theorem mt_pop:MtM X "list.pop" rPop:=by
 intro pins s σ H x vs v us Q I rx rv h
 obtain⟨l,xs,y,rfl,rfl,hH,hy,q⟩:=h
 cases rx
 have hus:=rv.zero
 subst hus
 obtain⟨z,its,n,r,hl,e⟩:=I.lstM hH
 obtain⟨u,hu,ru⟩:=r.get hy
 have hy':its.toArray[its.toArray.size-1]?=some u:=by
  show its.toArray[its.length-1]?=some u
  rw[<-iA,<-hl]
  exact hu
 refine call_meets F.slot_list_pop ⟨_,e,rfl⟩ F.entry_list_pop (F.args_list_pop_1 _) (MeetsSeq.list_pop_last l its.toArray n u hy' (by rw[aQ];lia)) ⟨e,?_⟩
 refine⟨y,_,I.lset (its':=its.dropLast) hH e ?_ r.dropLast ?_,ru,q⟩
 ·show its.toArray.eraseIdxIfInBounds (its.toArray.size-1)=its.dropLast.toArray
  rw[aQ,K_,El]
 ·rw[Ka]
  lia
noncomputable def rPopAt:V->List V->Hp->VK->Prop:=λx vs H Q=>∃l xs i k y,x=.ref l/\vs=[.int i]/\H l=some (.lst xs) /\ -(2^63)<=i/\i<2^63/\seqIndex? i xs.length=some k/\xs[k]?=some y/\Q y (upd H l (.lst (xs.eraseIdx k)))
theorem Er:MtM X "list.pop" rPopAt:=by
 intro pins s σ H x vs v us Q I rx rv h
 obtain⟨l,xs,i,k,y,rfl,rfl,hH,h1,h2,hk,hy,q⟩:=h
 cases rx
 obtain⟨u,rfl,ru⟩:=rv.one
 obtain⟨t,rfl⟩:=ru
 obtain⟨z,its,n,r,hl,e⟩:=I.lstM hH
 obtain⟨w,hw,rw'⟩:=r.get hy
 refine call_meets F.slot_list_pop ⟨_,e,rfl⟩ F.entry_list_pop (F.args_list_pop_2 _ _)
  (MeetsSeq.list_pop_at l its.toArray n i t k w (fitsIndex_both h1 h2) (by rw[aQ,<-hl];exact hk) (by rw[<-iA];exact hw) (by rw[aQ];lia)) ⟨e,?_⟩
 refine⟨y,_,I.lset (its':=its.eraseIdx k) hH e ?_ (r.eraseIdx k) ?_,rw',q⟩
 ·show its.toArray.eraseIdxIfInBounds k=(its.eraseIdx k).toArray
  rw[K_]
 ·have:=zH xs k
  lia
noncomputable def Es:V->List V->Hp->VK->Prop:=λx vs H Q=>∃l xs,x=.ref l/\vs=[]/\H l=some (.lst xs)/\Q .non (upd H l (.lst xs.reverse))
theorem Et:MtM X "list.reverse" Es:=by
 intro pins s σ H x vs v us Q I rx rv h
 obtain⟨l,xs,rfl,rfl,hH,q⟩:=h
 cases rx
 have hus:=rv.zero
 subst hus
 obtain⟨z,its,n,r,hl,e⟩:=I.lstM hH
 refine call_meets F.slot_list_reverse ⟨_,e,rfl⟩ F.entry_list_reverse (F.args_list_reverse_1 _) (AutoSeq1.list_reverse_list_0 l its.toArray n (by rw[aQ];lia)) ⟨e,?_⟩
 refine⟨.non,_,I.lset (its':=its.reverse) hH e (by simp) r.reverse ?_,rfl,q⟩
 rw[List.length_reverse]
 lia
theorem Eu{α:Type}(xs:List α)(k:Nat):(aM k xs).flatten.length=k*xs.length:=by
 induction k with
 |zero=>simp
 |succ k ih=>rw[kL,lY,bL,ih,Nat.succ_mul,Nat.add_comm]
end
end L2
namespace Att
open PySem PySem.W PySem.Calls PyProof.Rows
theorem Ew{P:Params}{h:Heap}:∀(ns:List Int)(vs:List Value),WellAll P h vs (ns.map WData.int)->IntsAre vs ns:=by
 intro ns
 induction ns with
 |nil=>
  intro vs w
  rw[lX]at w
  cases w
  exact .nil
 |cons n ns ih=>
  intro vs w
  rw[aG]at w
  cases w with
  |cons a b=>
   cases a
   exact .cons _ _ (ih _ b)
theorem Ex{l:OpenLaw}{n:Nat}(hn:l.most=some n){P:Params}{h:Heap}{args:List WData}{vals:List Value}
 (hpre:l.row.toRowW.claim.pre args=true) (hwl:WellAll P h vals args) :
 ∃a vs ns,vals=[Value.ref a]/\args=[WData.list (ns.map WData.int)]/\h.get? a=some {cls:=.type "list", data:=.seq vs.toArray}/\IntsAre vs ns/\ns.length<=n:=by
 have hsh:WShape.hasAll [] args [.list .int]=true:=(pre_splitW hpre).1
 have hc:l.pre.holds [] {args:=args}=true:=(pre_splitW hpre).2
 obtain⟨d,r,rfl,h1,h2⟩:=hasAllW_cons hsh
 obtain rfl:=hasAllW_nil h2
 obtain⟨xs,rfl,h3⟩:=hasW_list h1
 obtain⟨ns,rfl⟩:=items_int h3
 have hlen:ns.length<=n:=by
  unfold OpenLaw.pre at hc
  have h4:(WTm.not (.lt (.lit (.int (n:Int))) (.len (.arg 0)))).holds [] {args:=[.list (ns.map .int)] }=true:=by
   have h4:=(holds_andW hc).1
   rw[hn]at h4
   exact h4
  have h5:=condW_of h4 (w_not (w_lt w_lit (w_len_list (w_arg rfl))))
  rw[aC]at h5
  refine Nat.le_of_not_lt λq=>?_
  have q':(n:Int)<((ns.length:Nat):Int):=by lia
  first
   |(rw[decide_eq_true q']at h5;exact absurd h5 (by decide))
   |(simp at h5;lia)
 cases hwl with
 |cons w1 w2=>
  cases w2
  cases w1 with
  |list ho hall=>exact⟨_,_,ns,rfl,rfl,ho,Ew ns _ hall,hlen⟩
theorem Ey(l:OpenLaw)(args:List WData):l.row.toRowW.claim.post args (.bool true) args=true:=
 postW_of (r:=l.row.toRowW) (X:=(true==true))
  (show WShape.has [] (.bool true) .bool=true by first|rfl|decide|simp[WShape.has,WShape.arms,WShape.armsAll])
  (show(WTm.eq .res (.lit (.bool true))).value [] {args:=args,res:=some (.bool true),after:=args}=some (.bool (true==true))from w_eq_bool (w_res rfl) w_lit) rfl
theorem attach_call{l:OpenLaw}{n:Nat}{q:Program}{loose:List Str}{XP:(Str->Option Value)->Heap->Prop}{YP:World->Heap->Prop}{d:DefRec}
 (hn:l.most=some n) (hdf:d.params.defaults=[])
 (call:∀(w:World)(s₀ s₁:Shared)(mg mb:Str->Option Value)(fa:Addr)(o:Obj)(pm cd doc:Value)(a:Addr)(vs:List Value)(ns:List Int),
  Ground q loose [] XP w s₀ mg mb s₁.heap->YP w s₁.heap ->
  s₁.heap.get? fa=some o->o.data=.func (docDef d.name d.params d.body d.scope pm cd doc)->s₁.heap.CodeRec cd d.name->mg d.name=some (.ref fa) ->
  s₁.heap.get? a=some {cls:=.type "list", data:=.seq vs.toArray}->IntsAre vs ns->ns.length<=n->s₁.gens=#[] ->
  codeAny (model l.prog w) callerA (.call (.ref fa) ⟨[.ref a],[]⟩) (λr s'=>r=.ok (.ret (.bool true))/\OldK s₁.heap s'.heap/\s'.os=s₁.os/\AllBare s'.gens) s₁) :
 WalkO q loose XP YP l.row.toRowW d [] (λf vs=>PySem.call f vs):=by
 intro w s₀ s₁ mg mb G Y fa o pm cd doc dV kV ho hd hcd hD hmg hg args vals as hpre hlay hrd hwl hlo
 obtain rfl:dV=.none:=Dflts.none hD hdf
 obtain rfl:kV=.none:=Dflts.noKw hD
 obtain⟨a,vs,ns,rfl,rfl,hobj,hints,hlen⟩:=Ex hn hpre hwl
 refine enter_call (codeAny_mono (call w s₀ s₁ mg mb fa o pm cd doc a vs ns G Y ho (fd_plain hd) hcd hmg hobj hints hlen hg) λr s' hq=>?_)
 obtain⟨rfl,h2,h3,h4⟩:=hq
 exact⟨.inl ⟨.bool true,.bool true,[],rfl,λ_=>rfl,.bool true,Ey l _,λ_=>⟨oI.nil,λ_ hm=>(nomatch hm)⟩⟩,h2,h3,h4⟩
end Att
namespace L2
open PySem PySem.Spec PyProof.Rows
theorem vals_ints:∀{vs:List Value} {ns:List Int},IntsAre vs ns->Vals (ns.map V.int) vs
 |_,_,.nil=>.nil
 |_,_,.cons n t h=>.cons ⟨t,rfl⟩ (vals_ints h)
noncomputable def Only(H:Hp):Prop:=∀b,H b=none\/∃o xs,H b=some (.frz o (.lst xs))
theorem Ez{P:Program}{w:World}{K:PySem.W.Frag}{mg mb:Str->Option Value}{CX:CXT}{k:Nat}{fa a:Addr}{fd:FuncData}{x:Str}{sp:Sp}{s₁:Shared}{vs:List Value}{ns:List Int}
 (KX:K.In s₁.heap) (hns:s₁.heap.Ns mainGlobals mg) (hb:s₁.heap.Ns builtinsNs mb) (hbb:∀x:Str,x ≠ "__name__" -> mb x=bootBuiltins x) (hlim:s₁.heap.NoLimit) (hg:s₁.gens=#[])
 (ha:s₁.heap.get? a=some {cls:=.type "list", data:=.seq vs.toArray}) (hi:IntsAre vs ns) (hl:ns.length<=sizeLine) (hr:Room k callerA)
 (F:∀base:Heap,K.In base->base.Ns mainGlobals mg->FnOk P w K mg base CX k fa fd [x] sp) (hbind:∀(s:Shared)(u:Value),BindsTo s fd ⟨[u],[]⟩ [(x,u)])
 (hsp:∀H:Hp,Only H->SqL K H a (ns.map V.int)->sp [.ref a] H (λv _=>v=.bl true) λ_ _ _=>False)
 (hCX:∀H e s',CX [] H s₁ (λ_ _ _=>False) e s'->False) :
 codeAny (model P w) callerA (.call (.ref fa) ⟨[.ref a],[]⟩) (λr s'=>r=.ok (.ret (.bool true))/\OldK s₁.heap s'.heap/\s'.os=s₁.os/\AllBare s'.gens) s₁:=by
 have rv:=vals_ints hi
 have lenV:=hi.length
 have core:∀H:Hp,Only H->SqL K H a (ns.map V.int)->HOk P w H s₁.heap->(∀b,H b≠none->b=a)->(H a≠none->K.lookup a=none) ->
  codeAny (model P w) callerA (.call (.ref fa) ⟨[.ref a],[]⟩) (λr s'=>r=.ok (.ret (.bool true))/\OldK s₁.heap s'.heap/\s'.os=s₁.os/\AllBare s'.gens) s₁:=by
  intro H hO hS hok hA hK
  have base_of:∀{b:Addr} {o:Obj},s₁.heap.get? b=some o->H b=none->(iD s₁.heap H).get? b=some o:=λe n=>EA e n
  have noA:∀{b:Addr} {o:Obj} {es:Array DictEntry} {ep:Nat},s₁.heap.get? b=some o->o.data=.dict es ep->H b=none:=λ{b o es ep} e d=>by
   cases q:H b with
   |none=>rfl
   |some u=>
    have e':b=a:=hA b (by rw[q];simp)
    subst e'
    rw[ha]at e;cases e
    have d':Data.seq vs.toArray _=Data.dict es ep:=d
    cases d'
  have nsK:∀{b:Addr} {m:Str->Option Value},s₁.heap.Ns b m->(iD s₁.heap H).Ns b m:=λ{b m} ⟨o,es,ep,e,d,r⟩=>⟨o,es,ep,base_of e (noA e d),d,r⟩
  have hKb:K.In (iD s₁.heap H):=λb o e=>base_of (KX b o e) (by
   cases q:H b with
   |none=>rfl
   |some u=>
    have e':b=a:=hA b (by rw[q];simp)
    subst e'
    rw[hK (by rw[q];simp)]at e;cases e)
  have hM:Mod K mg (iD s₁.heap H):=⟨hKb,nsK hns,⟨mb,nsK hb,hbb⟩,let ⟨mc,h1,h2⟩:=hlim;⟨mc,nsK h1,h2⟩⟩
  have e0:Env0 P w K mg (iD s₁.heap H) callerA [] s₁ H:=⟨rfl,hM,λb o e=>EB e,D7 (Dz _ _),trivial,λb hb=>absurd (show b∈([]:List Addr)from hb) (by simp),hok,.of_eq hg⟩
  refine codeAny_mono ((F _ hKb (nsK hns)).run callerA [] s₁ H ⟨[.ref a],[]⟩ [.ref a] [.ref a] _ _ hr e0 (hbind s₁ (.ref a)) (.cons rfl .nil) (hsp H hO hS)) λr s' h=>?_
  cases r with
  |error e=>exact(hCX H e s' h).elim
  |ok fl=>
   cases fl with
   |next=>exact False.elim h
   |brk=>exact False.elim h
   |cont=>exact False.elim h
   |ret u=>
    obtain⟨v,H',os,bare,un,hok',r',q⟩:=h
    have q':v=.bl true:=q
    subst q'
    obtain rfl:u=Value.bool true:=r'
    refine⟨rfl,OldK.of_keep λb o e=>?_,os,bare⟩
    cases q:H b with
    |none=>exact un.keep b o e q (by intro z;exact absurd (show b∈([]:List Addr)from z) (by simp)) (by simp)
    |some u=>
     rcases hO b with z|⟨ob,xs,z⟩
     ·rw[q]at z;cases z
     ·have z2:=un.frzs b ob _ z
      obtain⟨e1,_⟩:=hok b _ z
      obtain⟨e2,_⟩:=hok' b _ z2
      rw[e]at e1;cases e1
      exact e2
 cases hk:K.lookup a with
 |some o=>
  have e:=KX a o hk
  rw[ha]at e
  cases e
  refine core (λ_=>none) (λ_=>.inl rfl) (.inr ⟨_,vs.toArray,_,hk,rfl,rfl,rfl,by rw[aQ,lenV];exact hl,by simpa using rv⟩) (λb u z=>by have z':(none:Option HO)=some u:=z;cases z') (λb z=>absurd rfl z) λz=>absurd rfl z
 |none=>
  refine core (λb=>if b=a then some (.frz {cls:=.type "list", data:=.seq vs.toArray} (.lst (ns.map V.int)))else none) (λb=>?_) (.inl (.inr ⟨{cls:=.type "list", data:=.seq vs.toArray},if_pos rfl⟩)) (λb u z=>?_) (λb z=>?_) λ_=>hk
  ·by_cases hb:b=a
   ·exact .inr ⟨_,_,if_pos hb⟩
   ·exact .inl (if_neg hb)
  ·by_cases hb:b=a
   ·have z':=(if_pos hb).symm.trans z
    cases z'
    subst hb
    exact⟨ha,by rw[aC];exact hl,vs,_,rv,ha⟩
   ·have z':=(if_neg hb).symm.trans z
    cases z'
  ·by_cases hb:b=a
   ·exact hb
   ·exact absurd (if_neg hb) z
theorem FA{l:PySem.W.OpenLaw}{n k:Nat}{q:Program}{loose:List Str}{XP:(Str->Option Value)->Heap->Prop}{YP:World->Heap->Prop}{d:DefRec}{K:Params->PySem.W.Frag}{CX:World->CXT}{sp:World->Sp}{x:Str}
 (hn:l.most=some n) (hn2:n<=sizeLine) (hdf:d.params.defaults=[]) (hr:Room k callerA)
 (hY:∀(w:World)(h:Heap),YP w h->(K w.params).In h)
 (F:∀(w:World)(mg:Str->Option Value)(fa:Addr)(h:Heap),(K w.params).In h->h.Ns mainGlobals mg->mg d.name=some (.ref fa) ->
  ∃fd:FuncData,(∀(s:Shared)(u:Value),BindsTo s fd ⟨[u],[]⟩ [(x,u)]) /\
   ∀base:Heap,(K w.params).In base->base.Ns mainGlobals mg->FnOk l.prog w (K w.params) mg base (CX w) k fa fd [x] (sp w))
 (hsp:∀(w:World)(H:Hp)(a:Addr)(ns:List Int),ns.length<=n->Only H->SqL (K w.params) H a (ns.map V.int)->sp w [.ref a] H (λv _=>v=.bl true) λ_ _ _=>False)
 (hCX:∀(w:World)(H:Hp)(s:Shared)(e:Value)(s':Shared),CX w [] H s (λ_ _ _=>False) e s'->False) :
 PySem.W.WalkO q loose XP YP l.row.toRowW d [] (λf vs=>PySem.call f vs):=by
 refine Att.attach_call hn hdf λw s₀ s₁ mg mb fa o pm cd doc a vs ns G Y ho hd hcd hmg hobj hints hlen hg=>?_
 have KX:=hY w _ Y
 obtain⟨fd,hb,hF⟩:=F w mg fa _ KX G.T.g hmg
 exact Ez KX G.T.g G.T.b G.T.builtins G.T.nolimit hg hobj hints (aW hlen hn2) hr hF hb (λH hO hS=>hsp w H a ns hlen hO hS) λH e s'=>hCX w H s₁ e s'
noncomputable def jU(s:Stmt):Arguments:=match s with
 |.FunctionDef _ a _ _ _ _ _ _ _ _=>a
 |_=>{posonlyargs:=[],args:=[],vararg:=none,kwonlyargs:=[],kw_defaults:=[],kwarg:=none,defaults:=[] }
noncomputable def gA(s:Stmt):List Stmt:=match s with
 |.FunctionDef _ _ b _ _ _ _ _ _ _=>b
 |_=>[]
noncomputable def dE(s:Stmt):Scope:=match s with
 |.FunctionDef _ _ _ _ _ _ sc _ _ _=>sc
 |_=>{kind:=.function,names:=[],isGenerator:=false,isCoroutine:=false}
noncomputable abbrev E0:XK:=λ_ _ _=>False
set_option genInjectivity false in
structure Fun(K:PySem.W.Frag)(x qual:Str)(st:Stmt)(f:Addr)(fd:FuncData):Prop where
 ex:∃(oc:Value)(od:Option Addr)(kV doc pm:Value)(an:Option Addr)(cdv ct:Value)(osl:Array (Option Value)),
  fd=PySem.W.fnOf x qual (jU st) (gA st) (dE st) .none kV doc pm an cdv ct/\K.lookup f=some ⟨oc,od,.func fd,osl⟩/\PySem.W.codeIn K cdv qual=true
 kp:PySem.W.keepIn K (.ref f)=true
section
variable{P:Program}{w:World}{K:PySem.W.Frag}{mg:Str->Option Value}{base:Heap}
theorem Fun.binds{x qual:Str}{st:Stmt}{f:Addr}{fd:FuncData}{ps:List Str}(F:Fun K x qual st f fd)
 (h:∀(kV doc pm:Value)(an:Option Addr)(cdv ct:Value)(us:List Value),us.length=ps.length->bindArgs (PySem.W.fnOf x qual (jU st) (gA st) (dE st) .none kV doc pm an cdv ct) ⟨us,[]⟩=pure (ps.zip us)):Binds K fd ps []:=by
 obtain⟨oc,od,kV,doc,pm,an,cdv,ct,osl,rfl,lk,hcd⟩:=F.ex
 exact .all (h kV doc pm an cdv ct)
theorem zK{x qual:Str}{st:Stmt}{f:Addr}{oc:Value}{od an:Option Addr}{osl:Array (Option Value)}{kV doc pm cdv ct:Value}(l:K.lookup f=some ⟨oc,od,.func (PySem.W.fnOf x qual (jU st) (gA st) (dE st) .none kV doc pm an cdv ct),osl⟩)
 (c:PySem.W.codeIn K cdv qual=true) (k:PySem.W.keepIn K (.ref f)=true):Fun K x qual st f (PySem.W.fnOf x qual (jU st) (gA st) (dE st) .none kV doc pm an cdv ct):=⟨⟨oc,od,kV,doc,pm,an,cdv,ct,osl,rfl,l,c⟩,k⟩
end
theorem FB{n:Nat}(h:n<=1000):n<sizeLine:=Kb h (by decide)
noncomputable def Same(H H':Hp):Prop:=∀b o,H b=some o->H' b=some o
theorem Same.refl(H:Hp):Same H H:=λ_ _ h=>h
theorem Same.trans{H H1 H2:Hp}(a:Same H H1)(b:Same H1 H2):Same H H2:=λc o h=>b c o (a c o h)
theorem Same.free{H H':Hp}(e:Same H H'){l:Addr}(h:H' l=Option.none):H l=Option.none:=by
 cases q:H l with
 |none=>rfl
 |some o=>
  rw[e l o q]at h
  cases h
end L2
set_option maxRecDepth 100000
namespace L2
open PySem PySem.Spec PyProof.Rows
section
variable{κ:Type}[DecidableEq κ]
noncomputable def dN(kvs:List (κ×V))(k:κ):Option V:=(kvs.find? λkv=>decide (kv.1=k)).map (·.2)
noncomputable def cP(kvs:List (κ×V))(k:κ)(v:V):List (κ×V):=
 if(kvs.any λkv=>decide (kv.1=k))=true then kvs.map (λkv=>if kv.1=k then(kv.1,v)else kv)else kvs++[(k,v)]
theorem mR{p:κ×V}{r:List (κ×V)}{k:κ}(e:p.1=k):dN (p::r) k=some p.2:=by simp[dN,bO,e]
theorem mT{p:κ×V}{r:List (κ×V)}{k:κ}(e:¬p.1=k):dN (p::r) k=dN r k:=by simp[dN,bO,e]
theorem zL(k:κ):∀kvs:List (κ×V),(kvs.any λkv=>decide (kv.1=k))=(dN kvs k).isSome
 |[]=>rfl
 |p::r=>by
  rw[fW]
  by_cases e:p.1=k
  ·simp only[mR e,decide_eq_true e,Bool.true_or,Option.isSome_some]
  ·rw[mT e,decide_eq_false e,xS];exact zL k r
theorem zM(kvs:List (κ×V))(k:κ)(v:V):(cP kvs k v).length<=kvs.length+1:=by
 unfold cP
 split
 ·rw[aC];lia
 ·rw[bL,aN,mC];lia
theorem RelO.isSome_eq{o:Option V}{u:Option Value}(r:RelO o u):o.isSome=u.isSome:=by
 cases o with
 |none=>cases u with
  |none=>rfl
  |some _=>exact(show False from r).elim
 |some _=>cases u with
  |none=>exact(show False from r).elim
  |some _=>rfl
theorem RelO.getD{o:Option V}{u:Option Value}{d:V}{d':Value}(r:RelO o u)(rd:RelV d d'):RelV (o.getD d) (u.getD d'):=by
 cases o with
 |none=>cases u with
  |none=>exact rd
  |some _=>exact(show False from r).elim
 |some _=>cases u with
  |none=>exact(show False from r).elim
  |some _=>exact r
theorem KV.val{kvs:List (κ×V)}{vs:List (κ×Value)}(r:KV kvs vs)(k:κ):RelO (dN kvs k) (valueAt vs k):=by
 unfold KV at r
 induction r with
 |nil=>exact True.intro
 | @cons p q ps qs h t ih=>
  obtain⟨h1,h2⟩:=h
  by_cases e:p.1=k
  ·have e':q.1=k:=h1.symm.trans e
   have b:valueAt (q::qs) k=some q.2:=by simp[valueAt,bO,e']
   rw[mR e,b];exact h2
  ·have e':¬q.1=k:=λz=>e (h1.trans z)
   have b:valueAt (q::qs) k=valueAt qs k:=by simp[valueAt,bO,e']
   rw[mT e,b];exact ih
theorem KV.any{kvs:List (κ×V)}{vs:List (κ×Value)}(r:KV kvs vs)(k:κ):(kvs.any λkv=>decide (kv.1=k))=vs.any λkv=>decide (kv.1=k):=by
 unfold KV at r
 induction r with
 |nil=>rfl
 |cons h t ih=>rw[fW,fW,ih,h.1]
theorem KV.repl{kvs:List (κ×V)}{vs:List (κ×Value)}(r:KV kvs vs)(k:κ){y:V}{u:Value}(ry:RelV y u) :
 KV (kvs.map λkv=>if kv.1=k then(kv.1,y)else kv) (vs.map λkv=>if kv.1=k then(kv.1,u)else kv):=by
 unfold KV at r⊢
 induction r with
 |nil=>exact .nil
 | @cons p q ps qs h t ih=>
  rw[aG,aG]
  refine .cons ?_ ih
  obtain⟨h1,h2⟩:=h
  by_cases e:p.1=k
  ·rw[if_pos e,if_pos (h1.symm.trans e)];exact⟨h1,ry⟩
  ·rw[if_neg e,if_neg (λz=>e (h1.trans z))];exact⟨h1,h2⟩
theorem KV.put{kvs:List (κ×V)}{vs:List (κ×Value)}(r:KV kvs vs)(k:κ){y:V}{u:Value}(ry:RelV y u):KV (cP kvs k y) (stored vs k u):=by
 unfold cP stored
 rw[r.any k]
 by_cases e:(vs.any λkv=>decide (kv.1=k))=true
 ·rw[if_pos e,if_pos e];exact r.repl k ry
 ·rw[if_neg e,if_neg e];exact Paired.snoc r ⟨rfl,ry⟩
theorem KV.keys{kvs:List (κ×V)}{vs:List (κ×Value)}(r:KV kvs vs):kvs.map (·.1)=vs.map (·.1):=by
 unfold KV at r
 induction r with
 |nil=>rfl
 |cons h t ih=>rw[aG,aG,ih,h.1]
theorem KV.length{kvs:List (κ×V)}{vs:List (κ×Value)}(r:KV kvs vs):kvs.length=vs.length:=Paired.length r
end
theorem kX{P:Program}{w:World}{k:Key}{u:Value}(r:RelV (kV k) u):(bR P w).is k u=true:=by
 cases k with
 |inl i=>obtain⟨t,e⟩:=(show ∃t,u=Value.int i t from r);subst e;exact Dx P w i t
 |inr x=>obtain⟨t,e⟩:=(show ∃t,u=Value.str x t from r);subst e;exact Dy P w x t
theorem zN{P:Program}{w:World}:∀{ks:List Key} {us:List Value},Vals (ks.map kV) us->ItemsAre (bR P w) ks us
 |[],_,r=>by rw[lX]at r;cases r;exact .nil
 |k::ks,_,r=>by
  rw[aG]at r
  cases r with
  |cons h t=>exact .cons (kX h) (zN t)
noncomputable abbrev KT(H:Hp):List (List Key×V)->List (List Key×Addr×Value)->Prop:=Paired λp q=>p.1=q.1/\H q.2.1=some (.tup (p.1.map kV))/\RelV p.2 q.2.2
theorem KT.val{H:Hp}{kvs:List (List Key×V)}{xs:List (List Key×Addr×Value)}(r:KT H kvs xs)(k:List Key):RelO (dN kvs k) ((atKey xs k).map (·.2)):=by
 induction r with
 |nil=>exact True.intro
 | @cons p q ps qs h t ih=>
  obtain⟨h1,_,h2⟩:=h
  by_cases e:p.1=k
  ·have e':q.1=k:=h1.symm.trans e
   have b:atKey (q::qs) k=some q.2:=by simp[atKey,bO,e']
   rw[mR e,b];exact h2
  ·have e':¬q.1=k:=λz=>e (h1.trans z)
   have b:atKey (q::qs) k=atKey qs k:=by simp[atKey,bO,e']
   rw[mT e,b];exact ih
theorem KT.repl{H:Hp}{kvs:List (List Key×V)}{xs:List (List Key×Addr×Value)}(r:KT H kvs xs)(k:List Key){y:V}{u:Value}(ry:RelV y u) :
 KT H (kvs.map λkv=>if kv.1=k then(kv.1,y)else kv) (xs.map (putAt k u)):=by
 induction r with
 |nil=>exact .nil
 | @cons p q ps qs h t ih=>
  rw[aG,aG]
  refine .cons ?_ ih
  obtain⟨h1,h2,h3⟩:=h
  unfold putAt
  by_cases e:p.1=k
  ·rw[if_pos e,if_pos (h1.symm.trans e)];exact⟨h1,h2,ry⟩
  ·rw[if_neg e,if_neg (λz=>e (h1.trans z))];exact⟨h1,h2,h3⟩
theorem KT.put{H:Hp}{kvs:List (List Key×V)}{xs:List (List Key×Addr×Value)}(r:KT H kvs xs)(k:List Key){b:Addr}{y:V}{u:Value}(hb:H b=some (.tup (k.map kV)))(ry:RelV y u) :
 KT H (cP kvs k y) (storedH xs k b u):=by
 have e:(kvs.any λkv=>decide (kv.1=k))=(atKey xs k).isSome:=by
  rw[zL,(r.val k).isSome_eq,D8]
 unfold cP storedH
 rw[e]
 by_cases q:(atKey xs k).isSome=true
 ·rw[if_pos q,if_pos q];exact r.repl k ry
 ·rw[if_neg q,if_neg q];exact Paired.snoc r ⟨rfl,hb,ry⟩
theorem KT.keeps{H H':Hp}{kvs:List (List Key×V)}{xs:List (List Key×Addr×Value)}(r:KT H kvs xs)(ht:∀b ys,H b=some (.tup ys)->H' b=some (.tup ys)):KT H' kvs xs:=
 Paired.mapP r λ_ _ z=>⟨z.1,ht _ _ z.2.1,z.2.2⟩
section
variable{P:Program}{w:World}{H:Hp}{h:Heap}{a:Addr}
theorem oT{u:HO}(ok:HOk P w H h)(e:Rd H a u):ObjOk P w H h a u:=e.ok ok
theorem iZ{kvs:List (Key×V)}(ok:HOk P w H h)(e:Rd H a (.dK kvs)):kvs.length<=sizeLine/\(a==sysModules)=false/\∃vs,KV kvs vs/\h.DictOf (bR P w) a vs:=
 show ObjOk P w H h a (.dK kvs)from oT ok e
theorem dk_of{kvs:List (Key×V)}(ok:HOk P w H h)(e:H a=some (.dK kvs)):kvs.length<=sizeLine/\(a==sysModules)=false/\∃vs,KV kvs vs/\h.DictOf (bR P w) a vs:=iZ ok (.inl e)
theorem jA{ks:List Key}(ok:HOk P w H h)(e:H a=some (.tup (ks.map kV))):(tupleKind (bR P w)).is h ks a:=by
 obtain⟨_,its,r,o,h1,h2,n,h3⟩:=(show ObjOk P w H h a (.tup (ks.map kV))from ok a _ e)
 exact⟨o,its.toArray,n,h1,h2,h3,by simpa using zN r⟩
theorem jV{kvs:List (List Key×V)}(ok:HOk P w H h)(e:Rd H a (.dT kvs)):kvs.length<=sizeLine/\(a==sysModules)=false /\
 ∃xs,KT H kvs xs/\h.DictOfH (tupleKind (bR P w)) a xs:=by
 obtain⟨z,y,xs,r,o,es,ep,h1,h2,h3,h4,h5⟩:=(show ObjOk P w H h a (.dT kvs)from oT ok e)
 refine⟨z,y,xs,r,o,es,ep,h1,h2,h3,h4,λx hx=>?_,h5⟩
 have all:∀{l:List (List Key×V)} {m:List (List Key×Addr×Value)},KT H l m->∀x∈m,(tupleKind (bR P w)).is h x.1 x.2.1:=by
  intro l m q
  induction q with
  |nil=>intro x hx;exact nomatch hx
  | @cons p q ps qs hq t ih=>
   intro x hx
   rcases aZ.mp hx with e|hx
   ·subst e
    exact jA ok (by rw[<-hq.1];exact hq.2.1)
   ·exact ih x hx
 exact all r x hx
theorem zO{kvs:List (List Key×V)}(ok:HOk P w H h)(e:H a=some (.dT kvs)):kvs.length<=sizeLine/\(a==sysModules)=false /\
 ∃xs,KT H kvs xs/\h.DictOfH (tupleKind (bR P w)) a xs:=jV ok (.inl e)
end
noncomputable def iE(H:Hp)(a:Addr)(y:V)(r:Option V):Prop:=
 (∃kvs k,Rd H a (.dK kvs)/\y=kV k/\r=dN kvs k)\/∃kvs k b,Rd H a (.dT kvs)/\y=.ref b/\H b=some (.tup (k.map kV))/\r=dN kvs k
noncomputable def DPut(H:Hp)(a:Addr)(y v:V)(H':Hp):Prop:=
 (∃kvs k,H a=some (.dK kvs)/\y=kV k/\kvs.length<sizeLine/\H'=upd H a (.dK (cP kvs k v))) \/
 ∃kvs k b,H a=some (.dT kvs)/\y=.ref b/\H b=some (.tup (k.map kV))/\kvs.length<sizeLine/\H'=upd H a (.dT (cP kvs k v))
theorem DPut.k{H:Hp}{a:Addr}{kvs:List (Key×V)}{k:Key}{v:V}(e:H a=some (.dK kvs))(hl:kvs.length<sizeLine):DPut H a (kV k) v (upd H a (.dK (cP kvs k v))):=.inl ⟨kvs,k,e,rfl,hl,rfl⟩
theorem DPut.t{H:Hp}{a b:Addr}{kvs:List (List Key×V)}{k:List Key}{v:V}(e:H a=some (.dT kvs))(eb:H b=some (.tup (k.map kV)))(hl:kvs.length<sizeLine) :
 DPut H a (.ref b) v (upd H a (.dT (cP kvs k v))):=.inr ⟨kvs,k,b,e,rfl,eb,hl,rfl⟩
section
variable{X:Cx}{pins:List (Addr×Obj)}{σ:St}{H:Hp}{s:Shared}{a:Addr}{y v:V}{u r:Value}{o:Option V}{A:Around}{E:Value->Shared->Prop}
theorem Inv.big(I:Inv X pins σ H s):sysModules<s.heap.objs.size:=by
 have h:mainGlobals<s.heap.objs.size:=(I.mod.glob.keeps I.bk).lt
 exact gO (by decide) h
theorem FC{Q:Value->Shared->Prop}(hu:A.units+1<cLine)(I:Inv X pins σ H s)(g:iE H a y (some v))(ry:RelV y u)(h:∀w' s',Inv X pins σ H s'->RelV v w'->Q w' s') :
 wpAny (model X.prog X.w) A (getItem (.ref a) u) Q E s:=by
 rcases g with⟨kvs,k,e,ey,l⟩|⟨kvs,k,b,e,ey,eb,l⟩
 ·subst ey
  obtain⟨z,hd,vs,rel,dd⟩:=iZ I.hok e
  obtain⟨w',hw,rw'⟩:=RelO.some_of (v:=v) (o:=valueAt vs k) (by rw[l];exact rel.val k)
  exact wpAny_getItem_of (kX ry) dd.mapOf hw (h w' _ (I.tok _) rw')
 ·subst ey
  cases (show u=Value.ref b from ry)
  obtain⟨z,hd,xs,rel,dd⟩:=jV I.hok e
  obtain⟨w',hw,rw'⟩:=RelO.some_of (v:=v) (o:=(atKey xs k).map (·.2)) (by rw[l];exact rel.val k)
  obtain⟨p,hp,hp2⟩:=mD.mp hw
  refine wpAny_getItem_heap (tupleKind_room_in1 hu) (jA I.hok eb) dd hp ?_
  rw[hp2]
  exact h w' _ (I.tok _) rw'
theorem d_in{Q:Value->Shared->Prop}(hu:A.units+1<cLine)(I:Inv X pins σ H s)(g:iE H a y o)(ry:RelV y u)(h:∀s',Inv X pins σ H s'->Q (.bool o.isSome) s') :
 wpAny (model X.prog X.w) A (compareOp .In u (.ref a)) Q E s:=by
 rcases g with⟨kvs,k,e,ey,l⟩|⟨kvs,k,b,e,ey,eb,l⟩
 ·subst ey
  obtain⟨z,hd,vs,rel,dd⟩:=iZ I.hok e
  refine wpAny_in_of (kX ry) hd dd.mapOf ?_
  rw[<-(rel.val k).isSome_eq,<-l]
  exact h _ (I.tok _)
 ·subst ey
  cases (show u=Value.ref b from ry)
  obtain⟨z,hd,xs,rel,dd⟩:=jV I.hok e
  refine wpAny_in_heap (tupleKind_room_in1 hu) (jA I.hok eb) hd dd ?_
  have q:=(rel.val k).isSome_eq
  rw[D8]at q
  rw[<-q,<-l]
  exact h _ (I.tok _)
theorem zP{Q:Value->Shared->Prop}(hu:A.units+1<cLine)(I:Inv X pins σ H s)(g:iE H a y o)(ry:RelV y u)(h:∀s',Inv X pins σ H s'->Q (.bool (!o.isSome)) s') :
 wpAny (model X.prog X.w) A (compareOp .NotIn u (.ref a)) Q E s:=by
 rcases g with⟨kvs,k,e,ey,l⟩|⟨kvs,k,b,e,ey,eb,l⟩
 ·subst ey
  obtain⟨z,hd,vs,rel,dd⟩:=iZ I.hok e
  refine wpAny_notIn_of (kX ry) hd dd.mapOf ?_
  rw[<-(rel.val k).isSome_eq,<-l]
  exact h _ (I.tok _)
 ·subst ey
  cases (show u=Value.ref b from ry)
  obtain⟨z,hd,xs,rel,dd⟩:=jV I.hok e
  refine wpAny_notIn_heap (tupleKind_room_in1 hu) (jA I.hok eb) hd dd ?_
  have q:=(rel.val k).isSome_eq
  rw[D8]at q
  rw[<-q,<-l]
  exact h _ (I.tok _)
theorem tF{h':Heap}{t':Nat}{ob:HO}(I:Inv X pins σ H s)(mu:Mut (H a))(hs:Heap.SameBut a s.heap h')(he:∃q,h'.get? a=some q)(new:ObjOk X.prog X.w (upd H a ob) h' a ob) :
 Inv X pins σ (upd H a ob) {s with heap:=h',toks:=t' }:=
 I.write (x:=a) (e:=a) mu (.inl rfl) (λb q hb z=>(hs.2 b hb).trans z) he new
theorem dk_new{P:Program}{w:World}{H':Hp}{h':Heap}{kvs:List (Key×V)}{vs:List (Key×Value)}(z:kvs.length<=sizeLine)(hd:(a==sysModules)=false)(rel:KV kvs vs)(dd:h'.DictOf (bR P w) a vs) :
 ObjOk P w H' h' a (.dK kvs):=⟨z,hd,vs,rel,dd⟩
theorem FD{H':Hp}{Q:Unit->Shared->Prop}(hu:A.units+1<cLine)(I:Inv X pins σ H s)(g:DPut H a y v H')(ry:RelV y u)(rv:RelV v r)(h:∀s',Inv X pins σ H' s'->Q () s') :
 wpAny (model X.prog X.w) A (setItem (.ref a) u r) Q E s:=by
 rcases g with⟨kvs,k,e,ey,l,eH⟩|⟨kvs,k,b,e,ey,eb,l,eH⟩
 ·subst ey eH
  obtain⟨z,hd,vs,rel,dd⟩:=dk_of I.hok e
  have hz:vs.length<=sizeLine:=by rw[<-rel.length];exact z
  have hl:(cP kvs k v).length<=sizeLine:=by have:=zM kvs k v;lia
  refine wpAny_setItem_pairs (hsz:=hz) (kX ry) dd λh' dd' hs=>h _ ?_
  have he:∃q,h'.get? a=some q:=let ⟨q,_,_,hq,_⟩:=dd';⟨q,hq⟩
  exact tF I (by rw[e];exact True.intro) hs he (dk_new hl hd (rel.put k rv) dd')
 ·subst ey eH
  cases (show u=Value.ref b from ry)
  obtain⟨z,hd,xs,rel,dd⟩:=zO I.hok e
  have hz:xs.length<=sizeLine:=by rw[<-Paired.length rel];exact z
  have hl:(cP kvs k v).length<=sizeLine:=by have:=zM kvs k v;lia
  refine wpAny_setItem_heap (hsz:=hz) (tupleKind_room_in1 hu) (jA I.hok eb) dd λh' dd' hs=>h _ ?_
  obtain⟨q,es,ep,hq,h2,h3,h4,_,h5⟩:=dd'
  refine tF I (by rw[e];exact True.intro) hs ⟨q,hq⟩ ⟨hl,hd,_,(rel.put k eb rv).keeps λc ys ec=>?_,q,es,ep,hq,h2,h3,h4,h5⟩
  rw[aI (kS ec e (λz=>nomatch z))]
  exact ec
end
section
variable{X:Cx}{pins:List (Addr×Obj)}{σ:St}{H:Hp}{s:Shared}{a:Addr}{kvs:List (Key×V)}{k:Key}{u:Value}{A:Around}{E:Value->Shared->Prop}
theorem d_len {Q:Value->Shared->Prop} (I:Inv X pins σ H s) (e:Rd H a (.dK kvs)) (h:∀t s',Inv X pins σ H s'->Q (.int kvs.length t) s'):wpAny (model X.prog X.w) A (call (.builtin "len") [.ref a]) Q E s:=by
 obtain⟨z,hd,vs,rel,dd⟩:=iZ I.hok e
 refine call_len_dict hd dd (by rw[<-rel.length];rw[sizeLine_eq]at z;lia) ?_
 rw[<-rel.length]
 exact h _ _ (I.tok _)
end
theorem FE {X:Cx} {pins:List (Addr×Obj)} {σ:St} {H:Hp} {s:Shared} {a:Addr} {y:V} {o:Option V} (I:Inv X pins σ H s) (g:iE H a y o):s.TypeIs (.ref a) "dict" := by
 rcases g with⟨kvs,k,e,_,_⟩|⟨kvs,k,b,e,_,_,_⟩
 ·obtain⟨_,_,vs,_,dd⟩:=iZ I.hok e
  exact dd.typeIs
 ·obtain⟨_,_,xs,_,dd⟩:=jV I.hok e
  exact dd.typeIs
noncomputable def sDPut(td ty tv:TE):TS:=λD σ H=>tv σ H λv H1=>td σ H1 λx H2=>ty σ H2 λy H3=>∃a H4,x=.ref a/\DPut H3 a y v H4/\D.nx σ H4
section
variable{X:Cx}{o i e value:Expr}{pos pos' tpos:Pos}{td ty tv:TE}
theorem zQ(hu:X.A.units+1<cLine)(ho:PE X o td)(hi:PE X i ty)(hv:PE X value tv)(hs:swapsWith value (some (.Subscript o i pos')) pos.line X.env=pure false) :
 PS X (.Assign [.Subscript o i pos'] value pos) (sDPut td ty tv):=by
 intro pins s σ H D I h
 refine wpAny_Assign_Subscript (thn (hv pins s σ H _ I h) λr s1 ⟨v,H1,I1,rv,q1⟩=>thn (ho pins s1 σ H1 _ I1 q1) λu s2 ⟨x,H2,I2,rx,q2⟩=>thn (hi pins s2 σ H2 _ I2 q2) λiv s3 ⟨y,H3,I3,ry,a,H4,ex,g,q3⟩=>?_) hs
 subst ex
 obtain rfl:u=Value.ref a:=rx
 exact FD hu I3 g ry rv λs4 I4=>⟨σ,H4,I4,q3⟩
end
theorem FF {P:Program} {w:World} {H:Hp} (h:Heap) (hb:sysModules<h.objs.size):ObjOk P w H (h.push {cls:=.type "dict", data:=.dict #[] }) h.objs.size (.dK []):=
 ⟨fX _,beq_eq_false_iff_ne.mpr (Ne.symm (bD hb)),[],.nil,Heap.DictOf.new h⟩
theorem zR {P:Program} {w:World} {H:Hp} (h:Heap) (hb:sysModules<h.objs.size):ObjOk P w H (h.push {cls:=.type "dict", data:=.dict #[] }) h.objs.size (.dT []):=
 ⟨fX _,beq_eq_false_iff_ne.mpr (Ne.symm (bD hb)),[],.nil,_,#[],0,Heap.get?_push_size _ rfl,⟨rfl,rfl,rfl⟩,rfl,rfl,sJ⟩
noncomputable def tDNewK:TE:=λ_ H Q=>∀p,H p=none->Q (.ref p) (upd H p (.dK []))
noncomputable def tDNewT:TE:=λ_ H Q=>∀p,H p=none->Q (.ref p) (upd H p (.dT []))
section
variable{X:Cx}{pos:Pos}
theorem FG:PE X (.Dict [] [] pos) tDNewK:=λpins s σ H Q I h=>
 wpAny_Dict_empty ⟨.ref s.heap.objs.size,_,I.laid (a:=s.heap.objs.size) (o:=.dK []) (t':=s.toks) (λ_ _ q=>Heap.get?_push_of_some _ q) (aF _) (FF s.heap I.big),rfl,h _ (I.hok.fresh (aF _))⟩
theorem FH:PE X (.Dict [] [] pos) tDNewT:=λpins s σ H Q I h=>
 wpAny_Dict_empty ⟨.ref s.heap.objs.size,_,I.laid (a:=s.heap.objs.size) (o:=.dT []) (t':=s.toks) (λ_ _ q=>Heap.get?_push_of_some _ q) (aF _) (zR s.heap I.big),rfl,h _ (I.hok.fresh (aF _))⟩
end
noncomputable def zS:List (TE×TE)->St->Hp->(List (V×V)->Hp->Prop)->Prop
 |[],_,H,Q=>Q [] H
 |(tk,tv)::r,σ,H,Q=>tk σ H λx H1=>tv σ H1 λy H2=>zS r σ H2 λps H3=>Q ((x,y)::ps) H3
noncomputable abbrev VV:List (V×V)->List (Value×Value)->Prop:=Paired λp q=>RelV p.1 q.1/\RelV p.2 q.2
noncomputable def PPs(X:Cx)(pos:Pos)(keys:List (Option Expr))(values:List Expr)(trs:List (TE×TE)):Prop:=
 ∀(pins:List (Addr×Obj))(s:Shared)(σ:St)(H:Hp)(Q:List (V×V)->Hp->Prop),Inv X pins σ H s->zS trs σ H Q ->
  wpAny (model X.prog X.w) X.A (evalPairs (pairTrees keys values X.env pos)) (λvs s'=>∃ps H',Inv X pins σ H' s'/\VV ps vs/\Q ps H') X.xe s
theorem FI{X:Cx}{pos:Pos}:PPs X pos [] [] []:=λpins s σ H Q I h=>pairTrees_nil_walk ⟨[],H,I,.nil,h⟩
theorem FJ{X:Cx}{pos:Pos}{k v:Expr}{ks:List (Option Expr)}{vs:List Expr}{tk tv:TE}{trs:List (TE×TE)}(hk:PE X k tk)(hv:PE X v tv)(hr:PPs X pos ks vs trs) :
 PPs X pos (some k::ks) (v::vs) ((tk,tv)::trs):=λpins s σ H Q I h=>
 pairTrees_cons_walk (thn (hk pins s σ H _ I h) λu s1 ⟨x,H1,I1,rx,q1⟩=>thn (hv pins s1 σ H1 _ I1 q1) λw2 s2 ⟨y,H2,I2,ry,q2⟩=>
  thn (hr pins s2 σ H2 _ I2 q2) λws s3 ⟨ps,H3,I3,rel,q3⟩=>⟨(x,y)::ps,H3,I3,.cons ⟨rx,ry⟩ rel,q3⟩)
structure M1(X:Cx)(o:Expr)(m:Str)(apos:Pos)(e:Expr)(cpos:Pos):Prop where
 base:attributeBase o m X.env (eval o X.env)=eval o X.env
 few:((backTo cpos (starEach [e] X.env)).all (λx=>!x.1)&&(backToKw cpos (keywordEach [] X.env)).all (λx=>x.1.isSome)
  && decide (([e]:List Expr).length+([]:List Keyword).length+(if([]:List Keyword).isEmpty then 0 else 1)<30))=true
 line:(apos.endLine==cpos.line)=true
 trees:backTo cpos (starEach [e] X.env)=[(false,eval e X.env)]
noncomputable def IsD(H:Hp)(a:Addr):Prop:=(∃kvs,Rd H a (.dK kvs))\/∃kvs,Rd H a (.dT kvs)
theorem isD_at{X:Cx}{pins:List (Addr×Obj)}{σ:St}{H:Hp}{s:Shared}{a:Addr}(I:Inv X pins σ H s)(d:IsD H a) :
 s.TypeIs (.ref a) "dict" /\ (∀b,Value.ref a=.ref b->∃ob,s.heap.get? b=some ob/\ob.dict=none)/\(a==sysModules)=false:=by
 rcases d with⟨kvs,e⟩|⟨kvs,e⟩
 ·obtain⟨_,hd,vs,_,dd⟩:=iZ I.hok e
  refine⟨dd.typeIs,λb q=>?_,hd⟩
  cases q
  obtain⟨ob,_,_,h1,h2,_⟩:=dd
  exact⟨ob,h1,h2.2.1⟩
 ·obtain⟨_,hd,xs,_,dd⟩:=jV I.hok e
  refine⟨dd.typeIs,λb q=>?_,hd⟩
  cases q
  obtain⟨ob,_,_,h1,h2,_⟩:=dd
  exact⟨ob,h1,h2.2.1⟩
section
variable{X:Cx}{pins:List (Addr×Obj)}{σ:St}{H:Hp}{s:Shared}{a:Addr}{y d:V}{u r:Value}{o:Option V}{A:Around}{E:Value->Shared->Prop}
theorem d_get1{Q:Value->Shared->Prop}(hu:A.units+1<cLine)(I:Inv X pins σ H s)(g:iE H a y o)(ry:RelV y u)(h:∀w' s',Inv X pins σ H s'->RelV (o.getD .non) w'->Q w' s') :
 wpAny (model X.prog X.w) A (call (.builtin "dict.get") [.ref a,u]) Q E s:=by
 rcases g with⟨kvs,k,e,ey,l⟩|⟨kvs,k,b,e,ey,eb,l⟩
 ·subst ey
  obtain⟨z,hd,vs,rel,dd⟩:=iZ I.hok e
  refine call_meetsIn PySem.F.slot_dict_get dd.typeIs PySem.F.entry_dict_get (PySem.F.args_dict_get_2 _ _) (meets_dict_get (bR X.prog X.w) a (kX ry) hd) ⟨_,dd.mapOf,h _ _ (I.tok _) ?_⟩
  rw[l]
  exact(rel.val k).getD rfl
 ·subst ey
  cases (show u=Value.ref b from ry)
  obtain⟨z,hd,xs,rel,dd⟩:=jV I.hok e
  refine call_meetsIn PySem.F.slot_dict_get dd.typeIs PySem.F.entry_dict_get (PySem.F.args_dict_get_2 _ _) (meetsH_dict_get (tupleKind (bR X.prog X.w)) a b hd) ⟨tupleKind_room_in1 hu,k,xs,jA I.hok eb,dd,h _ _ (I.tok _) ?_⟩
  rw[l]
  exact(rel.val k).getD rfl
end
noncomputable def tDGet1(td ty:TE):TE:=λσ H Q=>td σ H λx H1=>∃a,x=.ref a/\IsD H1 a/\ty σ H1 λy H2=>∃o,iE H2 a y o/\Q (o.getD .non) H2
section
variable{X:Cx}{o e f:Expr}{apos cpos:Pos}{td ty tx:TE}
theorem FK (hu:X.A.units+1<cLine) (ho:PE X o td) (he:PE X e ty) (m:M1 X o "get" apos e cpos):PE X (.Call (.Attribute o "get" apos) [e] [] cpos) (tDGet1 td ty):=by
 intro pins s σ H Q I h
 refine wpAny_Call_method m.base m.few m.line PySem.F.plainAttrs_dict PySem.F.slot_dict_get PySem.F.type_dict_get (thn (ho pins s σ H _ I h) λu s1 ⟨x,H1,I1,rx,a,ex,d,q1⟩=>?_)
 subst ex
 obtain rfl:u=Value.ref a:=rx
 obtain⟨t1,t2,_⟩:=isD_at I1 d
 refine⟨t1,t2,?_⟩
 rw[m.trees]
 refine Calls.callWith_builtin rfl (Calls.evalArgs_plain (Calls.spliced_cons (thn (he pins s1 σ H1 _ I1 q1) λiv s2 ⟨y,H2,I2,ry,ov,g,q2⟩=>Calls.spliced_nil ?_)))
 exact d_get1 hu I2 g ry λw' s3 I3 rw'=>⟨_,H2,I3,rw',q2⟩
end
end L2
namespace Tr
open PySem
set_option genSizeOf true in
set_option genSizeOfSpec true in
inductive D where
 |non|bl (b:Bool)|int (i:Int)|str (x:Str)|tup (ds:List D)|lst (ds:List D)|dct (kvs:List (Sum Int Str×D))|tdc (kvs:List (List (Sum Int Str)×D))
 deriving Inhabited
inductive Res(α:Type) where
 |ok (a:α)|err (c:Str) (d:D)|no
 deriving Inhabited
namespace Res
@[reducible] noncomputable def bind{α β:Type}(x:Res α)(f:α->Res β):Res β:=match x with | .ok a=>f a | .err c d=>.err c d | .no=>.no
noncomputable instance:Monad Res where
 pure:=.ok
 bind:=bind
@[simp] theorem ok_bind{α β:Type}(a:α)(f:α->Res β):(Res.ok a>>=f)=f a:=id rfl
theorem bind_ok{α β:Type}{x:Res α}{f:α->Res β}{b:β}(h:(x>>=f)=.ok b):∃a,x=.ok a/\f a=.ok b:=by
 cases x with
 |ok a=>exact⟨a,rfl,h⟩
 |err c d=>cases h
 |no=>cases h
end Res
noncomputable def aB{α:Type}(c:Bool)(r:Res α):Res α:=if c then r else .no
theorem aU{α:Type}{c:Bool}{r:Res α}{a:α}(h:aB c r=.ok a):c=true/\r=.ok a:=by
 unfold aB at h
 split at h
 ·exact⟨by assumption,h⟩
 ·cases h
@[simp] theorem zT{α:Type}(r:Res α):aB true r=r:=id rfl
theorem cJ{α:Type}{c:Bool}(h:c=true)(r:Res α):aB c r=r:=by subst h;rfl
noncomputable def b2z(b:Bool):Int:=if b then 1 else 0
mutual
noncomputable def D.eqb:D->D->Bool
 |.non,.non=>true
 |.bl a,.bl b=>a==b
 |.bl a,.int j=>b2z a==j
 |.int i,.bl b=>i==b2z b
 |.int i,.int j=>i==j
 |.str x,.str y=>x==y
 |.tup a,.tup b=>D.eqs a b
 |.lst a,.lst b=>D.eqs a b
 |_,_=>false
noncomputable def D.eqs:List D->List D->Bool
 |[],[]=>true
 |a::r,b::q=>D.eqb a b&&D.eqs r q
 |_,_=>false
end
mutual
noncomputable def D.pl:Nat->D->Bool
 |_,.dct _=>false
 |_,.tdc _=>false
 |n,.tup a=>D.pls n a
 |n,.lst a=>D.pls n a
 |_,_=>true
noncomputable def D.pls:Nat->List D->Bool
 |_,[]=>true
 |0,_::_=>false
 |n+1,a::r=>D.pl n a&&D.pls (n+1) r
end
mutual
noncomputable def D.flat:D->Bool
 |.dct _=>false
 |.tdc _=>false
 |.lst _=>false
 |.tup a=>D.flats a
 |_=>true
noncomputable def D.flats:List D->Bool
 |[]=>true
 |a::r=>D.flat a&&D.flats r
end
theorem oU{a b:List D}:D.eqb (.tup a) (.tup b)=D.eqs a b:=rfl
theorem oV{a b:List D}:D.eqb (.lst a) (.lst b)=D.eqs a b:=rfl
theorem tH{a b:D}{r q:List D}:D.eqs (a::r) (b::q)=(D.eqb a b&&D.eqs r q):=rfl
theorem tJ{n:Nat}{a:D}{r:List D}:D.pls (n+1) (a::r)=(D.pl n a&&D.pls (n+1) r):=rfl
mutual
theorem D.eqb_refl:∀(n:Nat)(d:D),D.pl n d=true->D.eqb d d=true
 |_,.non,_=>rfl
 |_,.bl a,_=>by show(a==a)=true;simp
 |_,.int i,_=>by show(i==i)=true;simp
 |_,.str x,_=>by show(x==x)=true;simp
 |n,.tup a,h=>by rw[oU];exact D.eqs_refl n a h
 |n,.lst a,h=>by rw[oV];exact D.eqs_refl n a h
 |_,.dct a,h=>by cases h
 |_,.tdc a,h=>by cases h
theorem D.eqs_refl:∀(n:Nat)(a:List D),D.pls n a=true->D.eqs a a=true
 |_,[],_=>rfl
 |0,a::r,h=>by cases h
 |n+1,a::r,h=>by
  rw[tJ,aE]at h
  rw[tH,D.eqb_refl n a h.1,D.eqs_refl (n+1) r h.2];rfl
end
noncomputable def big:Nat:=16777216
noncomputable def sIx(n d:Nat):Option Int->Nat
 |none=>d
 |some v=>if v<0 then(v+(n:Int)).toNat else min v.toNat n
noncomputable def cut{α:Type}(xs:List α)(lo hi:Option Int):List α:=(xs.drop (sIx xs.length 0 lo)).take (sIx xs.length xs.length hi-sIx xs.length 0 lo)
noncomputable def ixN(n:Nat)(i:Int):Option Nat:=if 0<=i then(if i<n then some i.toNat else none)else if -(n:Int)<=i then some (i+n).toNat else none
noncomputable def atI{α:Type}(xs:List α)(i:Int):Option α:=(ixN xs.length i).bind λj=>xs[j]?
noncomputable def iF(i:Int):Bool:=decide (-(2^64)<i)&&decide (i<2^64)
noncomputable def D.bin:Operator->D->D->Res D
 |.Add,.int i,.int j=>.ok (.int (i+j))
 |.Add,.str x,.str y=>aB (decide (x.length+y.length<=big)) (.ok (.str (x++y)))
 |.Add,.lst a,.lst b=>aB (decide (a.length+b.length<=big)) (.ok (.lst (a++b)))
 |.Add,.tup a,.tup b=>aB (decide (a.length+b.length<=big)) (.ok (.tup (a++b)))
 |.Sub,.int i,.int j=>.ok (.int (i-j))
 |.Mult,.int i,.int j=>aB (iF i||iF j) (.ok (.int (i*j)))
 |.Mult,.lst a,.int j=>aB (decide (a.length=1)&&decide (0<=j)&&decide (j<=1000)) (.ok (.lst (aM j.toNat a).flatten))
 |.FloorDiv,.int i,.int j=>aB (decide (0<j)&&decide (j<1073741824)) (.ok (.int (i/j)))
 |.Mod,.int i,.int j=>aB (decide (0<j)) (.ok (.int (i%j)))
 |.Pow,.int i,.int j=>aB (decide (0<=j)&&decide (j<=1000000)&&decide (i.natAbs<2^64)) (.ok (.int (i^j.toNat)))
 |_,_,_=>.no
noncomputable def mU(c:Nat):Str:=⟨#[c]⟩
noncomputable def tK(x:Str)(lo hi:Option Int):Str:=⟨(cut x.cps.toList lo hi).toArray⟩
noncomputable def tL(cs:List Nat):Nat:=cs.foldl (λacc c=>acc*10+(c-48)) 0
noncomputable def tM(cs:List Nat):Bool:=!cs.isEmpty&&cs.all λc=>decide (48<=c)&&decide (c<=57)
noncomputable def fL:List D->Res (List Bool)
 |[]=>.ok []
 |.bl x::r=>do let q<-fL r;.ok (x::q)
 |_::_=>.no
noncomputable def tO(x y:Str):Res Bool:=match x.cps.toList with
 |[c]=>.ok (decide (c∈y.cps.toList))
 |_=>.no
noncomputable def eT:D->Option (Sum Int Str)
 |.int i=>some (.inl i)
 |.str x=>some (.inr x)
 |_=>none
noncomputable def bF(kvs:List (Sum Int Str×D))(k:Sum Int Str):Option D:=(kvs.find? λkv=>decide (kv.1=k)).map (·.2)
noncomputable def gR(kvs:List (Sum Int Str×D))(k:Sum Int Str)(v:D):List (Sum Int Str×D):=
 if(kvs.any λkv=>decide (kv.1=k))=true then kvs.map (λkv=>if kv.1=k then(kv.1,v)else kv)else kvs++[(k,v)]
noncomputable def kY:List D->Option (List (Sum Int Str))
 |[]=>some []
 |d::r=>(eT d).bind λk=>(kY r).map λq=>k::q
noncomputable def cF:List D->Option (List (Sum Int Str))
 |[]=>some []
 |.int i::r=>(cF r).map λq=>.inl i::q
 |_::_=>none
noncomputable def iG:Sum Int Str->D
 |.inl i=>.int i
 |.inr x=>.str x
noncomputable def cB(kvs:List (List (Sum Int Str)×D))(k:List (Sum Int Str)):Option D:=(kvs.find? λkv=>decide (kv.1=k)).map (·.2)
noncomputable def fM(kvs:List (List (Sum Int Str)×D))(k:List (Sum Int Str))(v:D):List (List (Sum Int Str)×D):=
 if(kvs.any λkv=>decide (kv.1=k))=true then kvs.map (λkv=>if kv.1=k then(kv.1,v)else kv)else kvs++[(k,v)]
noncomputable def Res.of{α:Type}:Option α->Res α
 |some a=>.ok a
 |none=>.no
noncomputable def D.isNon:D->Bool
 |.non=>true
 |_=>false
noncomputable def D.eqOk(a b:D):Bool:=D.pl 30 a&&D.pl 30 b
noncomputable def D.mem(x:D):List D->Bool
 |[]=>false
 |y::r=>D.eqb y x||D.mem x r
noncomputable def D.inn(x:D):D->Res Bool
 |.lst ds=>aB (D.pls 30 ds&&D.pl 29 x) (.ok (D.mem x ds))
 |.tup ds=>aB (D.pls 30 ds&&D.pl 29 x) (.ok (D.mem x ds))
 |.dct kvs=>do let k<-Res.of (eT x);.ok (bF kvs k).isSome
 |.tdc kvs=>match x with
  |.tup ks=>do let k<-Res.of (cF ks);.ok (cB kvs k).isSome
  |_=>.no
 |.str y=>match x with
  |.str z=>tO z y
  |_=>.no
 |_=>.no
noncomputable def D.cmp:CmpOp->D->D->Res D
 |.Eq,a,b=>aB (D.eqOk a b) (.ok (.bl (D.eqb a b)))
 |.NotEq,a,b=>aB (D.eqOk a b) (.ok (.bl (!D.eqb a b)))
 |.Lt,.int i,.int j=>.ok (.bl (decide (i<j)))
 |.LtE,.int i,.int j=>.ok (.bl (decide (i<=j)))
 |.Gt,.int i,.int j=>.ok (.bl (decide (j<i)))
 |.GtE,.int i,.int j=>.ok (.bl (decide (j<=i)))
 |.Is,a,.non=>.ok (.bl a.isNon)
 |.IsNot,a,.non=>.ok (.bl (!a.isNon))
 |.Is,.bl a,.bl b=>.ok (.bl (a==b))
 |.IsNot,.bl a,.bl b=>.ok (.bl (a != b))
 |.In,a,b=>do let k<-D.inn a b;.ok (.bl k)
 |.NotIn,a,b=>do let k<-D.inn a b;.ok (.bl (!k))
 |_,_,_=>.no
noncomputable def D.truth:D->Res Bool
 |.non=>.ok false
 |.bl b=>.ok b
 |.int i=>.ok (i != 0)
 |.str x=>aB (decide (x.length<=big)) (.ok ((x.length:Int) != 0))
 |.tup a=>.ok (!a.isEmpty)
 |.lst a=>.ok (!a.isEmpty)
 |.dct _=>.no
 |.tdc _=>.no
noncomputable def D.ix:D->D->Res D
 |.lst a,.int i=>Res.of (atI a i)
 |.tup a,.int i=>Res.of (atI a i)
 |.str x,.int i=>aB (decide (x.length<=big)) (Res.of ((atI x.cps.toList i).map λc=>.str ⟨#[c]⟩))
 |.dct kvs,y=>do let k<-Res.of (eT y);Res.of (bF kvs k)
 |.tdc kvs,.tup ks=>do let k<-Res.of (cF ks);Res.of (cB kvs k)
 |_,_=>.no
noncomputable def D.part:D->Res (Option Int)
 |.non=>.ok none
 |.int i=>.ok (some i)
 |_=>.no
noncomputable def D.sl:D->Option Int->Option Int->Res D
 |.lst a,lo,hi=>.ok (.lst (cut a lo hi))
 |.tup a,lo,hi=>.ok (.tup (cut a lo hi))
 |.str x,lo,hi=>aB (decide (x.length<=big)) (.ok (.str (tK x lo hi)))
 |_,_,_=>.no
noncomputable def D.items:D->Res (List D)
 |.lst a=>.ok a
 |.tup a=>.ok a
 |.str x=>.ok (x.cps.toList.map λc=>.str (mU c))
 |_=>.no
noncomputable def eE:List D->Res (List Int)
 |[]=>.ok []
 |.int i::r=>do let q<-eE r;.ok (i::q)
 |_::_=>.no
noncomputable def bP(lo:Int):Nat->List D
 |0=>[]
 |n+1=>.int lo::bP (lo+1) n
noncomputable def cQ(k:Int):List D->List D
 |[]=>[]
 |d::r=>.tup [.int k,d]::cQ (k+1) r
noncomputable def bV(i:Int):Bool:=decide (-(2^62)<=i)&&decide (i<2^62)
inductive Ty where
 |int|bool|str|tuple|list
 deriving DecidableEq,Inhabited
noncomputable def D.isDct:D->Bool
 |.dct _=>true
 |.tdc _=>true
 |_=>false
noncomputable def D.isTy:D->Ty->Bool
 |.int _,.int=>true
 |.bl _,.int=>true
 |.bl _,.bool=>true
 |.str _,.str=>true
 |.tup _,.tuple=>true
 |.lst _,.list=>true
 |_,_=>false
inductive Bt where
 |len|sum|tuple|list|int|str|bool|abs|min|max|all|any
 deriving DecidableEq,Inhabited
noncomputable def D.len:D->Res D
 |.lst a=>.ok (.int a.length)
 |.tup a=>.ok (.int a.length)
 |.str x=>aB (decide (x.length<=big)) (.ok (.int x.length))
 |.dct a=>.ok (.int a.length)
 |_=>.no
noncomputable def D.sum:D->Res D
 |.lst a=>do let ns<-eE a;.ok (.int ns.sum)
 |_=>.no
noncomputable def D.tuple:D->Res D
 |.lst a=>.ok (.tup a)
 |.tup a=>.ok (.tup a)
 |_=>.no
noncomputable def D.list:D->Res D
 |.lst a=>.ok (.lst a)
 |.tup a=>.ok (.lst a)
 |_=>.no
noncomputable def D.toInt:D->Res D
 |.int i=>.ok (.int i)
 |.bl b=>.ok (.int (b2z b))
 |.str x=>aB (tM x.cps.toList&&decide (x.length<=640)) (.ok (.int (tL x.cps.toList)))
 |_=>.no
noncomputable def D.toStr:D->Res D
 |.int i=>aB (decide (i.natAbs.log2<1920)) (.ok (.str (Str.ofString (toString i))))
 |_=>.no
noncomputable def D.toBool:D->Res D
 |.int i=>.ok (.bl (i != 0))
 |.bl b=>.ok (.bl b)
 |_=>.no
noncomputable def D.abs:D->Res D
 |.int i=>.ok (.int (if i<0 then -i else i))
 |_=>.no
noncomputable def D.all:D->Res D
 |.lst a=>do let q<-fL a;.ok (.bl (q.all id))
 |_=>.no
noncomputable def D.any:D->Res D
 |.lst a=>do let q<-fL a;.ok (.bl (q.any id))
 |_=>.no
noncomputable def gB:Int->List Int->Int
 |m,[]=>m
 |m,n::r=>gB (if n>m then n else m) r
noncomputable def minI:Int->List Int->Int
 |m,[]=>m
 |m,n::r=>minI (if n<m then n else m) r
noncomputable def D.maxL:D->Res D
 |.lst a=>do
  match<-eE a with
  |n::ns=>.ok (.int (gB n ns))
  |[]=>.no
 |.tup a=>do
  match<-eE a with
  |n::ns=>.ok (.int (gB n ns))
  |[]=>.no
 |_=>.no
noncomputable def D.minL:D->Res D
 |.lst a=>do
  match<-eE a with
  |n::ns=>.ok (.int (minI n ns))
  |[]=>.no
 |.tup a=>do
  match<-eE a with
  |n::ns=>.ok (.int (minI n ns))
  |[]=>.no
 |_=>.no
noncomputable def D.min2:D->D->Res D
 |.int i,.int j=>.ok (.int (if j<i then j else i))
 |_,_=>.no
noncomputable def D.max2:D->D->Res D
 |.int i,.int j=>.ok (.int (if j>i then j else i))
 |_,_=>.no
noncomputable def Bt.one:Bt->D->Res D
 |.len=>D.len
 |.sum=>D.sum
 |.tuple=>D.tuple
 |.list=>D.list
 |.int=>D.toInt
 |.str=>D.toStr
 |.bool=>D.toBool
 |.abs=>D.abs
 |.all=>D.all
 |.any=>D.any
 |.min=>D.minL
 |.max=>D.maxL
noncomputable def Bt.two:Bt->D->D->Res D
 |.min=>D.min2
 |.max=>D.max2
 |_=>λ_ _=>.no
noncomputable def Bt.run(b:Bt):List D->Res D
 |[d]=>b.one d
 |[d,d']=>b.two d d'
 |_=>.no
noncomputable def oW:D->Res D
 |.int n=>aB (bV n&&decide (n<=1000)) (.ok (.tup (bP 0 n.toNat)))
 |_=>.no
noncomputable def oX:D->D->Res D
 |.tdc kvs,.tup ks=>do let k<-Res.of (cF ks);.ok ((cB kvs k).getD .non)
 |_,_=>.no
noncomputable def oY:D->Res (List (Sum Int Str))
 |.tup ks=>Res.of (cF ks)
 |_=>.no
noncomputable def oZ:D->D->Res D
 |.tup ks,v=>do let k<-Res.of (cF ks);.ok (.tdc [(k,v)])
 |_,_=>.no
noncomputable def pA:D->Res (List D)
 |.tdc kvs=>.ok (kvs.map λkv=>.tup (kv.1.map iG))
 |.dct kvs=>.ok (kvs.map λkv=>iG kv.1)
 |_=>.no
noncomputable def pairs72:List (Nat×Nat):=(aA 9).flatMap λa=>(aA 8).map λb=>(a,b)
noncomputable def jB:List Nat->List (List Nat)
 |[]=>[[]]
 |a::r=>jB r++(jB r).map (a::·)
noncomputable def keyTab:List (List Nat):=(pairs72.map λp=>[p.1,p.2])++(jB (aA 6)).filter λk=>k.length != 2
noncomputable def fN:List D->Option (List Nat)
 |[]=>some []
 |.int a::r=>if decide (0<=a)then(fN r).bind λq=>some (a.toNat::q)else none
 |_=>none
noncomputable def pB:D->Option (List Nat)
 |.tup ks=>(fN ks).bind λk=>if keyTab.contains k then some k else none
 |_=>none
noncomputable def gC:List D->Option (List (List Nat))
 |[]=>some []
 |d::r=>(pB d).bind λp=>(gC r).bind λq=>some (p::q)
noncomputable def bS(l:List (List Nat)):List (List Nat):=l.foldl (λacc k=>if acc.contains k then acc else acc++[k]) []
noncomputable def iH:List D->Res (List (List (Sum Int Str)×D))
 |[]=>.ok []
 |.tup [.tup ks,v]::r=>do let k<-Res.of (cF ks);let q<-iH r;.ok ((k,v)::q)
 |_=>.no
noncomputable def jW(qs:List (List (Sum Int Str)×D))(kvs:List (List (Sum Int Str)×D)):List (List (Sum Int Str)×D):=qs.foldl (λm q=>fM m q.1 q.2) kvs
noncomputable def pC:D->Res D
 |.lst ds=>do let qs<-iH ds;.ok (.tdc (jW qs []))
 |_=>.no
noncomputable def D.setN(x:D):Res D:=match x with
 |.lst ds=>match gC ds with
  |some ps=>aB (decide (ps.length<=72)) (.ok (.int (bS ps).length))
  |none=>.no
 |_=>.no
set_option genInjectivity false in
inductive G where
 |one (i:Nat)|many (is:List Nat)
 deriving Inhabited
set_option genInjectivity false in
inductive E where
 |var (i:Nat)|rd (i:Nat)|con (d:D)|glob (g:Nat)
 |bin (o:Operator) (a b:E)|cmp (o:CmpOp) (a b:E)
 |and (a b:E)|or (a b:E)|not (a:E)|neg (a:E)|ife (c a b:E)
 |ix (a b:E)|sl (a lo hi:E)|omit
 |tup (a:E)|lst (a:E)|anil|acons (a r:E)
 |call (f:Nat) (a:E)|bt (b:Bt) (a:E)|isi (a:E) (t:Ty)
 |comp (own:Nat) (caps:List Nat) (g:G) (elt src cond:E)
 |seq (a:E)|rng (a:E)|rng2 (a b:E)|enum (a:E)
 |lset (a:E)
 |dcl (a:E)|dlit (a b:E)|trng (a:E)|getV (a b:E)|seqD (a:E)
 deriving Inhabited
set_option genInjectivity false in
inductive S where
 |nil|cons (a r:S)
 |ret (e:E)|retO (i:Nat)
 |asg (g:G) (e:E)|asgO (i:Nat) (e:E)|sealed (i:Nat)
 |ite (c:E) (a b:S)|forS (g:G) (src:E) (b:S)
 |app (i:Nat) (e:E)|rev (i:Nat)
 |dput (i:Nat) (k v:E)|ext (i:Nat) (e:E)
 |popS (i:Nat) (k:E)
 |lput (i:Nat) (k e:E)
 |exp (e:E)
 |newD (i:Nat)|newT (i:Nat)|dputV (i:Nat) (k v:E)
 deriving Inhabited
inductive Sl where
 |no|v (d:D)|o (d:D)|t (ds:List D)|n (d:D)
 deriving Inhabited
noncomputable abbrev Nv:=List Sl
noncomputable def Nv.at(e:Nv)(i:Nat):Sl:=(e[i]?).getD .no
noncomputable def Sl.val:Sl->Res D
 |.v d=>.ok d
 |.n d=>.ok d
 |_=>.no
noncomputable def Sl.any:Sl->Res D
 |.v d=>.ok d
 |.n d=>.ok d
 |.o d=>.ok d
 |_=>.no
noncomputable def Sl.own:Sl->Res (List D)
 |.o (.lst a)=>.ok a
 |_=>.no
noncomputable def Sl.ownD:Sl->Res (List (Sum Int Str×D))
 |.o (.dct a)=>.ok a
 |_=>.no
noncomputable def Sl.ownT:Sl->Res (List (List (Sum Int Str)×D))
 |.o (.tdc a)=>.ok a
 |_=>.no
noncomputable def Sl.ownA:Sl->Res D
 |.o d=>.ok d
 |_=>.no
noncomputable def cR:List Nat->List D->Nv->Res Nv
 |[],[],e=>.ok e
 |i::r,d::q,e=>cR r q (e.set i (.v d))
 |_,_,_=>.no
noncomputable def G.put:G->D->Nv->Res Nv
 |.one i,d,e=>.ok (e.set i (.v d))
 |.many is,.tup ds,e=>cR is ds e
 |_,_,_=>.no
noncomputable def compEnv(own:Nat)(caps:List Nat)(e:Nv):Nv:=aM own Sl.no++caps.map λi=>e.at i
set_option genInjectivity false in
structure Tab where
 glob:Nat->D
 fresh:Nat->Bool
 mv:Nat->Option Nat:=λ_=>none
section
variable(T:Tab)(cf:Nat->List D->Res D)
noncomputable def pD:List D->Bool
 |.lst _::_=>true
 |.int _::r=>pD r
 |_=>false
noncomputable def jX:D->Bool
 |.tup ds=>pD ds
 |_=>false
noncomputable def bH:E->Bool
 |.lst _=>true
 |.sl _ _ _=>true
 |.bin .Add _ _=>true
 |.comp _ _ _ _ _ _=>true
 |.bt .list _=>true
 |.call f _=>T.fresh f
 |_=>false
noncomputable def zU:E->Nat->E
 |.acons a _,0=>a
 |.acons _ r,n+1=>zU r n
 |_,_=>.omit
noncomputable def compL(f:D->Res (Option D)):List D->Res (List D)
 |[]=>.ok []
 |d::r=>do
  let x<-f d
  let q<-compL f r
  match x with
  |some y=>.ok (y::q)
  |none=>.ok q
mutual
noncomputable def evE:E->Nv->Res D
 |.var i,e=>(e.at i).val
 |.rd i,e=>(e.at i).any
 |.con d,_=>.ok d
 |.glob g,_=>.ok (T.glob g)
 |.bin o a b,e=>do let x<-evE a e;let y<-evE b e;D.bin o x y
 |.cmp o a b,e=>do let x<-evE a e;let y<-evE b e;D.cmp o x y
 |.and a b,e=>do let x<-evE a e;let k<-x.truth;if k then evE b e else .ok x
 |.or a b,e=>do let x<-evE a e;let k<-x.truth;if k then .ok x else evE b e
 |.not a,e=>do let x<-evE a e;let k<-x.truth;.ok (.bl (!k))
 |.neg a,e=>do
  match<-evE a e with
  |.int i=>.ok (.int (-i))
  |_=>.no
 |.ife c a b,e=>do let x<-evE c e;let k<-x.truth;if k then evE a e else evE b e
 |.ix a b,e=>do let x<-evE a e;let y<-evE b e;D.ix x y
 |.sl a lo hi,e=>do let x<-evE a e;let l<-evE lo e;let l<-l.part;let h<-evE hi e;let h<-h.part;D.sl x l h
 |.omit,_=>.ok .non
 |.tup a,e=>do let xs<-evA a e;.ok (.tup xs)
 |.lst a,e=>do let xs<-evA a e;.ok (.lst xs)
 |.call f a,e=>do let xs<-evA a e;cf f xs
 |.dcl a,e=>do let x<-evE a e;pC x
 |.dlit a b,e=>do let x<-evE a e;let y<-evE b e;oZ x y
 |.trng a,e=>do let x<-evE a e;oW x
 |.getV a b,e=>do let x<-evE a e;let y<-evE b e;oX x y
 |.bt b a,e=>do let xs<-evA a e;b.run xs
 |.isi a t,e=>do let x<-evE a e;aB (!x.isDct) (.ok (.bl (x.isTy t)))
 |.lset a,e=>do let x<-evE a e;x.setN
 |.comp own caps g elt src cond,e=>do
  let ds<-evI src e
  let ys<-compL (λd=>do
   let e1<-g.put d (compEnv own caps e)
   let c<-evE cond e1
   let k<-c.truth
   if k then do let y<-evE elt e1;.ok (some y)else .ok none) ds
  aB (decide (ds.length<=big)) (.ok (.lst ys))
 |_,_=>.no
noncomputable def evA:E->Nv->Res (List D)
 |.anil,_=>.ok []
 |.acons a r,e=>do let x<-evE a e;let q<-evA r e;aB (decide (q.length<1000)) (.ok (x::q))
 |_,_=>.no
noncomputable def evI:E->Nv->Res (List D)
 |.seq a,e=>do let x<-evE a e;x.items
 |.rng a,e=>do
  match<-evE a e with
  |.int n=>aB (bV n) (.ok (bP 0 n.toNat))
  |_=>.no
 |.rng2 a b,e=>do
  match<-evE a e with
  |.int n=>do
   match<-evE b e with
   |.int m=>aB (bV n&&bV m) (.ok (bP n (m-n).toNat))
   |_=>.no
  |_=>.no
 |.enum a,e=>do
  match<-evE a e with
  |.lst ds=>.ok (cQ 0 ds)
  |_=>.no
 |.seqD a,e=>do let x<-evE a e;pA x
 |_,_=>.no
end
noncomputable def jY(n:Nat):D->Res Nat
 |.int v=>aB (bV v) (Res.of (ixN n v))
 |_=>.no
noncomputable def jZ(n:Nat):E->D->Res Nat
 |.omit,_=>if n=0 then .no else .ok (n-1)
 |_,d=>jY n d
inductive Out where
 |nx (e:Nv)|rt (d:D) (fresh:Bool)|bk (e:Nv)|ct (e:Nv)
 deriving Inhabited
noncomputable def forL(f:D->Nv->Res Out):List D->Nv->Res Out
 |[],e=>.ok (.nx e)
 |d::r,e=>do
  match<-f d e with
  |.nx e1=>forL f r e1
  |.ct e1=>forL f r e1
  |.bk e1=>.ok (.nx e1)
  |.rt x k=>.ok (.rt x k)
noncomputable def exS:S->Nv->Res Out
 |.nil,e=>.ok (.nx e)
 |.cons a r,e=>do
  match<-exS a e with
  |.nx e1=>exS r e1
  |o=>.ok o
 |.ret x,e=>do let d<-evE T cf x e;.ok (.rt d (bH T x&&!jX d))
 |.retO i,e=>do let a<-(e.at i).ownA;.ok (.rt a (!a.isDct))
 |.asg g x,e=>do let d<-evE T cf x e;let e1<-g.put d e;.ok (.nx e1)
 |.asgO i x,e=>do
  match<-evE T cf x e with
  |.lst a=>aB (bH T x) (.ok (.nx (e.set i (.o (.lst a)))))
  |.dct a=>aB (bH T x) (.ok (.nx (e.set i (.o (.dct a)))))
  |.tdc a=>aB (bH T x) (.ok (.nx (e.set i (.o (.tdc a)))))
  |_=>.no
 |.sealed i,e=>do let a<-(e.at i).ownA;.ok (.nx (e.set i (.v a)))
 |.ite c a b,e=>do let x<-evE T cf c e;let k<-x.truth;if k then exS a e else exS b e
 |.forS g src b,e=>do
  let ds<-evI T cf src e
  forL (λd e0=>do let e1<-g.put d e0;exS b e1) ds e
 |.app i x,e=>do
  let d<-evE T cf x e
  let a<-(e.at i).own
  aB (decide (a.length<big)) (.ok (.nx (e.set i (.o (.lst (a++[d]))))))
 |.rev i,e=>do
  let a<-(e.at i).own
  .ok (.nx (e.set i (.o (.lst a.reverse))))
 |.dput i k x,e=>do
  let d<-evE T cf x e
  let a<-(e.at i).ownD
  let y<-evE T cf k e
  let key<-Res.of (eT y)
  aB (decide (a.length<big)) (.ok (.nx (e.set i (.o (.dct (gR a key d))))))
 |.newD i,e=>.ok (.nx (e.set i (.o (.dct []))))
 |.newT i,e=>.ok (.nx (e.set i (.o (.tdc []))))
 |.dputV i k x,e=>do
  let d<-evE T cf x e
  let a<-(e.at i).ownT
  let y<-evE T cf k e
  let key<-oY y
  aB (decide (a.length<big)) (.ok (.nx (e.set i (.o (.tdc (fM a key d))))))
 |.ext i x,e=>do
  match<-evE T cf x e with
  |.lst b=>do
   let a<-(e.at i).own
   aB (bH T x&&decide (a.length+b.length<=big)) (.ok (.nx (e.set i (.o (.lst (a++b))))))
  |_=>.no
 |.popS i k,e=>do
  let a<-(e.at i).own
  let d<-evE T cf k e
  let j<-jZ a.length k d
  let _<-Res.of a[j]?
  .ok (.nx (e.set i (.o (.lst (a.eraseIdx j)))))
 |.lput i k x,e=>do
  let d<-evE T cf x e
  let a<-(e.at i).own
  let y<-evE T cf k e
  let j<-jY a.length y
  .ok (.nx (e.set i (.o (.lst (a.set j d)))))
 |.exp x,e=>do let _<-evE T cf x e;.ok (.nx e)
noncomputable def exX(T:Tab)(cf:Nat->List D->Res D)(_:S)(_:Nv):Option (Str×D):=none
end
structure Told where
 b:S
 c:Str
 yes:D
 thr:D
 ini:D:=.non
 num:Bool:=false
 deriving Inhabited
set_option genInjectivity false in
structure Df where
 names:Nat
 pars:Nat
 body:S
 told:Option Told:=none
 deriving Inhabited
noncomputable def dQ(mv:Option Nat)(ds:List D):Nv:=match mv with
 |none=>ds.map Sl.v
 |some j=>(ds.map Sl.v).set j (.n (ds.getD j .non))
noncomputable def callF(T:Tab)(defs:List Df):Nat->Nat->List D->Res D
 |0,_,_=>.no
 |n+1,f,ds=>
  match defs[f]? with
  |none=>.no
  |some d=>
   aB (ds.length==d.pars) (match d.told with
    |none=>match exX T (callF T defs n) d.body (dQ (T.mv f) ds++aM (d.names-d.pars) Sl.no)with
     |some z=>.err z.1 z.2
     |none=>match exS T (callF T defs n) d.body (dQ (T.mv f) ds++aM (d.names-d.pars) Sl.no)with
      |.ok (.rt x k)=>aB (k||!T.fresh f) (.ok x)
      |.ok (.nx _)=>aB (!T.fresh f) (.ok .non)
      |_=>.no
    |some t=>match exX T (callF T defs n) t.b (ds.map Sl.v++[.v t.ini,.no])with
     |some z=>aB (z.1==t.c&&!T.fresh f) (if t.num then(match z.2 with | .int v=>.ok (.int v)|_=>.no)else .ok t.yes)
     |none=>match exS T (callF T defs n) t.b (ds.map Sl.v++[.v t.ini,.no])with
      |.ok (.nx _)=>aB (!T.fresh f) (.ok t.thr)
      |_=>.no)
theorem tP{T:Tab}{defs:List Df}{n f:Nat}{ds:List D}:callF T defs (n+1) f ds=(
 match defs[f]? with
 |none=>.no
 |some d=>
  aB (ds.length==d.pars) (match d.told with
   |none=>match exX T (callF T defs n) d.body (dQ (T.mv f) ds++aM (d.names-d.pars) Sl.no)with
    |some z=>.err z.1 z.2
    |none=>match exS T (callF T defs n) d.body (dQ (T.mv f) ds++aM (d.names-d.pars) Sl.no)with
     |.ok (.rt x k)=>aB (k||!T.fresh f) (.ok x)
     |.ok (.nx _)=>aB (!T.fresh f) (.ok .non)
     |_=>.no
   |some t=>match exX T (callF T defs n) t.b (ds.map Sl.v++[.v t.ini,.no])with
    |some z=>aB (z.1==t.c&&!T.fresh f) (if t.num then(match z.2 with | .int v=>.ok (.int v)|_=>.no)else .ok t.yes)
    |none=>match exS T (callF T defs n) t.b (ds.map Sl.v++[.v t.ini,.no])with
     |.ok (.nx _)=>aB (!T.fresh f) (.ok t.thr)
     |_=>.no)):=rfl
section
variable{T:Tab}{cf:Nat->List D->Res D}{e:Nv}
theorem xE_var{i:Nat}:evE T cf (.var i) e=((e.at i).val):=rfl
theorem tQ{i:Nat}:evE T cf (.rd i) e=((e.at i).any):=rfl
theorem tU{d:D}:evE T cf (.con d) e=(.ok d):=rfl
theorem FL{g:Nat}:evE T cf (.glob g) e=(.ok (T.glob g)):=rfl
theorem xE_cmp{o:CmpOp}{a:E}{b:E}:evE T cf (.cmp o a b) e=(do let x<-evE T cf a e;let y<-evE T cf b e;D.cmp o x y):=rfl
theorem zV{a:E}{b:E}:evE T cf (.and a b) e=(do let x<-evE T cf a e;let k<-x.truth;if k then evE T cf b e else .ok x):=rfl
theorem zW{a:E}{b:E}:evE T cf (.or a b) e=(do let x<-evE T cf a e;let k<-x.truth;if k then .ok x else evE T cf b e):=rfl
theorem zX{a:E}:evE T cf (.not a) e=(do let x<-evE T cf a e;let k<-x.truth;.ok (.bl (!k))):=rfl
theorem zY{a:E}:evE T cf (.neg a) e=(do
 match<-evE T cf a e with
 |.int i=>.ok (.int (-i))
 |_=>.no):=rfl
theorem zZ{c:E}{a:E}{b:E}:evE T cf (.ife c a b) e=(do let x<-evE T cf c e;let k<-x.truth;if k then evE T cf a e else evE T cf b e):=rfl
theorem xE_sl{a:E}{lo:E}{hi:E}:evE T cf (.sl a lo hi) e=(do let x<-evE T cf a e;let l<-evE T cf lo e;let l<-l.part;let h<-evE T cf hi e;let h<-h.part;D.sl x l h):=rfl
theorem FM  : evE T cf (.«omit») e=(.ok .non):=rfl
theorem pE{a:E}:evE T cf (.tup a) e=(do let xs<-evA T cf a e;.ok (.tup xs)):=rfl
theorem mV{a:E}:evE T cf (.lst a) e=(do let xs<-evA T cf a e;.ok (.lst xs)):=rfl
theorem AA{f:Nat}{a:E}:evE T cf (.call f a) e=(do let xs<-evA T cf a e;cf f xs):=rfl
theorem FN{a b:E}:evE T cf (.dlit a b) e=(do let x<-evE T cf a e;let y<-evE T cf b e;oZ x y):=rfl
theorem FO{a:E}:evE T cf (.trng a) e=(do let x<-evE T cf a e;oW x):=rfl
theorem FP{a b:E}:evE T cf (.getV a b) e=(do let x<-evE T cf a e;let y<-evE T cf b e;oX x y):=rfl
theorem FQ{a:E}:evI T cf (.seqD a) e=(do let x<-evE T cf a e;pA x):=rfl
theorem xE_dcl{a:E}:evE T cf (.dcl a) e=(do let x<-evE T cf a e;pC x):=rfl
theorem xE_bt{b:Bt}{a:E}:evE T cf (.bt b a) e=(do let xs<-evA T cf a e;b.run xs):=rfl
theorem xE_isi{a:E}{t:Ty}:evE T cf (.isi a t) e=(do let x<-evE T cf a e;aB (!x.isDct) (.ok (.bl (x.isTy t)))):=rfl
theorem FR{a:E}:evE T cf (.lset a) e=(do let x<-evE T cf a e;x.setN):=rfl
theorem AB{own:Nat}{caps:List Nat}{g:G}{elt:E}{src:E}{cond:E}:evE T cf (.comp own caps g elt src cond) e=(do
 let ds<-evI T cf src e
 let ys<-compL (λd=>do
  let e1<-g.put d (compEnv own caps e)
  let c<-evE T cf cond e1
  let k<-c.truth
  if k then do let y<-evE T cf elt e1;.ok (some y)else .ok none) ds
 aB (decide (ds.length<=big)) (.ok (.lst ys))):=rfl
theorem pF  : evA T cf (.anil) e=(.ok []):=rfl
theorem pG{a:E}{r:E}:evA T cf (.acons a r) e=(do let x<-evE T cf a e;let q<-evA T cf r e;aB (decide (q.length<1000)) (.ok (x::q))):=rfl
theorem xI_seq{a:E}:evI T cf (.seq a) e=(do let x<-evE T cf a e;x.items):=rfl
theorem AC{a:E}:evI T cf (.rng a) e=(do
 match<-evE T cf a e with
 |.int n=>aB (bV n) (.ok (bP 0 n.toNat))
 |_=>.no):=rfl
theorem AD{a:E}{b:E}:evI T cf (.rng2 a b) e=(do
 match<-evE T cf a e with
 |.int n=>do
  match<-evE T cf b e with
  |.int m=>aB (bV n&&bV m) (.ok (bP n (m-n).toNat))
  |_=>.no
 |_=>.no):=rfl
theorem AE{a:E}:evI T cf (.enum a) e=(do
 match<-evE T cf a e with
 |.lst ds=>.ok (cQ 0 ds)
 |_=>.no):=rfl
theorem xS_nil  : exS T cf (.nil) e=(.ok (.nx e)):=rfl
theorem pH{a:S}{r:S}:exS T cf (.cons a r) e=(do
 match<-exS T cf a e with
 |.nx e1=>exS T cf r e1
 |o=>.ok o):=rfl
theorem xS_ret{x:E}:exS T cf (.ret x) e=(do let d<-evE T cf x e;.ok (.rt d (bH T x&&!jX d))):=rfl
theorem FS{i:Nat}:exS T cf (.retO i) e=(do let a<-(e.at i).ownA;.ok (.rt a (!a.isDct))):=rfl
theorem pI{g:G}{x:E}:exS T cf (.asg g x) e=(do let d<-evE T cf x e;let e1<-g.put d e;.ok (.nx e1)):=rfl
theorem pJ{i:Nat}{x:E}:exS T cf (.asgO i x) e=(do
 match<-evE T cf x e with
 |.lst a=>aB (bH T x) (.ok (.nx (e.set i (.o (.lst a)))))
 |.dct a=>aB (bH T x) (.ok (.nx (e.set i (.o (.dct a)))))
 |.tdc a=>aB (bH T x) (.ok (.nx (e.set i (.o (.tdc a)))))
 |_=>.no):=rfl
theorem AF{i:Nat}:exS T cf (.«sealed» i) e=(do let a<-(e.at i).ownA;.ok (.nx (e.set i (.v a)))):=rfl
theorem xS_ite{c:E}{a:S}{b:S}:exS T cf (.ite c a b) e=(do let x<-evE T cf c e;let k<-x.truth;if k then exS T cf a e else exS T cf b e):=rfl
theorem FT{g:G}{src:E}{b:S}:exS T cf (.forS g src b) e=(do
 let ds<-evI T cf src e
 forL (λd e0=>do let e1<-g.put d e0;exS T cf b e1) ds e):=rfl
theorem xS_app{i:Nat}{x:E}:exS T cf (.app i x) e=(do
 let d<-evE T cf x e
 let a<-(e.at i).own
 aB (decide (a.length<big)) (.ok (.nx (e.set i (.o (.lst (a++[d]))))))):=rfl
theorem xS_rev{i:Nat}:exS T cf (.rev i) e=(do
 let a<-(e.at i).own
 .ok (.nx (e.set i (.o (.lst a.reverse))))):=rfl
theorem FU{i:Nat}{k:E}{x:E}:exS T cf (.dput i k x) e=(do
 let d<-evE T cf x e
 let a<-(e.at i).ownD
 let y<-evE T cf k e
 let key<-Res.of (eT y)
 aB (decide (a.length<big)) (.ok (.nx (e.set i (.o (.dct (gR a key d))))))):=rfl
theorem FV{i:Nat}:exS T cf (.newD i) e=.ok (.nx (e.set i (.o (.dct [])))):=rfl
theorem FW{i:Nat}:exS T cf (.newT i) e=.ok (.nx (e.set i (.o (.tdc [])))):=rfl
theorem FX{i:Nat}{k:E}{x:E}:exS T cf (.dputV i k x) e=(do
 let d<-evE T cf x e
 let a<-(e.at i).ownT
 let y<-evE T cf k e
 let key<-oY y
 aB (decide (a.length<big)) (.ok (.nx (e.set i (.o (.tdc (fM a key d))))))):=rfl
theorem AG{i:Nat}{x:E}:exS T cf (.ext i x) e=(do
 match<-evE T cf x e with
 |.lst b=>do
  let a<-(e.at i).own
  aB (bH T x&&decide (a.length+b.length<=big)) (.ok (.nx (e.set i (.o (.lst (a++b))))))
 |_=>.no):=rfl
theorem FY{i:Nat}{k:E}:exS T cf (.popS i k) e=(do
 let a<-(e.at i).own
 let d<-evE T cf k e
 let j<-jZ a.length k d
 let _<-Res.of a[j]?
 .ok (.nx (e.set i (.o (.lst (a.eraseIdx j)))))):=rfl
theorem FZ{i:Nat}{k:E}{x:E}:exS T cf (.lput i k x) e=(do
 let d<-evE T cf x e
 let a<-(e.at i).own
 let y<-evE T cf k e
 let j<-jY a.length y
 .ok (.nx (e.set i (.o (.lst (a.set j d)))))):=rfl
theorem xS_exp{x:E}:exS T cf (.exp x) e=(do let _<-evE T cf x e;.ok (.nx e)):=rfl
end
section
variable{T:Tab}{cf:Nat->List D->Res D}{e:Nv}
end
section
variable{T:Tab}{cf:Nat->List D->Res D}
theorem F0{x:S}{e:Nv}{z:Str×D}(h:exX T cf x e=some z):∀o,exS T cf x e≠.ok o:=nomatch h
end
end Tr
namespace Tr
open PySem PySem.Spec PyProof.Rows L2 Builtin.Str
theorem AH{x y:Str}(h:x.cps.toList=y.cps.toList):x=y:=by
 cases x;cases y
 simp only[Str.mk.injEq]
 exact Kc.mp h
theorem F1{α:Type}(xs:List α)(a b:Nat)(hb:b<=xs.length):((aA (b-a)).map λk=>a+k).filterMap (xs[·]?)=(xs.drop a).take (b-a):=by
 generalize hn:b-a=n
 induction n generalizing a with
 |zero=>simp
 |succ n ih=>
  have ha:a<xs.length:=by lia
  rw[mF,aG,hV,bU,xT ha,List.take_succ_cons]
  simp only[Nat.add_zero,aH ha]
  congr 1
  rw[<-ih (a+1) (by lia)]
  congr 1
  apply gP
  intro k _
  simp only[Function.comp]
  lia
theorem F3{a b:Int}{p q:Nat}(ha:a=p)(hb:b=q):sliceRange a b 1=(aA (q-p)).map λk=>p+k:=by
 subst ha hb
 unfold sliceRange
 simp only[show(1:Int)>0 by decide,if_true]
 have hc:(if(p:Int)<(q:Int)then((q:Int)-(p:Int)+1-1)/1 else 0).toNat=q-p:=by
  rw[Int.ediv_one]
  split<;>lia
 rw[hc]
 apply gP
 intro k _
 lia
theorem F4(n:Nat)(lo hi:Option Int):strSliceIndices lo hi 1 n=(aA (sIx n n hi-sIx n 0 lo)).map λk=>sIx n 0 lo+k:=by
 unfold strSliceIndices
 refine F3 ?_ ?_
 ·cases lo with
  |none=>rfl
  |some v=>
   simp only[show(1:Int)>0 by decide,if_true,sIx]
   split<;>lia
 ·cases hi with
  |none=>rfl
  |some v=>
   simp only[show(1:Int)>0 by decide,if_true,sIx]
   split<;>lia
theorem AI(n d:Nat)(hd:d<=n)(o:Option Int):sIx n d o<=n:=by
 cases o with
 |none=>exact hd
 |some v=>
  simp only[sIx]
  split<;>lia
theorem F9(x:Str)(lo hi:Option Int):Txt.slice x lo hi=tK x lo hi:=by
 have hl:x.cps.toList.length=x.length:=by simp[Str.length]
 unfold Txt.slice
 rw[F4]
 have e:(Kd (x.cps[·]?) ((aA (sIx x.length x.length hi-sIx x.length 0 lo)).map λk=>sIx x.length 0 lo+k))=cut x.cps.toList lo hi:=by
  have:=F1 x.cps.toList (sIx x.length 0 lo) (sIx x.length x.length hi) (by rw[hl];exact AI _ _ (aF _) _)
  unfold cut
  rw[hl,<-this]
  congr 1
  funext k
  simp
 split
 ·rename_i c
  simp only[beq_self_eq_true,eS,aC,cY,beq_iff_eq]at c
  refine AH ?_
  show _=(cut x.cps.toList lo hi).toArray.toList
  have h1:=AI x.length x.length (aF _) hi
  unfold cut
  by_cases hz:x.length=0
  ·have:x.cps.toList=[]:=D9 (by lia)
   rw[this];simp
  ·have h0:sIx x.length 0 lo=0:=by lia
   have h2:sIx x.length x.length hi=x.length:=by lia
   rw[hl,h0,h2,mH,sL,<-hl,oJ (aF _)]
 ·rw[e];rfl
theorem AJ{x y:Str}{b:Bool}(h:tO x y=.ok b):(!(occurrences y x 0 y.length 1).isEmpty)=b:=by
 unfold tO at h
 split at h
 ·rename_i c hc
  cases h
  have ex:x=⟨#[c]⟩:=AH (by rw[hc])
  rw[ex]
  exact StrLaws.found_one y c
 ·cases h
section
variable{X:Cx}
theorem AK{v:Value}{o:Option Int}(h:IsPart v o):∃p:Option (Int×Tok),v=partValue p/\p.map (·.1)=o:=by
 cases h with
 |none=>exact⟨none,rfl,rfl⟩
 |int i t=>exact⟨some (i,t),rfl,rfl⟩
theorem sl_str:SlR X (λx lo hi H Q=>∃z,x=.str z/\z.length<=sizeLine/\Q (.str (tK z lo hi)) H):=by
 intro pins s σ H x v vl vu lo hi sl Q I rx hs pl pu h
 obtain⟨z,rfl,hz,q⟩:=h
 obtain⟨t,rfl⟩:=rx
 obtain⟨p,rfl,rfl⟩:=AK pl
 obtain⟨p',rfl,rfl⟩:=AK pu
 refine⟨"str", _,PySem.F.slot_str_getitem.lookup,typeIs_str _ _ _,wpAny_getItem_str_slice (l:=p) (u:=p') (st:=none) hs rfl ?_⟩
 refine post_val_or_str ⟨aW (Txt.slice_le z _ _) hz,λt' k=>?_⟩
 refine⟨.str _,H,I.tok k,⟨t',?_⟩,q⟩
 rw[<-F9]
 rfl
theorem F_:bZ X (.type "int") (λxs H Q=>∃z,xs=[.str z]/\tM z.cps.toList=true/\z.length<=640/\Q (.int (tL z.cps.toList)) H):=by
 intro pins s σ H xs us Q I r h
 obtain⟨z,rfl,hd,hl,q⟩:=h
 obtain⟨u,rfl,rx⟩:=fK r
 obtain⟨t,rfl⟩:=rx
 unfold tM at hd
 rw[aE,fF]at hd
 have had:PySem.NumText.AllDigits z.cps.toList:=λc hc=>by
  have:=hd.2 c hc
  simpa using this
 have hne:z.cps.toList≠[]:=by
  have:=hd.1
  intro e
  rw[e]at this
  cases this
 have hn:=PySem.intText_digits had hne (by lia)
 exact PySem.W.KIN.call_text (n:=((tL z.cps.toList:Nat):Int)) hn hl ⟨.int _,H,I.tok _,⟨_,rfl⟩,q⟩
theorem Fb{pins:List (Addr×Obj)}{s:Shared}{σ:L2.St}{H:Hp}{a:Addr}{bs:List Bool}{its:List Value}(I:Inv X pins σ H s)(r':Vals (bs.map V.bl) its)(pl:PlainL s.heap a its.toArray) :
 (s.heap.push {cls:=.type "list_iterator", data:=.fields #[.ref a,.int 0 0] }).IsList a its.toArray/\TruthOf X.prog X.w X.A.in1 (λi v=>its.toArray[i]?=some v) (λi=>(bs[i]?).getD true):=by
 refine⟨pl.isList.at λo e=>Heap.get?_push_of_some _ e,?_⟩
 intro i v s' Q' E' hv hQ'
 have hv':its[i]?=some v:=by simpa using hv
 obtain⟨hi,_⟩:=fU.mp hv'
 have hib:i<bs.length:=by have:=r'.length;rw[aC]at this;lia
 obtain⟨w,hw,rw'⟩:=r'.get (i:=i) (by rw[bI,aH hib];rfl)
 rw[hv']at hw
 cases hw
 have:v=.bool bs[i]:=rw'
 subst this
 have e:(bs[i]?).getD true=bs[i]:=by rw[aH hib];rfl
 dsimp only at hQ'
 rw[e]at hQ'
 exact wpAny_truthy_bool hQ'
theorem Fd(bs:List Bool):(aA bs.length).all (λi=>(bs[i]?).getD true)=bs.all id:=by
 induction bs with
 |nil=>rfl
 |cons b r ih=>
  rw[aN,mF,fG,xU,fG,<-ih]
  rfl
theorem Fe:bZ X (.builtin "all") (λxs H Q=>∃(a:Addr) (bs:List Bool),xs=[.ref a]/\SqL X.K H a (bs.map V.bl)/\X.calm=true/\Q (.bl (bs.all id)) H):=by
 intro pins s σ H xs us Q I r h
 obtain⟨a,bs,rfl,hq,hc,q⟩:=h
 obtain⟨u,rfl,rx⟩:=fK r
 cases rx
 obtain⟨its,r',pl,hz⟩:=I.list hq
 refine call_all_walk (wpAny_pyIter_list pl.isList ?_)
 have hlt:a<s.heap.objs.size:=by obtain⟨o,e,_⟩:=pl.isList;exact Heap.lt_size e
 obtain⟨w1,w2⟩:=Fb I r' pl
 refine⟨s.heap.objs.size,[s.heap.objs.size,a],[s.heap.objs.size],its.toArray.size,(λi v=>its.toArray[i]?=some v),(λi h=>h.IsListIter s.heap.objs.size a i/\h.IsList a its.toArray),λi=>(bs[i]?).getD true,rfl,Walks.list (A:=X.A.in1) (I.ok.hd hc) s.heap.objs.size a (bD hlt) its.toArray,⟨⟨_,Heap.get?_push_size _ rfl,rfl,rfl⟩,w1⟩,w2,λh' tk hk=>?_⟩
 refine⟨.bl (bs.all id),H,I.kept (h':=h') (t':=tk) λb o e=>hk b o (by simp;exact λz=>absurd (z▸Heap.lt_size e) (fT _)) (Heap.get?_push_of_some _ e),?_,q⟩
 have hl:=r'.length
 rw[aC]at hl
 show Value.bool _=Value.bool _
 rw[aQ,<-hl,Fd]
noncomputable def Its(x:Str):It:=⟨λi _=>i<x.cps.size,λi H v H'=>H'=H/\∃c,x.cps[i]?=some c/\v=.str ⟨#[c]⟩,λi _=>x.cps.size<=i⟩
theorem AL{P:Program}{w:World}{K:PySem.W.Frag}{tg:Expr}(ty:String)(it:Addr)(x:Str)(t:Tok)
 (hty:["enumerate", "zip", "dict_itemiterator", "dict_reverseitemiterator", "odict_iterator", "itertools.zip_longest", "itertools.pairwise"].contains ty=false)
 (W:∀A:Around,A.handled=none->Walks P w A it [it] [it] x.cps.size (SignAt x) (λi h=>h.IsStrIter it ty x t i))
 (en:∀(A:Around)(s:Shared)(i:Nat)(Q:Option Value->Shared->Prop)(E:Value->Shared->Prop),A.handled=none->s.heap.IsStrIter it ty x t i->x.cps[i]?=none->(∀h',Heap.ExtBut it s.heap h'->Q none {s with heap:=h' })->wpAny (model P w) A (pyNext (.ref it)) Q E s)
 (sf:∀(A:Around)(s:Shared)(i:Nat)(Q:Value->Shared->Prop)(E:Value->Shared->Prop),s.heap.IsStrIter it ty x t i->Q (.ref it) s->wpAny (model P w) A (pyIter (.ref it)) Q E s) :
 Turn P w K tg (Its x) [it] it (λi h=>h.IsStrIter it ty x t i) where
 mem:=by simp
 obj:=λi h st b hb=>by
  have e:b=it:=by simpa using hb
  subst e
  obtain⟨o,e,c,d⟩:=st
  exact⟨o,e,λv z=>by rw[d]at z;cases z⟩
 keep:=λi h h' st k=>let ⟨o,e,c⟩:=st;⟨o,k it (by simp) o e,c⟩
 item:=by
  intro X hP hw hK hc i pins s σ H E I hf st hg
  subst hP hw hK
  obtain⟨f0,f1,f2,f3,f4,f5⟩:=hf it (by simp)
  refine(W X.A (I.ok.hd hc)).item i s _ _ hg st λv h' tk hv st' kk=>?_
  obtain⟨c,u,hx,rfl⟩:=hv
  have I1:Inv X pins σ H {s with heap:=h',toks:=tk}:=I.turned (λb o hb e=>kk b o (by simpa using hb) e) f0 f1 f3 f4 f5
  obtain⟨o,e,cc,d⟩:=id st'
  exact⟨_,rfl,mP (s:={s with heap:=h',toks:=tk}) e cc d hty ⟨.str ⟨#[c]⟩,H,I1,⟨u,rfl⟩,⟨rfl,c,hx,rfl⟩,st',λb hb=>(hf b hb).1⟩⟩
 done:=by
  intro X hP hw hK hc i pins s σ H E I hf st hg
  subst hP hw hK
  obtain⟨f0,f1,f2,f3,f4,f5⟩:=hf it (by simp)
  have hn:x.cps[i]?=none:=by
   have:x.cps.size<=i:=hg
   simpa using this
  exact en X.A s i _ _ (I.ok.hd hc) st hn λh' eb=>⟨rfl,I.turned (t':=s.toks) (λb o hb e=>eb b o hb e) f0 f1 f3 f4 f5⟩
 self:=λA i s Q E st h=>sf A s i Q E st h
theorem pi_str{pins:List (Addr×Obj)}{s:Shared}{σ:L2.St}{H:Hp}{tg:Expr}{R:It->Hp->Prop}{x:Str}{t:Tok}(I:Inv X pins σ H s)(h:R (Its x) H) :
 wpAny (model X.prog X.w) X.A (pyIter (.str x t)) (PIE X pins σ tg R) X.xe s:=by
 have fp:∀b∈[s.heap.objs.size],fY X pins H b:=λb hb=>by
  rcases aZ.mp hb with rfl|hb
  ·exact I.fpOk (aF _) (I.hok.fresh (aF _))
  ·cases hb
 cases ha:x.cps.all (· < 128)
 ·refine wpAny_pyIter_wide ha ?_
  exact⟨s.heap.objs.size,[s.heap.objs.size],_,Its x,H,rfl,I.kept (t':=s.toks) λb u e=>Heap.get?_push_of_some _ e,AL "str_iterator" _ x t (by decide) (λA hA=>Walks.strWide hA _ x t) (λA s i Q E hA st hx k=>wpAny_pyNext_wide_end hA st hx k) (λA s i Q E st k=>wpAny_pyIter_striter_wide st k),⟨_,Heap.get?_push_size _ rfl,rfl,rfl⟩,fp,h⟩
 ·refine wpAny_pyIter_ascii ha ?_
  exact⟨s.heap.objs.size,[s.heap.objs.size],_,Its x,H,rfl,I.kept (t':=s.toks) λb u e=>Heap.get?_push_of_some _ e,AL "str_ascii_iterator" _ x t (by decide) (λA hA=>Walks.strAscii hA _ x t) (λA s i Q E hA st hx k=>wpAny_pyNext_ascii_end hA st hx k) (λA s i Q E st k=>wpAny_pyIter_striter_ascii st k),⟨_,Heap.get?_push_size _ rfl,rfl,rfl⟩,fp,h⟩
end
end Tr
namespace Tr
open PySem PySem.Spec PyProof.Rows L2
section
variable{prog:Program}{w:World}{A:Around}{E:Value->Shared->Prop}{s:Shared}
end
end Tr
namespace Tr
open PySem PySem.Spec PyProof.Rows L2 PySem.SeqAt
noncomputable def ModS (K:PySem.W.Frag) (a:Addr) (ss:List Str):Prop:=∃(o:Obj) (its:Array Value) (n:Nat),K.lookup a=some o/\o.cls=.type "tuple" /\ o.dict=none/\o.data=.seq its n/\Vals (ss.map V.str) its.toList
end Tr
namespace Tr
open PySem PySem.Spec PyProof.Rows L2
noncomputable def met(val:Nat->Key):Nat->List Key
 |0=>[]
 |i+1=>if(met val i).any (λx=>decide (x=val i))then met val i else met val i++[val i]
section
variable{prog:Program}{w:World}{A:Around}{R:Result->Shared->Prop}{I:Addr}{fp wr:List Addr}{G:Array GenState->Array GenState->Prop}{n:Nat}{P:Nat->Value->Prop}{St:Nat->Shared->Prop}
end
section
variable{prog:Program}{w:World}{A:Around}{E:Value->Shared->Prop}{s:Shared}
end
section
variable{prog:Program}{w:World}{A:Around}{E:Value->Shared->Prop}{s:Shared}
end
theorem Ff {X:Cx}:bZ X (.type "range") (λvs H Q=>∃n:Int,vs=[.int n]/\∀p,H p=none->Q (.ref p) (upd H p (.rng 0 n))):=by
 intro pins s σ H vs us Q I rv h
 obtain⟨n,rfl,q⟩:=h
 obtain⟨u,rfl,ru⟩:=rv.one
 obtain⟨t,rfl⟩:=ru
 refine call_range_1 ⟨.ref s.heap.objs.size,_,I.laid (t':=s.toks+1+1) (λb o e=>Heap.get?_push_of_some _ e) (aF _) ?_,rfl,q _ (I.hok.fresh (aF _))⟩
 exact⟨_,_,_,Heap.get?_push_size _ rfl⟩
theorem Fg{a:Int}:∀{n:Nat} {its:List Value},its.length=n->(∀(j:Nat) v,its[j]?=some v->∃t,v=.int (a+(j:Nat)*1) t)->Vals ((aA n).map λi:Nat=>V.int (a+(i:Nat))) its:=by
 intro n
 induction n generalizing a with
 |zero=>
  intro its hl h
  rw[D_.mp hl]
  exact .nil
 |succ n ih=>
  intro its hl h
  cases its with
  |nil=>cases hl
  |cons v its=>
   rw[mF,aG,bU]
   obtain⟨t,rfl⟩:=h 0 v rfl
   have r:=ih (a:=a+1) (its:=its) (by simpa using hl) (λj v hv=>by
    obtain⟨t,e⟩:=h (j+1) v (by simpa using hv)
    refine⟨t,?_⟩
    rw[e]
    congr 1
    push_cast
    lia)
   refine .cons ⟨t,by simp⟩ ?_
   have e:(aA n).map ((λi:Nat=>V.int (a+(i:Nat)))∘Nat.succ)=(aA n).map λi:Nat=>V.int (a+1+(i:Nat)):=by
    apply gP
    intro i _
    simp only[Function.comp]
    congr 1
    push_cast
    lia
   rw[e]
   exact r
theorem vals_ints:∀{ns:List Int} {its:List Value},Vals (ns.map V.int) its->∃xs:List (Int×Tok),its=xs.map (λp=>Value.int p.1 p.2)/\xs.map (·.1)=ns
 |[],_,h=>by cases h;exact⟨[],rfl,rfl⟩
 |n::ns,_,h=>by
  cases h with
  |cons r rr=>
   obtain⟨t,rfl⟩:=r
   obtain⟨xs,rfl,e⟩:=vals_ints rr
   exact⟨(n,t)::xs,rfl,by rw[aG,e]⟩
noncomputable def gS(f:Nat->Int):Nat->Int
 |0=>f 0
 |k+1=>if f (k+1)>gS f k then f (k+1)else gS f k
theorem tV(f:Nat->Int):∀k,f (argBest (λi j=>decide (f i>f j)) k)=gS f k
 |0=>rfl
 |k+1=>by
  rw[argBest,gS,<-tV f k]
  by_cases c:f (k+1)>f (argBest (λi j=>decide (f i>f j)) k)
  ·rw[if_pos (decide_eq_true c),if_pos c]
  ·rw[if_neg (by simpa using c),if_neg c]
theorem AM(g:Nat->Int):∀(ns:List Int)(m:Int)(k:Nat),gS g k=m->(∀i,i<ns.length->g (k+1+i)=ns.getD i 0)->gS g (k+ns.length)=gB m ns
 |[],m,k,h,_=>by rw[gB];exact h
 |n::ns,m,k,h,e=>by
  have h0:=e 0 (by simp)
  have h1:gS g (k+1)=if n>m then n else m:=by
   rw[gS,h]
   have:g (k+1)=n:=h0
   rw[this]
  have ih:=AM g ns (if n>m then n else m) (k+1) h1 (λi hi=>by
   have:=e (i+1) (by simp;lia)
   rw[show k+1+1+i=k+1+(i+1) by lia,this]
   rfl)
  rw[gB,<-ih,aN,show k+1+ns.length=k+(ns.length+1) by lia]
theorem AN(xs:List (Int×Tok))(i:Nat):numAt xs.toArray i=(xs.map (·.1)).getD i 0:=by
 unfold numAt
 rw[cZ,bI]
 simp
theorem AO{xs:List (Int×Tok)}{n:Int}{ns:List Int}(e:xs.map (·.1)=n::ns):gS (numAt xs.toArray) (xs.length-1)=gB n ns:=by
 have hl:xs.length=ns.length+1:=by
  have:=congrArg oE e
  simpa using this
 have:=AM (numAt xs.toArray) ns n 0 (by rw[gS,AN,e];rfl) (λi _=>by rw[AN,e,show 0+1+i=i+1 by lia];rfl)
 rw[<-this,hl]
 congr 1
 lia
theorem Fh {X:Cx} (hc:X.calm=true):bZ X (.builtin "max") (λvs H Q=>∃a n ns,vs=[.ref a]/\SqL X.K H a ((n::ns).map V.int)/\Q (.int (gB n ns)) H):=by
 intro pins s σ H vs us Q I rv h
 obtain⟨a,n,ns,rfl,hq,q⟩:=h
 obtain⟨u,rfl,ru⟩:=rv.one
 cases ru
 obtain⟨its,r,pl,hz⟩:=I.list hq
 obtain⟨xs,rfl,e⟩:=vals_ints r
 have hl:s.heap.IsList a (intItems xs.toArray):=by
  have:=pl.isList
  rwa [show(xs.map λp=>Value.int p.1 p.2).toArray=intItems xs.toArray by simp[intItems]]at this
 refine max_intList (I.ok.hd hc) hl (by have:=congrArg oE e;simp at this⊢;lia) λv h' tk hv hk=>?_
 obtain⟨t,rfl⟩:=intItems_at hv
 rw[tV (numAt xs.toArray),aQ,AO e]
 exact⟨.int (gB n ns),H,I.kept (t':=tk) hk,⟨t,rfl⟩,q⟩
section
variable{prog:Program}{w:World}{A:Around}{R:Result->Shared->Prop}{it:Addr}{fp wr:List Addr}{n:Nat}{P:Nat->Value->Prop}{St:Nat->Heap->Prop}
end
section
variable{prog:Program}{w:World}{A:Around}{E:Value->Shared->Prop}{s:Shared}
end
section
variable{prog:Program}{w:World}{A:Around}{R:Result->Shared->Prop}{I:Addr}{fp wr:List Addr}{G:Array GenState->Array GenState->Prop}{n:Nat}{P:Nat->Value->Prop}{St:Nat->Shared->Prop}
end
section
variable{prog:Program}{w:World}{A:Around}{E:Value->Shared->Prop}{s:Shared}
end
section
variable{prog:Program}{w:World}{A:Around}{E:Value->Shared->Prop}{s:Shared}
end
section
variable{prog:Program}{w:World}{A:Around}{E:Value->Shared->Prop}{s:Shared}
end
section
variable{prog:Program}{w:World}{A:Around}{E:Value->Shared->Prop}{s:Shared}
end
section
variable{prog:Program}{w:World}{A:Around}{E:Value->Shared->Prop}{s:Shared}
end
section
variable{prog:Program}{w:World}{A:Around}{E:Value->Shared->Prop}{s:Shared}{l:Addr}{xs:Array (Int×Tok)}
theorem Fj{Q:Value->Shared->Prop}(hh:A.handled=none)(hl:s.heap.IsTuple l (intItems xs))(hne:0<xs.size)
 (h:∀v h' tk,(intItems xs)[argBest (λi j=>decide (numAt xs i>numAt xs j)) (xs.size-1)]?=some v->(∀b o,s.heap.get? b=some o->h'.get? b=some o)->Q v {s with heap:=h',toks:=tk}) :
 wpAny (model prog w) A (call (.builtin "max") [.ref l]) Q E s:=by
 have hlt:l<s.heap.objs.size:=by obtain⟨_,e,_⟩:=hl;exact Heap.lt_size e
 refine call_max_walk (wpAny_pyIter_tuple hl ?_)
 refine⟨_,[s.heap.objs.size,l],[s.heap.objs.size],_,_,_,_,rfl,Walks.tuple (A:=A.in1) hh s.heap.objs.size l (bD hlt) (intItems xs),⟨⟨_,Heap.get?_push_size _ rfl,rfl,rfl⟩,hl.push _⟩,λc hc=>?_,by simpa[intItems]using hne,CmpOf.ints_gt (numAt xs) (λ_ _=>intItems_at),λv h' tk hP hk=>?_⟩
 ·show c<(s.heap.push _).objs.size
  rw[Heap.size_push]
  rcases aZ.mp hc with rfl|hc
  ·exact oK _
  ·rcases aZ.mp hc with rfl|hc
   ·exact mJ hlt
   ·cases hc
 ·refine h v h' tk (by simpa[intItems]using hP) λb o e=>?_
  exact hk b o (fun hm => by rcases aZ.mp hm with e1 | hm
                             ·exact absurd (e1▸Heap.lt_size e) (fT _)
                             ·cases hm) (Heap.get?_push_of_some _ e)
end
theorem Fl {X:Cx} (hc:X.calm=true):bZ X (.builtin "max") (λvs H Q=>∃a n ns,vs=[.ref a]/\SqT X.K H a ((n::ns).map V.int)/\Q (.int (gB n ns)) H):=by
 intro pins s σ H vs us Q I rv h
 obtain⟨a,n,ns,rfl,hq,q⟩:=h
 obtain⟨u,rfl,ru⟩:=rv.one
 cases ru
 obtain⟨its,r,pl,hz⟩:=I.tuple hq
 obtain⟨xs,rfl,e⟩:=vals_ints r
 have hl:s.heap.IsTuple a (intItems xs.toArray):=by
  rwa [show(xs.map λp=>Value.int p.1 p.2).toArray=intItems xs.toArray by simp[intItems]]at pl
 refine Fj (I.ok.hd hc) hl (by have:=congrArg oE e;simp at this⊢;lia) λv h' tk hv hk=>?_
 obtain⟨t,rfl⟩:=intItems_at hv
 rw[tV (numAt xs.toArray),aQ,AO e]
 exact⟨.int (gB n ns),H,I.kept (t':=tk) hk,⟨t,rfl⟩,q⟩
section
variable{prog:Program}{w:World}{A:Around}{E:Value->Shared->Prop}{s:Shared}{l:Addr}{its:List Value}
end
end Tr
namespace Tr
open PySem
noncomputable def aJ(k:List Nat):Int:=reduceHash (Builtin.Tuple.tupleHashOf ((k.map λa:Nat=>(a:Int)).map hashInt))
noncomputable def gD(m:Nat)(p:SetTable.Probe):SetTable.Probe:=
 if p.more>0 then {p with j:=p.j+1,more:=p.more-1}else
 {p with j:=(SetTable.leap m p.i p.perturb).1,more:=SetTable.runEnd m (SetTable.leap m p.i p.perturb).1-(SetTable.leap m p.i p.perturb).1,i:=(SetTable.leap m p.i p.perturb).1,perturb:=(SetTable.leap m p.i p.perturb).2}
noncomputable def eL(m:Nat)(h:Int):SetTable.Probe:=
 {j:=SetTable.bits h%(m+1),more:=SetTable.runEnd m (SetTable.bits h%(m+1))-SetTable.bits h%(m+1),i:=SetTable.bits h%(m+1),perturb:=SetTable.bits h,dummy:=none}
noncomputable def kZ(m:Nat):Nat->SetTable.Probe->Nat
 |0,_=>0
 |n+1,p=>2^p.j ||| kZ m n (gD m p)
noncomputable def lA(m:Nat):Nat->Nat->Nat->Nat
 |0,_,_=>0
 |n+1,i,p=>2^i ||| lA m n (SetTable.leap m i p).1 (SetTable.leap m i p).2
noncomputable def kA(m:Nat)(h:Int):Bool:=kZ m (10*SetTable.turns m) (eL m h)==2^(m+1)-1
noncomputable def gE(m:Nat)(h:Int):Bool:=lA m (SetTable.turns m) (SetTable.bits h%(m+1)) (SetTable.bits h)==2^(m+1)-1
noncomputable def mW(k:List Nat):Bool:=kA 7 (aJ k)&&kA 31 (aJ k)&&kA 127 (aJ k)&&gE 31 (aJ k)&&gE 127 (aJ k)
set_option maxRecDepth 100000 in
theorem Fn:(keyTab.all λk=>mW k)=true:=by decide +kernel
noncomputable def pK:List Int->Bool
 |[]=>true
 |x::r=>(!r.contains x)&&pK r
theorem hash72:pK (keyTab.map aJ)=true:=by decide +kernel
theorem tW{α:Type}[DecidableEq α]:∀{l m:List α},l.Nodup->(∀x∈l,x∈m)->l.length<=m.length
 |[],_,_,_=>fX _
 |a::r,m,hn,h=>by
  obtain⟨h1,h2⟩:=dP.mp hn
  have ha:a∈m:=h a aY
  have hr:r.length<=(m.erase a).length:=tW h2 λx hx=>(Ke (λ(e:x=a)=>h1 (by rw[<-e];exact hx))).mpr (h x (bE _ hx))
  rw[Kf ha]at hr
  have:0<m.length:=Kg ha
  rw[aN];lia
theorem Fo{m:Nat}{l:List Nat}(h:∀j,(2^(m+1)-1).testBit j=true->j∈l):m+1<=l.length:=by
 have:=tW (l:=aA (m+1)) (m:=l) xV λx hx=>h x (by rw[Kh];simpa using hx)
 simpa using this
theorem tX(t:SetTable)(p:SetTable.Probe):t.advance p=gD t.mask p:=by
 unfold SetTable.advance gD;rfl
theorem Fp(t:SetTable)(h:Int):t.probeStart h=eL t.mask h:=rfl
theorem AQ(m:Nat)(p:SetTable.Probe):(gD m p).dummy=p.dummy:=by unfold gD;split<;>rfl
theorem Fq(j:Nat):SetTable.has #[] j=false:=rfl
theorem AR{t:SetTable}(hd:t.dummies=#[])(j:Nat):t.slot j=.empty\/∃i,t.slot j=.live i/\i<t.place.size/\j∈t.place.toList:=by
 unfold SetTable.slot
 rw[hd]
 dsimp only
 by_cases e:(t.place[SetTable.below t.place j]?==some j)=true
 ·rw[if_pos e]
  have e':t.place[SetTable.below t.place j]?=some j:=by simpa using e
  obtain⟨hi,hv⟩:=sM.mp e'
  refine .inr ⟨_,rfl,hi,?_⟩
  rw[<-hv];exact Da.mpr (Ki hi)
 ·rw[if_neg e,Fq];exact .inl rfl
theorem AS{t:SetTable}(hd:t.dummies=#[]){hashAt:Nat->Int}{h:Int}(hne:∀i,i<t.place.size->hashAt i≠h):∀(fuel:Nat)(p:SetTable.Probe),p.dummy=none ->
 (∃j,SetTable.probe.go t hashAt h fuel p=some (.empty j none))\/∀j,(kZ t.mask fuel p).testBit j=true->j∈t.place.toList
 |0,p,_=>.inr λj hj=>by rw[kZ,Kj]at hj;cases hj
 |fuel+1,p,hp=>by
  unfold SetTable.probe.go
  rcases AR hd p.j with e|⟨i,e,hi,hm⟩
  ·rw[e];exact .inl ⟨p.j,by rw[hp]⟩
  ·rw[e]
   have e1:(hashAt i==h)=false:=by simpa using hne i hi
   simp only[e1,eC,if_false]
   rw[tX]
   rcases AS hd hne fuel (gD t.mask p) (by rw[AQ];exact hp)with⟨j,q⟩|q
   ·exact .inl ⟨j,q⟩
   ·refine .inr λj hj=>?_
    rw[kZ,Kk,eD]at hj
    rcases hj with z|z
    ·rw[Kl]at z
     have:p.j=j:=by simpa using z
     exact this▸hm
    ·exact q j z
theorem Fu{t:SetTable}(hd:t.dummies=#[]){hashAt:Nat->Int}{h:Int}(hne:∀i,i<t.place.size->hashAt i≠h)(hg:kA t.mask h=true)(hf:t.place.size<=t.mask) :
 ∃j,t.probe hashAt h (t.probeStart h)=some (.empty j none):=by
 unfold SetTable.probe
 rw[Fp]
 rcases AS hd hne (10*SetTable.turns t.mask) (eL t.mask h) rfl with q|q
 ·exact q
 ·exfalso
  have e:kZ t.mask (10*SetTable.turns t.mask) (eL t.mask h)=2^(t.mask+1)-1:=by simpa[kA]using hg
  rw[e]at q
  have:=Fo q
  rw[eG]at this
  lia
theorem AU{m:Nat}{owner:Array (Option Nat)}:∀(fuel i p:Nat),(∃j,SetTable.layClean.free m owner fuel i p=some j/\(owner.getD j (some 0)).isNone=true)\/∀j,(lA m fuel i p).testBit j=true->(owner.getD j (some 0)).isNone=false
 |0,i,p=>.inr λj hj=>by rw[lA,Kj]at hj;cases hj
 |fuel+1,i,p=>by
  unfold SetTable.layClean.free
  cases e:(aA (SetTable.runEnd m i+1-i)).find? (λk=>(owner.getD (i+k) (some 0)).isNone)with
  |some k=>exact .inl ⟨i+k,rfl,Dc (p:=λk=>(owner.getD (i+k) (some 0)).isNone) e⟩
  |none=>
   dsimp only
   have h0:(owner.getD i (some 0)).isNone=false:=by
    have hr:0<SetTable.runEnd m i+1-i:=by unfold SetTable.runEnd;split<;>lia
    have:=Dd.mp e 0 (cO.mpr hr)
    simpa[Option.isSome_iff_ne_none]using this
   rcases AU fuel (SetTable.leap m i p).1 (SetTable.leap m i p).2 with q|q
   ·exact .inl q
   ·refine .inr λj hj=>?_
    rw[lA,Kk,eD]at hj
    rcases hj with z|z
    ·rw[Kl]at z
     have:i=j:=by simpa using z
     exact this▸h0
    ·exact q j z
noncomputable def taken(m:Nat)(owner:Array (Option Nat)):List (Nat×Nat):=(aA (m+1)).filterMap λj=>(owner.getD j none).map (j,·)
theorem Fv{m:Nat}{owner:Array (Option Nat)}{j k:Nat}(hz:owner.size=m+1)(hj:j<m+1)(hn:owner.getD j none=none) :
 (taken m (owner.setIfInBounds j (some k))).length=(taken m owner).length+1:=by
 have key:∀(l:List Nat),l.Nodup->(l.filterMap λi=>((owner.setIfInBounds j (some k)).getD i none).map (i,·)).length=(l.filterMap λi=>(owner.getD i none).map (i,·)).length+if j∈l then 1 else 0:=by
  intro l
  induction l with
  |nil=>intro _;rfl
  |cons a r ih=>
   intro hnd
   obtain⟨h1,h2⟩:=dP.mp hnd
   have ih:=ih h2
   by_cases e:j=a
   ·subst e
    have e1:(owner.setIfInBounds j (some k)).getD j none=some k:=by simp[dJ,sN,hz,hj]
    rw[oM (b:=(j,k)) (by rw[e1];rfl),De (by rw[hn];rfl),aN,ih,if_neg h1,if_pos aY]
   ·have e1:(owner.setIfInBounds j (some k)).getD a none=owner.getD a none:=by simp[dJ,sN,e]
    have e2:(j∈a::r)↔j∈r:=by simp[e]
    cases e3:owner.getD a none with
    |none=>rw[De (by rw[e1,e3];rfl),De (by rw[e3];rfl),ih];simp only[e2]
    |some v=>rw[oM (b:=(a,v)) (by rw[e1,e3];rfl),oM (b:=(a,v)) (by rw[e3];rfl),aN,aN,ih];simp only[e2];lia
 have:=key (aA (m+1)) xV
 rw[if_pos (cO.mpr hj)]at this
 exact this
theorem Fw{m:Nat}{owner:Array (Option Nat)}{j k:Nat}(hk:∀q∈taken m owner,q.2<k):∀q∈taken m (owner.setIfInBounds j (some k)),q.2<k+1:=by
 intro q hq
 obtain⟨i,hi,hv⟩:=lU.mp hq
 cases e:(owner.setIfInBounds j (some k)).getD i none with
 |none=>rw[e]at hv;cases hv
 |some v=>
  rw[e]at hv;cases hv
  show v<k+1
  by_cases z:j=i
  ·subst z
   rw[dJ,sN]at e
   simp only[if_true]at e
   split at e
   ·simp at e;lia
   ·simp at e
  ·have e1:owner.getD i none=some v:=by rw[<-e];simp[dJ,sN,z]
   have:=hk (i,v) (lU.mpr ⟨i,hi,by rw[e1];rfl⟩)
   exact mJ this
theorem Fx{m:Nat}{owner:Array (Option Nat)}(hz:owner.size=m+1)(h:∀j,(2^(m+1)-1).testBit j=true->(owner.getD j (some 0)).isNone=false):m+1<=(taken m owner).length:=by
 have key:∀(l:List Nat),(∀j∈l,j<m+1)->(l.filterMap λi=>(owner.getD i none).map (i,·)).length=l.length:=by
  intro l
  induction l with
  |nil=>intro _;rfl
  |cons a r ih=>
   intro hl
   have ha:=hl a aY
   have h1:=h a (by rw[Kh];simpa using ha)
   have e:owner.getD a none=owner.getD a (some 0):=by simp[dJ,hz,ha]
   cases e2:owner.getD a (some 0)with
   |none=>rw[e2]at h1;cases h1
   |some v=>rw[oM (b:=(a,v)) (by rw[e,e2];rfl),aN,aN,ih λj hj=>hl j (bE _ hj)]
 have:=key (aA (m+1)) λj hj=>cO.mp hj
 rw[cY]at this
 exact D7 this.symm
noncomputable def gF(m:Nat)(acc:Option (Array (Option Nat)×Nat))(h:Int):Option (Array (Option Nat)×Nat):=do
 let (owner,k)<-acc
 let j<-SetTable.layClean.free m owner (SetTable.turns m) (SetTable.bits h%(m+1)) (SetTable.bits h)
 pure (owner.setIfInBounds j (some k),k+1)
theorem AV{m:Nat}:∀(hs:List Int)(owner:Array (Option Nat))(k:Nat),(∀h∈hs,gE m h=true)->owner.size=m+1->(taken m owner).length=k->(∀q∈taken m owner,q.2<k)->k+hs.length<=m ->
 ∃owner',hs.foldl (gF m) (some (owner,k))=some (owner',k+hs.length)/\(taken m owner').length=k+hs.length/\∀q∈taken m owner',q.2<k+hs.length
 |[],owner,k,_,_,hl,hk,_=>⟨owner,rfl,hl,hk⟩
 |h::r,owner,k,hg,hz,hl,hk,hr=>by
  rw[aN]at hr
  rcases AU (m:=m) (owner:=owner) (SetTable.turns m) (SetTable.bits h%(m+1)) (SetTable.bits h)with⟨j,e,hn⟩|q
  ·have hj:j<m+1:=by
    rcases Dg j (m+1)with z|z
    ·exact z
    ·rw[dJ,Dh (by lia)]at hn;cases hn
   have hn':owner.getD j none=none:=by
    have e0:owner.getD j none=owner.getD j (some 0):=by simp[dJ,hz,hj]
    rw[e0];simpa using hn
   obtain⟨o',h1,h2,h3⟩:=AV r (owner.setIfInBounds j (some k)) (k+1) (λx hx=>hg x (bE _ hx)) (by rw[Km];exact hz) (by rw[Fv hz hj hn',hl]) (Fw hk) (by lia)
   refine⟨o',?_,?_,?_⟩
   ·rw[lZ,show gF m (some (owner,k)) h=some (owner.setIfInBounds j (some k),k+1)from by unfold gF;rw[show(some (owner,k)>>=_)=_ from rfl];simp[e],h1,aN];congr 2;lia
   ·rw[h2,aN];lia
   ·intro q hq;rw[aN];have:=h3 q hq;lia
  ·exfalso
   have e:lA m (SetTable.turns m) (SetTable.bits h%(m+1)) (SetTable.bits h)=2^(m+1)-1:=by simpa[gE]using hg h aY
   rw[e]at q
   have:=Fx hz q
   lia
theorem Fy{m f mv:Nat}{led pl:Bool}{hs:Array Int}(hg:∀h∈hs.toList,gE m h=true)(hr:hs.size<=m) :
 ∃pls ord,SetTable.laid m f mv led pl hs=some ({mask:=m,place:=pls,dummies:=#[],finger:=f,led:=led,moves:=mv,plain:=pl},ord)/\pls.size=hs.size/\ord.size=hs.size/\∀i∈ord.toList,i<hs.size:=by
 have hz:(kM (m+1) (none:Option Nat)).size=m+1:=Kn
 have ht:taken m (kM (m+1) none)=[]:=by
  unfold taken
  rw[List.filterMap_eq_nil_iff]
  intro j hj
  have:(kM (m+1) (none:Option Nat)).getD j none=none:=by
   rw[dJ,Ko];split<;>rfl
  rw[this];rfl
 obtain⟨o',h1,h2,h3⟩:=AV hs.toList (kM (m+1) none) 0 hg hz (by rw[ht];rfl) (by rw[ht];intro q hq;cases hq) (by rw[eG];lia)
 rw[iB]at h1 h2 h3
 have h2:(taken m o').length=hs.size:=by rw[h2];exact eG
 have e:SetTable.layClean m hs=some o':=by
  unfold SetTable.layClean
  rw[<-Kp]
  have:hs.toList.foldl (gF m) (some (kM (m+1) none,0))=some (o',hs.size):=h1
  rw[show(hs.toList.foldl (λacc h=>do
   let (owner,k)<-acc
   let j<-SetTable.layClean.free m owner (SetTable.turns m) (SetTable.bits h%(m+1)) (SetTable.bits h)
   pure (owner.setIfInBounds j (some k),k+1)) (some (kM (m+1) none,0)))=some (o',hs.size)from this]
  rfl
 refine⟨((taken m o').map (·.1)).toArray,((taken m o').map (·.2)).toArray,?_,?_,?_,?_⟩
 ·unfold SetTable.laid
  rw[e];rfl
 ·rw[aQ,aC,h2]
 ·rw[aQ,aC,h2]
 ·intro i hi
  obtain⟨q,hq,rfl⟩:=bG.mp hi
  exact h3 q hq
noncomputable def Asc(xs:Array Nat):Prop:=xs.toList.Pairwise (· < ·)
theorem Asc.lt{xs:Array Nat}(h:Asc xs){i j a b:Nat}(hi:xs[i]?=some a)(hj:xs[j]?=some b)(l:i<j):a<b:=by
 obtain⟨p,rfl⟩:=sM.mp hi
 obtain⟨q,rfl⟩:=sM.mp hj
 have:=kN.mp h i j (by simpa using p) (by simpa using q) l
 simpa using this
theorem tY{xs:Array Nat}(h:Asc xs)(j:Nat):∀(fuel lo hi:Nat),lo<=hi->hi<=xs.size->hi-lo<=fuel->(∀i a,i<lo->xs[i]?=some a->a<j)->(∀i a,hi<=i->xs[i]?=some a->j<=a) ->
 SetTable.below.go xs j fuel lo hi<=xs.size/\(∀i a,i<SetTable.below.go xs j fuel lo hi->xs[i]?=some a->a<j)/\∀i a,SetTable.below.go xs j fuel lo hi<=i->xs[i]?=some a->j<=a
 |0,lo,hi,h1,h2,h3,h4,h5=>by
  rw[SetTable.below.go]
  exact⟨by lia,h4,λi a hi=>h5 i a (by lia)⟩
 |fuel+1,lo,hi,h1,h2,h3,h4,h5=>by
  rw[SetTable.below.go]
  by_cases c:lo<hi
  ·rw[if_pos c]
   dsimp only
   have hm:(lo+hi)/2<xs.size:=by lia
   have e:xs[(lo+hi)/2]?=some xs[(lo+hi)/2]:=jO hm
   have g:xs.getD ((lo+hi)/2) j=xs[(lo+hi)/2]:=by rw[dJ,e];rfl
   rw[g]
   by_cases q:xs[(lo+hi)/2]<j
   ·rw[if_pos q]
    refine tY h j fuel _ hi (by lia) h2 (by lia) (λi a hx ha=>?_) h5
    rcases Dg i ((lo+hi)/2)with z|z
    ·exact gO (h.lt ha e z) q
    ·have:i=(lo+hi)/2:=by lia
     subst this
     rw[e]at ha;cases ha;exact q
   ·rw[if_neg q]
    refine tY h j fuel lo _ (by lia) (by lia) (by lia) h4 (λi a hx ha=>?_)
    rcases Dg ((lo+hi)/2) i with z|z
    ·have:=h.lt e ha z;lia
    ·have:i=(lo+hi)/2:=by lia
     subst this
     rw[e]at ha;cases ha;lia
  ·rw[if_neg c]
   exact⟨by lia,h4,λi a hi=>h5 i a (by lia)⟩
theorem AW{xs:Array Nat}(h:Asc xs)(j:Nat):SetTable.below xs j<=xs.size/\(∀i a,i<SetTable.below xs j->xs[i]?=some a->a<j)/\∀i a,SetTable.below xs j<=i->xs[i]?=some a->j<=a:=by
 unfold SetTable.below
 exact tY h j xs.size 0 xs.size (fX _) (aF _) (by lia) (λi a hi=>by lia) (λi a hi e=>by
  rw[Dh hi]at e;cases e)
theorem tZ{t:SetTable}(h:Asc t.place){i j:Nat}(e:t.place[i]?=some j):t.slot j=.live i:=by
 obtain⟨h1,h2,h3⟩:=AW h j
 have hb:SetTable.below t.place j=i:=by
  rcases xW (SetTable.below t.place j) i with z|z|z
  ·have hs:SetTable.below t.place j<t.place.size:=gO z (sM.mp e).1
   have e2:t.place[SetTable.below t.place j]?=some t.place[SetTable.below t.place j]:=jO hs
   have:=h3 _ _ (aF _) e2
   have:=h.lt e2 e z
   lia
  ·exact z
  ·exact absurd (h2 i j z e) (fT _)
 unfold SetTable.slot
 dsimp only
 rw[hb,e,if_pos (by simp)]
noncomputable def Hits(m:Nat)(L:Nat->Prop)(j:Nat):Nat->SetTable.Probe->Prop
 |0,_=>False
 |n+1,p=>p.j=j\/(L p.j/\Hits m L j n (gD m p))
theorem Hits.mono{m:Nat}{L L':Nat->Prop}(hl:∀x,L x->L' x){j:Nat}:∀{n:Nat} {p:SetTable.Probe},Hits m L j n p->Hits m L' j n p
 |0,_,h=>h
 |n+1,p,h=>by
  rcases h with e|⟨h1,h2⟩
  ·exact .inl e
  ·exact .inr ⟨hl _ h1,Hits.mono hl h2⟩
theorem Hits.more{m:Nat}{L:Nat->Prop}{j:Nat}:∀{n k:Nat} {p:SetTable.Probe},n<=k->Hits m L j n p->Hits m L j k p
 |0,_,_,_,h=>h.elim
 |n+1,0,_,hk,_=>by lia
 |n+1,k+1,p,hk,h=>by
  rcases h with e|⟨h1,h2⟩
  ·exact .inl e
  ·exact .inr ⟨h1,Hits.more (Nat.le_of_succ_le_succ hk) h2⟩
theorem AX{t:SetTable}(ha:Asc t.place){hashAt:Nat->Int}{h:Int}{i j:Nat}(e:t.place[i]?=some j)(hh:hashAt i=h)(hn:∀i',i'≠i->i'<t.place.size->hashAt i'≠h):∀(fuel:Nat)(p:SetTable.Probe),
 Hits t.mask (·∈t.place.toList) j fuel p->∃nx,SetTable.probe.go t hashAt h fuel p=some (.candidate j i nx)
 |0,p,hp=>hp.elim
 |fuel+1,p,hp=>by
  unfold SetTable.probe.go
  by_cases q:p.j=j
  ·rw[q,tZ ha e]
   simp only[hh,beq_self_eq_true,if_true]
   exact⟨_,rfl⟩
  ·rcases hp with z|⟨h1,h2⟩
   ·exact absurd z q
   ·obtain⟨i',hi',ei⟩:=mK h1
    have e':t.place[i']?=some p.j:=by
     rw[<-iA,aH hi',ei]
    rw[tZ ha e']
    have ne:i'≠i:=λz=>q (by rw[z,e]at e';cases e';rfl)
    have e1:(hashAt i'==h)=false:=by simpa using hn i' ne (by simpa using hi')
    simp only[e1,eC,if_false]
    rw[tX]
    exact AX ha e hh hn fuel _ h2
theorem AY{t:SetTable}(hd:t.dummies=#[]){hashAt:Nat->Int}{h:Int}{j:Nat}:∀(fuel:Nat)(p:SetTable.Probe),p.dummy=none ->
 SetTable.probe.go t hashAt h fuel p=some (.empty j none)->Hits t.mask (·∈t.place.toList) j fuel p/\t.slot j=.empty
 |0,p,_,e=>by rw[SetTable.probe.go]at e;cases e
 |fuel+1,p,hp,e=>by
  unfold SetTable.probe.go at e
  rcases AR hd p.j with z|⟨i,z,hi,hm⟩
  ·rw[z]at e
   simp only[hp]at e
   cases e
   exact⟨.inl rfl,z⟩
  ·rw[z]at e
   simp only at e
   split at e
   ·cases e
   ·rw[tX]at e
    obtain⟨h1,h2⟩:=AY hd fuel (gD t.mask p) (by rw[AQ];exact hp) e
    exact⟨.inr ⟨hm,h1⟩,h2⟩
noncomputable def prb(m i p:Nat):SetTable.Probe:={j:=i,more:=SetTable.runEnd m i-i,i:=i,perturb:=p,dummy:=none}
theorem Fz(m:Nat)(h:Int):eL m h=prb m (SetTable.bits h%(m+1)) (SetTable.bits h):=rfl
theorem AZ{m:Nat}{p:SetTable.Probe}(h:0<p.more):gD m p={p with j:=p.j+1,more:=p.more-1}:=by unfold gD;rw[if_pos h]
theorem GA{m i j p:Nat}:gD m {j:=j,more:=0,i:=i,perturb:=p,dummy:=none}=prb m (SetTable.leap m i p).1 (SetTable.leap m i p).2:=rfl
theorem A0{m i p:Nat}{L:Nat->Prop}:∀(k a r:Nat),k<=r->(∀b,b<k->L (i+(a+b)))->Hits m L (i+(a+k)) (k+1) {j:=i+a,more:=r,i:=i,perturb:=p,dummy:=none}
 |0,a,r,_,_=>.inl rfl
 |k+1,a,r,hr,h=>by
  refine .inr ⟨h 0 (by lia),?_⟩
  rw[AZ (by show 0<r;lia)]
  have:=A0 (m:=m) (i:=i) (p:=p) (L:=L) k (a+1) (r-1) (by lia) λb hb=>by
   have:=h (b+1) (by lia)
   rw[show i+(a+1+b)=i+(a+(b+1))from by lia];exact this
  rw[show i+(a+1+k)=i+(a+(k+1))from by lia]at this
  exact this
theorem A2{m i p j n:Nat}{L:Nat->Prop}(hn:Hits m L j n (prb m (SetTable.leap m i p).1 (SetTable.leap m i p).2)):∀(r a:Nat),(∀b,b<=r->L (i+(a+b)))->Hits m L j (n+(r+1)) {j:=i+a,more:=r,i:=i,perturb:=p,dummy:=none}
 |0,a,h=>.inr ⟨h 0 (by lia),by rw[GA];exact hn⟩
 |r+1,a,h=>by
  refine .inr ⟨h 0 (by lia),?_⟩
  rw[AZ (by show 0<r+1;lia)]
  exact A2 hn r (a+1) λb hb=>by
   have:=h (b+1) (by lia)
   rw[show i+(a+1+b)=i+(a+(b+1))from by lia];exact this
noncomputable def Own(m:Nat)(owner:Array (Option Nat))(x:Nat):Prop:=x<=m/\(owner.getD x none).isSome=true
theorem GB{m i:Nat}(h:i<=m):i<=SetTable.runEnd m i/\SetTable.runEnd m i<=m/\SetTable.runEnd m i<=i+9:=by unfold SetTable.runEnd;split<;>lia
theorem A3{m:Nat}{owner:Array (Option Nat)}(hz:owner.size=m+1){x:Nat}(hx:x<=m)(h:(owner.getD x (some 0)).isNone=false):Own m owner x:=by
 refine⟨hx,?_⟩
 have e:owner.getD x none=owner.getD x (some 0):=by simp[dJ,hz,Di hx]
 rw[e]
 cases q:owner.getD x (some 0)with
 |none=>rw[q]at h;cases h
 |some v=>rfl
theorem A4{m j:Nat}{owner:Array (Option Nat)}(hz:owner.size=m+1):∀(fuel i p:Nat),i<=m->SetTable.layClean.free m owner fuel i p=some j->Hits m (Own m owner) j (10*fuel) (prb m i p)/\j<=m/\owner.getD j none=none
 |0,i,p,_,e=>by rw[SetTable.layClean.free]at e;cases e
 |fuel+1,i,p,hi,e=>by
  obtain⟨r1,r2,r3⟩:=GB hi
  unfold SetTable.layClean.free at e
  cases q:(aA (SetTable.runEnd m i+1-i)).find? (λk=>(owner.getD (i+k) (some 0)).isNone)with
  |some k=>
   rw[q]at e
   cases e
   have hk:=cO.mp (Kq q)
   have hf:(owner.getD (i+k) (some 0)).isNone=true:=Dc (p:=λk=>(owner.getD (i+k) (some 0)).isNone) q
   refine⟨?_,by lia,?_⟩
   ·have:=A0 (m:=m) (i:=i) (p:=p) (L:=Own m owner) k 0 (SetTable.runEnd m i-i) (by lia) λb hb=>by
     refine A3 hz (by lia) ?_
     have z:=List.find?_eq_some_iff_getElem.mp q
     obtain⟨_,x,hx,ex,hall⟩:=z
     rw[Kr]at ex
     subst ex
     have:=hall b hb
     rw[Kr]at this
     rw[iB]
     simpa using this
    rw[iB]at this
    exact Hits.more (by lia) this
   ·have e0:owner.getD (i+k) none=owner.getD (i+k) (some 0):=by
     have:i+k<m+1:=by lia
     simp[dJ,hz,this]
    rw[e0];simpa using hf
  |none=>
   rw[q]at e
   dsimp only at e
   obtain⟨h1,h2,h3⟩:=A4 hz fuel _ _ (by unfold SetTable.leap;exact Dj (Nat.mod_lt _ (Nat.succ_pos m))) e
   refine⟨?_,h2,h3⟩
   have:=A2 (i:=i) h1 (SetTable.runEnd m i-i) 0 λb hb=>by
    refine A3 hz (by lia) ?_
    have z:¬(owner.getD (i+b) (some 0)).isNone=true:=Dd.mp q b (cO.mpr (by lia))
    rw[iB]
    cases hc:(owner.getD (i+b) (some 0)).isNone with
    |false=>rfl
    |true=>exact absurd hc z
   exact Hits.more (by lia) this
structure LayOk(m:Nat)(H:Nat->Int)(owner:Array (Option Nat))(k:Nat):Prop where
 size:owner.size=m+1
 hit:∀x v,x<=m->owner.getD x none=some v->Hits m (Own m owner) x (10*SetTable.turns m) (eL m (H v))
 lt:∀x v,owner.getD x none=some v->v<k
 inj:∀x y v,owner.getD x none=some v->owner.getD y none=some v->x=y
theorem A5{m:Nat}:∀hs:List Int,hs.foldl (gF m) none=none
 |[]=>rfl
 |_::r=>A5 r
theorem A6{m:Nat}{H:Nat->Int}:∀(hs:List Int)(owner owner':Array (Option Nat))(k k':Nat),(∀i h,hs[i]?=some h->H (k+i)=h)->LayOk m H owner k->hs.foldl (gF m) (some (owner,k))=some (owner',k')->LayOk m H owner' k'
 |[],owner,owner',k,k',_,ok,e=>by cases e;exact ok
 |h::r,owner,owner',k,k',hh,ok,e=>by
  rw[lZ]at e
  have hk:H k=h:=hh 0 h rfl
  cases q:SetTable.layClean.free m owner (SetTable.turns m) (SetTable.bits h%(m+1)) (SetTable.bits h)with
  |none=>
   rw[show gF m (some (owner,k)) h=none from by unfold gF;rw[show(some (owner,k)>>=_)=_ from rfl];simp[q],A5]at e
   cases e
  |some j=>
   rw[show gF m (some (owner,k)) h=some (owner.setIfInBounds j (some k),k+1)from by unfold gF;rw[show(some (owner,k)>>=_)=_ from rfl];simp[q]]at e
   obtain⟨h1,h2,h3⟩:=A4 ok.size _ _ _ (Dj (Nat.mod_lt _ (Nat.succ_pos m))) q
   have at_:∀x,(owner.setIfInBounds j (some k)).getD x none=if x=j then some k else owner.getD x none:=λx=>by
    rw[dJ,sN]
    by_cases c:x=j
    ·subst c;simp[ok.size,Di h2]
    ·rw[if_neg (λz=>c z.symm),if_neg c,dJ]
   have up:∀x,Own m owner x->Own m (owner.setIfInBounds j (some k)) x:=λx hx=>⟨hx.1,by
    rw[at_];split
    ·rfl
    ·exact hx.2⟩
   refine A6 r _ owner' (k+1) k' (λi g hg=>by rw[show k+1+i=k+(i+1)from by lia];exact hh (i+1) g hg) ⟨by rw[Km];exact ok.size,λx v hx hv=>?_,λx v hv=>?_,λx y v hx hy=>?_⟩ e
   ·rw[at_]at hv
    by_cases c:x=j
    ·rw[if_pos c]at hv
     cases hv
     rw[hk,c,Fz]
     exact h1.mono up
    ·rw[if_neg c]at hv
     exact(ok.hit x v hx hv).mono up
   ·rw[at_]at hv
    split at hv
    ·cases hv;exact oK _
    ·exact mJ (ok.lt x v hv)
   ·rw[at_]at hx hy
    split at hx
    ·rename_i c1
     split at hy
     ·rename_i c2;rw[c1,c2]
     ·cases hx;exact absurd (ok.lt y k hy) (fT _)
    ·split at hy
     ·cases hy;exact absurd (ok.lt x k hx) (fT _)
     ·exact ok.inj x y v hx hy
theorem GC{m:Nat}{owner:Array (Option Nat)}{x:Nat}:Own m owner x->x∈(taken m owner).map (·.1):=λh=>by
 obtain⟨v,hv⟩:=K4.mp h.2
 exact bG.mpr ⟨(x,v),lU.mpr ⟨x,cO.mpr (Di h.1),by rw[hv];rfl⟩,rfl⟩
theorem uA{m:Nat}{owner:Array (Option Nat)}{q:Nat×Nat}(h:q∈taken m owner):q.1<=m/\owner.getD q.1 none=some q.2:=by
 obtain⟨x,hx,hv⟩:=lU.mp h
 obtain⟨v,e,rfl⟩:=mD.mp hv
 exact⟨Dj (cO.mp hx),e⟩
theorem A7(m:Nat)(owner:Array (Option Nat)):Asc ((taken m owner).map (·.1)).toArray:=by
 unfold Asc taken
 rw[List.map_filterMap]
 show(Kd _ _).Pairwise _
 refine oI.filterMap _ (λa a' h b hb b' hb'=>?_) (Ks (n:=m+1))
 obtain⟨v,e,rfl⟩:=mD.mp (Kt.mp hb)
 obtain⟨v',e',rfl⟩:=mD.mp (Kt.mp hb')
 obtain⟨u,_,rfl⟩:=mD.mp e
 obtain⟨u',_,rfl⟩:=mD.mp e'
 exact h
theorem GD{m f mv:Nat}{led pl:Bool}{hs:Array Int}{pls ord:Array Nat}(e:SetTable.laid m f mv led pl hs=some ({mask:=m,place:=pls,dummies:=#[],finger:=f,led:=led,moves:=mv,plain:=pl},ord)) :
 Asc pls/\ord.toList.Nodup/\∀q∈pls.toList.zip ord.toList,Hits m (·∈pls.toList) q.1 (10*SetTable.turns m) (eL m (hs.getD q.2 0)):=by
 unfold SetTable.laid at e
 cases q:SetTable.layClean m hs with
 |none=>rw[q]at e;cases e
 |some o=>
  rw[q]at e
  have e:some (({mask:=m,place:=((taken m o).map (·.1)).toArray,dummies:=#[],finger:=f,led:=led,moves:=mv,plain:=pl}:SetTable),((taken m o).map (·.2)).toArray)=some ({mask:=m,place:=pls,dummies:=#[],finger:=f,led:=led,moves:=mv,plain:=pl},ord):=e
  cases e
  obtain⟨K,ok⟩:∃K,LayOk m (λk=>hs.getD k 0) o K:=by
   unfold SetTable.layClean at q
   rw[<-Kp]at q
   obtain⟨⟨o',k'⟩,q1,rfl⟩:=mD.mp q
   have q1:hs.toList.foldl (gF m) (some (kM (m+1) none,0))=some (o',k'):=q1
   have no:∀x v,(kM (m+1) (none:Option Nat)).getD x none=some v->False:=λx v hv=>by
    rw[dJ,Ko]at hv
    split at hv<;>cases hv
   refine⟨k',A6 hs.toList _ o' 0 k' (λi h hi=>?_) ⟨Kn,λx v hx hv=>(no x v hv).elim,λx v hv=>(no x v hv).elim,λx y v hv=>(no x v hv).elim⟩ q1⟩
   rw[iB,dJ,<-iA,hi];rfl
  refine⟨A7 m o,?_,λz hz=>?_⟩
  ·show((taken m o).map (·.2)).Nodup
   have ha:((taken m o).map (·.1)).Pairwise (· < ·):=A7 m o
   rw[Dk]at ha
   refine Dk.mpr (oI.imp_of_mem (λ{a b} h1 h2 h3 z=>?_) ha)
   have:=ok.inj a.1 b.1 a.2 (uA h1).2 (by rw[z];exact(uA h2).2)
   lia
  have hz:z∈((taken m o).map (·.1)).zip ((taken m o).map (·.2)):=hz
  rw[List.zip_map']at hz
  obtain⟨y,hy,rfl⟩:=bG.mp hz
  obtain⟨t1,t2⟩:=uA hy
  exact(ok.hit y.1 y.2 t1 t2).mono λx hx=>GC hx
theorem GE{α β:Type}{xs:Array α}{ys:Array β}{p:Nat}{x:α}{y:β}(hl:xs.size=ys.size):(SetTable.insertAt xs p x).toList.zip (SetTable.insertAt ys p y).toList=(xs.toList.zip ys.toList).take p++(x,y)::(xs.toList.zip ys.toList).drop p:=by
 rw[SetTable.toList_insertAt,SetTable.toList_insertAt,List.zip_append (by simp;lia),List.zip_cons_cons]
 simp only[List.zip,List.take_zipWith,List.drop_zipWith]
theorem GF{xs:Array Nat}(h:Asc xs){j:Nat}(hj:j∉xs.toList):Asc (SetTable.insertAt xs (SetTable.below xs j) j):=by
 obtain⟨h1,h2,h3⟩:=AW h j
 unfold Asc
 rw[SetTable.toList_insertAt,Dl,List.pairwise_cons]
 have tk:∀a∈xs.toList.take (SetTable.below xs j),a<j:=λa ha=>by
  obtain⟨i,hi,e⟩:=mK ha
  rw[lV]at hi
  rw[Dm]at e
  exact h2 i a (by lia) (by rw[<-iA,aH (by lia),e])
 have dr:∀a∈xs.toList.drop (SetTable.below xs j),j<a:=λa ha=>by
  obtain⟨i,hi,e⟩:=mK ha
  rw[oG]at hi
  rw[List.getElem_drop]at e
  have:=h3 (SetTable.below xs j+i) a (by lia) (by rw[<-iA,aH (by lia),e])
  have ne:j≠a:=λz=>hj (by rw[z];exact sO ha)
  lia
 refine⟨h.sublist (xQ _ _),⟨dr,h.sublist (List.drop_sublist _ _)⟩,λa ha b hb=>?_⟩
 rcases aZ.mp hb with z|z
 ·rw[z];exact tk a ha
 ·exact gO (tk a ha) (dr b z)
end Tr
namespace Tr
open PySem PySem.Spec PyProof.Rows L2
noncomputable def inR(k:List Nat):Prop:=k∈keyTab
theorem uB{k:List Nat}(h:inR k):mW k=true:=fF.mp Fn k h
theorem A8{α:Type}{f:α->Int}:∀{l:List α} {x y:α},pK (l.map f)=true->x∈l->y∈l->f x=f y->x=y
 |a::r,x,y,h,hx,hy,e=>by
  rw[aG,pK,aE,bQ]at h
  have hn:∀z∈r,f a≠f z:=λz hz q=>by
   have:(r.map f).contains (f a)=true:=jP.mpr (q▸bG.mpr ⟨z,hz,rfl⟩)
   rw[h.1]at this;cases this
  rcases aZ.mp hx with e1|hx1
  ·rcases aZ.mp hy with e2|hy1
   ·rw[e1,e2]
   ·rw[e1]at e;exact absurd e (hn _ hy1)
  ·rcases aZ.mp hy with e2|hy1
   ·rw[e2]at e;exact absurd e.symm (hn _ hx1)
   ·exact A8 h.2 hx1 hy1 e
theorem A9{x y:List Nat}(hx:inR x)(hy:inR y)(e:aJ x=aJ y):x=y:=A8 (f:=aJ) hash72 hx hy e
noncomputable def PSet(h:Heap)(S:Addr)(ks:List (List Nat)):Prop:=
 ∃o es ep t,h.get? S=some o/\o.ExactSet/\o.data=.set es ep t/\t.dummies=#[]/\t.place.size=es.size/\es.size=ks.length/\(∀e∈es.toList,e.1∈ks.map λk=>aJ k)/\(t.mask=7/\es.size<5\/t.mask=31/\es.size<19\/t.mask=127)
section
variable{prog:Program}{w:World}{A:Around}{E:Value->Shared->Prop}{s:Shared}
theorem GG{n:Nat}{k:Int}{v:Value}(h:(intKind prog w).is k v=true):hashByValue n v=pure true:=by
 cases v<;>first|(cases n<;>rfl)|(cases h)
theorem GH{ks:List Int}{a:Addr}{Q:Bool->Shared->Prop}(hk:IsTupleKey (intKind prog w) s.heap ks a)(h:Q true s):wpAny (model prog w) A (hashByValue 8 (.ref a)) Q E s:=by
 have hT:=hk.typeIs
 obtain⟨o,items,n,ho,_,hd,hi⟩:=hk
 unfold hashByValue
 refine wpAny_bind (wpAny_specialOf hT F.slot_tuple_hash.lookup ?_)
 show wpAny _ _ (seqItems? (.ref a)>>=_) _ _ s
 refine wpAny_bind (wpAny_seqItems ho hd ?_)
 refine wpAny_bind ?_
 show wpAny _ _ (forIn items _ _) _ _ s
 rw[<-Ku]
 refine wpAny_forIn_list _ (λrest r s'=>r.1=none/\s'=s/\∃ks',ItemsAre (intKind prog w) ks' rest) _ ?_ ?_ _ _ ⟨rfl,rfl,ks,hi⟩
 ·rintro v rest r s' ⟨hr,rfl,ks',hall⟩
  cases hall with
  |cons h1 h2=>
   rw[GG h1]
   refine wpAny_bind (wpAny_pure ?_)
   simp only[xX,eC,if_false]
   exact wpAny_pure ⟨rfl,rfl,_,h2⟩
 ·rintro⟨r1,r2⟩ s' ⟨hr,rfl,_⟩
  simp only at hr
  subst hr
  exact wpAny_pure h
end
section
variable{prog:Program}{w:World}{A:Around}{E:Value->Shared->Prop}{s:Shared}
noncomputable def iI(prog:Program)(w:World)(h:Heap)(v:Value)(k:List Nat):Prop:=∃x,v=.ref x/\IsTupleKey (intKind prog w) h (k.map λa:Nat=>(a:Int)) x
theorem A_{k:List Nat}{v:Value}{Q:Bool->Shared->Prop}(hk:iI prog w s.heap v k)(h:Q false s):wpAny (model prog w) A (ofAClassStatement 8 v) Q E s:=by
 obtain⟨a,rfl,hk⟩:=hk
 have hT:=hk.typeIs
 obtain⟨o,items,n,ho,_,hd,hi⟩:=hk
 unfold ofAClassStatement
 refine wpAny_bind (wpAny_typeOf hT ?_)
 show wpAny _ _ ((if("tuple" == "tuple")=true then pure true else isSubtype (.type "tuple") (.type "tuple"))>>=_) _ _ s
 rw[if_pos (by decide)]
 refine wpAny_bind (wpAny_pure ?_)
 simp only[xX,eC,if_false]
 show wpAny _ _ (seqItems? (.ref a)>>=_) _ _ s
 refine wpAny_bind (wpAny_seqItems ho hd ?_)
 refine wpAny_bind ?_
 show wpAny _ _ (forIn items _ _) _ _ s
 rw[<-Ku]
 refine wpAny_forIn_list _ (λrest r s'=>r.1=none/\s'=s/\∃ks',ItemsAre (intKind prog w) ks' rest) _ ?_ ?_ _ _ ⟨rfl,rfl,_,hi⟩
 ·rintro v rest r s' ⟨hr,rfl,ks',hall⟩
  cases hall with
  |cons h1 h2=>
   obtain⟨t,rfl⟩:=Value.isInt_shape h1
   show wpAny _ _ (ofAClassStatement 7 (.int _ t)>>=_) _ _ s'
   rw[show ofAClassStatement 7 (.int _ t)=pure false from rfl]
   refine wpAny_bind (wpAny_pure ?_)
   simp only[eC,if_false]
   exact wpAny_pure ⟨rfl,rfl,_,h2⟩
 ·rintro⟨r1,r2⟩ s' ⟨hr,rfl,_⟩
  simp only at hr
  subst hr
  exact wpAny_pure h
theorem GI{k:List Nat}{x:Value}{ys:List Value}{Q:Bool->Shared->Prop}(hk:iI prog w s.heap x k)(hy:∀y∈ys,∃k',iI prog w s.heap y k')(h:Q false s):wpAny (model prog w) A (searchCouldBeSeen x ys) Q E s:=by
 unfold searchCouldBeSeen
 refine wpAny_bind ?_
 refine wpAny_forIn_list _ (λrest r s'=>r.1=none/\s'=s/\∀y∈rest,∃k',iI prog w s.heap y k') _ ?_ ?_ _ _ ⟨rfl,rfl,hy⟩
 ·rintro y rest r s' ⟨hr,rfl,hall⟩
  obtain⟨k',hy'⟩:=hall y aY
  have hrest:∀y∈rest,∃k',iI prog w s'.heap y k':=λz hz=>hall z (bE _ hz)
  obtain⟨a,rfl,ha⟩:=id hk
  obtain⟨b,rfl,hb⟩:=id hy'
  dsimp only
  split
  ·exact wpAny_pure ⟨rfl,rfl,hrest⟩
  ·refine wpAny_bind (wpAny_eqIsQuiet_tuple ha ?_)
   simp only[xX,eC,if_false]
   refine wpAny_bind (wpAny_eqIsQuiet_tuple hb ?_)
   simp only[xX,eC,if_false]
   refine wpAny_bind (A_ hk ?_)
   simp only[eC,if_false]
   refine wpAny_bind (A_ hy' ?_)
   simp only[eC,if_false]
   exact wpAny_pure ⟨rfl,rfl,hrest⟩
 ·rintro⟨r1,r2⟩ s' ⟨hr,rfl,_⟩
  simp only at hr
  subst hr
  exact wpAny_pure h
theorem GJ{a x:Addr}{o:Obj}{es:Array (Int×Value)}{ep:Nat}{t:SetTable}{k:List Nat}{Q:SetFound->Shared->Prop}(hu:A.units<cLine)
 (ho:s.heap.get? a=some o) (hd:o.data=.set es ep t) (hf:t.fits es.size=true) (hp:t.place.size=es.size) (hodd:t.mask%2=1) (ha:Asc t.place)
 (hx:IsTupleKey (intKind prog w) s.heap (k.map λa:Nat=>(a:Int)) x) {i j:Nat} {y:Value} (he:es[i]?=some (aJ k,y)) (hj:t.place[i]?=some j) (hy:iI prog w s.heap y k)
 (hh:Hits t.mask (·∈t.place.toList) j (10*SetTable.turns t.mask) (eL t.mask (aJ k)))
 (hn:∀i' e,i'≠i->es[i']?=some e->e.1≠aJ k)
 (hall:∀e∈es.toList,∃k',iI prog w s.heap e.2 k')
 (q:Q (.there none) s):wpAny (model prog w) A (setSearch a (.ref x) (aJ k) (adding:=true)) Q E s:=by
 unfold setSearch setSearchFrom
 refine wpAny_bind (wpAny_setState_of ho hd hf ?_)
 have hgw:t.gaveWay=false:=by unfold SetTable.gaveWay;rw[hodd];rfl
 obtain⟨nx,hc⟩:=AX (hashAt:=λi=>(es[i]?.map (·.1)).getD 0) (h:=aJ k) ha hj (by rw[he];rfl) (λi' ne hi'=>by
  rw[hp]at hi'
  have e:es[i']?=some es[i']:=jO hi'
  rw[e];exact hn i' _ ne e) _ _ hh
 have key:∀f:Nat->Int,f=(λi=>(es[i]?.map (·.1)).getD 0)->t.probe f (aJ k) (t.probeStart (aJ k))=some (.candidate j i nx):=λf e=>by rw[e];exact hc
 dsimp only[Option.getD]
 rw[hgw,key]
 rotate_left
 ·rfl
 simp only[eC,if_false]
 obtain⟨b,rfl,hb⟩:=hy
 rw[he]
 have fin:∀{C:Bool->(Array (Int×Value)×Nat×SetTable)->Sem SetFound},wpAny (model prog w) A (do
  let equal<-holding [Value.ref b] (eqBool (.ref b) (.ref x))
  let z<-setState a
  if(true&&equal)=true then pure (SetFound.there none)else C equal z) Q E s:=by
  intro C
  refine wpAny_bind (wpAny_holding (wpAny_eqBool_tuple hu hb hx ?_))
  rw[decide_eq_true rfl]
  refine wpAny_bind (wpAny_setState_of ho hd hf ?_)
  rw[if_pos (by rfl)]
  exact wpAny_pure q
 split
 ·refine wpAny_bind (GI ⟨x,rfl,hx⟩ (λy hy=>?_) ?_)
  ·obtain⟨e,he',rfl⟩:=bG.mp hy
   rw[Array.toList_filter]at he'
   exact hall e (fE.mp he').1
  ·simp only[eC,if_false]
   exact fin
 ·exact fin
end
section
variable{prog:Program}{w:World}{A:Around}{E:Value->Shared->Prop}{s:Shared}
theorem Aa{α β:Type}{f:α->Option β}:∀{l:List α},(∀x∈l,(f x).isSome=true)->(l.filterMap f).length=l.length
 |[],_=>rfl
 |a::r,h=>by
  cases e:f a with
  |none=>have:=h a aY;rw[e]at this;cases this
  |some b=>rw[oM e,aN,aN,Aa λx hx=>h x (bE _ hx)]
noncomputable def PSetB(h:Heap)(S:Addr)(ks:List (List Nat))(B:Int×Value->Prop):Prop:=
 ∃o es ep t,h.get? S=some o/\o.ExactSet/\o.data=.set es ep t/\t.dummies=#[]/\t.place.size=es.size/\es.size=ks.length/\(∀e∈es.toList,e.1∈ks.map λk=>aJ k)/\(t.mask=7/\es.size<5\/t.mask=31/\es.size<19\/t.mask=127) /\
  Asc t.place/\(∀z∈t.place.toList.zip es.toList,Hits t.mask (·∈t.place.toList) z.1 (10*SetTable.turns t.mask) (eL t.mask z.2.1))/\(es.toList.map (·.1)).Nodup/\∀e∈es.toList,B e
theorem PSetB.set{h:Heap}{S:Addr}{ks:List (List Nat)}{B:Int×Value->Prop}(x:PSetB h S ks B):PSet h S ks:=by
 obtain⟨o,es,ep,t,h1,h2,h3,h4,h5,h6,h7,h8,_⟩:=x
 exact⟨o,es,ep,t,h1,h2,h3,h4,h5,h6,h7,h8⟩
theorem GK{a x:Addr}{o:Obj}{es:Array (Int×Value)}{ep:Nat}{t:SetTable}{h:Int}{Q:SetFound->Shared->Prop}
 (ho:s.heap.get? a=some o) (hd:o.data=.set es ep t) (hf:t.fits es.size=true) (hdm:t.dummies=#[]) (hp:t.place.size=es.size) (hm:t.place.size<=t.mask) (hodd:t.mask%2=1) (hne:∀e∈es.toList,e.1≠h) (hg:kA t.mask h=true)
 (q:∀j,Hits t.mask (·∈t.place.toList) j (10*SetTable.turns t.mask) (eL t.mask h)->t.slot j=.empty->Q (.free j false) s):wpAny (model prog w) A (setSearch a (.ref x) h (adding:=true)) Q E s:=by
 unfold setSearch setSearchFrom
 refine wpAny_bind (wpAny_setState_of ho hd hf ?_)
 have hgw:t.gaveWay=false:=by unfold SetTable.gaveWay;rw[hodd];rfl
 obtain⟨j,hj⟩:=Fu (hashAt:=λi=>(es[i]?.map (·.1)).getD 0) hdm (λi hi=>by
  rw[hp]at hi
  rw[jO hi]
  exact hne _ (Da.mpr (Ki hi))) hg hm
 obtain⟨g1,g2⟩:=AY hdm _ _ rfl hj
 have key:∀f:Nat->Int,f=(λi=>(es[i]?.map (·.1)).getD 0)->t.probe f h (t.probeStart h)=some (.empty j none):=λf e=>by rw[e];exact hj
 dsimp only[Option.getD]
 rw[hgw,key]
 ·exact wpAny_pure (q j g1 g2)
 ·rfl
theorem GL{a:Addr}{o:Obj}{es:Array (Int×Value)}{ep:Nat}{t:SetTable}{wanted m:Nat}{Q:Unit->Shared->Prop}
 (ho:s.heap.get? a=some o) (hex:o.ExactSet) (hd:o.data=.set es ep t) (hf:t.fits es.size=true) (hw:SetTable.sizeAbove wanted=m+1) (hmz:m+1<=sizeLine) (hr:es.size<=m) (hg:∀e∈es.toList,gE m e.1=true)
 (hnd:(es.toList.map (·.1)).Nodup)
 (q:∀(es':Array (Int×Value))(t':SetTable),es'.size=es.size->(∀e∈es'.toList,e∈es.toList)->t'.dummies=#[]->t'.place.size=es'.size->t'.mask=m->Asc t'.place->(es'.toList.map (·.1)).Nodup->(∀z∈t'.place.toList.zip es'.toList,Hits m (·∈t'.place.toList) z.1 (10*SetTable.turns m) (eL m z.2.1))->Q () {s with heap:=s.heap.update a (Obj.putSet es' t') }) :
 wpAny (model prog w) A (setRelay a wanted) Q E s:=by
 unfold setRelay
 refine wpAny_bind (wpAny_setState_of ho hd hf ?_)
 dsimp only
 have hn:¬SetTable.sizeAbove wanted>sizeLine:=by rw[hw];lia
 rw[if_neg hn]
 obtain⟨pls,ord,h1,h2,h3,h4⟩:=Fy (m:=m) (f:=t.finger) (mv:=t.movedTo m) (led:=t.led) (pl:=t.plain) (hs:=es.map (·.1)) (λh hh=>by
  rw[Array.toList_map]at hh
  obtain⟨e,he,rfl⟩:=bG.mp hh
  exact hg e he) (by rw[Kv];exact hr)
 rw[Kv]at h2 h3 h4
 have hl:t.relaid (es.map (·.1)) wanted=some ({mask:=m,place:=pls,dummies:=#[],finger:=t.finger,led:=t.led,moves:=t.movedTo m,plain:=t.plain},ord):=by
  unfold SetTable.relaid
  rw[hw,Nat.add_sub_cancel];exact h1
 rw[hl]
 have hsz:(ord.filterMap (es[·]?)).size=es.size:=by
  rw[<-eG,Dn,Aa,eG,h3]
  intro i hi
  rw[jO (h4 i hi)];rfl
 refine wpAny_bind ?_
 show wpAny _ _ (if((ord.filterMap (es[·]?)).size != es.size)=true then _ else _) _ _ s
 rw[if_neg (by rw[hsz];simp)]
 refine wpAny_pure ?_
 obtain⟨f1,f2,f3⟩:=GD h1
 have hmap:(ord.filterMap (es[·]?)).toList=ord.toList.map λi=>es.getD i (0,.none):=by
  rw[Dn]
  have:∀l:List Nat,(∀i∈l,i<es.size)->l.filterMap (es[·]?)=l.map λi=>es.getD i (0,.none):=by
   intro l
   induction l with
   |nil=>intro _;rfl
   |cons i r ih=>
    intro hl
    have hi:=hl i aY
    rw[oM (b:=es.getD i (0,.none)) (by rw[dJ,jO hi];rfl),ih λx hx=>hl x (bE _ hx)]
    rfl
  exact this _ h4
 have hk:∀i,i<es.size->(es.getD i (0,.none)).1=(es.map (·.1)).getD i 0:=λi hi=>by
  rw[dJ,dJ,Array.getElem?_map,jO hi];rfl
 refine wpAny_storeSet_of ho hd (q _ _ hsz (λe he=>?_) rfl (by rw[hsz];exact h2) rfl f1 ?_ ?_) (by rw[hsz];lia)
 rotate_left
 ·rw[hmap,bU]
  refine Dk.mpr (oI.imp_of_mem (λ{a b} ha hb hne z=>?_) f2)
  have la:=h4 a ha
  have lb:=h4 b hb
  have e1:∀i (hi:i<es.size),(es.getD i (0,.none)).1=(es.toList.map (·.1))[i]'(by simpa using hi):=λi hi=>by
   rw[dJ,jO hi];simp
  have z:(es.getD a (0,.none)).1=(es.getD b (0,.none)).1:=z
  rw[e1 a la,e1 b lb]at z
  rcases xW a b with c|c|c
  ·exact kN.mp hnd a b _ _ c z
  ·exact hne c
  ·exact kN.mp hnd b a _ _ c z.symm
 ·intro z hz
  rw[hmap,List.zip_map_right]at hz
  obtain⟨y,hy,rfl⟩:=bG.mp hz
  have:=f3 y hy
  rw[<-hk y.2 (h4 y.2 (xP hy).2)]at this
  exact this
 rw[Dn]at he
 obtain⟨i,_,hi⟩:=lU.mp he
 exact Da.mpr (Array.mem_of_getElem? hi)
theorem GM{S x:Addr}{ks:List (List Nat)}{k:List Nat}{Q:Bool->Shared->Prop}(hk:IsTupleKey (intKind prog w) s.heap (k.map λa:Nat=>(a:Int)) x){B:Int×Value->Prop}(hB:B (aJ k,.ref x))(hS:PSetB s.heap S ks B)
 (hin:∀y∈ks,inR y) (hkr:inR k) (hnk:k∉ks) (hlen:ks.length<72)
 (q:∀h',Heap.SameBut S s.heap h'->PSetB h' S (ks++[k]) B->Q true {s with heap:=h' }) :
 wpAny (model prog w) A (setAddHashed S (.ref x) (aJ k)) Q E s:=by
 obtain⟨o,es,ep,t,ho,hex,hd,hdm,hp,hn,hel,hm,hasc,hhit,hnd,hbs⟩:=hS
 have hgood:=uB hkr
 unfold mW at hgood
 simp only[aE]at hgood
 obtain⟨⟨⟨⟨g7,g31⟩,g127⟩,l31⟩,l127⟩:=hgood
 have hg:kA t.mask (aJ k)=true:=by
  rcases hm with⟨e,_⟩|⟨e,_⟩|e<;>rw[e]<;>assumption
 have hfl:t.fill=es.size:=by unfold SetTable.fill;rw[hdm,hp];rfl
 have hmk:es.size<=t.mask:=by rcases hm with⟨e,z⟩|⟨e,z⟩|e<;>rw[e]<;>lia
 have hf:t.fits es.size=true:=by unfold SetTable.fits;rw[hfl,hp];simp[hmk]
 have hodd:t.mask%2=1:=by rcases hm with⟨e,z⟩|⟨e,z⟩|e<;>rw[e]
 have hne:∀e∈es.toList,e.1≠aJ k:=λe he z=>by
  obtain⟨y,hy,e2⟩:=bG.mp (hel e he)
  have:y=k:=A9 (hin y hy) hkr (by rw[e2,z])
  exact hnk (this▸hy)
 have hall:∀(m:Nat),(∀y,inR y->gE m (aJ y)=true)->∀(p:Nat),∀e∈(SetTable.insertAt es p (aJ k,Value.ref x)).toList,gE m e.1=true/\e.1∈(ks++[k]).map λk=>aJ k:=by
  intro m hm p e he
  have he:=(SetTable.insertAt_perm es p _).mem_iff.mp he
  rw[xY]at he
  rcases cU.mp he with he|he
  ·obtain⟨y,hy,e2⟩:=bG.mp (hel e he)
   exact⟨by rw[<-e2];exact hm y (hin y hy),by rw[cE];exact kJ _ (hel e he)⟩
  ·rw[bJ]at he;subst he
   exact⟨hm k hkr,by rw[cE];exact eI _ (bJ.mpr rfl)⟩
 have hz:∀p,(SetTable.insertAt es p (aJ k,Value.ref x)).size=es.size+1:=λp=>by
  rw[<-eG,(SetTable.insertAt_perm es p _).length_eq,eG,Kw]
 have hzp:∀p j,(SetTable.insertAt t.place p j).size=es.size+1:=λp j=>by
  rw[<-eG,(SetTable.insertAt_perm t.place p _).length_eq,eG,Kw,hp]
 have gl31:∀y,inR y->gE 31 (aJ y)=true:=λy hy=>by
  have:=uB hy;unfold mW at this;simp only[aE]at this;exact this.1.2
 have gl127:∀y,inR y->gE 127 (aJ y)=true:=λy hy=>by
  have:=uB hy;unfold mW at this;simp only[aE]at this;exact this.2
 unfold setAddHashed setAddHashedIn
 refine wpAny_holding (wpAny_bind (wpAny_setState_of ho hd hf ?_))
 dsimp only
 rw[show byScan (.ref x) es=false from rfl]
 simp only[eC,if_false]
 refine wpAny_bind (GK ho hd hf hdm hp (by rw[hp];exact hmk) hodd hne hg λj hjh hje=>?_)
 have hjn:j∉t.place.toList:=λz=>by
  obtain⟨i,hi,ei⟩:=mK z
  have:=tZ hasc (i:=i) (j:=j) (by rw[<-iA,aH hi,ei])
  rw[hje]at this;cases this
 dsimp only
 refine wpAny_bind (wpAny_setState_of ho hd hf ?_)
 dsimp only
 have hnd1:∀p,((SetTable.insertAt es p (aJ k,Value.ref x)).toList.map (·.1)).Nodup:=λp=>by
  have pm:=(SetTable.insertAt_perm es p (aJ k,Value.ref x)).map (·.1)
  rw[xY,cE]at pm
  refine pm.nodup_iff.mpr (sP.mpr ⟨hnd,by simp,λa ha b hb z=>?_⟩)
  obtain⟨e,he,rfl⟩:=bG.mp ha
  rw[xZ,bJ]at hb
  exact hne e he (z.trans hb)
 have hbs1:∀p,∀e∈(SetTable.insertAt es p (aJ k,Value.ref x)).toList,B e:=λp e he=>by
  have he:=(SetTable.insertAt_perm es p _).mem_iff.mp he
  rw[xY]at he
  rcases cU.mp he with he|he
  ·exact hbs e he
  ·rw[bJ]at he;subst he;exact hB
 have fin:∀(t1:SetTable)(p:Nat),t1.dummies=#[]->t1.place.size=es.size+1->t1.mask=t.mask->Asc t1.place->(∀z∈t1.place.toList.zip (SetTable.insertAt es p (aJ k,Value.ref x)).toList,Hits t.mask (·∈t1.place.toList) z.1 (10*SetTable.turns t.mask) (eL t.mask z.2.1)) ->
  wpAny (model prog w) A (do
   storeSet S (SetTable.insertAt es p (aJ k,.ref x)) t1
   if (!false && t1.tooFull) = true then do
       setRelay S (SetTable.grown (es.size+1))
       pure true
    else pure true) Q E s:=by
  intro t1 p hd1 hp1 hm1 hasc1 hhit1
  refine wpAny_bind (wpAny_storeSet_of ho hd ?_ (by rw[hz,sizeLine_eq];lia))
  have hfl1:t1.fill=es.size+1:=by unfold SetTable.fill;rw[hd1,hp1];rfl
  have hsb1:=Heap.SameBut.update s.heap S (Obj.putSet (SetTable.insertAt es p (aJ k,Value.ref x)) t1)
  have ho1:(s.heap.update S (Obj.putSet (SetTable.insertAt es p (aJ k,Value.ref x)) t1)).get? S=some {o with data:=.set (SetTable.insertAt es p (aJ k,Value.ref x)) (ep+1) t1}:=by
   have:=Heap.get?_update_self (Obj.putSet (SetTable.insertAt es p (aJ k,Value.ref x)) t1) ho (by rw[putSet_of _ t1 hd];rfl)
   rw[putSet_of _ t1 hd]at this;exact this
  have hmk1:es.size+1<=t1.mask:=by rw[hm1];rcases hm with⟨e,z⟩|⟨e,z⟩|e<;>rw[e]<;>lia
  have hf1:t1.fits (SetTable.insertAt es p (aJ k,Value.ref x)).size=true:=by unfold SetTable.fits;rw[hz,hfl1,hp1];simp[hmk1]
  have relay:∀m,(∀y,inR y->gE m (aJ y)=true)->SetTable.sizeAbove (SetTable.grown (es.size+1))=m+1->m<=127->es.size+1<=m->(m=31/\es.size+1<19\/m=127) ->
   wpAny (model prog w) A (do
    setRelay S (SetTable.grown (es.size+1))
    pure true) Q E {s with heap:=s.heap.update S (Obj.putSet (SetTable.insertAt es p (aJ k,Value.ref x)) t1) }:=by
   intro m gm hw hm127 hle hmm
   refine wpAny_bind (GL (o:={o with data:=.set (SetTable.insertAt es p (aJ k,Value.ref x)) (ep+1) t1}) ho1 hex rfl hf1 hw (by rw[sizeLine_eq];lia) (by rw[hz];exact hle) (λe he=>(hall m gm p e he).1) (hnd1 p) λes' t' hes hmem hdm' hpl' hmask hasc' hnd' hhit'=>?_)
   have ho2:=Heap.get?_update_self (Obj.putSet es' t') ho1 (by rw[putSet_of es' t' rfl];rfl)
   rw[putSet_of es' t' rfl]at ho2
   refine wpAny_pure (q _ (hsb1.trans (Heap.SameBut.update _ S _)) ⟨_,es',_,t',ho2,hex,rfl,hdm',hpl',by rw[hes,hz,bL,hn];rfl,λe he=>(hall m gm p e (hmem e he)).2,?_,hasc',by rw[hmask];exact hhit',hnd',λe he=>hbs1 p e (hmem e he)⟩)
   rw[hmask,hes,hz]
   rcases hmm with⟨e,z⟩|e
   ·exact .inr (.inl ⟨e,z⟩)
   ·exact .inr (.inr e)
  have stay:(t1.mask=7/\es.size+1<5\/t1.mask=31/\es.size+1<19\/t1.mask=127)->wpAny (model prog w) A (pure true) Q E {s with heap:=s.heap.update S (Obj.putSet (SetTable.insertAt es p (aJ k,Value.ref x)) t1) }:=by
   intro hmm
   refine wpAny_pure (q _ hsb1 ⟨_,_,_,t1,ho1,hex,rfl,hd1,by rw[hz];exact hp1,by rw[hz,bL,hn];rfl,λe he=>(hall 31 gl31 p e he).2,by rw[hz];exact hmm,hasc1,by rw[hm1];exact hhit1,hnd1 p,hbs1 p⟩)
  have htf:t1.tooFull=decide ((es.size+1)*5≥t.mask*3):=by unfold SetTable.tooFull;rw[hfl1,hm1]
  rw[htf]
  rcases hm with⟨e,z⟩|⟨e,z⟩|e
  ·by_cases c:es.size+1<5
   ·rw[if_neg (by rw[e];simp;lia)];exact stay (.inl ⟨by rw[hm1];exact e,c⟩)
   ·have e4:es.size=4:=by lia
    rw[if_pos (by rw[e];simp;lia)]
    exact relay 31 gl31 (by rw[e4];decide) (by lia) (by lia) (.inl ⟨rfl,by lia⟩)
  ·by_cases c:es.size+1<19
   ·rw[if_neg (by rw[e];simp;lia)];exact stay (.inr (.inl ⟨by rw[hm1];exact e,c⟩))
   ·have e4:es.size=18:=by lia
    rw[if_pos (by rw[e];simp;lia)]
    exact relay 127 gl127 (by rw[e4];decide) (by lia) (by lia) (.inr rfl)
  ·rw[if_neg (by rw[e];simp;lia)];exact stay (.inr (.inr (by rw[hm1];exact e)))
 have hdp:∀(p:Nat),(SetTable.put t p).1.dummies=#[]:=λp=>by
  unfold SetTable.put;dsimp only;rw[hdm];rfl
 have hmp:∀(p:Nat),(SetTable.put t p).1.mask=t.mask:=λp=>rfl
 have hpp:∀(p:Nat),(SetTable.put t p).1.place.size=es.size+1:=λp=>hzp _ _
 have hap:Asc (SetTable.put t j).1.place:=GF hasc hjn
 have hin1:∀x,x∈t.place.toList->x∈(SetTable.put t j).1.place.toList:=λy hy=>by
  show y∈(SetTable.insertAt t.place _ j).toList
  refine(SetTable.insertAt_perm t.place _ j).mem_iff.mpr ?_
  rw[xY];exact kJ _ hy
 have hhp:∀z∈(SetTable.put t j).1.place.toList.zip (SetTable.insertAt es (SetTable.put t j).2 (aJ k,Value.ref x)).toList,Hits t.mask (·∈(SetTable.put t j).1.place.toList) z.1 (10*SetTable.turns t.mask) (eL t.mask z.2.1):=λz hz=>by
  have hz:z∈(SetTable.insertAt t.place (SetTable.below t.place j) j).toList.zip (SetTable.insertAt es (SetTable.below t.place j) (aJ k,Value.ref x)).toList:=hz
  rw[GE hp]at hz
  rcases cU.mp hz with hz|hz
  ·exact(hhit z (sQ hz)).mono hin1
  ·rcases aZ.mp hz with hz|hz
   ·subst hz;exact hjh.mono hin1
   ·exact(hhit z (sO hz)).mono hin1
 split
 ·refine wpAny_bind (GH hk ?_)
  exact fin _ _ (hdp j) (hpp j) (hmp j) hap hhp
 ·refine wpAny_bind (wpAny_pure ?_)
  exact fin _ _ (hdp j) (hpp j) (hmp j) hap hhp
theorem GN{es:Array (Int×Value)}{ks:List (List Nat)}(hin:∀y∈ks,inR y)(hnk:ks.Nodup)(hl:es.size=ks.length)(hs:∀e∈es.toList,e.1∈ks.map λk=>aJ k)(nd:(es.toList.map (·.1)).Nodup){k:List Nat}(hk:k∈ks):aJ k∈es.toList.map (·.1):=by
 by_cases c:aJ k∈es.toList.map (·.1)
 ·exact c
 ·exfalso
  have h1:(aJ k::es.toList.map (·.1)).Nodup:=dP.mpr ⟨c,nd⟩
  have h2:=tW (m:=ks.map λk=>aJ k) h1 λx hx=>by
   rcases aZ.mp hx with e|hx
   ·rw[e];exact bG.mpr ⟨k,hk,rfl⟩
   ·obtain⟨e,he,rfl⟩:=bG.mp hx
    exact hs e he
  rw[aN,aC,aC,eG]at h2
  lia
theorem GO{S x:Addr}{ks:List (List Nat)}{k:List Nat}{B:Int×Value->Prop}{Q:Bool->Shared->Prop}(hu:A.units<cLine)(hk:IsTupleKey (intKind prog w) s.heap (k.map λa:Nat=>(a:Int)) x)(hS:PSetB s.heap S ks B)
 (hin:∀y∈ks,inR y) (hnk:ks.Nodup) (hlen:ks.length<=72) (hkk:k∈ks) (hB:∀e,B e->∃k',inR k'/\e.1=aJ k'/\iI prog w s.heap e.2 k') (q:Q false s) :
 wpAny (model prog w) A (setAddHashed S (.ref x) (aJ k)) Q E s:=by
 obtain⟨o,es,ep,t,ho,hex,hd,hdm,hp,hn,hel,hm,hasc,hhit,hnd,hbs⟩:=hS
 have hfl:t.fill=es.size:=by unfold SetTable.fill;rw[hdm,hp];rfl
 have hmk:es.size<=t.mask:=by rcases hm with⟨e,z⟩|⟨e,z⟩|e<;>rw[e]<;>lia
 have hf:t.fits es.size=true:=by unfold SetTable.fits;rw[hfl,hp];simp[hmk]
 have hodd:t.mask%2=1:=by rcases hm with⟨e,z⟩|⟨e,z⟩|e<;>rw[e]
 obtain⟨e,he,hek⟩:=bG.mp (GN hin hnk hn hel hnd hkk)
 obtain⟨i,hi,hie⟩:=mK he
 have hi':i<es.size:=by simpa using hi
 have hip:i<t.place.toList.length:=by rw[eG,hp];exact hi'
 have e1:es[i]?=some (aJ k,e.2):=by rw[<-iA,aH hi,hie,<-hek]
 have e2:t.place[i]?=some t.place.toList[i]:=by rw[<-iA,aH hip]
 have e3:=hhit (t.place.toList[i],e) (by
  rw[<-hie]
  have:(t.place.toList.zip es.toList)[i]'(by rw[List.length_zip];exact Nat.lt_min.mpr ⟨hip,hi⟩)=(t.place.toList[i],es.toList[i]):=List.getElem_zip
  rw[<-this];exact iU _)
 have e3:Hits t.mask (·∈t.place.toList) t.place.toList[i] (10*SetTable.turns t.mask) (eL t.mask (aJ k)):=by rw[<-hek];exact e3
 have e4:iI prog w s.heap e.2 k:=by
  obtain⟨k',h1,h2,h3⟩:=hB e (hbs e he)
  have:k'=k:=A9 h1 (hin k hkk) (by rw[<-h2,hek])
  rw[<-this];exact h3
 unfold setAddHashed setAddHashedIn
 refine wpAny_holding (wpAny_bind (wpAny_setState_of ho hd hf ?_))
 dsimp only
 rw[show byScan (.ref x) es=false from rfl]
 simp only[eC,if_false]
 refine wpAny_bind (GJ hu ho hd hf hp hodd hasc hk e1 e2 e4 e3 (λi' e' ne h1 h2=>?_) (λe he=>?_) ?_)
 ·have hl':i'<es.toList.length:=by rw[eG];exact(sM.mp h1).1
  have h3:es.toList[i']=e':=by
   have:=aH hl'
   rw[iA,h1]at this
   exact(eA.inj this).symm
  have z:(es.toList.map (·.1))[i']'(by rw[aC];exact hl')=(es.toList.map (·.1))[i]'(by rw[aC];exact hi):=by
   rw[yA,yA,h3,hie,h2,hek]
  rcases xW i' i with c|c|c
  ·exact kN.mp hnd i' i _ _ c z
  ·exact ne c
  ·exact kN.mp hnd i i' _ _ c z.symm
 ·obtain⟨k',_,_,h3⟩:=hB e (hbs e he)
  exact⟨k',h3⟩
 ·exact wpAny_pure q
end
section
variable{prog:Program}{w:World}{A:Around}{R:Result->Shared->Prop}{I:Addr}{fp wr:List Addr}{G:Array GenState->Array GenState->Prop}{n:Nat}{P:Nat->Value->Prop}{St:Nat->Shared->Prop}
theorem Ab{α:Type}(f:Nat->α)(i:Nat):(aA (i+1)).map f=(aA i).map f++[f i]:=by
 rw[Do,cE];rfl
theorem Ac(l:List (List Nat))(k:List Nat):bS (l++[k])=if(bS l).contains k then bS l else bS l++[k]:=by
 unfold bS;rw[Dp];rfl
theorem mX:∀(l acc:List (List Nat)),acc.Nodup->(l.foldl (λacc k=>if acc.contains k then acc else acc++[k]) acc).Nodup/\(∀x,x∈l.foldl (λacc k=>if acc.contains k then acc else acc++[k]) acc↔x∈acc\/x∈l)/\(l.foldl (λacc k=>if acc.contains k then acc else acc++[k]) acc).length<=acc.length+l.length
 |[],acc,h=>⟨h,λx=>by simp,by simp⟩
 |k::r,acc,h=>by
  rw[lZ]
  by_cases c:acc.contains k=true
  ·rw[if_pos c]
   obtain⟨h1,h2,h3⟩:=mX r acc h
   refine⟨h1,λx=>?_,by rw[aN];lia⟩
   rw[h2,aZ]
   have hk:=jP.mp c
   constructor
   ·rintro(a|a)
    ·exact .inl a
    ·exact .inr (.inr a)
   ·rintro(a|a|a)
    ·exact .inl a
    ·rw[a];exact .inl hk
    ·exact .inr a
  ·rw[if_neg c]
   have hk:k∉acc:=λz=>c (jP.mpr z)
   obtain⟨h1,h2,h3⟩:=mX r (acc++[k]) (sP.mpr ⟨h,by simp,λa ha b hb z=>by rw[bJ]at hb;exact hk (by rw[<-hb,<-z];exact ha)⟩)
   refine⟨h1,λx=>?_,?_⟩
   ·rw[h2,cU,bJ,aZ,or_assoc]
   ·rw[bL,fV]at h3;rw[aN];lia
theorem GP(l:List (List Nat)):(bS l).Nodup:=(mX l [] .nil).1
theorem mem_metN{l:List (List Nat)}{x:List Nat}:x∈bS l↔x∈l:=by
 have:=(mX l [] .nil).2.1 x
 unfold bS;rw[this];simp
theorem Ad(l:List (List Nat)):(bS l).length<=l.length:=by
 have:=(mX l [] .nil).2.2
 rw[mC,iB]at this;exact this
noncomputable def uC(n:Nat)(P:Nat->Value->Prop)(val:Nat->List Nat)(e:Int×Value):Prop:=∃i v,i<n/\P i v/\e=(aJ (val i),v)
theorem GQ(W:WalksS prog w A.in1 I fp wr G n P St)(S:Addr)(hSf:S∉fp)(val:Nat->List Nat)(hu:A.in1.units<cLine)(hin:∀i,i<n->inR (val i))(hb:n<=72) :
 ∀(k i:Nat)(s:Shared),n-i=k->i<=n->St i s ->
  (∀i v,i<n->P i v->∃x,v=.ref x/\x≠S/\x∉wr/\IsTupleKey (intKind prog w) s.heap ((val i).map λa:Nat=>(a:Int)) x) ->
  PSetB s.heap S (bS ((aA i).map val)) (uC n P val) ->
  (∀s',Moved (S::wr) G s s'->PSet s'.heap S (bS ((aA n).map val))->R (.ok (.ret .none)) s') ->
  codeAny (model prog w) A (.builtin "set.update.loop" ⟨[.ref S,.ref I],[]⟩) R s:=by
 have hSw:S∉wr:=λh=>hSf (W.sub _ h)
 have hsub:∀b∈wr,b∈S::wr:=λb hb=>bE _ hb
 intro k
 induction k with
 |zero=>
  intro i s hk hi hst hT hS hR
  have hin:i=n:=by lia
  subst hin
  refine codeAny_builtin PyProof.Rows.F.entry_set_update_loop ?_
  rw[Around.under_plainId PyProof.Rows.F.plain_set_update_loop _]
  show wpAny _ A.in1 (pyNext (.ref I)>>=_) _ _ s
  refine wpAny_bind (W.done s _ _ hst λs' hm=>?_)
  show wpAny _ A.in1 (ret Value.none) _ _ s'
  exact wpAny_pure (hR s' (hm.mono hsub) (by
   obtain⟨o,es,ep,t,ho,rest⟩:=hS.set
   exact⟨o,es,ep,t,hm.heap S _ hSw ho,rest⟩))
 |succ k ih=>
  intro i s hk hi hst hT hS hR
  have hlt:i<n:=by lia
  refine codeAny_builtin PyProof.Rows.F.entry_set_update_loop ?_
  rw[Around.under_plainId PyProof.Rows.F.plain_set_update_loop _]
  show wpAny _ A.in1 (pyNext (.ref I)>>=_) _ _ s
  refine wpAny_bind (W.item i s _ _ hlt hst λv s' hP hst' hm=>?_)
  have hT':∀i v,i<n->P i v->∃x,v=.ref x/\x≠S/\x∉wr/\IsTupleKey (intKind prog w) s'.heap ((val i).map λa:Nat=>(a:Int)) x:=λi v hi hv=>by
   obtain⟨x,e1,e2,e3,o,its,m,ho,rest⟩:=hT i v hi hv
   exact⟨x,e1,e2,e3,o,its,m,hm.heap x o e3 ho,rest⟩
  obtain⟨x,rfl,hxS,hxw,hkx⟩:=hT' i v hlt hP
  have hS':PSetB s'.heap S (bS ((aA i).map val)) (uC n P val):=by
   obtain⟨o,es,ep,tb,ho,rest⟩:=hS
   exact⟨o,es,ep,tb,hm.heap S _ hSw ho,rest⟩
  have hinR:∀y∈bS ((aA i).map val),inR y:=λy hy=>by
   obtain⟨j,hj,rfl⟩:=bG.mp (mem_metN.mp hy)
   exact hin j (by have:=cO.mp hj;lia)
  have hlen:(bS ((aA i).map val)).length<=i:=by
   have:=Ad ((aA i).map val)
   rw[aC,cY]at this;exact this
  show wpAny _ A.in1 (holding [.ref x] (setAdd S (.ref x))>>=_) _ _ s'
  refine wpAny_bind (wpAny_holding ?_)
  unfold setAdd
  refine wpAny_holding ?_
  refine wpAny_bind (wpAny_pyHash_tuple hu hkx ?_)
  have next:∀h',(∀b o,b≠S->s'.heap.get? b=some o->h'.get? b=some o)->PSetB h' S (bS ((aA (i+1)).map val)) (uC n P val) ->
   codeAny (model prog w) A (.builtin "set.update.loop" ⟨[.ref S,.ref I],[]⟩) R {s' with heap:=h',toks:=s'.toks+(((val i).map λa:Nat=>(a:Int)).length+1) }:=by
   intro h' hsb hSi
   refine ih (i+1) _ (by lia) hlt (W.frame _ s' _ _ hst' (sR _ _) λb hb o e=>?_) (λi v hi hv=>?_) hSi λs'' hm'' hS''=>?_
   ·exact hsb b o (λh:b=S=>hSf (by rw[<-h];exact hb)) e
   ·obtain⟨x,e1,e2,e3,o,its,m,ho,rest⟩:=hT' i v hi hv
    exact⟨x,e1,e2,e3,o,its,m,hsb x o e2 ho,rest⟩
   ·refine hR s'' (Moved.trans W.gtrans ((hm.mono hsub).then_heap (sR _ _) λb o hb e=>?_) hm'') hS''
    exact hsb b o (λh:b=S=>hb (by rw[h];exact aY)) e
  by_cases c:(bS ((aA i).map val)).contains (val i)=true
  ·refine GO (k:=val i) (s:={s' with toks:=s'.toks+(((val i).map λa:Nat=>(a:Int)).length+1) }) hu hkx hS' hinR (GP _) (by lia) (jP.mp c) (λe he=>?_) ?_
   ·obtain⟨j,v,hj,hv,rfl⟩:=he
    obtain⟨y,e1,_,_,hy⟩:=hT' j v hj hv
    exact⟨val j,hin j hj,rfl,y,e1,hy⟩
   ·refine wpAny_pure ⟨plainId_quiet PyProof.Rows.F.plain_set_update_loop _,next s'.heap (λb o _ e=>e) ?_⟩
    rw[Ab,Ac,if_pos c];exact hS'
  ·refine GM (k:=val i) (s:={s' with toks:=s'.toks+(((val i).map λa:Nat=>(a:Int)).length+1) }) hkx ⟨i,.ref x,hlt,hP,rfl⟩ hS' hinR (hin i hlt) (λz=>c (jP.mpr z)) (by lia) λh' hsb hS2=>?_
   refine wpAny_pure ⟨plainId_quiet PyProof.Rows.F.plain_set_update_loop _,next h' (λb o hb e=>(hsb.2 b hb).trans e) ?_⟩
   rw[Ab,Ac,if_neg c];exact hS2
end
section
variable{prog:Program}{w:World}{A:Around}{E:Value->Shared->Prop}{s:Shared}
set_option maxHeartbeats 3200000 in
theorem GR{l:Addr}{items:Array Value}{val:Nat->List Nat}{Q:Value->Shared->Prop}(hh:A.handled=none)(hu:A.units+8<cLine)(hl:s.heap.IsList l items)(hval:∀i v,items[i]?=some v->∃x,v=.ref x/\IsTupleKey (intKind prog w) s.heap ((val i).map λa:Nat=>(a:Int)) x)(hin:∀i,i<items.size->inR (val i))(hb:items.size<=72)
 (h:∀(h':Heap)(tk:Nat),PSet h' s.heap.objs.size (bS ((aA items.size).map val)) ->
  (∀b o,b<s.heap.objs.size->s.heap.get? b=some o->h'.get? b=some o)->Q (.ref s.heap.objs.size) {s with heap:=h',toks:=tk}) :
 wpAny (model prog w) A (call (.type "set") [.ref l]) Q E s:=by
 obtain⟨c,tl,hmro⟩:=F.called_set.mro
 have hmade:=F.called_set.made
 have hsub:=F.called_set.sub
 refine wpAny_call (codeAny_of_tree ?_)
 show wpAny _ _ (callAny (.type "set") _) _ _ _
 refine wpAny_pure ⟨Code.quiet_builtin _ (by decide +kernel),codeAny_builtin F.entry_type_call ?_⟩
 rw[Around.under_plain (weight_type_call_type "set" [.ref l] []) rfl]
 have h1:=F.called_set.notType
 have h2:=F.called_set.canCreate
 have hct:=F.typeCall_set_1 (.ref l)
 repeat(any_goals(first|assumption|wp_step))
 refine codeAny_mono (code_set_new_1 (.ref l) (E:=E) (Q₁:=λobj s₁=>∃led:Bool,obj=.ref s.heap.objs.size/\s₁={s with heap:=s.heap.push {cls:=.type "set", dict:=none,data:=.set #[] 0 (.fresh 0 0 led) } }) λled=>⟨led,rfl,rfl⟩) λr s₁ hr=>?_
 cases r with
 |error e=>exact hr
 |ok fl=>
  cases fl with
  |ret obj=>
   obtain⟨led,rfl,rfl⟩:=hr
   have hS:(s.heap.push {cls:=.type "set", dict:=none,data:=.set #[] 0 (.fresh 0 0 led) }).get? s.heap.objs.size=some {cls:=.type "set", dict:=none,data:=.set #[] 0 (.fresh 0 0 led) }:=Heap.get?_push_size _ rfl
   have hT:Shared.TypeIs {s with heap:=s.heap.push {cls:=.type "set", dict:=none,data:=.set #[] 0 (.fresh 0 0 led) } } (.ref s.heap.objs.size) "set" := ⟨_,hS,rfl⟩
   have hli:=F.called_set.init.lookup
   have hbi:=F.called_set.init.bind (.ref s.heap.objs.size)
   repeat(any_goals(first|assumption|wp_step))
   refine codeAny_mono (codeAny_call_builtin (R:=wants (λr s₂=>r=.none/\∃h' tk,s₂={s with heap:=h',toks:=tk} /\
    PSet h' s.heap.objs.size (bS ((aA items.size).map val)) /\
    (∀b o,b<s.heap.objs.size->s.heap.get? b=some o->h'.get? b=some o)) E) F.called_set.init.plain F.entry_set_init (check_set_init_1 hT ?_)) λr₂ s₂ hr₂=>?_
   ·generalize hpu:s.heap.push {cls:=.type "set", dict:=none,data:=.set #[] 0 (.fresh 0 0 led) }=hp1 at *
    have hz:hp1.objs.size=s.heap.objs.size+1:=by rw[<-hpu];exact Heap.size_push ..
    have hold:∀b o,s.heap.get? b=some o->hp1.get? b=some o:=λb o e=>by rw[<-hpu];exact Heap.get?_push_of_some _ e
    obtain⟨ol,hol,hcl,nl,hdl⟩:=hl
    obtain⟨ocls,odict,odata,oslots⟩:=ol
    simp only at hcl hdl
    subst hcl;subst hdl
    have hol':hp1.get? l=some {cls:=.type "list", dict:=odict,data:=.seq items nl,slots:=oslots}:=hold _ _ hol
    have hsls:=F.sub_list_set
    have hslf:=F.sub_list_frozenset
    have hne:(Value.type "list" == Value.type "dict")=false:=by decide
    have hl1:hp1.IsList l items:=⟨_,hol',rfl,nl,rfl⟩
    have hlS:l<s.heap.objs.size:=Heap.lt_size hol
    have hneI:l≠hp1.objs.size:=by rw[hz];exact bD (mJ hlS)
    unfold Builtin.«set.__init__» noKeywords Builtin.Frozenset.updateFrom
    generalize hPI:pyIter=PI
    wp_walk
    subst hPI
    refine wpAny_pyIter_list hl1 ?_
    refine wpAny_bind (wpAny_runValue ?_)
    have hh3:A.in1.in1.in1.handled=none:=by simp[hh]
    have hu3:A.in1.in1.in1.units<cLine:=by show A.units+1+1+1<cLine;lia
    refine GQ ((Walks.list hh3 _ l hneI items).toS) s.heap.objs.size (by rw[hz];simp only[aZ,bJ,kO,or_false,not_or];exact⟨bD (oK _),oD hlS⟩) val hu3 hin hb (items.size-0) 0 _ (by lia) (fX _) ⟨⟨_,Heap.get?_push_size _ rfl,rfl,rfl⟩,(hl1.push _)⟩ ?hT0 ?hS0 ?hR
    case hT0=>
     intro i v _ hv
     obtain⟨x,rfl,ox,itx,nx,hox,hcx,hdx,hix⟩:=hval i v hv
     have hlx:x<s.heap.objs.size:=Heap.lt_size hox
     refine⟨x,rfl,bD hlx,?_,ox,itx,nx,Heap.get?_push_of_some _ (hold _ _ hox),hcx,hdx,hix⟩
     rw[hz];simp only[aZ,bJ,kO,or_false,not_or]
     exact bD (mJ hlx)
    case hS0=>
     have hget:(hp1.push {cls:=.type "list_iterator", data:=.fields #[.ref l,.int 0 0] }).get? s.heap.objs.size
      = some {cls:=.type "set", dict:=none,data:=.set #[] 0 (.fresh 0 0 led) }:=Heap.get?_push_of_some _ hS
     exact⟨_,#[],0,_,hget,⟨rfl,rfl,rfl⟩,rfl,rfl,rfl,rfl,(λe he=>by cases he),.inl ⟨rfl,by decide⟩,.nil,(λz hz=>by cases hz),.nil,λe he=>by cases he⟩
    case hR=>
     intro s' hm hS'
     obtain⟨h',g',d',tk',os'⟩:=s'
     have eg:g'=s.gens:=hm.gens
     have ed:d'=s.drawn:=hm.drawn
     have eo:os'=s.os:=hm.os
     subst eg;subst ed;subst eo
     show wpAny _ _ _ _ _ _
     refine wpAny_pure ?_
     show wpAny _ _ (ret Value.none) _ _ _
     refine wpAny_pure ⟨rfl,h',tk',rfl,hS',λb o hb e=>?_⟩
     have hb1:b≠s.heap.objs.size:=bD hb
     have hb2:b≠hp1.objs.size:=by rw[hz];exact bD (mJ hb)
     exact hm.heap b o (by simp only[aZ,bJ,kO,or_false,not_or];exact⟨hb1,hb2⟩) (Heap.get?_push_of_some _ (hold _ _ e))
   ·cases r₂ with
    |error e=>exact hr₂
    |ok fl₂=>
     cases fl₂ with
     |ret r=>
      obtain⟨rfl,h',tk,rfl,hS',hk'⟩:=hr₂
      repeat(any_goals(first|assumption|wp_step))
      exact h _ _ hS' hk'
     |_=>exact hr₂.elim
  |_=>exact hr.elim
end
section
variable{prog:Program}{w:World}{A:Around}{E:Value->Shared->Prop}{s:Shared}
end
noncomputable def SetY(P:Program)(w:World)(p:Addr)(n:Nat):HO:=.ext λh=>∃ks,PSet h p ks/\ks.length=n/\n<=72
noncomputable def PairsAt(K:PySem.W.Frag)(H:Hp):List Addr->List (List Nat)->Prop
 |[],ps=>ps=[]
 |a::r,ps=>∃p q,ps=p::q/\SqT K H a (p.map λn:Nat=>V.int (n:Int))/\PairsAt K H r q
theorem PairsAt.get{K:PySem.W.Frag}{H:Hp}:∀{as:List Addr} {ps:List (List Nat)} {i:Nat} {a:Addr},PairsAt K H as ps->as[i]?=some a->SqT K H a ((ps.getD i []).map λn:Nat=>V.int (n:Int))
 |[],_,i,a,_,e=>by simp at e
 |b::r,ps,i,a,h,e=>by
  obtain⟨p,q,rfl,h1,h2⟩:=h
  cases i with
  |zero=>simp at e;subst e;exact h1
  |succ i=>exact h2.get (by simpa using e)
theorem PairsAt.length{K:PySem.W.Frag}{H:Hp}:∀{as:List Addr} {ps:List (List Nat)},PairsAt K H as ps->as.length=ps.length
 |[],_,h=>by cases h;rfl
 |b::r,ps,h=>by
  obtain⟨p,q,rfl,h1,h2⟩:=h
  rw[aN,aN,h2.length]
theorem GS{ps:List (List Nat)}:(aA ps.length).map (λj=>ps.getD j [])=ps:=by
 apply Kx
 ·simp
 ·intro i h1 h2
  simp[h2]
theorem Ae{P:Program}{w:World}:∀{k:List Nat} {its:List Value},Vals (k.map λn:Nat=>V.int (n:Int)) its->ItemsAre (intKind P w) (k.map λa:Nat=>(a:Int)) its
 |[],its,r=>by cases r;exact .nil
 |n::k,its,r=>by
  cases r with
  |cons r1 r=>
   obtain⟨t1,rfl⟩:=(show ∃t,_=Value.int (n:Int) t from r1)
   exact .cons (intKind_is _ _ _ _) (Ae r)
theorem tupKey{P:Program}{w:World}{h:Heap}{a:Addr}{its:List Value}{k:List Nat}(r:Vals (k.map λn:Nat=>V.int (n:Int)) its)(p:IsTup h a its.toArray):IsTupleKey (intKind P w) h (k.map λa:Nat=>(a:Int)) a:=by
 obtain⟨o,e,hc,n,d⟩:=p
 exact⟨o,its.toArray,n,e,hc,d,Ae r⟩
noncomputable def uD(K:PySem.W.Frag)(H:Hp)(v:V)(n:Nat):Prop:=
 ∃a as ps,v=.ref a/\SqL K H a (as.map V.ref)/\PairsAt K H as ps/\ps.length<=72/\n=(bS ps).length/\∀p∈ps,inR p
theorem uE:∀{as:List Addr} {its:List Value},Vals (as.map V.ref) its->its=as.map Value.ref
 |[],its,r=>by cases r;rfl
 |a::as,its,r=>by
  cases r with
  |cons r1 r=>rw[uE r,show _=Value.ref a from r1];rfl
theorem GT {X:Cx} (hc:X.calm=true) (hr:X.A.units+64<cLine):bZ X (.type "set") (λvs H Q=>∃v n,vs=[v]/\uD X.K H v n/\∀p,H p=none->Q (.ref p) (upd H p (SetY X.prog X.w p n))):=by
 intro pins s σ H vs us Q I rv h
 obtain⟨v,n,rfl,hk,q⟩:=h
 obtain⟨u,rfl,ru⟩:=rv.one
 have fin:∀(h':Heap)(tk:Nat),(∃ks,PSet h' s.heap.objs.size ks/\ks.length=n/\n<=72)->(∀b o,b<s.heap.objs.size->s.heap.get? b=some o->h'.get? b=some o)->EP X pins σ Q (.ref s.heap.objs.size) {s with heap:=h',toks:=tk}:=by
  intro h' tk hS hkeep
  have fr:H s.heap.objs.size=none:=I.hok.fresh (aF _)
  refine⟨.ref s.heap.objs.size,_,I.laid (t':=tk) (λb o e=>hkeep b o (Heap.lt_size e) e) (aF _) ?_,rfl,q _ fr⟩
  refine⟨hS,?_,λh1 h2 p1 k=>?_⟩
  ·obtain⟨ks,⟨o,_,_,_,e,_⟩,_⟩:=hS
   exact⟨o,e⟩
  ·obtain⟨ks,⟨o,es,ep,t,e,r⟩,r2⟩:=p1
   exact⟨ks,⟨o,es,ep,t,k o e,r⟩,r2⟩
 obtain⟨a,as,ps,rfl,hS,hP,hle,rfl,hin⟩:=hk
 cases ru
 obtain⟨its,r,pl,hz⟩:=I.list hS
 have hits:=uE r
 subst hits
 have hl:(as.map Value.ref).toArray.size=ps.length:=by rw[aQ,aC];exact hP.length
 refine GR (val:=λi=>ps.getD i []) (I.ok.hd hc) (by lia) pl.isList (λi v hv=>?_) (λi hi=>?_) (by rw[hl];exact hle) λh' tk hS' hkeep=>?_
 ·have hv':(as.map Value.ref)[i]?=some v:=by simpa using hv
  rw[bI]at hv'
  cases e:as[i]? with
  |none=>rw[e]at hv';cases hv'
  |some x=>
   rw[e]at hv'
   cases hv'
   obtain⟨tits,tr,tp,_⟩:=I.tuple (hP.get e)
   exact⟨x,rfl,tupKey tr tp⟩
 ·rw[hl]at hi
  show inR (ps.getD i [])
  rw[cZ,aH hi]
  exact hin _ (iU hi)
 ·rw[hl,GS]at hS'
  exact fin h' tk (⟨bS ps,hS',rfl,aW (Ad ps) hle⟩) hkeep
theorem GU {X:Cx}:bZ X (.builtin "len") (λvs H Q=>∃p n,vs=[.ref p]/\H p=some (SetY X.prog X.w p n)/\Q (.int (n:Nat)) H):=by
 intro pins s σ H vs us Q I rv h
 obtain⟨p,n,rfl,hH,q⟩:=h
 obtain⟨u,rfl,ru⟩:=rv.one
 cases ru
 obtain⟨hz,_⟩:=I.hok p _ hH
 obtain⟨ks,⟨o,es,ep,t,e,hex,hd,hdm,hp,hn,_,hm⟩,hl,hle⟩:=hz
 have hfl:t.fill=es.size:=by unfold SetTable.fill;rw[hdm,hp];rfl
 have hmk:es.size<=t.mask:=by rcases hm with⟨e,z⟩|⟨e,z⟩|e<;>rw[e]<;>lia
 have hf:t.fits es.size=true:=by unfold SetTable.fits;rw[hfl,hp];simp[hmk]
 refine call_len_set e hex hd hf (by lia) ?_
 exact⟨.int (n:Nat),H,I.kept (t':=s.toks+1+1) (λb o e=>e),⟨_,by rw[hn,hl]⟩,q⟩
end Tr
namespace Tr
open PySem PySem.Spec PyProof.Rows L2 PySem.SeqAt
end Tr
namespace Tr
open PySem PySem.Spec PyProof.Rows L2
theorem kv_get{ps:List (Key×V)}{vs:List (Key×Value)}(r:KV ps vs){i:Nat}{k:Key}{v:V}(h:ps[i]?=some (k,v)):∃u,vs[i]?=some (k,u):=by
 have e:=congrArg (λl=>l[i]?) r.keys
 simp only[bI,h]at e
 cases hv:vs[i]? with
 |none=>rw[hv]at e;cases e
 |some q=>
  rw[hv]at e
  injection e with e
  exact⟨q.2,by rw[show k=q.1 from e]⟩
theorem GV{P:Program}{w:World}{k:Key}{u:Value}(h:(bR P w).is k u=true):RelV (kV k) u:=by
 rcases gQ h with⟨i,t,rfl,rfl⟩|⟨x,t,rfl,rfl⟩
 ·exact⟨t,rfl⟩
 ·exact⟨t,rfl⟩
theorem freeze{X:Cx}{pins:List (Addr×Obj)}{σ:L2.St}{H:Hp}{s:Shared}{a:Addr}{ps:List (Key×V)}(I:Inv X pins σ H s)(h:H a=some (.dK ps)) :
 ∃o es ep,o.data=.dict es ep/\Inv X pins σ (L2.upd H a (.frz o (.dK ps))) s:=by
 have hk:=(show ObjOk X.prog X.w H s.heap a (.dK ps)from I.hok a _ h)
 obtain⟨e2,e3,vs,e4,o,es,ep,g1,g2,g3,g4⟩:=id hk
 have ne:∀{b u},H b=some u->u≠.dK ps->b≠a:=λx1 x2 z=>by rw[z,h]at x1;cases x1;exact x2 rfl
 refine⟨o,es,ep,g3,?_⟩
 refine I.step (h':=s.heap) (g':=s.gens) (d':=s.drawn) (t':=s.toks) (ch:=[]) (λb hb=>by cases hb) (λb u _ _ _ x1 _=>x1) (λb u _ _ _ x1 _=>⟨u.slots,x1⟩) (λb u _ x1 x2=>?_) (λb u _ x1=>⟨u,x1⟩) (λb xs x1=>?_) (λb v w x1=>?_) (λb ps x1=>⟨#[],?_⟩) (λm x1=>x1) (λb v x1=>?_) I.bare
 ·rw[aI (λz=>by rw[z,h]at x2;cases x2)];exact x2
 ·rw[aI (ne x1 (λz=>by cases z))];exact x1
 ·rw[aI (ne x1 (λz=>by cases z))];exact x1
 ·rw[aI (ne x1 (λz=>by cases z))];simpa using x1
 ·by_cases z:b=a
  ·rw[z,bY]at x1
   cases x1
   rw[z]
   exact⟨g1,e2,e3,vs,e4,o,es,ep,g1,g2,g3,g4⟩
  ·rw[aI z]at x1
   exact(I.hok b v x1).stay (λc u _ y1=>y1) (λc y1=>by rw[aI (ne y1 (λz=>by cases z))];exact y1) λc xs y1=>by rw[aI (ne y1 (λz=>by cases z))];exact y1
noncomputable def RawD(h:Heap)(d:Addr)(es:Array DictEntry)(ep:Nat):Prop:=∃o,h.get? d=some o/\o.ExactDict/\o.data=.dict es ep
section
variable{prog:Program}{w:World}{A:Around}{E:Value->Shared->Prop}{s:Shared}{d it:Addr}{es:Array DictEntry}{ep i:Nat}
theorem RawD.ty (h:RawD s.heap d es ep):s.TypeIs (.ref d) "dict" := let ⟨o,a,b,_⟩:=h;⟨o,a,b.1⟩
theorem GW{Q:Value->Shared->Prop}(nd:(d==sysModules)=false)(h:RawD s.heap d es ep)
 (q:Q (.ref s.heap.objs.size) {s with heap:=s.heap.push {cls:=.type "dict_keyiterator", data:=.fields #[.ref d,.int 0 0,.int es.size 0,.int ep 0] } }):wpAny (model prog w) A (pyIter (.ref d)) Q E s:=by
 have ty:=h.ty
 obtain⟨o,g1,g2,g3⟩:=h
 apply wpAny_pyIter_slot ty F.slot_dict_iter
 apply wpAny_call_entry F.slot_dict_iter ty F.entry_dict_iter _ (F.args_dict_iter_1 _)
 unfold Builtin.«dict.__iter__»;apply wpAny_bind;unfold Builtin.Dict.dictSlotNone;apply wpAny_bind;apply wpAny_notOrdered_dict ty
 apply(wpAny_pure _:wpAny _ _ (pure (Value.ref d)) _ _ s);show wpAny _ _ (Builtin.Dict.showsAll d>>=_) _ _ s
 unfold Builtin.Dict.showsAll;rw[if_neg (by rw[nd];exact aK)];apply wpAny_bind;apply wpAny_pure
 apply wpAny_bind;apply wpAny_dictEntries g1 g3;apply wpAny_bind;apply wpAny_dictEpoch g1 g3
 refine wpAny_bind (wpAny_newObj_type ?_ (by size_fits));apply wpAny_pure
 exact⟨_,rfl, "dict_keyiterator", _,⟨_,Heap.get?_push_size _ rfl,rfl⟩,F.slot_dict_keyiterator_next.lookup,by simpa[rawInt]using q⟩
theorem GX{Q:Option Value->Shared->Prop}{en:DictEntry}(hi:s.heap.IsKeyIter it d i es.size ep)(h:RawD s.heap d es ep)(hx:es[i]?=some en)
 (q:∀h',h'.IsKeyIter it d (i+1) es.size ep->Heap.SameBut it s.heap h'->Q (some en.key) {s with heap:=h' }):wpAny (model prog w) A (pyNext (.ref it)) Q E s:=by
 obtain⟨u,k1,k2,k3⟩:=id hi
 obtain⟨o,g1,g2,g3⟩:=h
 unfold pyNext;apply wpAny_bind;apply wpAny_attempt;apply wpAny_callSpecial?_slot (name:=Str.ofString "__next__") hi.typeIs F.slot_dict_keyiterator_next
 apply wpAny_call_entry F.slot_dict_keyiterator_next hi.typeIs F.entry_dict_keyiterator_next _ (F.args_dict_keyiterator_next_1 _)
 apply wpAny_bind;apply wpAny_pure;apply wpAny_bind;apply wpAny_bind
 first|(apply wpAny_bind;apply wpAny_typeNameOfWhole_keyiter hi.typeIs;apply wpAny_pure)|(apply wpAny_bind;apply wpAny_typeNameOf_keyiter hi.typeIs;apply wpAny_pure)
 apply wpAny_bind;apply wpAny_fieldsOf k1 k3
 have no:Builtin.Dict_items.ownsTuple "dict_keyiterator" = false:=by decide
 simp only[no,eC,if_false];show wpAny _ _ (if(Value.ref d==Value.none)=true then _ else _) _ _ s
 rw[if_neg (show ¬((Value.ref d==Value.none)=true)from aK)];apply wpAny_bind;apply wpAny_pure
 apply wpAny_bind;apply wpAny_dictEntries g1 g3;rw[if_neg (by simp)];apply wpAny_bind;apply wpAny_pure
 apply wpAny_bind;apply wpAny_dictEpoch g1 g3;rw[if_neg (by simp)];apply wpAny_pure
 simp only[show ¬((i:Int)<0)from by lia,if_false,jQ,hx]
 apply wpAny_bind
 first|(apply wpAny_bind;apply wpAny_typeNameOfWhole_keyiter hi.typeIs;apply wpAny_pure)|(apply wpAny_bind;apply wpAny_typeNameOf_keyiter hi.typeIs;apply wpAny_pure)
 apply wpAny_bind;apply wpAny_isOneOf_keyiter hi.typeIs;show wpAny _ _ (setField (.ref it) 1 (rawInt ((i:Int)+1))>>=_) _ _ s
 apply wpAny_bind;apply wpAny_setField k1 k3 (by simp)
 have hi2:(s.heap.update it (Obj.mapFields (·.setIfInBounds 1 (rawInt ((i:Int)+1))))).IsKeyIter it d (i+1) es.size ep:=⟨_,Heap.get?_update_self _ k1 (Obj.isFreed_of_fields (Obj.data_mapFields k3 _)),(Obj.cls_mapFields ..).trans k2,by rw[Obj.data_mapFields k3];simp[rawInt]⟩
 apply wpAny_bind;apply wpAny_holding;apply wpAny_bind
 apply wpAny_isOneOf_keyiter (s:={s with heap:=s.heap.update it (Obj.mapFields (·.setIfInBounds 1 (rawInt ((i:Int)+1)))) }) hi2.typeIs
 show wpAny _ _ (pure en.key) _ _ _;apply wpAny_pure;apply wpAny_pure;exact⟨_,rfl,wpAny_pure (q _ hi2 (Heap.SameBut.update ..))⟩
theorem GY{Q:Option Value->Shared->Prop}(hh:A.handled=none)(hi:s.heap.IsKeyIter it d i es.size ep)(h:RawD s.heap d es ep)(hx:es[i]?=none)
 (q:∀h',Heap.ExtBut it s.heap h'->Q none {s with heap:=h' }):wpAny (model prog w) A (pyNext (.ref it)) Q E s:=by
 obtain⟨u,k1,k2,k3⟩:=id hi
 obtain⟨o,g1,g2,g3⟩:=h
 unfold pyNext;apply wpAny_bind;apply wpAny_attempt;apply wpAny_callSpecial?_slot (name:=Str.ofString "__next__") hi.typeIs F.slot_dict_keyiterator_next
 apply wpAny_call_entry F.slot_dict_keyiterator_next hi.typeIs F.entry_dict_keyiterator_next _ (F.args_dict_keyiterator_next_1 _)
 apply wpAny_bind;apply wpAny_pure;apply wpAny_bind;apply wpAny_bind
 first|(apply wpAny_bind;apply wpAny_typeNameOfWhole_keyiter hi.typeIs;apply wpAny_pure)|(apply wpAny_bind;apply wpAny_typeNameOf_keyiter hi.typeIs;apply wpAny_pure)
 apply wpAny_bind;apply wpAny_fieldsOf k1 k3
 have no:Builtin.Dict_items.ownsTuple "dict_keyiterator" = false:=by decide
 simp only[no,eC,if_false];show wpAny _ _ (if(Value.ref d==Value.none)=true then _ else _) _ _ s
 rw[if_neg (show ¬((Value.ref d==Value.none)=true)from aK)];apply wpAny_bind;apply wpAny_pure
 apply wpAny_bind;apply wpAny_dictEntries g1 g3;rw[if_neg (by simp)];apply wpAny_bind;apply wpAny_pure
 apply wpAny_bind;apply wpAny_dictEpoch g1 g3;rw[if_neg (by simp)];apply wpAny_pure
 simp only[show ¬((i:Int)<0)from by lia,if_false,jQ,hx]
 apply wpAny_bind
 first|(apply wpAny_bind;apply wpAny_typeNameOfWhole_keyiter hi.typeIs;apply wpAny_pure)|(apply wpAny_bind;apply wpAny_typeNameOf_keyiter hi.typeIs;apply wpAny_pure)
 show wpAny _ _ (setField (.ref it) 0 .none>>=_) _ _ s;apply wpAny_bind;apply wpAny_setField k1 k3 (by simp)
 show wpAny _ _ (newExc (.type "StopIteration") []>>=_) _ _ _;apply wpAny_bind;simp only[newExc,newTuple]
 refine wpAny_bind (wpAny_newObj_type ?_ (by size_fits));refine wpAny_bind (m:=firstArgMember _ _) (wpAny_of_eq (a:=Value.none) (by first|rfl|(simp only[firstArgMember];rfl)) ?_)
 refine wpAny_newObj_type ?_ (by size_fits);simp only[raiseNew];apply wpAny_bind;apply wpAny_handled;rw[show A.in1.handled=none from hh]
 refine wpAny_bind (wpAny_pure (wpAny_throw ?_));refine wpAny_bind (wpAny_isInstance (b:=true) (T := "StopIteration") ⟨_,Heap.get?_push_size _ rfl,rfl⟩ isSubtype_stop ?_)
 exact wpAny_pure (q _ (((Heap.SameBut.update ..).extBut.push _).push _))
end
theorem uF{X:Cx}{pins:List (Addr×Obj)}{σ:L2.St}{H:Hp}{s:Shared}{a:Addr}{ps:List (List Key×V)}(I:Inv X pins σ H s)(h:H a=some (.dT ps)) :
 ∃o es ep,o.data=.dict es ep/\Inv X pins σ (L2.upd H a (.frz o (.dT ps))) s:=by
 have hk:=(show ObjOk X.prog X.w H s.heap a (.dT ps)from I.hok a _ h)
 obtain⟨e2,e3,xs,e4,o,es,ep,g1,g2,g3,g4⟩:=id hk
 have ne:∀{b u},H b=some u->u≠.dT ps->b≠a:=λx1 x2 z=>by rw[z,h]at x1;cases x1;exact x2 rfl
 refine⟨o,es,ep,g3,?_⟩
 refine I.step (h':=s.heap) (g':=s.gens) (d':=s.drawn) (t':=s.toks) (ch:=[]) (λb hb=>by cases hb) (λb u _ _ _ x1 _=>x1) (λb u _ _ _ x1 _=>⟨u.slots,x1⟩) (λb u _ x1 x2=>?_) (λb u _ x1=>⟨u,x1⟩) (λb xs x1=>?_) (λb v w x1=>?_) (λb ps x1=>⟨#[],?_⟩) (λm x1=>x1) (λb v x1=>?_) I.bare
 ·rw[aI (λz=>by rw[z,h]at x2;cases x2)];exact x2
 ·rw[aI (ne x1 (λz=>by cases z))];exact x1
 ·rw[aI (ne x1 (λz=>by cases z))];exact x1
 ·rw[aI (ne x1 (λz=>by cases z))];simpa using x1
 ·by_cases z:b=a
  ·rw[z,bY]at x1
   cases x1
   rw[z]
   exact⟨g1,e2,e3,xs,KT.keeps e4 λc ys ec=>by rw[aI (ne ec (λz=>by cases z))];exact ec,o,es,ep,g1,g2,g3,g4⟩
  ·rw[aI z]at x1
   exact(I.hok b v x1).stay (λc u _ y1=>y1) (λc y1=>by rw[aI (ne y1 (λz=>by cases z))];exact y1) λc xs y1=>by rw[aI (ne y1 (λz=>by cases z))];exact y1
noncomputable def Af(H:Hp)(a:Addr)(o:Obj)(n:Nat)(i:Nat)(x:Option V):Prop:=
 (∃ps:List (Key×V),H a=some (.frz o (.dK ps))/\ps.length=n/\x=(ps[i]?).map λq=>kV q.1) \/
 (∃ps:List (List Key×V),H a=some (.frz o (.dT ps))/\ps.length=n/\((ps[i]?=none/\x=none)\/∃q b,ps[i]?=some q/\x=some (.ref b)/\H b=some (.tup (q.1.map kV))))
noncomputable def Itk(a:Addr)(o:Obj)(n:Nat):It:=
 ⟨λi H=>(∃ps:List (Key×V),H a=some (.frz o (.dK ps))/\ps.length=n/\i<n)\/∃ps:List (List Key×V),H a=some (.frz o (.dT ps))/\ps.length=n/\i<n,λi H x H'=>H'=H/\Af H a o n i (some x),
  λi H=>((∃ps:List (Key×V),H a=some (.frz o (.dK ps))/\ps.length=n)\/∃ps:List (List Key×V),H a=some (.frz o (.dT ps))/\ps.length=n)/\n<=i⟩
section
variable{X:Cx}{pins:List (Addr×Obj)}{σ:L2.St}{H:Hp}{s:Shared}{a:Addr}{o:Obj}{es:Array DictEntry}{ep:Nat}
theorem uG{ps:List (Key×V)}(I:Inv X pins σ H s)(h:H a=some (.frz o (.dK ps)))(hd:o.data=.dict es ep):RawD s.heap a es ep/\(a==sysModules)=false/\es.size=ps.length/\∀(i:Nat)(q:Key×V),ps[i]?=some q->∃en:DictEntry,es[i]?=some en/\RelV (kV q.1) en.key:=by
 obtain⟨e1,e2,e3,vs,e4,o',es',ep',g1,g2,g3,g4,g5,g6⟩:=(show ObjOk X.prog X.w H s.heap a (.frz o (.dK ps))from I.hok a _ h)
 rw[e1]at g1
 cases g1
 rw[hd]at g3
 cases g3
 have hl:=e4.length
 have hs:es.size=ps.length:=by rw[hl,<-g5.length];simp
 refine⟨⟨o,e1,g2,hd⟩,e3,hs,λi q hq=>?_⟩
 obtain⟨u,hu⟩:=kv_get e4 (k:=q.1) (v:=q.2) hq
 have hi:i<es.size:=by
  rw[hs]
  by_cases z:i<ps.length
  ·exact z
  ·rw[mM (by lia)]at hq;cases hq
 exact⟨es[i],jO hi,GV (g5.get? (e:=es[i]) (by simp[hi]) hu).1⟩
theorem uH{ps:List (List Key×V)}(I:Inv X pins σ H s)(h:H a=some (.frz o (.dT ps)))(hd:o.data=.dict es ep):RawD s.heap a es ep/\(a==sysModules)=false/\es.size=ps.length/\∀(i:Nat)(q:List Key×V),ps[i]?=some q->∃(en:DictEntry)(b:Addr),es[i]?=some en/\en.key=.ref b/\H b=some (.tup (q.1.map kV)):=by
 obtain⟨e1,e2,e3,xs,e4,o',es',ep',g1,g2,g3,g4,g5⟩:=(show ObjOk X.prog X.w H s.heap a (.frz o (.dT ps))from I.hok a _ h)
 rw[e1]at g1
 cases g1
 rw[hd]at g3
 cases g3
 have hl:=Paired.length e4
 have hs:es.size=ps.length:=by rw[hl,<-eG,g4,aC]
 refine⟨⟨o,e1,g2,hd⟩,e3,hs,λi q hq=>?_⟩
 have get:∀{l:List (List Key×V)} {m:List (List Key×Addr×Value)},KT H l m->∀{i:Nat} {q:List Key×V},l[i]?=some q->∃z,m[i]?=some z/\H z.2.1=some (.tup (q.1.map kV)):=by
  intro l m k
  induction k with
  |nil=>intro i q z;simp at z
  |cons hq t ih=>
   intro i q z
   cases i with
   |zero=>cases z;exact⟨_,rfl,hq.2.1⟩
   |succ j=>exact ih (by simpa using z)
 obtain⟨z,hz,ht⟩:=get e4 hq
 refine⟨entryOfKey (tupleKind (bR X.prog X.w)) z,z.2.1,?_,rfl,ht⟩
 rw[<-iA,g4,bI,hz];rfl
end
theorem GZ{P:Program}{w:World}{K:PySem.W.Frag}{tg:Expr}{o:Obj}{es:Array DictEntry}{ep:Nat}(hd:o.data=.dict es ep)(a it:Addr)(n:Nat)(hn:es.size=n) :
 Turn P w K tg (Itk a o n) [it] it (λi h=>h.IsKeyIter it a i n ep) where
 mem:=by simp
 obj:=λi h st b hb=>by
  have e:b=it:=by simpa using hb
  subst e
  obtain⟨o,e,c,d⟩:=st
  exact⟨o,e,λv z=>by rw[d]at z;cases z⟩
 keep:=λi h h' st k=>by
  obtain⟨u,h1,h2⟩:=st
  exact⟨u,k it (by simp) u h1,h2⟩
 item:=by
  intro X hP hw hK hc i pins s σ H E I hf st hg
  subst hP hw hK hn
  obtain⟨f0,f1,f2,f3,f4,f5⟩:=hf it (by simp)
  have fin:∀en,RawD s.heap a es ep->es[i]?=some en->(∃x,RelV x en.key/\Af H a o es.size i (some x))->wpAny (model X.prog X.w) X.A (pyNext (.ref it)) (λr s1=>∃u,r=some u /\
   wpAny (model X.prog X.w) X.A (letOwnedTupleGo tg (.ref it) u) (λ_ s2=>∃x H',Inv X pins σ H' s2/\RelV x u/\(Itk a o es.size).yld i H x H'/\s2.heap.IsKeyIter it a (i+1) es.size ep/\∀b∈[it],H' b=none) E s1) E s:=by
   intro en rw' hx ⟨x,r1,r2⟩
   refine GX st rw' hx λh' st2 sb=>?_
   have I1:Inv X pins σ H {s with heap:=h' }:=I.turned (t':=s.toks) (λb o hb e=>(sb.2 b hb).trans e) f0 f1 f3 f4 f5
   obtain⟨o',e,c,d⟩:=id st2
   exact⟨_,rfl,mP (s:={s with heap:=h' }) e c d (by decide) ⟨x,H,I1,r1,⟨rfl,r2⟩,st2,λb hb=>(hf b hb).1⟩⟩
  rcases hg with⟨ps,h1,h2,h3⟩|⟨ps,h1,h2,h3⟩
  ·obtain⟨x1,x2,x3,x4⟩:=uG I h1 hd
   obtain⟨en,y1,y2⟩:=x4 i ps[i] (aH (by lia))
   exact fin en x1 y1 ⟨_,y2,.inl ⟨ps,h1,h2,by rw[aH (by lia)];rfl⟩⟩
  ·obtain⟨x1,x2,x3,x4⟩:=uH I h1 hd
   obtain⟨en,b,y1,y2,y3⟩:=x4 i ps[i] (aH (by lia))
   exact fin en x1 y1 ⟨.ref b,by rw[y2];rfl,.inr ⟨ps,h1,h2,.inr ⟨_,b,aH (by lia),rfl,y3⟩⟩⟩
 done:=by
  intro X hP hw hK hc i pins s σ H E I hf st hg
  subst hP hw hK hn
  obtain⟨f0,f1,f2,f3,f4,f5⟩:=hf it (by simp)
  obtain⟨hg,hi⟩:=hg
  have rw':RawD s.heap a es ep:=by
   rcases hg with⟨ps,h1,h2⟩|⟨ps,h1,h2⟩
   ·exact(uG I h1 hd).1
   ·exact(uH I h1 hd).1
  exact GY (I.ok.hd hc) st rw' (Dh hi) λh' eb=>⟨rfl,I.turned (t':=s.toks) (λb o hb e=>eb b o hb e) f0 f1 f3 f4 f5⟩
 self:=λ_ _ _ _ _ st h=>wpAny_pyIter_keyiter st h
section
variable{prog:Program}{w:World}{A:Around}{E:Value->Shared->Prop}{s:Shared}{l:Addr}{its:List Value}{n:Nat}
theorem G0 {k:Int} {t:Tok} {Q:Value->Shared->Prop} {dd:Option Addr} {sl:Array (Option Value)} (hl:s.heap.get? l=some {cls:=.type "list", dict:=dd,data:=.seq its.toArray n,slots:=sl}) (h1:its.length=1) (hk:0<=k/\k<=1000)
 (h:Q (.ref s.heap.objs.size) {s with heap:=s.heap.push {cls:=.type "list", data:=.seq (aM k.toNat its).flatten.toArray} }):wpAny (model prog w) A (binaryOp .Mult (.ref l) (.int k t)) Q E s:=by
 have hsz:its.toArray.size=1:=by rw[aQ];exact h1
 have hne:its.toArray.isEmpty=false:=by
  cases its with
  |nil=>cases h1
  |cons _ _=>rfl
 have hf:List.foldl (λx1 x2=>x1++x2) #[] (aM (if its.toArray.isEmpty=true then 0 else k.toNat) its.toArray)=(aM k.toNat its).flatten.toArray:=by
  rw[hne,if_neg aK]
  have:=zI its k.toNat []
  rw[sS]at this
  exact this
 have ty:s.TypeIs (.ref l) "list" := ⟨_,hl,rfl⟩
 apply wpAny_binaryOp_repeat_ref (T := "list") (U := "int") (by decide) ty (λs'=>typeIs_int s' k t) PySem.noFill_list_mul PySem.F.fills_int_mul PySem.F.slot_int_rmul PySem.repeat_list PySem.F.slot_int_index.lookup
 apply call_meets PySem.F.slot_int_rmul (typeIs_int s k t) PySem.F.entry_int_rmul (PySem.F.args_int_rmul_2 _ _) (lm_int_rmul_list_any k t l its.toArray n dd sl)
 refine⟨hl,rfl,ty,call_meets PySem.F.slot_list_mul ty PySem.F.entry_list_mul (PySem.F.args_list_mul_2 _ _) (lm_list_mul_any l its.toArray n dd sl k t (by simp[Builtin.List.listFitsIndex];lia) (by rw[hsz];lia) (by rw[hsz];simp[Builtin.List.listTooLong,sizeLine];lia)) ⟨hl,?_⟩⟩
 rw[hf]
 exact h
end
section
variable{prog:Program}{w:World}{A:Around}{E:Value->Shared->Prop}{s:Shared}{r:Addr}{a b c:Int}{t u v:Tok}{n:Nat}
theorem G1{Q:List Value->Shared->Prop}(hh:A.handled=none)(hr:IsRange s.heap r a b c t u v)(sm:Builtin.Range.small a b c=true)(hn:Builtin.Range.rangeSize a b c=n)(hl:n<=2^24)
 (q:∀h' tk acc,(∀x o,s.heap.get? x=some o->h'.get? x=some o)->ItemsOf (λi v=>∃t,v=.int (a+i*c) t) acc n->Q acc.toList {s with heap:=h',toks:=tk}):wpAny (model prog w) A (collect (.ref r)) Q E s:=by
 unfold collect;refine wpAny_bind (wpAny_runValue (codeAny_builtin F.entry_proto_collect ?_));rw[Around.under_plainId F.plain_proto_collect _]
 show wpAny _ A.in1 (newList []>>=λl=>again (.builtin "list.__iadd__" ⟨[l,.ref r],[]⟩)) _ _ s;refine wpAny_bind (wpAny_newObj_type ?_)
 refine wpAny_pure ⟨plainId_quiet F.plain_list_iadd _,codeAny_builtin F.entry_list_iadd ?_⟩;rw[Around.under_plainId F.plain_list_iadd _]
 have hS:(s.heap.push {cls:=.type "list", data:=.seq ([]:List Value).toArray}).get? s.heap.objs.size=some {cls:=.type "list", data:=.seq #[] }:=Heap.get?_push_size _ rfl
 have hr2:=Heap.get?_push_of_some {cls:=.type "list", data:=.seq ([]:List Value).toArray} hr
 show wpAny _ A.in1 (Builtin.List.listExtendWith (.ref s.heap.objs.size) (.ref r) (.ref s.heap.objs.size)) _ _ _
 have fin:∀h' tk acc c',(∀x o,x≠s.heap.objs.size->(s.heap.push {cls:=.type "list", data:=.seq ([]:List Value).toArray}).get? x=some o->h'.get? x=some o)->h'.get? s.heap.objs.size=some {cls:=.type "list", dict:=none,data:=.seq acc c',slots:=#[] }->ItemsOf (λi v=>∃t,v=.int (a+i*c) t) acc n ->
  wpAny (model prog w) A (load s.heap.objs.size>>=λo=>match o.data with | .seq xs _=>pure xs.toList|_=>unsupported "internal:collect") Q E {s with heap:=h',toks:=tk}:=λh' tk acc c' hk hS' hacc=>by
  refine wpAny_bind (wpAny_load hS' ?_)
  exact wpAny_pure (q h' tk acc (λx o e=>hk x o (bD (Heap.lt_size e)) (Heap.get?_push_of_some _ e)) hacc)
 refine wpAny_mono (wpAny_extend_range (prog:=prog) (w:=w) (A:=A) (R:=λr s'=>r=.ok (.ret (.ref s.heap.objs.size))/\wpAny (model prog w) A (load s.heap.objs.size>>=λo=>match o.data with | .seq xs _=>pure xs.toList|_=>unsupported "internal:collect") Q E s') (s:={s with heap:=s.heap.push {cls:=.type "list", data:=.seq ([]:List Value).toArray} }) hh hr2 sm hn hl _ _ _ hS λh' tk acc c' hk hS' hacc=>⟨rfl,fin h' tk acc c' hk hS' hacc⟩) (λf s' hf=>?_) (λe s' he=>by cases he.1)
 cases f with
 |done f=>
  obtain⟨e,hf⟩:=hf
  cases e
  exact hf
 |again c'=>
  refine⟨hf.1,codeAny_mono hf.2 λr s' hr=>?_⟩
  obtain⟨e,hr⟩:=hr
  subst e
  exact hr
theorem G2(r:Addr)(a b c:Int)(t u v:Tok)(n:Nat)(sm:Builtin.Range.small a b c=true)(hn:Builtin.Range.rangeSize a b c=n)(hl:n<=2^24)(hz:n<=sizeLine) :
 Meets (Builtin.«tuple.__new__» ⟨[.type "tuple", .ref r],[]⟩) (λA R s=>A.handled=none/\IsRange s.heap r a b c t u v/\∀(h':Heap) (tk:Nat) (acc:Array Value),(∀b o,s.heap.get? b=some o->h'.get? b=some o)->ItemsOf (λi v=>∃t,v=.int (a+i*c) t) acc n ->
  R (.ok (.ret (.ref h'.objs.size))) {s with heap:=h'.push {cls:=.type "tuple", data:=.seq acc},toks:=tk}):=
 .of_wp λprog w A R s h=>by
  obtain⟨h1,hr,h⟩:=h
  have e1:=sub_tuple_self
  have e2:=init_tuple_lookup
  have e3:=madeHere_tuple
  have ty:s.TypeIs (.ref r) "range" := ⟨_,hr,rfl⟩
  have h2:A.in1.handled=none:=h1
  wp_walk using wpAny_typeOf ty,G1 h2 hr sm hn hl
  intro h' tk acc hk hacc
  show wpAny _ _ (Builtin.Tuple.tupleExact acc.toList.toArray>>=λv=>ret v) _ _ _;unfold Builtin.Tuple.tupleExact
  have e:acc.toList.toArray=acc:=by simp
  refine wpAny_bind (wpAny_newObj_type ?_ (by show acc.toList.toArray.size<=sizeLine;rw[e,hacc.1];exact hz));refine wpAny_pure ⟨_,rfl,?_⟩
  rw[e];exact h h' tk acc hk hacc
theorem G3{Q:Value->Shared->Prop}(hh:A.handled=none)(hr:IsRange s.heap r a b c t u v)(sm:Builtin.Range.small a b c=true)(hn:Builtin.Range.rangeSize a b c=n)(hl:n<=2^24)(hz:n<=sizeLine)
 (h:∀(h':Heap) (tk:Nat) (acc:Array Value),(∀b o,s.heap.get? b=some o->h'.get? b=some o)->ItemsOf (λi v=>∃t,v=.int (a+i*c) t) acc n->Q (.ref h'.objs.size) {s with heap:=h'.push {cls:=.type "tuple", data:=.seq acc},toks:=tk}) :
 wpAny (model prog w) A (call (.type "tuple") [.ref r]) Q E s:=by
 apply callType_new F.called_tuple (by decide) (F.typeCall_tuple_1 _) (F.newCall_tuple_1 _) (λobj=>F.args_object_init_2 obj _) F.entry_tuple_new (G2 r a b c t u v n sm hn hl hz)
 exact⟨hh,hr,λh' tk acc hk hacc=>⟨⟨_,Heap.get?_push_size _ rfl,rfl⟩,h h' tk acc hk hacc⟩⟩
end
theorem G4 {X:Cx} (hc:X.calm=true):bZ X (.type "tuple") (λvs H Q=>∃p n,vs=[.ref p]/\H p=some (.rng 0 n) /\ -(2^62)<=n/\n<2^62/\n<=1000/\∀l,H l=none->Q (.ref l) (upd H l (.tup ((aA n.toNat).map λi:Nat=>V.int (0+(i:Nat)))))):=by
 intro pins s σ H vs us Q I rv h
 obtain⟨p,n,rfl,hH,h1,h2,h3,q⟩:=h
 obtain⟨u,rfl,ru⟩:=rv.one
 cases ru
 obtain⟨t,u,v,hr⟩:=I.hok p _ hH
 have hz:n.toNat<=sizeLine:=by rw[sizeLine_eq];lia
 refine G3 (n:=n.toNat) (I.ok.hd hc) hr (small_one (by lia) (by lia) h1 h2) (by rw[rangeSize_one];split<;>lia) (by lia) hz λh' tk acc hk hacc=>?_
 have I1:=I.kept (t':=tk) hk
 have sz:({s with heap:=h',toks:=tk}:Shared).heap.objs.size=h'.objs.size:=rfl
 refine⟨.ref h'.objs.size,_,I1.laid (t':=tk) (λb o e=>Heap.get?_push_of_some _ e) (aF _) ?_,rfl,q _ (I1.hok.fresh (aF _))⟩
 refine⟨by simpa using hz,acc.toList,Fg (by simpa using hacc.1) (λj v hv=>?_),⟨_,Heap.get?_push_size _ rfl,rfl,0,by simp⟩⟩
 exact hacc.2 j v (by simpa using hv)
end Tr
namespace Tr
open PySem PySem.Spec PyProof.Rows L2 PySem.W
section
variable{α β:Type}
end
section
variable{P:Program}{w:World}{H H':Hp}{h h':Heap}{a:Addr}{o:HO}
end
noncomputable def CXE(P:Program)(w:World):CXT:=λouter H s E ev s'=>∃(ea:Addr)(cls a0:Value)(H':Hp)(B:Heap),ev=.ref ea/\s'.os=s.os/\AllBare s'.gens/\Un (frs outer) [] H H' s.heap s'.heap/\HOk P w H' s'.heap /\
 s.heap.get? ea=none/\H' ea=none/\Heap.FlyingW B outer ea cls a0 s'.heap/\(∀b o,s.heap.get? b=some o->b∉frs outer->∃u,B.get? b=some u)/\(∀b o,H' b=some o->∃u,B.get? b=some u)/\∃od,(∃oe,s'.heap.get? ea=some oe/\oe.dict=od)/\E cls od H'
theorem Ag{P:Program}{w:World}{X:Cx}:oS (CXE P w) X E0:=by
 intro _ _ _ _ _ _ _ h
 obtain⟨_,_,_,_,_,_,_,_,_,_,_,_,_,_,_,_,_,z⟩:=h
 exact z.elim
section
variable{P:Program}{w:World}{K:PySem.W.Frag}{mg:Str->Option Value}{base:Heap}{N:List Str}{qual:Str}{scope:Scope}{f:Addr}{cd:Value}{A:Around}{outer:List Env}{s₀:Shared}{H₀:Hp}{E:XK}
end
noncomputable abbrev bmV:List Value:=[.type "ValueError", .type "Exception", .type "BaseException", .type "object"]
section
variable{M:Model}{A:Around}{E:Value->Shared->Prop}{h:Heap}{g:Array GenState}{d:Drawn}{t:Nat}{os:OsState}
variable{nm q:Str}{C N:Addr}{bs bm:List Value}{hdct:Bool}{sn:List Str}{sub:List Value}{ab:Bool}{col:Option Bool}{dd:Option Addr}{k0 k1 k2 k3 k5:Option Value}{newId:String}
variable{nm' q':Str}{C' N':Addr}{bs' bm':List Value}{hdct':Bool}{sn':List Str}{sub':List Value}{ab':Bool}{col':Option Bool}{dd':Option Addr}{k0' k1' k2' k3' k5':Option Value}{newId':String}
end
section
variable{X:Cx}{pins:List (Addr×Obj)}{σ:L2.St}{H:Hp}{s:Shared}
end
section
variable{X:Cx}{pins:List (Addr×Obj)}{σ:L2.St}{H:Hp}{s s':Shared}
end
noncomputable abbrev newV:String := "ValueError.__new__"
noncomputable def cvK(K:PySem.W.Frag)(c:Str):Value:=match nsIn K mainGlobals c with
 |some (some v)=>v
 |_=>.none
structure ClsIs(K:PySem.W.Frag)(mg:Str->Option Value)(c:Str)(C:Addr):Prop where
 bound:mg c=some (.ref C)
 cv:cvK K c=.ref C
 exc:excIn K C bmV newV=true
end Tr
namespace Tr
open PySem PySem.Spec PyProof.Rows L2 PySem.W Builtin Builtin.ObjectAttr Builtin.Getset_descriptor
section
variable{prog:Program}{w:World}{A:Around}{E:Value->Shared->Prop}{K:PySem.W.Frag}{a C:Addr}{o:Obj}
end
end Tr
namespace Tr
open PySem PySem.Spec PyProof.Rows L2 PySem.W
section
variable{X:Cx}{pins:List (Addr×Obj)}{σ:L2.St}{H:Hp}{s:Shared}
end
section
variable{X:Cx}{body:List Stmt}{pos:Pos}{h₀:ExceptHandler}{hs:List ExceptHandler}
end
section
variable{prog:Program}{w:World}{A:Around}{E:Value->Shared->Prop}{h:Heap}{g:Array GenState}{d:Drawn}{t:Nat}{os:OsState}
variable{nm q:Str}{C N:Addr}{bs bm bmB:List Value}{hdct:Bool}{sn:List Str}{sub:List Value}{ab:Bool}{col:Option Bool}{dd:Option Addr}{k0 k1 k2 k3 k5:Option Value}{B Bn newId nid initId inN:String}{bmN:List Value}
end
section
variable{prog:Program}{w:World}{A:Around}{E:Value->Shared->Prop}{s:Shared}{env:Env}
variable{nm q:Str}{C N:Addr}{bs bm bmB:List Value}{hdct:Bool}{sn:List Str}{sub:List Value}{ab:Bool}{col:Option Bool}{dd:Option Addr}{k0 k1 k2 k3 k5:Option Value}{B Bn newId nid initId inN:String}{bmN:List Value}
end
end Tr
namespace Tr
open PySem PySem.Spec PyProof.Rows L2 PySem.W Builtin Builtin.ObjectAttr
section
variable{prog:Program}{w:World}{A:Around}{E:Value->Shared->Prop}{K:PySem.W.Frag}{h:Heap}{g:Array GenState}{d:Drawn}{tok:Nat}{os:OsState}
variable{nm q:Str}{C N x t:Addr}{bs bm:List Value}{sn:List Str}{sub:List Value}{ab:Bool}{col:Option Bool}{dd:Option Addr}{k0 k1 k2 k3 k5:Option Value}{newId:String}{name:Str}{v:Value}
end
end Tr
namespace Tr
open PySem PySem.Spec PyProof.Rows L2 PySem.W Builtin Builtin.ObjectAttr Builtin.Getset_descriptor
section
variable{prog:Program}{w:World}{A:Around}{E:Value->Shared->Prop}{K:PySem.W.Frag}{a C dx:Addr}{o:Obj}{name:Str}{v:Value}{m:Str->Option Value}
variable{nm q:Str}{N:Addr}{bs bm:List Value}{sn:List Str}{sub:List Value}{ab:Bool}{col:Option Bool}{dd:Option Addr}{k0 k1 k2 k3 k5:Option Value}{newId:String}
end
end Tr
namespace Tr
open PySem PySem.Spec PyProof.Rows L2 PySem.W
noncomputable def initIn(K:PySem.W.Frag)(C fI:Addr):Bool:=match K.lookup C with
 |some ⟨.type "type", _,.cls cd,sl⟩=>(match cd.mro,sl.toList with
  |.ref C'::bm,[_,_,_,_,some (.builtin n),_]=>C'==C&&(n==newV&&(!cd.hasDel&&(tailIn K bmV bm&&(nsOkIn K cd.ns&&(nsIn K cd.ns "__init__" == some (some (.ref fI))&&cd.hasDict)))))
  |_,_=>false)
 |_=>false
structure InitCls(K:PySem.W.Frag)(C fI:Addr)(f:Str):Prop where
 obj:initIn K C fI=true
 sa:findIn K (.ref C) "__setattr__" = some (some (.builtin "object.__setattr__"))
 no:findIn K (.ref C) f=some none
section
variable{X:Cx}
end
end Tr
namespace Tr
open PySem PySem.Spec PyProof.Rows L2
noncomputable def ModL(K:PySem.W.Frag)(a:Addr)(xs:List V):Prop:=
 ∃(o:Obj) (its:Array Value) (n:Nat),K.lookup a=some o/\o.cls=.type "list" /\ o.dict=none/\o.data=.seq its n/\its.size<=sizeLine/\Vals xs its.toList
noncomputable def ModT(K:PySem.W.Frag)(a:Addr)(xs:List V):Prop:=(∃ss:List Str,ss≠[]/\xs=ss.map V.str) /\
 ∃(o:Obj) (its:Array Value) (n:Nat),K.lookup a=some o/\o.cls=.type "tuple" /\ o.data=.seq its n/\its.size<=sizeLine/\Vals xs its.toList
noncomputable def TupV(K:PySem.W.Frag)(H:Hp)(a:Addr)(xs:List V):Prop:=H a=some (.tup xs)\/ModT K a xs
theorem TupV.sq{K:PySem.W.Frag}{H:Hp}{a:Addr}{xs:List V}(h:TupV K H a xs):SqT K H a xs:=h.imp (λq=>.inl q) λq=>q.2
mutual
noncomputable def RD(K:PySem.W.Frag)(H:Hp)(O:Addr->Prop):D->V->Prop
 |.non,v=>v=.non
 |.bl b,v=>v=.bl b
 |.int i,v=>v=.int i
 |.str x,v=>v=.str x
 |.tup ds,v=>∃a xs,v=.ref a/\TupV K H a xs/\RDs K H O ds xs
 |.lst ds,v=>∃a xs,v=.ref a/\((¬O a/\Rd H a (.lst xs))\/ModL K a xs)/\RDs K H O ds xs
 |.dct kvs,v=>∃a ps,v=.ref a/\(∃o,H a=some (.frz o (.dK ps)))/\RDk K H O kvs ps
 |.tdc kvs,v=>∃a ps,v=.ref a/\(∃o,H a=some (.frz o (.dT ps)))/\RDt K H O kvs ps
noncomputable def RDs(K:PySem.W.Frag)(H:Hp)(O:Addr->Prop):List D->List V->Prop
 |[],xs=>xs=[]
 |d::ds,xs=>∃v r,xs=v::r/\RD K H O d v/\RDs K H O ds r
noncomputable def RDk(K:PySem.W.Frag)(H:Hp)(O:Addr->Prop):List (Sum Int Str×D)->List (Key×V)->Prop
 |[],xs=>xs=[]
 |(k,d)::ds,xs=>∃v r,xs=(k,v)::r/\RD K H O d v/\RDk K H O ds r
noncomputable def RDt(K:PySem.W.Frag)(H:Hp)(O:Addr->Prop):List (List (Sum Int Str)×D)->List (List Key×V)->Prop
 |[],xs=>xs=[]
 |(k,d)::ds,xs=>∃v r,xs=(k,v)::r/\RD K H O d v/\RDt K H O ds r
end
noncomputable def OwnAt(K:PySem.W.Frag)(H:Hp)(O:Addr->Prop)(a:Addr):D->Prop
 |.lst ds=>∃xs,H a=some (.lst xs)/\RDs K H O ds xs
 |.dct kvs=>∃ps,H a=some (.dK ps)/\RDk K H O kvs ps
 |.tdc kvs=>∃ps,H a=some (.dT ps)/\RDt K H O kvs ps
 |_=>False
noncomputable def RR(K:PySem.W.Frag)(H:Hp)(O:Addr->Prop)(d:D)(v:V):Prop:=
 RD K H O d v\/∃a,v=.ref a/\OwnAt K H O a d
noncomputable def RRs(K:PySem.W.Frag)(H:Hp)(O:Addr->Prop):List D->List V->Prop
 |[],xs=>xs=[]
 |d::ds,xs=>∃v r,xs=v::r/\RR K H O d v/\RRs K H O ds r
section
variable{K:PySem.W.Frag}{H H':Hp}{O O':Addr->Prop}
mutual
theorem RD.map(ht:∀a xs,TupV K H a xs->TupV K H' a xs)(hl:∀a xs,¬O a->Rd H a (.lst xs)->¬O' a/\Rd H' a (.lst xs))(hd:∀a o u,H a=some (.frz o u)->H' a=some (.frz o u)):∀{d:D} {v:V},RD K H O d v->RD K H' O' d v
 |.non,_,h=>h
 |.bl _,_,h=>h
 |.int _,_,h=>h
 |.str _,_,h=>h
 |.tup ds,v,h=>by
  obtain⟨a,xs,e,s,r⟩:=h
  exact⟨a,xs,e,ht a xs s,RDs.map ht hl hd r⟩
 |.lst ds,v,h=>by
  obtain⟨a,xs,e,s,r⟩:=h
  refine⟨a,xs,e,?_,RDs.map ht hl hd r⟩
  rcases s with⟨s1,s2⟩|s
  ·exact .inl (hl a xs s1 s2)
  ·exact .inr s
 |.dct kvs,v,h=>by
  obtain⟨a,ps,e,⟨o,s⟩,r⟩:=h
  exact⟨a,ps,e,⟨o,hd a _ _ s⟩,RDk.map ht hl hd r⟩
 |.tdc kvs,v,h=>by
  obtain⟨a,ps,e,⟨o,s⟩,r⟩:=h
  exact⟨a,ps,e,⟨o,hd a _ _ s⟩,RDt.map ht hl hd r⟩
theorem RDs.map(ht:∀a xs,TupV K H a xs->TupV K H' a xs)(hl:∀a xs,¬O a->Rd H a (.lst xs)->¬O' a/\Rd H' a (.lst xs))(hd:∀a o u,H a=some (.frz o u)->H' a=some (.frz o u)):∀{ds:List D} {vs:List V},RDs K H O ds vs->RDs K H' O' ds vs
 |[],_,h=>h
 |d::ds,vs,h=>by
  obtain⟨v,r,e,h1,h2⟩:=h
  exact⟨v,r,e,RD.map ht hl hd h1,RDs.map ht hl hd h2⟩
theorem RDk.map(ht:∀a xs,TupV K H a xs->TupV K H' a xs)(hl:∀a xs,¬O a->Rd H a (.lst xs)->¬O' a/\Rd H' a (.lst xs))(hd:∀a o u,H a=some (.frz o u)->H' a=some (.frz o u)):∀{ds:List (Sum Int Str×D)} {vs:List (Key×V)},RDk K H O ds vs->RDk K H' O' ds vs
 |[],_,h=>h
 |(k,d)::ds,vs,h=>by
  obtain⟨v,r,e,h1,h2⟩:=h
  exact⟨v,r,e,RD.map ht hl hd h1,RDk.map ht hl hd h2⟩
theorem RDt.map(ht:∀a xs,TupV K H a xs->TupV K H' a xs)(hl:∀a xs,¬O a->Rd H a (.lst xs)->¬O' a/\Rd H' a (.lst xs))(hd:∀a o u,H a=some (.frz o u)->H' a=some (.frz o u)):∀{ds:List (List (Sum Int Str)×D)} {vs:List (List Key×V)},RDt K H O ds vs->RDt K H' O' ds vs
 |[],_,h=>h
 |(k,d)::ds,vs,h=>by
  obtain⟨v,r,e,h1,h2⟩:=h
  exact⟨v,r,e,RD.map ht hl hd h1,RDt.map ht hl hd h2⟩
end
theorem Rd.same(s:Same H H'){a:Addr}{u:HO}(h:Rd H a u):Rd H' a u:=by
 rcases h with h|⟨o,h⟩
 ·exact .inl (s _ _ h)
 ·exact .inr ⟨o,s _ _ h⟩
theorem TupV.same(s:Same H H'){a:Addr}{xs:List V}(h:TupV K H a xs):TupV K H' a xs:=h.imp (λq=>s _ _ q) id
theorem RD.same(s:Same H H'){d:D}{v:V}(h:RD K H O d v):RD K H' O d v:=RD.map (λ_ _ q=>TupV.same s q) (λ_ _ n q=>⟨n,Rd.same s q⟩) (λ_ _ _ q=>s _ _ q) h
theorem RDk.same(s:Same H H'){d:List (Sum Int Str×D)}{v:List (Key×V)}(h:RDk K H O d v):RDk K H' O d v:=RDk.map (λ_ _ q=>TupV.same s q) (λ_ _ n q=>⟨n,Rd.same s q⟩) (λ_ _ _ q=>s _ _ q) h
theorem RDt.same(s:Same H H'){d:List (List (Sum Int Str)×D)}{v:List (List Key×V)}(h:RDt K H O d v):RDt K H' O d v:=RDt.map (λ_ _ q=>TupV.same s q) (λ_ _ n q=>⟨n,Rd.same s q⟩) (λ_ _ _ q=>s _ _ q) h
theorem RDs.same(s:Same H H'){d:List D}{v:List V}(h:RDs K H O d v):RDs K H' O d v:=RDs.map (λ_ _ q=>TupV.same s q) (λ_ _ n q=>⟨n,Rd.same s q⟩) (λ_ _ _ q=>s _ _ q) h
theorem RD.weak(s:∀a,O' a->O a){d:D}{v:V}(h:RD K H O d v):RD K H O' d v:=RD.map (λ_ _ q=>q) (λa _ n q=>⟨λz=>n (s a z),q⟩) (λ_ _ _ q=>q) h
theorem RDk.weak(s:∀a,O' a->O a){d:List (Sum Int Str×D)}{v:List (Key×V)}(h:RDk K H O d v):RDk K H O' d v:=RDk.map (λ_ _ q=>q) (λa _ n q=>⟨λz=>n (s a z),q⟩) (λ_ _ _ q=>q) h
theorem RDt.weak(s:∀a,O' a->O a){d:List (List (Sum Int Str)×D)}{v:List (List Key×V)}(h:RDt K H O d v):RDt K H O' d v:=RDt.map (λ_ _ q=>q) (λa _ n q=>⟨λz=>n (s a z),q⟩) (λ_ _ _ q=>q) h
theorem RDs.weak(s:∀a,O' a->O a){d:List D}{v:List V}(h:RDs K H O d v):RDs K H O' d v:=RDs.map (λ_ _ q=>q) (λa _ n q=>⟨λz=>n (s a z),q⟩) (λ_ _ _ q=>q) h
noncomputable def cS(O:Addr->Prop)(p:Addr):Addr->Prop:=λa=>O a\/a=p
noncomputable def pL(O:Addr->Prop)(p:Addr):Addr->Prop:=λa=>O a/\a≠p
theorem Rd.ne{p a:Addr}{u:HO}(hp:H p=none)(h:Rd H a u):a≠p:=by
 rcases h with h|⟨o,h⟩<;>exact fH h hp
theorem RD.new{p:Addr}(hp:H p=none){d:D}{v:V}(h:RD K H O d v):RD K H (cS O p) d v:=
 RD.map (λ_ _ q=>q) (λa _ n q=>⟨λz=>z.elim n (Rd.ne hp q),q⟩) (λ_ _ _ q=>q) h
theorem RDk.new{p:Addr}(hp:H p=none){d:List (Sum Int Str×D)}{v:List (Key×V)}(h:RDk K H O d v):RDk K H (cS O p) d v:=
 RDk.map (λ_ _ q=>q) (λa _ n q=>⟨λz=>z.elim n (Rd.ne hp q),q⟩) (λ_ _ _ q=>q) h
theorem RDt.new{p:Addr}(hp:H p=none){d:List (List (Sum Int Str)×D)}{v:List (List Key×V)}(h:RDt K H O d v):RDt K H (cS O p) d v:=
 RDt.map (λ_ _ q=>q) (λa _ n q=>⟨λz=>z.elim n (Rd.ne hp q),q⟩) (λ_ _ _ q=>q) h
theorem RDs.new{p:Addr}(hp:H p=none){d:List D}{v:List V}(h:RDs K H O d v):RDs K H (cS O p) d v:=
 RDs.map (λ_ _ q=>q) (λa _ n q=>⟨λz=>z.elim n (Rd.ne hp q),q⟩) (λ_ _ _ q=>q) h
noncomputable def gG:HO->Prop
 |.lst _=>True
 |.dK _=>True
 |.dT _=>True
 |_=>False
theorem dR{p:Addr}{o o':HO}(hO:O p)(hp:H p=some o)(hm:gG o):(∀a xs,TupV K H a xs->TupV K (upd H p o') a xs)/\(∀a xs,¬O a->Rd H a (.lst xs)->¬O a/\Rd (upd H p o') a (.lst xs))/\∀a o1 u,H a=some (.frz o1 u)->upd H p o' a=some (.frz o1 u):=by
 refine⟨λa xs h=>?_,λa xs n h=>⟨n,?_⟩,λa o1 u h=>?_⟩
 ·rcases h with h|h
  ·exact .inl (by rw[aI (kS h hp (by intro z;subst z;exact hm))];exact h)
  ·exact .inr h
 ·have e:a≠p:=λz=>n (z▸hO)
  rcases h with h|⟨o,h⟩
  ·exact .inl (by rw[aI e];exact h)
  ·exact .inr ⟨o,by rw[aI e];exact h⟩
 ·rw[aI (kS h hp (by intro z;subst z;exact hm))];exact h
theorem RD.updM{p:Addr}{o o':HO}(hO:O p)(hp:H p=some o)(hm:gG o){d:D}{v:V}(h:RD K H O d v):RD K (L2.upd H p o') O d v:=RD.map (dR (K:=K) hO hp hm).1 (dR (K:=K) hO hp hm).2.1 (dR (K:=K) hO hp hm).2.2 h
theorem RDs.updM{p:Addr}{o o':HO}(hO:O p)(hp:H p=some o)(hm:gG o){d:List D}{v:List V}(h:RDs K H O d v):RDs K (L2.upd H p o') O d v:=RDs.map (dR (K:=K) hO hp hm).1 (dR (K:=K) hO hp hm).2.1 (dR (K:=K) hO hp hm).2.2 h
theorem RDk.updM{p:Addr}{o o':HO}(hO:O p)(hp:H p=some o)(hm:gG o){d:List (Sum Int Str×D)}{v:List (Key×V)}(h:RDk K H O d v):RDk K (L2.upd H p o') O d v:=RDk.map (dR (K:=K) hO hp hm).1 (dR (K:=K) hO hp hm).2.1 (dR (K:=K) hO hp hm).2.2 h
theorem RDt.updM{p:Addr}{o o':HO}(hO:O p)(hp:H p=some o)(hm:gG o){d:List (List (Sum Int Str)×D)}{v:List (List Key×V)}(h:RDt K H O d v):RDt K (L2.upd H p o') O d v:=RDt.map (dR (K:=K) hO hp hm).1 (dR (K:=K) hO hp hm).2.1 (dR (K:=K) hO hp hm).2.2 h
theorem RD.upd{p:Addr}{ys zs:List V}(hO:O p)(hp:H p=some (.lst ys)){d:D}{v:V}(h:RD K H O d v):RD K (L2.upd H p (.lst zs)) O d v:=RD.updM hO hp trivial h
theorem RDs.upd{p:Addr}{ys zs:List V}(hO:O p)(hp:H p=some (.lst ys)){d:List D}{v:List V}(h:RDs K H O d v):RDs K (L2.upd H p (.lst zs)) O d v:=RDs.updM hO hp trivial h
theorem RDs.length:∀{ds:List D} {vs:List V},RDs K H O ds vs->vs.length=ds.length
 |[],_,h=>by rw[RDs]at h;rw[h];rfl
 |d::ds,vs,h=>by
  obtain⟨v,r,e,_,h2⟩:=h
  rw[e,aN,aN,RDs.length h2]
theorem RDs.get:∀{ds:List D} {vs:List V} {i:Nat} {d:D},RDs K H O ds vs->ds[i]?=some d->∃v,vs[i]?=some v/\RD K H O d v
 |[],_,_,_,_,e=>by simp at e
 |d::ds,vs,0,d',h,e=>by
  obtain⟨v,r,rfl,h1,_⟩:=h
  simp at e;subst e
  exact⟨v,rfl,h1⟩
 |d::ds,vs,i+1,d',h,e=>by
  obtain⟨v,r,rfl,_,h2⟩:=h
  obtain⟨w,h3,h4⟩:=RDs.get (i:=i) h2 (by simpa using e)
  exact⟨w,by simpa using h3,h4⟩
theorem RDs.append:∀{ds es:List D} {vs ws:List V},RDs K H O ds vs->RDs K H O es ws->RDs K H O (ds++es) (vs++ws)
 |[],_,_,_,h,g=>by rw[RDs]at h;subst h;exact g
 |d::ds,es,vs,ws,h,g=>by
  obtain⟨v,r,rfl,h1,h2⟩:=h
  exact⟨v,r++ws,rfl,h1,RDs.append h2 g⟩
theorem RDs.drop:∀{ds:List D} {vs:List V} (n:Nat),RDs K H O ds vs->RDs K H O (ds.drop n) (vs.drop n)
 |_,_,0,h=>h
 |[],_,n+1,h=>by rw[RDs]at h;subst h;exact rfl
 |d::ds,vs,n+1,h=>by
  obtain⟨v,r,rfl,_,h2⟩:=h
  exact RDs.drop n h2
theorem RDs.take:∀{ds:List D} {vs:List V} (n:Nat),RDs K H O ds vs->RDs K H O (ds.take n) (vs.take n)
 |_,_,0,_=>by simp[RDs]
 |[],_,n+1,h=>by rw[RDs]at h;subst h;simp[RDs]
 |d::ds,vs,n+1,h=>by
  obtain⟨v,r,rfl,h1,h2⟩:=h
  exact⟨v,r.take n,rfl,h1,RDs.take n h2⟩
theorem RDs.reverse{ds:List D}{vs:List V}(h:RDs K H O ds vs):RDs K H O ds.reverse vs.reverse:=by
 induction ds generalizing vs with
 |nil=>rw[RDs]at h;subst h;exact rfl
 |cons d ds ih=>
  obtain⟨v,r,rfl,h1,h2⟩:=h
  rw[xR,xR]
  exact RDs.append (ih h2) ⟨v,[],rfl,h1,rfl⟩
theorem RDs.cut{ds:List D}{vs:List V}(lo hi:Option Int)(h:RDs K H O ds vs):RDs K H O (Tr.cut ds lo hi) (iY vs lo hi):=by
 have e:=RDs.length h
 unfold Tr.cut iY
 rw[e]
 exact RDs.take _ (RDs.drop _ h)
theorem RDs.cons{d:D}{v:V}{ds:List D}{vs:List V}(h:RD K H O d v)(r:RDs K H O ds vs):RDs K H O (d::ds) (v::vs):=⟨v,vs,rfl,h,r⟩
theorem RDs.nil:RDs K H O [] []:=rfl
theorem RDk.length:∀{ds:List (Sum Int Str×D)} {vs:List (Key×V)},RDk K H O ds vs->vs.length=ds.length
 |[],_,h=>by rw[RDk]at h;rw[h];rfl
 |(k,d)::ds,vs,h=>by
  obtain⟨v,r,e,_,h2⟩:=h
  rw[e,aN,aN,RDk.length h2]
theorem RDt.length:∀{ds:List (List (Sum Int Str)×D)} {vs:List (List Key×V)},RDt K H O ds vs->vs.length=ds.length
 |[],_,h=>by rw[RDt]at h;rw[h];rfl
 |(k,d)::ds,vs,h=>by
  obtain⟨v,r,e,_,h2⟩:=h
  rw[e,aN,aN,RDt.length h2]
theorem RD.rr{d:D}{v:V}(h:RD K H O d v):RR K H O d v:=.inl h
theorem RDs.rr:∀{ds:List D} {vs:List V},RDs K H O ds vs->RRs K H O ds vs
 |[],_,h=>h
 |d::ds,vs,h=>by
  obtain⟨v,r,e,h1,h2⟩:=h
  exact⟨v,r,e,.inl h1,RDs.rr h2⟩
theorem OwnAt.map(hs:∀{d v},RDs K H O d v->RDs K H' O' d v)(hk:∀{d v},RDk K H O d v->RDk K H' O' d v)(hk2:∀{d v},RDt K H O d v->RDt K H' O' d v){a:Addr}(ho:∀o,gG o->H a=some o->H' a=some o):∀{d:D},OwnAt K H O a d->OwnAt K H' O' a d
 |.lst ds,⟨xs,h1,h2⟩=>⟨xs,ho _ trivial h1,hs h2⟩
 |.dct ds,⟨xs,h1,h2⟩=>⟨xs,ho _ trivial h1,hk h2⟩
 |.tdc ds,⟨xs,h1,h2⟩=>⟨xs,ho _ trivial h1,hk2 h2⟩
 |.non,h | .bl _,h | .int _,h | .str _,h | .tup _,h=>h.elim
theorem OwnAt.same(s:Same H H'){a:Addr}{d:D}(h:OwnAt K H O a d):OwnAt K H' O a d:=OwnAt.map (λq=>q.same s) (λq=>q.same s) (λq=>q.same s) (λ_ _ q=>s _ _ q) h
theorem OwnAt.new{p:Addr}(hp:H p=none){a:Addr}{d:D}(h:OwnAt K H O a d):OwnAt K H (cS O p) a d:=OwnAt.map (λq=>q.new hp) (λq=>q.new hp) (λq=>q.new hp) (λ_ _ q=>q) h
theorem OwnAt.weak(s:∀a,O' a->O a){a:Addr}{d:D}(h:OwnAt K H O a d):OwnAt K H O' a d:=OwnAt.map (λq=>q.weak s) (λq=>q.weak s) (λq=>q.weak s) (λ_ _ q=>q) h
theorem OwnAt.updM{p:Addr}{o o':HO}(hO:O p)(hp:H p=some o)(hm:gG o){a:Addr}(hne:a≠p){d:D}(h:OwnAt K H O a d):OwnAt K (L2.upd H p o') O a d:=OwnAt.map (λq=>q.updM hO hp hm) (λq=>q.updM hO hp hm) (λq=>q.updM hO hp hm) (λ_ _ q=>by rw[aI hne];exact q) h
theorem OwnAt.obj{a:Addr}:∀{d:D},OwnAt K H O a d->∃o,H a=some o/\gG o
 |.lst ds,⟨xs,h1,h2⟩=>⟨_,h1,trivial⟩
 |.dct ds,⟨xs,h1,h2⟩=>⟨_,h1,trivial⟩
 |.tdc ds,⟨xs,h1,h2⟩=>⟨_,h1,trivial⟩
 |.non,h | .bl _,h | .int _,h | .str _,h | .tup _,h=>h.elim
theorem OwnAt.rd{a:Addr}(hn:¬O a):∀{d:D},d.isDct=false->OwnAt K H O a d->RD K H O d (.ref a)
 |.lst ds,_,⟨xs,h1,h2⟩=>⟨a,xs,rfl,.inl ⟨hn,.inl h1⟩,h2⟩
 |.dct ds,z,_=>by cases z
 |.tdc ds,z,_=>by cases z
 |.non,_,h | .bl _,_,h | .int _,_,h | .str _,_,h | .tup _,_,h=>h.elim
theorem RR.same(s:Same H H'){d:D}{v:V}(h:RR K H O d v):RR K H' O d v:=by
 rcases h with h|⟨a,e,h⟩
 ·exact .inl (h.same s)
 ·exact .inr ⟨a,e,h.same s⟩
theorem RR.lst{ds:List D}{v:V}(h:RR K H O (.lst ds) v):∃a xs,v=.ref a/\SqL K H a xs/\RDs K H O ds xs:=by
 rcases h with⟨a,xs,e,s,r⟩|⟨a,e,xs,h1,h2⟩
 ·refine⟨a,xs,e,?_,r⟩
  rcases s with⟨_,s⟩|s
  ·exact .inl s
  ·exact .inr s
 ·exact⟨a,xs,e,.of h1,h2⟩
theorem RR.dct{kvs:List (Sum Int Str×D)}{v:V}(h:RR K H O (.dct kvs) v):∃a ps,v=.ref a/\Rd H a (.dK ps)/\RDk K H O kvs ps:=by
 rcases h with⟨a,ps,e,s,r⟩|⟨a,e,ps,h1,h2⟩
 ·exact⟨a,ps,e,.inr s,r⟩
 ·exact⟨a,ps,e,.inl h1,h2⟩
theorem RR.tdc{kvs:List (List (Sum Int Str)×D)}{v:V}(h:RR K H O (.tdc kvs) v):∃a ps,v=.ref a/\Rd H a (.dT ps)/\RDt K H O kvs ps:=by
 rcases h with⟨a,ps,e,s,r⟩|⟨a,e,ps,h1,h2⟩
 ·exact⟨a,ps,e,.inr s,r⟩
 ·exact⟨a,ps,e,.inl h1,h2⟩
theorem RR.tupV{ds:List D}{v:V}(h:RR K H O (.tup ds) v):∃a xs,v=.ref a/\TupV K H a xs/\RDs K H O ds xs:=by
 rcases h with h|⟨a,e,h⟩
 ·exact h
 ·exact h.elim
theorem RR.tup{ds:List D}{v:V}(h:RR K H O (.tup ds) v):∃a xs,v=.ref a/\SqT K H a xs/\RDs K H O ds xs:=by
 obtain⟨a,xs,e,q,r⟩:=h.tupV
 exact⟨a,xs,e,q.sq,r⟩
noncomputable def D.still:D->Bool
 |.lst _=>false
 |.dct _=>false
 |.tdc _=>false
 |_=>true
theorem RR.rd{d:D}{v:V}(h:RR K H O d v)(n:d.still=true):RD K H O d v:=by
 rcases h with h|⟨a,e,h⟩
 ·exact h
 ·cases d with
  |lst _=>cases n
  |dct _=>cases n
  |tdc _=>cases n
  |non=>exact h.elim
  |bl _=>exact h.elim
  |int _=>exact h.elim
  |str _=>exact h.elim
  |tup _=>exact h.elim
end
noncomputable def NV(K:PySem.W.Frag)(H:Hp)(O:Addr->Prop)(d:D)(v:V):Prop:=(d=.non/\v=.non)\/∃ds a xs,d=.lst ds/\D.flats ds=true/\v=.ref a/\H a=some (.lst xs)/\¬O a/\RDs K H O ds xs
theorem NV.map{K:PySem.W.Frag}{H H':Hp}{O O':Addr->Prop}(hs:∀{d v},RDs K H O d v->RDs K H' O' d v)(hn:∀a xs,¬O a->H a=some (.lst xs)->¬O' a/\H' a=some (.lst xs)){d:D}{v:V}(h:NV K H O d v):NV K H' O' d v:=by
 rcases h with h|⟨ds,a,xs,h1,h2,h3,h4,h5,h6⟩
 ·exact .inl h
 ·obtain⟨h7,h8⟩:=hn a xs h5 h4
  exact .inr ⟨ds,a,xs,h1,h2,h3,h8,h7,hs h6⟩
theorem NV.rd{K:PySem.W.Frag}{H:Hp}{O:Addr->Prop}{d:D}{v:V}(h:NV K H O d v):RD K H O d v:=by
 rcases h with⟨rfl,rfl⟩|⟨ds,a,xs,rfl,h2,rfl,h4,h5,h6⟩
 ·exact rfl
 ·exact⟨a,xs,rfl,.inl ⟨h5,.inl h4⟩,h6⟩
noncomputable def RS(K:PySem.W.Frag)(H:Hp)(O:Addr->Prop)(own:Option Addr):Sl->Option V->Prop
 |.no,_=>True
 |.v d,ov=>∃v,ov=some v/\RD K H O d v
 |.o d,ov=>∃a,own=some a/\ov=some (.ref a)/\OwnAt K H O a d
 |.t ds,ov=>∃t p ys vs a r,own=some p/\ov=some (.ref t)/\(∃ks:List Int,ds=ks.map D.int++.lst a::r/\TupV K H t (ks.map V.int++.ref p::vs))/\H p=some (.lst ys)/\RDs K H O a ys/\RDs K H O r vs
 |.n d,ov=>∃v,ov=some v/\NV K H O d v
noncomputable def bW(σ:L2.St)(i:Nat):Option V:=(σ[i]?).join
set_option genInjectivity false in
structure Fm(K:PySem.W.Frag)(H₀:Hp)(O₀:Addr->Prop)(H:Hp)(O:Addr->Prop)(own:Nat->Option Addr)(e:Nv)(σ:L2.St):Prop where
 len:e.length=σ.length
 sl:∀i,RS K H O (own i) (e.at i) (bW σ i)
 inj:∀i j a,own i=some a->own j=some a->i=j
 same:Same H₀ H
 sub:∀a,O₀ a->O a
 trk0:∀a,O₀ a->∃o,H₀ a=some o
 trk:∀a,O a->∃o,H a=some o
 new:∀i a,own i=some a->O a/\H₀ a=none
 nw:∀i d a,e.at i=.n d->bW σ i=some (.ref a)->H₀ a=none
section
variable{K:PySem.W.Frag}{H₀ H H':Hp}{O₀ O O':Addr->Prop}{own:Nat->Option Addr}{e:Nv}{σ:L2.St}
theorem RS.same(s:Same H H'){o:Option Addr}{x:Sl}{ov:Option V}(h:RS K H O o x ov):RS K H' O o x ov:=by
 cases x with
 |no=>trivial
 |v d=>obtain⟨v,e,r⟩:=h;exact⟨v,e,r.same s⟩
 |o d=>obtain⟨a,e1,e2,h⟩:=h;exact⟨a,e1,e2,h.same s⟩
 |t ds=>obtain⟨t,p,ys,vs,a,r,e1,e2,⟨ks,e3,h1⟩,h2,h3,h4⟩:=h;exact⟨t,p,ys,vs,a,r,e1,e2,⟨ks,e3,TupV.same s h1⟩,s _ _ h2,h3.same s,h4.same s⟩
 |n d=>obtain⟨v,e,r⟩:=h;exact⟨v,e,r.map (λq=>q.same s) λa xs z q=>⟨z,s _ _ q⟩⟩
theorem Fm.grow(F:Fm K H₀ O₀ H O own e σ)(s:Same H H'):Fm K H₀ O₀ H' O own e σ:=
 ⟨F.len,λi=>(F.sl i).same s,F.inj,F.same.trans s,F.sub,F.trk0,λa h=>let ⟨xs,q⟩:=F.trk a h;⟨xs,s _ _ q⟩,F.new,F.nw⟩
end
section
variable{K:PySem.W.Frag}{H₀ H H':Hp}{O₀ O O':Addr->Prop}{own:Nat->Option Addr}{e:Nv}{σ:L2.St}
theorem jC{e:Nv}{i:Nat}{x:Sl}(h:i<e.length):Nv.at (e.set i x) i=x:=by
 unfold Nv.at;rw[sG h];rfl
theorem gH{e:Nv}{i j:Nat}{x:Sl}(h:i≠j):Nv.at (e.set i x) j=Nv.at e j:=by
 unfold Nv.at;rw[sH h]
theorem iJ{e:Nv}{i:Nat}(h:¬i<e.length):Nv.at e i=.no:=by
 unfold Nv.at;rw[mM (by lia)];rfl
theorem pM{σ:L2.St}{i:Nat}{v:V}(h:i<σ.length):bW (σ.set i (some v)) i=some v:=by
 unfold bW;rw[sG h];rfl
theorem mY{σ:L2.St}{i j:Nat}{v:Option V}(h:i≠j):bW (σ.set i v) j=bW σ j:=by
 unfold bW;rw[sH h]
theorem Ah{H₀:Hp}{e:Nv}{σ:L2.St}{i:Nat}{x:Sl}{ov:Option V}(hx:∀d,x≠.n d)(h:∀j d a,e.at j=.n d->bW σ j=some (.ref a)->H₀ a=none):∀j d a,Nv.at (e.set i x) j=.n d->bW (σ.set i ov) j=some (.ref a)->H₀ a=none:=λj d a h1 h2=>by
 by_cases z:i=j
 ·subst z
  by_cases hi:i<e.length
  ·rw[jC hi]at h1;exact absurd h1 (hx d)
  ·rw[iJ (by rw[dI];exact hi)]at h1;cases h1
 ·rw[gH z]at h1;rw[mY z]at h2;exact h j d a h1 h2
theorem uI{H₀:Hp}{e:Nv}{σ:L2.St}{i:Nat}{x:Sl}(hx:∀d,x≠.n d)(h:∀j d a,e.at j=.n d->bW σ j=some (.ref a)->H₀ a=none):∀j d a,Nv.at (e.set i x) j=.n d->bW σ j=some (.ref a)->H₀ a=none:=λj d a h1 h2=>by
 by_cases z:i=j
 ·subst z
  by_cases hi:i<e.length
  ·rw[jC hi]at h1;exact absurd h1 (hx d)
  ·rw[iJ (by rw[dI];exact hi)]at h1;cases h1
 ·rw[gH z]at h1;exact h j d a h1 h2
theorem dS{σ:L2.St}{i:Nat}{v:V}(h:bW σ i=some v):σ[i]?=some (some v):=by
 unfold bW at h
 cases q:σ[i]? with
 |none=>rw[q]at h;cases h
 |some o=>rw[q]at h;cases o with
  |none=>cases h
  |some w=>cases h;rfl
theorem RS.map(ht:∀{d v},RD K H O d v->RD K H' O' d v)(hs:∀{d v},RDs K H O d v->RDs K H' O' d v)(hk:∀{d v},RDk K H O d v->RDk K H' O' d v)(hk2:∀{d v},RDt K H O d v->RDt K H' O' d v){o:Option Addr}(ho:∀a u,o=some a->gG u->H a=some u->H' a=some u){x:Sl}{ov:Option V}(h:RS K H O o x ov)(hn:∀a xs,¬O a->H a=some (.lst xs)->¬O' a/\H' a=some (.lst xs))(hq:∀a xs,TupV K H a xs->TupV K H' a xs:=by first|exact λ_ _ q=>q|exact λ_ _ q=>TupV.same (by assumption) q):RS K H' O' o x ov:=by
 cases x with
 |no=>trivial
 |v d=>obtain⟨v,e,r⟩:=h;exact⟨v,e,ht r⟩
 |o d=>obtain⟨a,e1,e2,h⟩:=h;exact⟨a,e1,e2,h.map hs hk hk2 λu hm q=>ho a u e1 hm q⟩
 |t ds=>obtain⟨t,p,ys,vs,a,r,e1,e2,⟨ks,e3,h1⟩,h2,h3,h4⟩:=h;exact⟨t,p,ys,vs,a,r,e1,e2,⟨ks,e3,hq _ _ h1⟩,ho p _ e1 trivial h2,hs h3,hs h4⟩
 |n d=>obtain⟨v,e,r⟩:=h;exact⟨v,e,r.map hs hn⟩
theorem Ai{p:Addr}(hp:H p=none)(s:Same H H'):∀a xs,¬O a->H a=some (.lst xs)->¬cS O p a/\H' a=some (.lst xs):=λa xs n q=>⟨λz=>z.elim n (fH q hp),s _ _ q⟩
theorem uJ{p:Addr}{o':HO}(hO:O p):∀a xs,¬O a->H a=some (.lst xs)->¬O a/\upd H p o' a=some (.lst xs):=λa xs n q=>⟨n,by
 have ne:a≠p:=λz=>n (z▸hO)
 rw[aI ne];exact q⟩
theorem G5(w:∀a,O' a->O a):∀a xs,¬O a->H a=some (.lst xs)->¬O' a/\H a=some (.lst xs):=λa xs n q=>⟨λz=>n (w a z),q⟩
theorem Fm.setV(F:Fm K H₀ O₀ H O own e σ)(i:Nat){d:D}{v:V}(r:RD K H O d v):Fm K H₀ O₀ H O (λj=>if j=i then none else own j) (e.set i (.v d)) (σ.set i (some v)) where
 len:=by rw[dI,dI];exact F.len
 sl:=λj=>by
  by_cases h:i=j
  ·subst h
   by_cases hi:i<e.length
   ·rw[jC hi,pM (by rw[<-F.len];exact hi)];exact⟨v,rfl,r⟩
   ·rw[iJ (by rw[dI];exact hi)];trivial
  ·rw[gH h,mY h,if_neg (Ne.symm h)];exact F.sl j
 inj:=λj k a h1 h2=>by
  by_cases h:j=i
  ·rw[if_pos h]at h1;cases h1
  ·by_cases h':k=i
   ·rw[if_pos h']at h2;cases h2
   ·rw[if_neg h]at h1;rw[if_neg h']at h2;exact F.inj j k a h1 h2
 same:=F.same
 sub:=F.sub
 trk0:=F.trk0
 trk:=F.trk
 new:=λj a h1=>by
  by_cases h:j=i
  ·rw[if_pos h]at h1;cases h1
  ·rw[if_neg h]at h1;exact F.new j a h1
 nw:=Ah (λ_ z=>by cases z) F.nw
theorem Fm.setN(F:Fm K H₀ O₀ H O own e σ)(i:Nat){d:D}{v:V}(r:NV K H O d v)(h0:∀a,v=.ref a->H₀ a=none):Fm K H₀ O₀ H O (λj=>if j=i then none else own j) (e.set i (.n d)) (σ.set i (some v)) where
 len:=by rw[dI,dI];exact F.len
 sl:=λj=>by
  by_cases h:i=j
  ·subst h
   by_cases hi:i<e.length
   ·rw[jC hi,pM (by rw[<-F.len];exact hi)];exact⟨v,rfl,r⟩
   ·rw[iJ (by rw[dI];exact hi)];trivial
  ·rw[gH h,mY h,if_neg (Ne.symm h)];exact F.sl j
 inj:=(F.setV i r.rd).inj
 same:=F.same
 sub:=F.sub
 trk0:=F.trk0
 trk:=F.trk
 new:=(F.setV i r.rd).new
 nw:=λj d' a h1 h2=>by
  by_cases z:i=j
  ·subst z
   by_cases hi:i<e.length
   ·rw[pM (by rw[<-F.len];exact hi)]at h2
    exact h0 a (eA.inj h2)
   ·rw[iJ (by rw[dI];exact hi)]at h1;cases h1
  ·rw[gH z]at h1;rw[mY z]at h2;exact F.nw j d' a h1 h2
theorem Fm.setO(F:Fm K H₀ O₀ H O own e σ)(s:Same H H')(i:Nat){d:D}{p:Addr}(hp:H p=none)(r:OwnAt K H' (cS O p) p d) :
 Fm K H₀ O₀ H' (cS O p) (λj=>if j=i then some p else own j) (e.set i (.o d)) (σ.set i (some (.ref p))) where
 len:=by rw[dI,dI];exact F.len
 sl:=λj=>by
  by_cases h:i=j
  ·subst h
   rw[if_pos rfl]
   by_cases hi:i<e.length
   ·rw[jC hi,pM (by rw[<-F.len];exact hi)];exact⟨p,rfl,rfl,r⟩
   ·rw[iJ (by rw[dI];exact hi)];trivial
  ·rw[gH h,mY h,if_neg (Ne.symm h)]
   exact RS.map (λq=>(q.new hp).same s) (λq=>(q.new hp).same s) (λq=>(q.new hp).same s) (λq=>(q.new hp).same s) (λa u _ _ q=>s _ _ q) (F.sl j) (Ai hp s)
 inj:=λj k a h1 h2=>by
  have no:∀j,own j≠some p:=λj q=>by
   obtain⟨xs,w⟩:=F.trk p (F.new j p q).1
   rw[hp]at w;cases w
  by_cases h:j=i
  ·rw[if_pos h]at h1
   cases h1
   by_cases h':k=i
   ·rw[h,h']
   ·rw[if_neg h']at h2;exact absurd h2 (no k)
  ·rw[if_neg h]at h1
   by_cases h':k=i
   ·rw[if_pos h']at h2;cases h2;exact absurd h1 (no j)
   ·rw[if_neg h']at h2;exact F.inj j k a h1 h2
 same:=F.same.trans s
 sub:=λa h=>.inl (F.sub a h)
 trk0:=F.trk0
 trk:=λa h=>by
  rcases h with h|h
  ·obtain⟨ys,q⟩:=F.trk a h
   exact⟨ys,s _ _ q⟩
  ·subst h
   obtain⟨o,h1,_⟩:=r.obj
   exact⟨o,h1⟩
 new:=λj a h1=>by
  by_cases h:j=i
  ·rw[if_pos h]at h1;cases h1;exact⟨.inr rfl,F.same.free hp⟩
  ·rw[if_neg h]at h1;exact⟨.inl (F.new j a h1).1,(F.new j a h1).2⟩
 nw:=Ah (λ_ z=>by cases z) F.nw
theorem Fm.mutA(F:Fm K H₀ O₀ H O own e σ)(i:Nat){d:D}(hi:e.at i=.o d):∃p,bW σ i=some (.ref p)/\OwnAt K H O p d/\O p /\
 ∀d' o',(∀o,H p=some o->OwnAt K (upd H p o') O p d')->Fm K H₀ O₀ (upd H p o') O own (e.set i (.o d')) σ:=by
 have q:=F.sl i
 rw[hi]at q
 obtain⟨p,e1,e2,h1⟩:=q
 obtain⟨o,ho,hm⟩:=h1.obj
 have hn:=F.new i p e1
 refine⟨p,e2,h1,hn.1,λd' o' r=>?_⟩
 have hlen:i<e.length:=by
  by_cases h:i<e.length
  ·exact h
  ·rw[iJ h]at hi;cases hi
 refine⟨by rw[dI];exact F.len,λj=>?_,F.inj,λb u hb=>?_,F.sub,F.trk0,λa ha=>?_,F.new,uI (λ_ z=>by cases z) F.nw⟩
 ·by_cases h:i=j
  ·subst h
   rw[jC hlen,e2]
   exact⟨p,e1,rfl,r o ho⟩
  ·rw[gH h]
   refine RS.map (λq=>q.updM hn.1 ho hm) (λq=>q.updM hn.1 ho hm) (λq=>q.updM hn.1 ho hm) (λq=>q.updM hn.1 ho hm) (λa u ea _ q=>?_) (F.sl j) (uJ hn.1) (dR (K:=K) hn.1 ho hm).1
   have:a≠p:=λz=>h (F.inj i j p e1 (z▸ea))
   rw[aI this];exact q
 ·rw[aI (λz=>by rw[z,hn.2]at hb;cases hb)];exact F.same b u hb
 ·by_cases h:a=p
  ·subst h;exact⟨_,bY⟩
  ·obtain⟨ys,q⟩:=F.trk a ha
   exact⟨ys,by rw[aI h];exact q⟩
theorem Fm.mut(F:Fm K H₀ O₀ H O own e σ)(i:Nat){ds:List D}(hi:e.at i=.o (.lst ds)):∃p xs,bW σ i=some (.ref p)/\H p=some (.lst xs)/\RDs K H O ds xs/\O p /\
 ∀ds' xs',RDs K H O ds' xs'->Fm K H₀ O₀ (upd H p (.lst xs')) O own (e.set i (.o (.lst ds'))) σ:=by
 obtain⟨p,e2,⟨xs,h1,h2⟩,hO,k⟩:=F.mutA i hi
 exact⟨p,xs,e2,h1,h2,hO,λds' xs' r=>k (.lst ds') (.lst xs') λ_ _=>⟨xs',bY,r.upd hO h1⟩⟩
theorem Fm.mutD(F:Fm K H₀ O₀ H O own e σ)(i:Nat){ds:List (Sum Int Str×D)}(hi:e.at i=.o (.dct ds)):∃p xs,bW σ i=some (.ref p)/\H p=some (.dK xs)/\RDk K H O ds xs/\O p /\
 ∀ds' xs',RDk K H O ds' xs'->Fm K H₀ O₀ (upd H p (.dK xs')) O own (e.set i (.o (.dct ds'))) σ:=by
 obtain⟨p,e2,⟨xs,h1,h2⟩,hO,k⟩:=F.mutA i hi
 exact⟨p,xs,e2,h1,h2,hO,λds' xs' r=>k (.dct ds') (.dK xs') λ_ _=>⟨xs',bY,r.updM hO h1 trivial⟩⟩
theorem Fm.mutT(F:Fm K H₀ O₀ H O own e σ)(i:Nat){ds:List (List (Sum Int Str)×D)}(hi:e.at i=.o (.tdc ds)):∃p xs,bW σ i=some (.ref p)/\H p=some (.dT xs)/\RDt K H O ds xs/\O p /\
 ∀ds' xs',RDt K H O ds' xs'->Fm K H₀ O₀ (upd H p (.dT xs')) O own (e.set i (.o (.tdc ds'))) σ:=by
 obtain⟨p,e2,⟨xs,h1,h2⟩,hO,k⟩:=F.mutA i hi
 exact⟨p,xs,e2,h1,h2,hO,λds' xs' r=>k (.tdc ds') (.dT xs') λ_ _=>⟨xs',bY,r.updM hO h1 trivial⟩⟩
theorem Fm.seal(F:Fm K H₀ O₀ H O own e σ)(i:Nat){d:D}(hi:e.at i=.o d)(hd:d.isDct=false):∃O' own',Fm K H₀ O₀ H O' own' (e.set i (.v d)) σ/\∀a,O' a->O a:=by
 have q:=F.sl i
 rw[hi]at q
 obtain⟨p,e1,e2,h1⟩:=q
 have hn:=F.new i p e1
 have hlen:i<e.length:=by
  by_cases h:i<e.length
  ·exact h
  ·rw[iJ h]at hi;cases hi
 refine⟨pL O p,λj=>if j=i then none else own j,⟨by rw[dI];exact F.len,λj=>?_,λj k a q1 q2=>?_,F.same,λa ha=>⟨F.sub a ha,λz=>?_⟩,F.trk0,λa ha=>F.trk a ha.1,λj a q1=>?_,uI (λ_ z=>by cases z) F.nw⟩,λa ha=>ha.1⟩
 ·by_cases h:i=j
  ·subst h
   rw[jC hlen,e2]
   exact⟨.ref p,rfl,OwnAt.rd (λz=>z.2 rfl) hd (h1.weak λ_ z=>z.1)⟩
  ·rw[gH h,if_neg (Ne.symm h)]
   exact RS.map (λq=>q.weak λ_ z=>z.1) (λq=>q.weak λ_ z=>z.1) (λq=>q.weak λ_ z=>z.1) (λq=>q.weak λ_ z=>z.1) (λa ys _ _ q=>q) (F.sl j) (G5 λ_ z=>z.1)
 ·by_cases h:j=i
  ·rw[if_pos h]at q1;cases q1
  ·by_cases h':k=i
   ·rw[if_pos h']at q2;cases q2
   ·rw[if_neg h]at q1;rw[if_neg h']at q2;exact F.inj j k a q1 q2
 ·obtain⟨o,w⟩:=F.trk0 a ha
  rw[z,hn.2]at w;cases w
 ·by_cases h:j=i
  ·rw[if_pos h]at q1;cases q1
  ·rw[if_neg h]at q1
   exact⟨⟨(F.new j a q1).1,λz=>h (F.inj j i p (z▸q1) e1)⟩,(F.new j a q1).2⟩
theorem Fm.sealD(F:Fm K H₀ O₀ H O own e σ)(i:Nat){d:D}(hi:e.at i=.o d)(hd:d.isDct=true):∃p u,H p=some u/\((∃ps,u=.dK ps)\/∃ps,u=.dT ps)/\bW σ i=some (.ref p)/\(O p/\gG u) /\
 ∀ob,(∃own',Fm K H₀ O₀ (upd H p (.frz ob u)) (pL O p) own' (e.set i (.v d)) σ)/\RD K (upd H p (.frz ob u)) (pL O p) d (.ref p):=by
 have q:=F.sl i
 rw[hi]at q
 obtain⟨p,e1,e2,h1⟩:=q
 have hn:=F.new i p e1
 have hlen:i<e.length:=by
  by_cases h:i<e.length
  ·exact h
  ·rw[iJ h]at hi;cases hi
 obtain⟨u,hu,hm⟩:=h1.obj
 have hk:((∃ps,u=.dK ps)\/∃ps,u=.dT ps)/\∀ob,RD K (upd H p (.frz ob u)) (pL O p) d (.ref p):=by
  cases d with
  |dct kvs=>
   obtain⟨ps,g1,g2⟩:=h1
   rw[g1]at hu
   cases hu
   exact⟨.inl ⟨ps,rfl⟩,λob=>⟨p,ps,rfl,⟨ob,bY⟩,(g2.updM hn.1 g1 trivial).weak λ_ z=>z.1⟩⟩
  |tdc kvs=>
   obtain⟨ps,g1,g2⟩:=h1
   rw[g1]at hu
   cases hu
   exact⟨.inr ⟨ps,rfl⟩,λob=>⟨p,ps,rfl,⟨ob,bY⟩,(g2.updM hn.1 g1 trivial).weak λ_ z=>z.1⟩⟩
  |_=>cases hd
 refine⟨p,u,hu,hk.1,e2,⟨hn.1,hm⟩,λob=>⟨⟨λj=>if j=i then none else own j,⟨by rw[dI];exact F.len,λj=>?_,λj k a q1 q2=>?_,λb w hb=>?_,λa ha=>⟨F.sub a ha,λz=>?_⟩,F.trk0,λa ha=>?_,λj a q1=>?_,uI (λ_ z=>by cases z) F.nw⟩⟩,hk.2 ob⟩⟩
 ·by_cases h:i=j
  ·subst h
   rw[jC hlen,e2]
   exact⟨.ref p,rfl,hk.2 ob⟩
  ·rw[gH h,if_neg (Ne.symm h)]
   refine RS.map (λq=>(q.updM hn.1 hu hm).weak λ_ z=>z.1) (λq=>(q.updM hn.1 hu hm).weak λ_ z=>z.1) (λq=>(q.updM hn.1 hu hm).weak λ_ z=>z.1) (λq=>(q.updM hn.1 hu hm).weak λ_ z=>z.1) (λa w ea _ q=>?_) (F.sl j) (λa xs n q=>?_) (dR (K:=K) hn.1 hu hm).1
   ·have:a≠p:=λz=>h (F.inj i j p e1 (z▸ea))
    rw[aI this];exact q
   ·obtain⟨_,z2⟩:=uJ (o':=.frz ob u) hn.1 a xs n q
    exact⟨λz=>n z.1,z2⟩
 ·by_cases h:j=i
  ·rw[if_pos h]at q1;cases q1
  ·by_cases h':k=i
   ·rw[if_pos h']at q2;cases q2
   ·rw[if_neg h]at q1;rw[if_neg h']at q2;exact F.inj j k a q1 q2
 ·rw[aI (λz=>by rw[z,hn.2]at hb;cases hb)];exact F.same b w hb
 ·obtain⟨o,w⟩:=F.trk0 a ha
  rw[z,hn.2]at w;cases w
 ·obtain⟨o,w⟩:=F.trk a ha.1
  exact⟨o,by rw[aI ha.2];exact w⟩
 ·by_cases h:j=i
  ·rw[if_pos h]at q1;cases q1
  ·rw[if_neg h]at q1
   exact⟨⟨(F.new j a q1).1,λz=>h (F.inj j i p (z▸q1) e1)⟩,(F.new j a q1).2⟩
theorem Fm.val(F:Fm K H₀ O₀ H O own e σ){i:Nat}{d:D}(h:(e.at i).val=.ok d):∃v,σ[i]?=some (some v)/\RD K H O d v:=by
 have q:=F.sl i
 cases z:e.at i with
 |no=>rw[z]at h;cases h
 |o d=>rw[z]at h;cases h
 |t d=>rw[z]at h;cases h
 |n d'=>
  rw[z]at h q
  cases h
  obtain⟨v,e1,r⟩:=q
  exact⟨v,dS e1,r.rd⟩
 |v d'=>
  rw[z]at h q
  cases h
  obtain⟨v,e1,r⟩:=q
  exact⟨v,dS e1,r⟩
theorem Fm.any(F:Fm K H₀ O₀ H O own e σ){i:Nat}{d:D}(h:(e.at i).any=.ok d):∃v,σ[i]?=some (some v)/\RR K H O d v:=by
 have q:=F.sl i
 cases z:e.at i with
 |no=>rw[z]at h;cases h
 |t d=>rw[z]at h;cases h
 |o d'=>
  rw[z]at h q
  cases h
  obtain⟨a,e1,e2,h1⟩:=q
  exact⟨.ref a,dS e2,.inr ⟨a,rfl,h1⟩⟩
 |n d'=>
  rw[z]at h q
  cases h
  obtain⟨v,e1,r⟩:=q
  exact⟨v,dS e1,.inl r.rd⟩
 |v d'=>
  rw[z]at h q
  cases h
  obtain⟨v,e1,r⟩:=q
  exact⟨v,dS e1,.inl r⟩
theorem Sl.own_ok{x:Sl}{a:List D}(h:x.own=.ok a):x=.o (.lst a):=by
 unfold Sl.own at h
 split at h
 ·cases h;rfl
 ·cases h
theorem Sl.ownD_ok{x:Sl}{a:List (Sum Int Str×D)}(h:x.ownD=.ok a):x=.o (.dct a):=by
 unfold Sl.ownD at h
 split at h
 ·cases h;rfl
 ·cases h
theorem Sl.ownT_ok{x:Sl}{a:List (List (Sum Int Str)×D)}(h:x.ownT=.ok a):x=.o (.tdc a):=by
 unfold Sl.ownT at h
 split at h
 ·cases h;rfl
 ·cases h
theorem Sl.ownA_ok{x:Sl}{a:D}(h:x.ownA=.ok a):x=.o a:=by
 unfold Sl.ownA at h
 split at h
 ·cases h;rfl
 ·cases h
end
noncomputable def NewL(K:PySem.W.Frag)(H H':Hp)(O:Addr->Prop)(d:D)(v:V):Prop:=d.still=false->∃a,v=.ref a/\H a=none/\OwnAt K H' (cS O a) a d
theorem NewL.back{K:PySem.W.Frag}{H1 H H':Hp}{O:Addr->Prop}{d:D}{v:V}(s:Same H1 H)(n:NewL K H H' O d v):NewL K H1 H' O d v:=λz=>by
 obtain⟨a,h1,h2,h3⟩:=n z
 exact⟨a,h1,s.free h2,h3⟩
theorem NewL.same{K:PySem.W.Frag}{H H1 H':Hp}{O:Addr->Prop}{d:D}{v:V}(s:Same H1 H')(n:NewL K H H1 O d v):NewL K H H' O d v:=λz=>by
 obtain⟨a,h1,h2,h3⟩:=n z
 exact⟨a,h1,h2,h3.same s⟩
theorem NewL.weak{K:PySem.W.Frag}{H H':Hp}{O O':Addr->Prop}{d:D}{v:V}(s:∀a,O' a->O a)(n:NewL K H H' O d v):NewL K H H' O' d v:=λz=>by
 obtain⟨a,h1,h2,h3⟩:=n z
 exact⟨a,h1,h2,h3.weak λb hb=>hb.imp (s b) id⟩
theorem NewL.still{K:PySem.W.Frag}{H H':Hp}{O:Addr->Prop}{d:D}{v:V}(h:d.still=true):NewL K H H' O d v:=λz=>by rw[h]at z;cases z
noncomputable def NewR(K:PySem.W.Frag)(H H':Hp)(O:Addr->Prop)(d:D)(v:V):Prop:=NewL K H H' O d v/\∀(ks:List Int)(a r:List D),d=.tup (ks.map D.int++.lst a::r)->∃t p ys vs,v=.ref t/\TupV K H' t (ks.map V.int++.ref p::vs)/\H p=none/\H' p=some (.lst ys)/\RDs K H' (cS O p) a ys/\RDs K H' (cS O p) r vs
theorem G6(ks:List Int)(a r:List D):pD (ks.map D.int++.lst a::r)=true:=by
 induction ks with
 |nil=>rfl
 |cons k ks ih=>exact ih
theorem NewR.of{K:PySem.W.Frag}{H H':Hp}{O:Addr->Prop}{d:D}{v:V}(n:NewL K H H' O d v)(h:jX d=false):NewR K H H' O d v:=⟨n,λks a r z=>by
 subst z
 have h:pD _=false:=h
 rw[G6]at h;cases h⟩
section
variable(T:Tab)(cf:Nat->List D->Res D)(K:PySem.W.Frag)(H₀:Hp)(O₀:Addr->Prop)
noncomputable def tE(x:E):TE:=λσ H Q=>∃O own e d,Fm K H₀ O₀ H O own e σ/\evE T cf x e=.ok d/\∀v H',Same H H'->RD K H' O d v->(bH T x=true->NewL K H H' O d v)->Q v H'
noncomputable def tR(x:E):TE:=λσ H Q=>∃O own e d,Fm K H₀ O₀ H O own e σ/\evE T cf x e=.ok d/\∀v H',Same H H'->RR K H' O d v->Q v H'
noncomputable def tT(x:E):TT:=λσ H Q=>∃O own e d k,Fm K H₀ O₀ H O own e σ/\evE T cf x e=.ok d/\d.truth=.ok k/\∀H',Same H H'->Q k H'
noncomputable def NewAs(H H':Hp)(O:Addr->Prop)(x:E)(ds:List D)(vs:List V):Prop:=∀j d v,bH T (zU x j)=true->ds[j]?=some d->vs[j]?=some v->NewL K H H' O d v
noncomputable def tAv(x:E):TA:=λσ H Q=>∃O own e ds,Fm K H₀ O₀ H O own e σ/\evA T cf x e=.ok ds/\∀vs H',Same H H'->RDs K H' O ds vs->NewAs T K H H' O x ds vs->Q vs H'
noncomputable def tAr(x:E):TA:=λσ H Q=>∃O own e ds,Fm K H₀ O₀ H O own e σ/\evA T cf x e=.ok ds/\∀vs H',Same H H'->RRs K H' O ds vs->Q vs H'
end
section
variable(T:Tab)(cf:Nat->List D->Res D)(X:Cx)
noncomputable def SE(x:E)(p:Expr):Prop:=∀H₀ O₀,PE X p (tE T cf X.K H₀ O₀ x)
noncomputable def SR(x:E)(p:Expr):Prop:=∀H₀ O₀,PE X p (tR T cf X.K H₀ O₀ x)
noncomputable def ST(x:E)(p:Expr):Prop:=∀H₀ O₀,PT X p (tT T cf X.K H₀ O₀ x)
noncomputable def SAv(x:E)(p:List Expr):Prop:=∀H₀ O₀,PA X p (tAv T cf X.K H₀ O₀ x)
noncomputable def SAr(x:E)(p:List Expr):Prop:=∀H₀ O₀,PA X p (tAr T cf X.K H₀ O₀ x)
end
section
variable{T:Tab}{cf:Nat->List D->Res D}{X:Cx}{x y z:E}{p q r:Expr}{pos:Pos}
theorem PE.imp{t t':TE}(h:∀σ H Q,t' σ H Q->t σ H Q)(hp:PE X p t):PE X p t':=λpins s σ H Q I q=>hp pins s σ H Q I (h σ H Q q)
theorem PT.imp{t t':TT}(h:∀σ H Q,t' σ H Q->t σ H Q)(hp:PT X p t):PT X p t':=λpins s σ H Q I q=>hp pins s σ H Q I (h σ H Q q)
theorem SE.sr(h:SE T cf X x p):SR T cf X x p:=λH₀ O₀=>PE.imp (λσ H Q ⟨O,own,e,d,F,ev,q⟩=>⟨O,own,e,d,F,ev,λv H' s r _=>q v H' s r.rr⟩) (h H₀ O₀)
theorem SAv.sr{ps:List Expr}(h:SAv T cf X x ps):SAr T cf X x ps:=λH₀ O₀ pos pins s σ H Q I ⟨O,own,e,ds,F,ev,q⟩=>h H₀ O₀ pos pins s σ H Q I ⟨O,own,e,ds,F,ev,λvs H' s r _=>q vs H' s r.rr⟩
theorem se_var {i:Nat} {n:Str} (hN:X.N[i]?=some n) (hv:Vis X.env.scope n) (hd:(n==("__debug__" : Str))=false) (hc:(n==("__classdict__" : Str))=false):SE T cf X (.var i) (.Name n pos):=λH₀ O₀=>
 PE.imp (λσ H Q ⟨O,own,e,d,F,ev,q⟩=>by
  obtain⟨v,h1,h2⟩:=F.val (i:=i) (by rw[xE_var]at ev;exact ev)
  exact⟨v,h1,q v H (Same.refl H) h2 (λz=>by cases z)⟩) (fJ hN hv hd hc)
theorem Aj {i:Nat} {n:Str} (hN:X.N[i]?=some n) (hv:Vis X.env.scope n) (hd:(n==("__debug__" : Str))=false) (hc:(n==("__classdict__" : Str))=false):SR T cf X (.rd i) (.Name n pos):=λH₀ O₀=>
 PE.imp (λσ H Q ⟨O,own,e,d,F,ev,q⟩=>by
  obtain⟨v,h1,h2⟩:=F.any (i:=i) (by rw[tQ]at ev;exact ev)
  exact⟨v,h1,q v H (Same.refl H) h2⟩) (fJ hN hv hd hc)
noncomputable def uK:D->Const->Bool
 |.non,.none=>true
 |.bl a,.bool b=>a==b
 |.int i,.int j=>i==j
 |.str a,.str b=>a==b
 |_,_=>false
theorem se_con{d:D}{c:Const}{k:Nat}(h:uK d c=true):SE T cf X (.con d) (.Constant c k pos):=λH₀ O₀=>by
 have fin:∀{v:V} {σ:L2.St} {H:Hp} {Q:VK},(∀H O,RD X.K H O d v)->tE T cf X.K H₀ O₀ (.con d) σ H Q->Q v H:=λhv ⟨O,own,e,d',F,ev,q⟩=>by
  rw[tU]at ev;cases ev
  exact q _ _ (Same.refl _) (hv _ _) (λz=>by cases z)
 cases d<;>cases c<;>first
  |(exact absurd (show false=true from h) aK)
  |(exact PE.imp (λσ H Q w=>fin (v:=.non) (λ_ _=>rfl) w) pe_non)
  |(have e:=eq_of_beq (show _==_ from h);subst e;first
   |exact PE.imp (λσ H Q w=>fin (λ_ _=>rfl) w) pe_bl
   |exact PE.imp (λσ H Q w=>fin (λ_ _=>rfl) w) pe_int
   |exact PE.imp (λσ H Q w=>fin (λ_ _=>rfl) w) pe_str)
noncomputable def Ak(X:Cx)(n:Str)(d:D):Prop:=∃v u,X.mg n=some u/\RelV v u/\∀H O,RD X.K H O d v
theorem G7 {g:Nat} {n:Str} (hg:Gl X n) (h:Ak X n (T.glob g)) (hd:(n==("__debug__" : Str))=false):SE T cf X (.glob g) (.Name n pos):=λH₀ O₀=>by
 obtain⟨v,u,hm,r,hv⟩:=h
 refine PE.imp (λσ H Q hq=>?_) (EC (v:=v) hg hm r hd)
 obtain⟨O,own,e,d,F,ev,q⟩:=hq
 rw[FL]at ev;cases ev
 exact q v H (Same.refl H) (hv H O) (λz=>by cases z)
noncomputable def rD2(K:PySem.W.Frag)(f:D->D->Res D)(fr:Bool):R2:=λx y H Q=>∃O d1 d2 d,RR K H O d1 x/\RR K H O d2 y/\f d1 d2=.ok d/\(∀a,O a->∃o,H a=some o)/\∀v H',Same H H'->RD K H' O d v->(fr=true->NewL K H H' O d v)->Q v H'
theorem uL{w:E}{pe:Expr}{f:D->D->Res D}(hw:∀e,evE T cf w e=(do let a<-evE T cf x e;let b<-evE T cf y e;f a b))
 (hop:∀{ta tb:TE},PE X p ta->PE X q tb->PE X pe (tOp (rD2 X.K f (bH T w)) ta tb)) (ha:SR T cf X x p) (hb:SR T cf X y q):SE T cf X w pe:=λH₀ O₀=>by
 refine PE.imp (λσ H Q hq=>?_) (hop (ha H₀ O₀) (hb H₀ O₀))
 obtain⟨O,own,e,d,F,ev,k⟩:=hq
 rw[hw]at ev
 obtain⟨d1,e1,ev⟩:=Res.bind_ok ev
 obtain⟨d2,e2,ev⟩:=Res.bind_ok ev
 refine⟨O,own,e,d1,F,e1,λv1 H1 s1 r1=>?_⟩
 refine⟨O,own,e,d2,F.grow s1,e2,λv2 H2 s2 r2=>?_⟩
 refine⟨O,d1,d2,d,r1.same s2,r2,ev,λa ha=>?_,λv H' s3 r3 n3=>?_⟩
 ·exact(F.grow (s1.trans s2)).trk a ha
 ·exact k v H' ((s1.trans s2).trans s3) r3 λfr=>(n3 fr).back (s1.trans s2)
end
noncomputable abbrev no:Addr->Prop:=λ_=>False
section
variable{X:Cx}{pins:List (Addr×Obj)}{σ:L2.St}{H:Hp}{s:Shared}
theorem pN(I:Inv X pins σ H s){a:Addr}{xs ys:List V}(h1:SqL X.K H a xs)(h2:SqT X.K H a ys):False:=by
 obtain⟨its,_,pl,_⟩:=I.list h1
 obtain⟨its',_,pt,_⟩:=I.tuple h2
 exact SeqAt.ne_of_list_tuple pl.isList pt rfl
theorem RD.sql{K:PySem.W.Frag}{O:Addr->Prop}{ds:List D}{v:V}(h:RD K H O (.lst ds) v):∃a xs,v=.ref a/\SqL K H a xs/\RDs K H O ds xs:=RR.lst (.inl h)
theorem Al (I:Inv X pins σ H s) {a:Addr} {ps:List (Key×V)} (h:Rd H a (.dK ps)):∃o,s.heap.get? a=some o/\o.cls=.type "dict" := by
 obtain⟨_,_,vs,_,o,es,ep,e,c,_⟩:=(show ObjOk X.prog X.w H s.heap a (.dK ps)from oT I.hok h)
 exact⟨o,e,c.1⟩
theorem pO(I:Inv X pins σ H s){a:Addr}{ps:List (Key×V)}{xs:List V}(h:Rd H a (.dK ps))(h2:SqL X.K H a xs):False:=by
 obtain⟨its,_,pl,_⟩:=I.list h2
 obtain⟨o,e,c⟩:=Al I h
 obtain⟨o',e',c',_⟩:=pl.isList
 rw[e]at e';cases e'
 rw[c]at c'
 injection c' with z
 exact absurd z (by decide)
theorem pP(I:Inv X pins σ H s){a:Addr}{ps:List (Key×V)}{xs:List V}(h:Rd H a (.dK ps))(h2:SqT X.K H a xs):False:=by
 obtain⟨its,_,pl,_⟩:=I.tuple h2
 obtain⟨o,e,c⟩:=Al I h
 obtain⟨o',e',c',_⟩:=pl
 rw[e]at e';cases e'
 rw[c]at c'
 injection c' with z
 exact absurd z (by decide)
theorem Am (I:Inv X pins σ H s) {a:Addr} {ps:List (List Key×V)} (h:Rd H a (.dT ps)):∃o,s.heap.get? a=some o/\o.cls=.type "dict" := by
 obtain⟨_,_,vs,_,o,es,ep,e,c,_⟩:=(show ObjOk X.prog X.w H s.heap a (.dT ps)from oT I.hok h)
 exact⟨o,e,c.1⟩
theorem pQ(I:Inv X pins σ H s){a:Addr}{ps:List (List Key×V)}{xs:List V}(h:Rd H a (.dT ps))(h2:SqL X.K H a xs):False:=by
 obtain⟨its,_,pl,_⟩:=I.list h2
 obtain⟨o,e,c⟩:=Am I h
 obtain⟨o',e',c',_⟩:=pl.isList
 rw[e]at e';cases e'
 rw[c]at c'
 injection c' with z
 exact absurd z (by decide)
theorem pR(I:Inv X pins σ H s){a:Addr}{ps:List (List Key×V)}{xs:List V}(h:Rd H a (.dT ps))(h2:SqT X.K H a xs):False:=by
 obtain⟨its,_,pl,_⟩:=I.tuple h2
 obtain⟨o,e,c⟩:=Am I h
 obtain⟨o',e',c',_⟩:=pl
 rw[e]at e';cases e'
 rw[c]at c'
 injection c' with z
 exact absurd z (by decide)
mutual
theorem RD.inj(I:Inv X pins σ H s):∀{d d':D} {v:V},RD X.K H no d v->RD X.K H no d' v->d=d'
 |.non,d',v,h,h'=>by cases (show v=.non from h);cases d'<;>first|(obtain⟨a,xs,e,_⟩:=h';cases e;done)|rfl|(cases h';done)
 |.bl b,d',v,h,h'=>by cases (show v=.bl b from h);cases d'<;>first|(obtain⟨a,xs,e,_⟩:=h';cases e;done)|rfl|(cases h';rfl)|(cases h';done)
 |.int b,d',v,h,h'=>by cases (show v=.int b from h);cases d'<;>first|(obtain⟨a,xs,e,_⟩:=h';cases e;done)|rfl|(cases h';rfl)|(cases h';done)
 |.str b,d',v,h,h'=>by cases (show v=.str b from h);cases d'<;>first|(obtain⟨a,xs,e,_⟩:=h';cases e;done)|rfl|(cases h';rfl)|(cases h';done)
 |.tup ds,d',v,h,h'=>by
  obtain⟨a,xs,e,q,r⟩:=h
  subst e
  cases d' with
  |tup ds'=>
   obtain⟨a',xs',e,q',r'⟩:=h'
   cases e
   have:=I.tuple_inj q.sq q'.sq
   subst this
   rw[RDs.inj I r r']
  |lst ds'=>
   obtain⟨a',xs',e,q',r'⟩:=RD.sql h'
   cases e
   exact(pN I q' q.sq).elim
  |non=>cases h'
  |bl _=>cases h'
  |int _=>cases h'
  |str _=>cases h'
  |dct _=>
   obtain⟨a',xs',e,q',r'⟩:=h'
   cases e
   exact(pP I (.inr q') q.sq).elim
  |tdc _=>
   obtain⟨a',xs',e,q',r'⟩:=h'
   cases e
   exact(pR I (.inr q') q.sq).elim
 |.lst ds,d',v,h,h'=>by
  obtain⟨a,xs,e,q,r⟩:=RD.sql h
  subst e
  cases d' with
  |lst ds'=>
   obtain⟨a',xs',e,q',r'⟩:=RD.sql h'
   cases e
   have:=I.list_inj q q'
   subst this
   rw[RDs.inj I r r']
  |tup ds'=>
   obtain⟨a',xs',e,q',r'⟩:=h'
   cases e
   exact(pN I q q'.sq).elim
  |non=>cases h'
  |bl _=>cases h'
  |int _=>cases h'
  |str _=>cases h'
  |dct _=>
   obtain⟨a',xs',e,q',r'⟩:=h'
   cases e
   exact(pO I (.inr q') q).elim
  |tdc _=>
   obtain⟨a',xs',e,q',r'⟩:=h'
   cases e
   exact(pQ I (.inr q') q).elim
 |.dct kvs,d',v,h,h'=>by
  obtain⟨a,xs,e,q,r⟩:=h
  subst e
  cases d' with
  |dct kvs'=>
   obtain⟨a',xs',e,q',r'⟩:=h'
   cases e
   obtain⟨o1,q⟩:=q
   obtain⟨o2,q'⟩:=q'
   have:=q.symm.trans q'
   cases this
   rw[RDk.inj I r r']
  |tup ds'=>
   obtain⟨a',xs',e,q',r'⟩:=h'
   cases e
   exact(pP I (.inr q) q'.sq).elim
  |lst ds'=>
   obtain⟨a',xs',e,q',r'⟩:=RD.sql h'
   cases e
   exact(pO I (.inr q) q').elim
  |non=>cases h'
  |bl _=>cases h'
  |int _=>cases h'
  |str _=>cases h'
  |tdc _=>
   obtain⟨a',xs',e,q',r'⟩:=h'
   cases e
   obtain⟨o1,q⟩:=q
   obtain⟨o2,q'⟩:=q'
   have:=q.symm.trans q'
   cases this
 |.tdc kvs,d',v,h,h'=>by
  obtain⟨a,xs,e,q,r⟩:=h
  subst e
  cases d' with
  |tdc kvs'=>
   obtain⟨a',xs',e,q',r'⟩:=h'
   cases e
   obtain⟨o1,q⟩:=q
   obtain⟨o2,q'⟩:=q'
   have:=q.symm.trans q'
   cases this
   rw[RDt.inj I r r']
  |tup ds'=>
   obtain⟨a',xs',e,q',r'⟩:=h'
   cases e
   exact(pR I (.inr q) q'.sq).elim
  |lst ds'=>
   obtain⟨a',xs',e,q',r'⟩:=RD.sql h'
   cases e
   exact(pQ I (.inr q) q').elim
  |non=>cases h'
  |bl _=>cases h'
  |int _=>cases h'
  |str _=>cases h'
  |dct _=>
   obtain⟨a',xs',e,q',r'⟩:=h'
   cases e
   obtain⟨o1,q⟩:=q
   obtain⟨o2,q'⟩:=q'
   have:=q.symm.trans q'
   cases this
theorem RDs.inj(I:Inv X pins σ H s):∀{ds ds':List D} {vs:List V},RDs X.K H no ds vs->RDs X.K H no ds' vs->ds=ds'
 |[],[],_,_,_=>rfl
 |[],_::_,_,h,h'=>by
  rw[RDs]at h;subst h
  obtain⟨_,_,e,_⟩:=h';cases e
 |_::_,[],_,h,h'=>by
  rw[RDs]at h';subst h'
  obtain⟨_,_,e,_⟩:=h;cases e
 |d::ds,d'::ds',vs,h,h'=>by
  obtain⟨v,r,rfl,h1,h2⟩:=h
  obtain⟨v',r',e,h1',h2'⟩:=h'
  cases e
  rw[RD.inj I h1 h1',RDs.inj I h2 h2']
theorem RDk.inj(I:Inv X pins σ H s):∀{ds ds':List (Sum Int Str×D)} {vs:List (Key×V)},RDk X.K H no ds vs->RDk X.K H no ds' vs->ds=ds'
 |[],[],_,_,_=>rfl
 |[],_::_,_,h,h'=>by
  rw[RDk]at h;subst h
  obtain⟨_,_,e,_⟩:=h';cases e
 |_::_,[],_,h,h'=>by
  rw[RDk]at h';subst h'
  obtain⟨_,_,e,_⟩:=h;cases e
 |(k,d)::ds,(k',d')::ds',vs,h,h'=>by
  obtain⟨v,r,rfl,h1,h2⟩:=h
  obtain⟨v',r',e,h1',h2'⟩:=h'
  cases e
  rw[RD.inj I h1 h1',RDk.inj I h2 h2']
theorem RDt.inj(I:Inv X pins σ H s):∀{ds ds':List (List (Sum Int Str)×D)} {vs:List (List Key×V)},RDt X.K H no ds vs->RDt X.K H no ds' vs->ds=ds'
 |[],[],_,_,_=>rfl
 |[],_::_,_,h,h'=>by
  rw[RDt]at h;subst h
  obtain⟨_,_,e,_⟩:=h';cases e
 |_::_,[],_,h,h'=>by
  rw[RDt]at h';subst h'
  obtain⟨_,_,e,_⟩:=h;cases e
 |(k,d)::ds,(k',d')::ds',vs,h,h'=>by
  obtain⟨v,r,rfl,h1,h2⟩:=h
  obtain⟨v',r',e,h1',h2'⟩:=h'
  cases e
  rw[RD.inj I h1 h1',RDt.inj I h2 h2']
end
noncomputable def fO(xs ys:List D)(j:Nat):Bool:=match xs[j]?,ys[j]? with
 |some x,some y=>D.eqb x y
 |_,_=>false
theorem G8(x y:D)(xs ys:List D)(j:Nat):fO (x::xs) (y::ys) (j+1)=fO xs ys j:=by simp[fO]
theorem mZ:∀xs ys:List D,xs.length=ys.length->(aA xs.length).all (fO xs ys)=D.eqs xs ys
 |[],[],_=>rfl
 |[],_::_,h=>by simp at h
 |_::_,[],h=>by simp at h
 |x::xs,y::ys,h=>by
  rw[aN,mF,fG,xU,tH,<-mZ xs ys (by simpa using h)]
  congr 1
theorem nA:∀xs ys:List D,xs.length≠ys.length->D.eqs xs ys=false
 |[],[],h=>by simp at h
 |[],_::_,_=>rfl
 |_::_,[],_=>rfl
 |x::xs,y::ys,h=>by rw[tH,nA xs ys (by simpa using h),K9]
theorem uM{xs ys:List D}:((aA (min xs.length ys.length)).all (fO xs ys)&&xs.length==ys.length)=D.eqs xs ys:=by
 by_cases h:xs.length=ys.length
 ·rw[<-mZ xs ys h,h,Nat.min_self];simp
 ·rw[nA xs ys h];simp[h]
class Fr1 (u:HO):Prop where
 no:∀o v,u≠.frz o v
noncomputable instance{ps:List (Key×V)}:Fr1 (.dK ps):=⟨λo v z=>by cases z⟩
noncomputable instance{ps:List (List Key×V)}:Fr1 (.dT ps):=⟨λo v z=>by cases z⟩
inductive Sees(X:Cx)(H:Hp)(s:Shared):D->Value->Prop
 |non:Sees X H s .non .none
 |bl (b):Sees X H s (.bl b) (.bool b)
 |int (i t):Sees X H s (.int i) (.int i t)
 |str (x t):Sees X H s (.str x) (.str x t)
 |tup (ds:List D) (a:Addr) (xs:List V) (its:List Value):SqT X.K H a xs->RDs X.K H no ds xs->Vals xs its->IsTup s.heap a its.toArray->Sees X H s (.tup ds) (.ref a)
 |lst (ds:List D) (a:Addr) (xs:List V) (its:List Value):SqL X.K H a xs->RDs X.K H no ds xs->Vals xs its->PlainL s.heap a its.toArray->Sees X H s (.lst ds) (.ref a)
 |dct (ds:List (Sum Int Str×D)) (a:Addr) (ps:List (Key×V)):Rd H a (.dK ps)->RDk X.K H no ds ps->Sees X H s (.dct ds) (.ref a)
 |tdc (ds:List (List (Sum Int Str)×D)) (a:Addr) (ps:List (List Key×V)):Rd H a (.dT ps)->RDt X.K H no ds ps->Sees X H s (.tdc ds) (.ref a)
theorem nB(I:Inv X pins σ H s){d:D}{v:V}{u:Value}(h:RD X.K H no d v)(r:RelV v u):Sees X H s d u:=by
 cases d with
 |non=>cases (show v=.non from h);cases r;exact .non
 |bl b=>cases (show v=.bl b from h);cases r;exact .bl b
 |int i=>cases (show v=.int i from h);obtain⟨t,rfl⟩:=r;exact .int i t
 |str x=>cases (show v=.str x from h);obtain⟨t,rfl⟩:=r;exact .str x t
 |tup ds=>
  obtain⟨a,xs,rfl,q,w⟩:=h
  cases r
  obtain⟨its,r1,p1,_⟩:=I.tuple q.sq
  exact .tup ds a xs its q.sq w r1 p1
 |lst ds=>
  obtain⟨a,xs,rfl,q,w⟩:=RD.sql h
  cases r
  obtain⟨its,r1,p1,_⟩:=I.list q
  exact .lst ds a xs its q w r1 p1
 |dct ds=>
  obtain⟨a,ps,rfl,q,w⟩:=h
  cases r
  exact .dct ds a ps (.inr q) w
 |tdc ds=>
  obtain⟨a,ps,rfl,q,w⟩:=h
  cases r
  exact .tdc ds a ps (.inr q) w
theorem uN(I:Inv X pins σ H s){O:Addr->Prop}{d:D}{v:V}{u:Value}(h:RR X.K H O d v)(r:RelV v u):Sees X H s d u:=by
 have w:∀{a:Addr},no a->O a:=λz=>z.elim
 rcases h with h|⟨a,rfl,h⟩
 ·exact nB I (h.weak λ_ z=>z.elim) r
 ·cases r
  cases d with
  |lst ds=>exact nB I (OwnAt.rd (O:=no) (λz=>z) rfl (h.weak λ_ z=>z.elim)) rfl
  |dct ds=>
   obtain⟨ps,h1,h2⟩:=h
   exact .dct ds a ps (.inl h1) (h2.weak λ_ z=>z.elim)
  |tdc ds=>
   obtain⟨ps,h1,h2⟩:=h
   exact .tdc ds a ps (.inl h1) (h2.weak λ_ z=>z.elim)
  |_=>exact h.elim
theorem pS{a:Addr}{u u':HO}[Fr1 u][Fr1 u'](h:Rd H a u)(h':Rd H a u'):u=u':=by
 rcases h with h|⟨o,h⟩
 ·rcases h' with h'|⟨o',h'⟩
  ·exact eA.inj (h.symm.trans h')
  ·have e:=eA.inj (h.symm.trans h')
   exact(Fr1.no (u:=u) o' u' e).elim
 ·rcases h' with h'|⟨o',h'⟩
  ·have e:=eA.inj (h'.symm.trans h)
   exact(Fr1.no (u:=u') o u e).elim
  ·have e:=eA.inj (h.symm.trans h')
   cases e;rfl
theorem fP{ds:List D}{xs:List V}{its:List Value}(w:RDs X.K H no ds xs)(r:Vals xs its):its.length=ds.length:=by rw[<-r.length,w.length]
noncomputable def nC(X:Cx)(H:Hp)(s:Shared)(n:Nat):Prop:=∀(ds1 ds2:List D)(A:Around)(us1 us2:List Value)(xs1 xs2:List V),RDs X.K H no ds1 xs1->Vals xs1 us1->RDs X.K H no ds2 xs2->Vals xs2 us2->D.pls n ds1=true->D.pls n ds2=true->A.units+n<cLine ->
 ∀j (h1:j<us1.length) (h2:j<us2.length),SeqAt.EqAt A.in1 s us1[j] us2[j] (fO ds1 ds2 j)
noncomputable def uO(X:Cx)(H:Hp)(s:Shared)(n:Nat):Prop:=∀(d1 d2:D)(A:Around)(u1 u2:Value),Sees X H s d1 u1->Sees X H s d2 u2->D.pl n d1=true->D.pl n d2=true->A.units+n<cLine->SeqAt.EqAt A s u1 u2 (D.eqb d1 d2)
theorem An(I:Inv X pins σ H s){n:Nat}(it:nC X H s n):uO X H s n:=by
 intro d1 d2 A u1 u2 h1 h2 f1 f2 hu
 have hu':A.units<cLine:=by lia
 have nd2:∀ds,d2≠.dct ds:=λds z=>by rw[z]at f2;cases f2
 have nt2:∀ds,d2≠.tdc ds:=λds z=>by rw[z]at f2;cases f2
 cases h1 with
 |dct ds a ps q w=>cases f1
 |tdc ds a ps q w=>cases f1
 |non=>cases h2 with
  |non=>exact SeqAt.EqAt.same _
  |bl b=>exact SeqAt.EqAt.none_bool b
  |int b t=>exact SeqAt.EqAt.none_int b t
  |str b t=>exact SeqAt.EqAt.none_str b t
  |tup ds a xs its q w r p=>exact SeqAt.EqAt.none_tuple p hu'
  |lst ds a xs its q w r p=>exact SeqAt.EqAt.none_list p.isList hu'
  |dct ds a ps q w=>exact absurd rfl (nd2 ds)
  |tdc ds a ps q w=>exact absurd rfl (nt2 ds)
 |bl x=>cases h2 with
  |non=>exact SeqAt.EqAt.bool_none x
  |bl b=>exact SeqAt.EqAt.bool_bool x b
  |int b t=>exact SeqAt.EqAt.bool_int x b t
  |str b t=>exact SeqAt.EqAt.bool_str x b t
  |tup ds a xs its q w r p=>exact SeqAt.EqAt.bool_tuple x p hu'
  |lst ds a xs its q w r p=>exact SeqAt.EqAt.bool_list x p.isList hu'
  |dct ds a ps q w=>exact absurd rfl (nd2 ds)
  |tdc ds a ps q w=>exact absurd rfl (nt2 ds)
 |int x t'=>cases h2 with
  |non=>exact SeqAt.EqAt.int_none x t'
  |bl b=>exact SeqAt.EqAt.int_bool x t' b
  |int b t=>exact SeqAt.EqAt.int_int x t' b t
  |str b t=>exact SeqAt.EqAt.int_str x t' b t
  |tup ds a xs its q w r p=>exact SeqAt.EqAt.int_tuple x t' p hu'
  |lst ds a xs its q w r p=>exact SeqAt.EqAt.int_list x t' p.isList hu'
  |dct ds a ps q w=>exact absurd rfl (nd2 ds)
  |tdc ds a ps q w=>exact absurd rfl (nt2 ds)
 |str x t'=>cases h2 with
  |non=>exact SeqAt.EqAt.str_none x t'
  |bl b=>exact SeqAt.EqAt.str_bool x t' b
  |int b t=>exact SeqAt.EqAt.str_int x t' b t
  |str b t=>exact SeqAt.EqAt.str_str x t' b t
  |tup ds a xs its q w r p=>exact SeqAt.EqAt.str_tuple x t' p hu'
  |lst ds a xs its q w r p=>exact SeqAt.EqAt.str_list x t' p.isList hu'
  |dct ds a ps q w=>exact absurd rfl (nd2 ds)
  |tdc ds a ps q w=>exact absurd rfl (nt2 ds)
 |tup ds1 a1 xs1 its1 q1 w1 r1 p1=>cases h2 with
  |non=>exact SeqAt.EqAt.tuple_none p1 hu'
  |bl b=>exact SeqAt.EqAt.tuple_bool b p1 hu'
  |int b t=>exact SeqAt.EqAt.tuple_int b t p1 hu'
  |str b t=>exact SeqAt.EqAt.tuple_str b t p1 hu'
  |lst ds a xs its q w r p=>exact SeqAt.EqAt.tuple_list p1 p.isList hu'
  |dct ds a ps q w=>exact absurd rfl (nd2 ds)
  |tdc ds a ps q w=>exact absurd rfl (nt2 ds)
  |tup ds2 a2 xs2 its2 q2 w2 r2 p2=>
   by_cases ha:a1=a2
   ·subst ha
    have:=I.tuple_inj q1 q2
    subst this
    have:=RDs.inj I w1 w2
    subst this
    rw[D.eqb_refl n _ f1]
    exact SeqAt.EqAt.same _
   ·rw[oU,<-uM,<-fP w1 r1,<-fP w2 r2]
    have z:=SeqAt.EqAt.of_refs ha (SeqAt.RcAt.tuples (A:=A) (e:=fO ds1 ds2) p1 p2 hu' λj j1 j2=>by
     have:=it ds1 ds2 A its1 its2 xs1 xs2 w1 r1 w2 r2 f1 f2 hu j (by simpa using j1) (by simpa using j2)
     simpa using this)
    simpa using z
 |lst ds1 a1 xs1 its1 q1 w1 r1 p1=>cases h2 with
  |non=>exact SeqAt.EqAt.list_none p1.isList hu'
  |bl b=>exact SeqAt.EqAt.list_bool b p1.isList hu'
  |int b t=>exact SeqAt.EqAt.list_int b t p1.isList hu'
  |str b t=>exact SeqAt.EqAt.list_str b t p1.isList hu'
  |tup ds a xs its q w r p=>exact SeqAt.EqAt.list_tuple p1.isList p hu'
  |dct ds a ps q w=>exact absurd rfl (nd2 ds)
  |tdc ds a ps q w=>exact absurd rfl (nt2 ds)
  |lst ds2 a2 xs2 its2 q2 w2 r2 p2=>
   by_cases ha:a1=a2
   ·subst ha
    have:=I.list_inj q1 q2
    subst this
    have:=RDs.inj I w1 w2
    subst this
    rw[D.eqb_refl n _ f1]
    exact SeqAt.EqAt.same _
   ·have l1:=fP w1 r1
    have l2:=fP w2 r2
    rw[oV]
    by_cases hl:ds1.length=ds2.length
    ·rw[<-mZ ds1 ds2 hl,<-l1]
     have z:=SeqAt.EqAt.of_refs ha (SeqAt.RcAt.lists (A:=A) (e:=fO ds1 ds2) p1.isList p2.isList (by simp only[aQ];lia) hu' λj j1 j2=>by
      have:=it ds1 ds2 A its1 its2 xs1 xs2 w1 r1 w2 r2 f1 f2 hu j (by simpa using j1) (by simpa using j2)
      simpa using this)
     simpa using z
    ·rw[nA ds1 ds2 hl]
     exact SeqAt.EqAt.of_refs ha (SeqAt.RcAt.lists_lengths p1.isList p2.isList (by simp only[aQ,bne_iff_ne,ne_eq];lia) hu')
theorem G9:nC X H s 0:=by
 intro ds1 ds2 A us1 us2 xs1 xs2 w1 r1 w2 r2 f1 f2 hu j h1 h2
 cases ds1 with
 |nil=>
  rw[RDs]at w1;subst w1
  cases r1
  exact absurd h1 (yB _)
 |cons d ds=>cases f1
theorem G_(I:Inv X pins σ H s){n:Nat}(ih:uO X H s n):nC X H s (n+1):=by
 intro ds1
 induction ds1 with
 |nil=>
  intro ds2 A us1 us2 xs1 xs2 w1 r1 w2 r2 f1 f2 hu j h1 h2
  rw[RDs]at w1;subst w1
  cases r1
  exact absurd h1 (yB _)
 |cons d1 ds1 ih2=>
  intro ds2 A us1 us2 xs1 xs2 w1 r1 w2 r2 f1 f2 hu j h1 h2
  cases ds2 with
  |nil=>
   rw[RDs]at w2;subst w2
   cases r2
   exact absurd h2 (yB _)
  |cons d2 ds2=>
   obtain⟨v1,y1,rfl,e1,w1⟩:=w1
   obtain⟨v2,y2,rfl,e2,w2⟩:=w2
   cases r1 with
   |cons a1 r1=>
    cases r2 with
    |cons a2 r2=>
     rw[tJ,aE]at f1 f2
     cases j with
     |zero=>exact ih d1 d2 A.in1 _ _ (nB I e1 a1) (nB I e2 a2) f1.1 f2.1 (by show A.units+1+n<cLine;lia)
     |succ j=>
      rw[G8]
      exact ih2 ds2 A _ _ _ _ w1 r1 w2 r2 f1.2 f2.2 hu j (Ky h1) (Ky h2)
theorem uP(I:Inv X pins σ H s):∀n,nC X H s n
 |0=>G9
 |n+1=>G_ I (An I (uP I n))
theorem eqAt_D(I:Inv X pins σ H s)(n:Nat):uO X H s n:=An I (uP I n)
theorem pT(I:Inv X pins σ H s)(n:Nat):nC X H s n:=uP I n
end
theorem bM{H:Hp}{p:Addr}(h:H p=none)(o:HO):Same H (upd H p o):=λb u q=>by rw[aI (fH q h)];exact q
section
variable{K:PySem.W.Frag}{H:Hp}{O:Addr->Prop}{p:Addr}{ds:List D}{xs:List V}
theorem lB(w:RDs K H O ds xs)(hp:H p=none)(tr:∀a,O a->∃o,H a=some o):RD K (upd H p (.lst xs)) O (.lst ds) (.ref p)/\NewL K H (upd H p (.lst xs)) O (.lst ds) (.ref p):=by
 have nO:¬O p:=λz=>by
  obtain⟨o,q⟩:=tr p z
  rw[hp]at q;cases q
 exact⟨⟨p,xs,rfl,.inl ⟨nO,.inl bY⟩,w.same (bM hp _)⟩,λ_=>⟨p,rfl,hp,xs,bY,(w.new hp).same (bM hp _)⟩⟩
theorem Ga{ds:List (Sum Int Str×D)}{ps:List (Key×V)}(w:RDk K H O ds ps)(hp:H p=none):OwnAt K (upd H p (.dK ps)) (cS O p) p (.dct ds):=⟨ps,bY,(w.new hp).same (bM hp _)⟩
theorem Gb{ds:List (List (Sum Int Str)×D)}{ps:List (List Key×V)}(w:RDt K H O ds ps)(hp:H p=none):OwnAt K (upd H p (.dT ps)) (cS O p) p (.tdc ds):=⟨ps,bY,(w.new hp).same (bM hp _)⟩
theorem lC(w:RDs K H O ds xs)(hp:H p=none):RD K (upd H p (.tup xs)) O (.tup ds) (.ref p):=⟨p,xs,rfl,.inl bY,w.same (bM hp _)⟩
end
section
variable{X:Cx}{pins:List (Addr×Obj)}{σ:L2.St}{H:Hp}{s:Shared}
theorem rcAt_D(I:Inv X pins σ H s){n:Nat}{d1 d2:D}{A:Around}{u1 u2:Value}(h1:Sees X H s d1 u1)(h2:Sees X H s d2 u2)(f1:D.pl n d1=true)(f2:D.pl n d2=true)(hu:A.units+n<cLine):SeqAt.RcAt A s u1 u2 (D.eqb d1 d2):=by
 have hu':A.units<cLine:=by lia
 have nd2:∀ds,d2≠.dct ds:=λds z=>by rw[z]at f2;cases f2
 have nt2:∀ds,d2≠.tdc ds:=λds z=>by rw[z]at f2;cases f2
 cases h1 with
 |dct ds a ps q w=>cases f1
 |tdc ds a ps q w=>cases f1
 |non=>cases h2 with
  |non=>exact SeqAt.RcAt.none_none
  |bl b=>exact SeqAt.RcAt.none_bool b
  |int b t=>exact SeqAt.RcAt.none_int b t
  |str b t=>exact SeqAt.RcAt.none_str b t
  |tup ds a xs its q w r p=>exact SeqAt.RcAt.none_tuple p hu'
  |lst ds a xs its q w r p=>exact SeqAt.RcAt.none_list p.isList hu'
  |dct ds a ps q w=>exact absurd rfl (nd2 ds)
  |tdc ds a ps q w=>exact absurd rfl (nt2 ds)
 |bl x=>cases h2 with
  |non=>exact SeqAt.RcAt.bool_none x
  |bl b=>exact SeqAt.RcAt.bool_bool x b
  |int b t=>exact SeqAt.RcAt.bool_int x b t
  |str b t=>exact SeqAt.RcAt.bool_str x b t
  |tup ds a xs its q w r p=>exact SeqAt.RcAt.bool_tuple x p hu'
  |lst ds a xs its q w r p=>exact SeqAt.RcAt.bool_list x p.isList hu'
  |dct ds a ps q w=>exact absurd rfl (nd2 ds)
  |tdc ds a ps q w=>exact absurd rfl (nt2 ds)
 |int x t'=>cases h2 with
  |non=>exact SeqAt.RcAt.int_none x t'
  |bl b=>exact SeqAt.RcAt.int_bool x t' b
  |int b t=>exact SeqAt.RcAt.int_int x t' b t
  |str b t=>exact SeqAt.RcAt.int_str x t' b t
  |tup ds a xs its q w r p=>exact SeqAt.RcAt.int_tuple x t' p hu'
  |lst ds a xs its q w r p=>exact SeqAt.RcAt.int_list x t' p.isList hu'
  |dct ds a ps q w=>exact absurd rfl (nd2 ds)
  |tdc ds a ps q w=>exact absurd rfl (nt2 ds)
 |str x t'=>cases h2 with
  |non=>exact SeqAt.RcAt.str_none x t'
  |bl b=>exact SeqAt.RcAt.str_bool x t' b
  |int b t=>exact SeqAt.RcAt.str_int x t' b t
  |str b t=>exact SeqAt.RcAt.str_str x t' b t
  |tup ds a xs its q w r p=>exact SeqAt.RcAt.str_tuple x t' p hu'
  |lst ds a xs its q w r p=>exact SeqAt.RcAt.str_list x t' p.isList hu'
  |dct ds a ps q w=>exact absurd rfl (nd2 ds)
  |tdc ds a ps q w=>exact absurd rfl (nt2 ds)
 |tup ds1 a1 xs1 its1 q1 w1 r1 p1=>cases h2 with
  |non=>exact SeqAt.RcAt.tuple_none p1 hu'
  |bl b=>exact SeqAt.RcAt.tuple_bool b p1 hu'
  |int b t=>exact SeqAt.RcAt.tuple_int b t p1 hu'
  |str b t=>exact SeqAt.RcAt.tuple_str b t p1 hu'
  |lst ds a xs its q w r p=>exact SeqAt.RcAt.tuple_list p1 p.isList hu'
  |dct ds a ps q w=>exact absurd rfl (nd2 ds)
  |tdc ds a ps q w=>exact absurd rfl (nt2 ds)
  |tup ds2 a2 xs2 its2 q2 w2 r2 p2=>
   rw[oU,<-uM,<-fP w1 r1,<-fP w2 r2]
   have z:=SeqAt.RcAt.tuples (A:=A) (e:=fO ds1 ds2) p1 p2 hu' λj j1 j2=>by
    have:=pT I n ds1 ds2 A its1 its2 xs1 xs2 w1 r1 w2 r2 f1 f2 hu j (by simpa using j1) (by simpa using j2)
    simpa using this
   simpa using z
 |lst ds1 a1 xs1 its1 q1 w1 r1 p1=>cases h2 with
  |non=>exact SeqAt.RcAt.list_none p1.isList hu'
  |bl b=>exact SeqAt.RcAt.list_bool b p1.isList hu'
  |int b t=>exact SeqAt.RcAt.list_int b t p1.isList hu'
  |str b t=>exact SeqAt.RcAt.list_str b t p1.isList hu'
  |tup ds a xs its q w r p=>exact SeqAt.RcAt.list_tuple p1.isList p hu'
  |dct ds a ps q w=>exact absurd rfl (nd2 ds)
  |tdc ds a ps q w=>exact absurd rfl (nt2 ds)
  |lst ds2 a2 xs2 its2 q2 w2 r2 p2=>
   have l1:=fP w1 r1
   have l2:=fP w2 r2
   rw[oV]
   by_cases hl:ds1.length=ds2.length
   ·rw[<-mZ ds1 ds2 hl,<-l1]
    have z:=SeqAt.RcAt.lists (A:=A) (e:=fO ds1 ds2) p1.isList p2.isList (by simp only[aQ];lia) hu' λj j1 j2=>by
     have:=pT I n ds1 ds2 A its1 its2 xs1 xs2 w1 r1 w2 r2 f1 f2 hu j (by simpa using j1) (by simpa using j2)
     simpa using this
    simpa using z
   ·rw[nA ds1 ds2 hl]
    exact SeqAt.RcAt.lists_lengths p1.isList p2.isList (by simp only[aQ,bne_iff_ne,ne_eq];lia) hu'
theorem Gc(I:Inv X pins σ H s){n:Nat}{d1 d2:D}{A:Around}{u1 u2:Value}(h1:Sees X H s d1 u1)(h2:Sees X H s d2 u2)(f1:D.pl n d1=true)(f2:D.pl n d2=true)(hu:A.units+n<cLine):SeqAt.RcNeAt A s u1 u2 (!D.eqb d1 d2):=by
 have hu':A.units<cLine:=by lia
 have nd2:∀ds,d2≠.dct ds:=λds z=>by rw[z]at f2;cases f2
 have nt2:∀ds,d2≠.tdc ds:=λds z=>by rw[z]at f2;cases f2
 cases h1 with
 |dct ds a ps q w=>cases f1
 |tdc ds a ps q w=>cases f1
 |non=>cases h2 with
  |non=>exact SeqAt.RcNeAt.none_none
  |bl b=>exact SeqAt.RcNeAt.none_bool b
  |int b t=>exact SeqAt.RcNeAt.none_int b t
  |str b t=>exact SeqAt.RcNeAt.none_str b t
  |tup ds a xs its q w r p=>exact SeqAt.RcNeAt.none_tuple p hu'
  |lst ds a xs its q w r p=>exact SeqAt.RcNeAt.none_list p.isList hu'
  |dct ds a ps q w=>exact absurd rfl (nd2 ds)
  |tdc ds a ps q w=>exact absurd rfl (nt2 ds)
 |bl x=>cases h2 with
  |non=>exact SeqAt.RcNeAt.bool_none x
  |bl b=>exact SeqAt.RcNeAt.bool_bool x b
  |int b t=>exact SeqAt.RcNeAt.bool_int x b t
  |str b t=>exact SeqAt.RcNeAt.bool_str x b t
  |tup ds a xs its q w r p=>exact SeqAt.RcNeAt.bool_tuple x p hu'
  |lst ds a xs its q w r p=>exact SeqAt.RcNeAt.bool_list x p.isList hu'
  |dct ds a ps q w=>exact absurd rfl (nd2 ds)
  |tdc ds a ps q w=>exact absurd rfl (nt2 ds)
 |int x t'=>cases h2 with
  |non=>exact SeqAt.RcNeAt.int_none x t'
  |bl b=>exact SeqAt.RcNeAt.int_bool x t' b
  |int b t=>exact SeqAt.RcNeAt.int_int x t' b t
  |str b t=>exact SeqAt.RcNeAt.int_str x t' b t
  |tup ds a xs its q w r p=>exact SeqAt.RcNeAt.int_tuple x t' p hu'
  |lst ds a xs its q w r p=>exact SeqAt.RcNeAt.int_list x t' p.isList hu'
  |dct ds a ps q w=>exact absurd rfl (nd2 ds)
  |tdc ds a ps q w=>exact absurd rfl (nt2 ds)
 |str x t'=>cases h2 with
  |non=>exact SeqAt.RcNeAt.str_none x t'
  |bl b=>exact SeqAt.RcNeAt.str_bool x t' b
  |int b t=>exact SeqAt.RcNeAt.str_int x t' b t
  |str b t=>exact SeqAt.RcNeAt.str_str x t' b t
  |tup ds a xs its q w r p=>exact SeqAt.RcNeAt.str_tuple x t' p hu'
  |lst ds a xs its q w r p=>exact SeqAt.RcNeAt.str_list x t' p.isList hu'
  |dct ds a ps q w=>exact absurd rfl (nd2 ds)
  |tdc ds a ps q w=>exact absurd rfl (nt2 ds)
 |tup ds1 a1 xs1 its1 q1 w1 r1 p1=>cases h2 with
  |non=>exact SeqAt.RcNeAt.tuple_none p1 hu'
  |bl b=>exact SeqAt.RcNeAt.tuple_bool b p1 hu'
  |int b t=>exact SeqAt.RcNeAt.tuple_int b t p1 hu'
  |str b t=>exact SeqAt.RcNeAt.tuple_str b t p1 hu'
  |lst ds a xs its q w r p=>exact SeqAt.RcNeAt.tuple_list p1 p.isList hu'
  |dct ds a ps q w=>exact absurd rfl (nd2 ds)
  |tdc ds a ps q w=>exact absurd rfl (nt2 ds)
  |tup ds2 a2 xs2 its2 q2 w2 r2 p2=>
   rw[oU,<-uM,<-fP w1 r1,<-fP w2 r2]
   have z:=SeqAt.RcNeAt.tuples (A:=A) (e:=fO ds1 ds2) p1 p2 hu' λj j1 j2=>by
    have:=pT I n ds1 ds2 A its1 its2 xs1 xs2 w1 r1 w2 r2 f1 f2 hu j (by simpa using j1) (by simpa using j2)
    simpa using this
   simpa using z
 |lst ds1 a1 xs1 its1 q1 w1 r1 p1=>cases h2 with
  |non=>exact SeqAt.RcNeAt.list_none p1.isList hu'
  |bl b=>exact SeqAt.RcNeAt.list_bool b p1.isList hu'
  |int b t=>exact SeqAt.RcNeAt.list_int b t p1.isList hu'
  |str b t=>exact SeqAt.RcNeAt.list_str b t p1.isList hu'
  |tup ds a xs its q w r p=>exact SeqAt.RcNeAt.list_tuple p1.isList p hu'
  |dct ds a ps q w=>exact absurd rfl (nd2 ds)
  |tdc ds a ps q w=>exact absurd rfl (nt2 ds)
  |lst ds2 a2 xs2 its2 q2 w2 r2 p2=>
   have l1:=fP w1 r1
   have l2:=fP w2 r2
   rw[oV]
   by_cases hl:ds1.length=ds2.length
   ·rw[<-mZ ds1 ds2 hl,<-l1]
    have z:=SeqAt.RcNeAt.lists (A:=A) (e:=fO ds1 ds2) p1.isList p2.isList (by simp only[aQ];lia) hu' λj j1 j2=>by
     have:=pT I n ds1 ds2 A its1 its2 xs1 xs2 w1 r1 w2 r2 f1 f2 hu j (by simpa using j1) (by simpa using j2)
     simpa using this
    simpa using z
   ·rw[nA ds1 ds2 hl]
    exact SeqAt.RcNeAt.lists_lengths p1.isList p2.isList (by simp only[aQ,bne_iff_ne,ne_eq];lia) hu'
end
section
variable{X:Cx}
theorem fQ:big=sizeLine:=by rw[sizeLine_eq];rfl
theorem Gd:OpR X (binaryOp .Add) (λx y H Q=>∃l b xs zs,x=.ref l/\y=.ref b/\SqL X.K H l xs/\SqL X.K H b zs/\xs.length+zs.length<=sizeLine/\∀p,H p=none->Q (.ref p) (upd H p (.lst (xs++zs)))):=by
 intro pins s σ H x y v u Q I rx ry h
 obtain⟨l,b,xs,zs,rfl,rfl,hH,hB,hz,q⟩:=h
 cases rx
 cases ry
 obtain⟨its,r,pl,z⟩:=I.list hH
 obtain⟨its2,r2,pl2,z2⟩:=I.list hB
 have hl:=r.length
 have hl2:=r2.length
 obtain⟨⟨cls,dd,data,sl⟩,ho,hc,n,hd⟩:=pl.isList
 obtain⟨⟨cls2,dd2,data2,sl2⟩,ho2,hc2,n2,hd2⟩:=pl2.isList
 simp only at hc hd hc2 hd2
 subst hc hd hc2 hd2
 have ea:its.toArray++its2.toArray=(its++its2).toArray:=by simp
 refine concat_meets ⟨_,ho,rfl⟩ ⟨_,ho2,rfl⟩ noFill_list_add seq_list_add PySem.F.slot_list_add PySem.F.entry_list_add (PySem.F.args_list_add_2 _ _) (list_addW l b its.toArray its2.toArray n n2 dd dd2 sl sl2 (by simp only[aQ];lia)) ⟨ho,ho2,?_⟩
 rw[ea]
 exact⟨.ref _,_,I.lnew (t':=s.toks) (r.append r2) (by rw[bL];lia),rfl,q _ I.fresh⟩
theorem Ge:OpR X (binaryOp .Add) (λx y H Q=>∃a b xs ys,x=.ref a/\y=.ref b/\SqT X.K H a xs/\SqT X.K H b ys/\xs.length+ys.length<=sizeLine /\
 (xs=[]->Q (.ref b) H)/\(ys=[]->Q (.ref a) H)/\∀p,H p=none->Q (.ref p) (upd H p (.tup (xs++ys)))):=by
 intro pins s σ H x y v u Q I rx ry h
 obtain⟨a,b,xs,ys,rfl,rfl,ha,hb,hz,q0,q1,q2⟩:=h
 by_cases hx:xs=[]
 ·cases rx
  cases ry
  obtain⟨its,r1,p1,_⟩:=I.tuple ha
  obtain⟨its2,r2,p2,_⟩:=I.tuple hb
  obtain⟨⟨cls,dd,data,sl⟩,ho,hc,n,hd⟩:=id p1
  obtain⟨⟨cls2,dd2,data2,sl2⟩,ho2,hc2,n2,hd2⟩:=id p2
  simp only at hc hd hc2 hd2
  subst hc hd hc2 hd2
  have hv:its=[]:=r1.nil_iff.mpr hx
  exact concat_meets ⟨_,ho,rfl⟩ ⟨_,ho2,rfl⟩ noFill_tuple_add seq_tuple_add PySem.F.slot_tuple_add PySem.F.entry_tuple_add (PySem.F.args_tuple_add_2 _ _)
   (tuple_addW0 a b its.toArray its2.toArray n n2 dd dd2 sl sl2 (by simp[hv])) ⟨ho,ho2,⟨.ref b,H,I,rfl,q0 hx⟩⟩
 ·exact Ed pins s σ H _ _ v u Q I rx ry ⟨a,b,xs,ys,rfl,rfl,ha,hb,hx,hz,q1,λ_=>q2⟩
end
section
variable{X:Cx}
noncomputable def eU(X:Cx):Prop:=X.A.units+64<cLine
theorem RDs.rep{K:PySem.W.Frag}{H:Hp}{O:Addr->Prop}{ds:List D}{vs:List V}(h:RDs K H O ds vs):∀n:Nat,RDs K H O (aM n ds).flatten (aM n vs).flatten
 |0=>rfl
 |n+1=>by
  rw[kL,kL,lY,lY]
  exact RDs.append h (RDs.rep h n)
theorem Gf(o:Operator)(fr:Bool)(hfr:fr=true->o=.Add):OpR X (binaryOp o) (rD2 X.K (D.bin o) fr):=by
 intro pins s σ H x y v u Q I rx ry h
 obtain⟨O,d1,d2,d,r1,r2,ev,tr,k⟩:=h
 have kk:∀w,d.still=true->RD X.K H O d w->Q w H:=λw n r=>k w H (Same.refl H) r λ_=>NewL.still n
 unfold D.bin at ev
 split at ev
 ·cases ev
  cases (show x=_ from r1.rd rfl)
  cases (show y=_ from r2.rd rfl)
  exact op_add pins s σ H _ _ v u Q I rx ry ⟨_,_,rfl,rfl,kk _ rfl rfl⟩
 ·obtain⟨c,ev⟩:=aU ev
  cases ev
  cases (show x=_ from r1.rd rfl)
  cases (show y=_ from r2.rd rfl)
  exact E2 pins s σ H _ _ v u Q I rx ry ⟨_,_,rfl,rfl,by rw[<-fQ];exact of_decide_eq_true c,kk _ rfl rfl⟩
 ·obtain⟨c,ev⟩:=aU ev
  cases ev
  obtain⟨a1,xs1,rfl,q1,w1⟩:=r1.lst
  obtain⟨a2,xs2,rfl,q2,w2⟩:=r2.lst
  refine Gd pins s σ H _ _ v u Q I rx ry ⟨a1,a2,xs1,xs2,rfl,rfl,q1,q2,by rw[<-fQ,w1.length,w2.length];exact of_decide_eq_true c,λp hp=>?_⟩
  have z:=lB (w1.append w2) hp tr
  exact k _ _ (bM hp _) z.1 λ_=>z.2
 ·obtain⟨c,ev⟩:=aU ev
  cases ev
  obtain⟨a1,xs1,rfl,q1,w1⟩:=r1.tupV
  obtain⟨a2,xs2,rfl,q2,w2⟩:=r2.tupV
  refine Ge pins s σ H _ _ v u Q I rx ry ⟨a1,a2,xs1,xs2,rfl,rfl,q1.sq,q2.sq,by rw[<-fQ,w1.length,w2.length];exact of_decide_eq_true c,λz=>?_,λz=>?_,λp hp=>?_⟩
  ·subst z
   have e:=w1.length
   have e':_=[]:=D9 e.symm
   subst e'
   exact kk _ rfl ⟨a2,xs2,rfl,q2,by simpa using w2⟩
  ·subst z
   have e:=w2.length
   have e':_=[]:=D9 e.symm
   subst e'
   exact kk _ rfl ⟨a1,xs1,rfl,q1,by simpa using w1⟩
  ·have z:=lC (w1.append w2) hp
   exact k _ _ (bM hp _) z λ_=>NewL.still rfl
 ·cases ev
  cases (show x=_ from r1.rd rfl)
  cases (show y=_ from r2.rd rfl)
  exact op_sub pins s σ H _ _ v u Q I rx ry ⟨_,_,rfl,rfl,kk _ rfl rfl⟩
 ·obtain⟨c,ev⟩:=aU ev
  cases ev
  cases (show x=_ from r1.rd rfl)
  cases (show y=_ from r2.rd rfl)
  refine op_mul pins s σ H _ _ v u Q I rx ry ⟨_,_,rfl,rfl,?_,kk _ rfl rfl⟩
  simp only[iF,eD,aE,decide_eq_true_eq]at c
  exact c
 ·rename_i aa jj
  obtain⟨c,ev⟩:=aU ev
  cases ev
  simp only[aE,decide_eq_true_eq]at c
  obtain⟨a1,xs1,rfl,q1,w1⟩:=r1.lst
  cases (show y=_ from r2.rd rfl)
  cases rx
  obtain⟨t,rfl⟩:=ry
  obtain⟨its,r,⟨⟨cls0,dd0,dat0,sl0⟩,n0,pl,pc,_,pd⟩,hz⟩:=I.list q1
  dsimp only at pc pd
  subst pc pd
  have hl1:its.length=1:=by rw[<-r.length,w1.length];exact c.1.1
  refine G0 pl hl1 ⟨c.1.2,c.2⟩ ?_
  have hp:=I.hok.fresh (aF s.heap.objs.size)
  have hlen:(aM jj.toNat xs1).flatten.length<=sizeLine:=by
   rw[Eu,w1.length,c.1.1,sizeLine_eq]
   have:=c.2
   lia
  refine⟨.ref s.heap.objs.size,_,I.laid (o:=.lst (aM jj.toNat xs1).flatten) (t':=s.toks) (λb u e=>Heap.get?_push_of_some _ e) (aF _) ⟨hlen,_,0,r.rep _,Heap.get?_push_size _ rfl⟩,rfl,?_⟩
  have z:=lB (w1.rep jj.toNat) hp tr
  exact k _ _ (bM hp _) z.1 λ_=>z.2
 ·obtain⟨c,ev⟩:=aU ev
  cases ev
  cases (show x=_ from r1.rd rfl)
  cases (show y=_ from r2.rd rfl)
  refine ET pins s σ H _ _ v u Q I rx ry ⟨_,_,rfl,rfl,?_,kk _ rfl rfl⟩
  simp only[aE,decide_eq_true_eq]at c
  exact c
 ·obtain⟨c,ev⟩:=aU ev
  cases ev
  cases (show x=_ from r1.rd rfl)
  cases (show y=_ from r2.rd rfl)
  exact op_mod pins s σ H _ _ v u Q I rx ry ⟨_,_,rfl,rfl,of_decide_eq_true c,kk _ rfl rfl⟩
 ·obtain⟨c,ev⟩:=aU ev
  cases ev
  cases (show x=_ from r1.rd rfl)
  cases (show y=_ from r2.rd rfl)
  refine op_pow pins s σ H _ _ v u Q I rx ry ⟨_,_,rfl,rfl,?_,kk _ rfl rfl⟩
  simp only[aE,decide_eq_true_eq]at c
  exact⟨c.1.1,c.1.2,c.2⟩
 ·cases ev
theorem pU{K:PySem.W.Frag}{H:Hp}{O:Addr->Prop}{k:Key}:∀{ds:List (Sum Int Str×D)} {ps:List (Key×V)},RDk K H O ds ps->(∀d,bF ds k=some d->∃v,dN ps k=some v/\RD K H O d v)/\(bF ds k).isSome=(dN ps k).isSome
 |[],ps,h=>by
  rw[RDk]at h;subst h
  exact⟨λd e=>(by cases e),rfl⟩
 |(k',d')::ds,ps,h=>by
  obtain⟨v,r,rfl,h1,h2⟩:=h
  have ih:=pU (k:=k) h2
  by_cases e:k'=k
  ·subst e
   have e1:bF ((k',d')::ds) k'=some d':=by simp[bF,bO]
   rw[e1,mR (p:=(k',v)) rfl]
   exact⟨λd z=>(by cases z;exact⟨v,rfl,h1⟩),rfl⟩
  ·have e1:bF ((k',d')::ds) k=bF ds k:=by simp[bF,bO,e]
   rw[e1,mT (p:=(k',v)) e]
   exact ih
theorem Gg{K:PySem.W.Frag}{H:Hp}{O:Addr->Prop}{k:Key}{d:D}{v:V}(hv:RD K H O d v){ds:List (Sum Int Str×D)}{ps:List (Key×V)}(h:RDk K H O ds ps):RDk K H O (gR ds k d) (cP ps k v):=by
 have any:∀{ds:List (Sum Int Str×D)} {ps:List (Key×V)},RDk K H O ds ps->(ds.any λkv=>decide (kv.1=k))=(ps.any λkv=>decide (kv.1=k)):=by
  intro ds
  induction ds with
  |nil=>intro ps h;rw[RDk]at h;subst h;rfl
  |cons p ds ih=>
   intro ps h
   obtain⟨k',d'⟩:=p
   obtain⟨v',r,rfl,h1,h2⟩:=h
   rw[fW,fW,ih h2]
 have mp:∀{ds:List (Sum Int Str×D)} {ps:List (Key×V)},RDk K H O ds ps->RDk K H O (ds.map (λkv=>if kv.1=k then(kv.1,d)else kv)) (ps.map (λkv=>if kv.1=k then(kv.1,v)else kv)):=by
  intro ds
  induction ds with
  |nil=>intro ps h;rw[RDk]at h;subst h;exact rfl
  |cons p ds ih=>
   intro ps h
   obtain⟨k',d'⟩:=p
   obtain⟨v',r,rfl,h1,h2⟩:=h
   rw[aG,aG]
   by_cases e:k'=k
   ·rw[if_pos e,if_pos e];exact⟨v,_,rfl,hv,ih h2⟩
   ·rw[if_neg e,if_neg e];exact⟨v',_,rfl,h1,ih h2⟩
 have ap:∀{ds:List (Sum Int Str×D)} {ps:List (Key×V)},RDk K H O ds ps->RDk K H O (ds++[(k,d)]) (ps++[(k,v)]):=by
  intro ds
  induction ds with
  |nil=>intro ps h;rw[RDk]at h;subst h;exact⟨v,[],rfl,hv,rfl⟩
  |cons p ds ih=>
   intro ps h
   obtain⟨k',d'⟩:=p
   obtain⟨v',r,rfl,h1,h2⟩:=h
   exact⟨v',_,rfl,h1,ih h2⟩
 unfold gR cP
 rw[any h]
 split
 ·exact mp h
 ·exact ap h
theorem nD{K:PySem.W.Frag}{H:Hp}{O:Addr->Prop}{k:List Key}:∀{ds:List (List (Sum Int Str)×D)} {ps:List (List Key×V)},RDt K H O ds ps->(∀d,cB ds k=some d->∃v,dN ps k=some v/\RD K H O d v)/\(cB ds k).isSome=(dN ps k).isSome
 |[],ps,h=>by
  rw[RDt]at h;subst h
  exact⟨λd e=>(by cases e),rfl⟩
 |(k',d')::ds,ps,h=>by
  obtain⟨v,r,rfl,h1,h2⟩:=h
  have ih:=nD (k:=k) h2
  by_cases e:k'=k
  ·subst e
   have e1:cB ((k',d')::ds) k'=some d':=by simp[cB,bO]
   rw[e1,mR (p:=(k',v)) rfl]
   exact⟨λd z=>(by cases z;exact⟨v,rfl,h1⟩),rfl⟩
  ·have e1:cB ((k',d')::ds) k=cB ds k:=by simp[cB,bO,e]
   rw[e1,mT (p:=(k',v)) e]
   exact ih
theorem Ao{K:PySem.W.Frag}{H:Hp}{O:Addr->Prop}{k:List Key}{d:D}{v:V}(hv:RD K H O d v){ds:List (List (Sum Int Str)×D)}{ps:List (List Key×V)}(h:RDt K H O ds ps):RDt K H O (fM ds k d) (cP ps k v):=by
 have any:∀{ds:List (List (Sum Int Str)×D)} {ps:List (List Key×V)},RDt K H O ds ps->(ds.any λkv=>decide (kv.1=k))=(ps.any λkv=>decide (kv.1=k)):=by
  intro ds
  induction ds with
  |nil=>intro ps h;rw[RDt]at h;subst h;rfl
  |cons p ds ih=>
   intro ps h
   obtain⟨k',d'⟩:=p
   obtain⟨v',r,rfl,h1,h2⟩:=h
   rw[fW,fW,ih h2]
 have mp:∀{ds:List (List (Sum Int Str)×D)} {ps:List (List Key×V)},RDt K H O ds ps->RDt K H O (ds.map (λkv=>if kv.1=k then(kv.1,d)else kv)) (ps.map (λkv=>if kv.1=k then(kv.1,v)else kv)):=by
  intro ds
  induction ds with
  |nil=>intro ps h;rw[RDt]at h;subst h;exact rfl
  |cons p ds ih=>
   intro ps h
   obtain⟨k',d'⟩:=p
   obtain⟨v',r,rfl,h1,h2⟩:=h
   rw[aG,aG]
   by_cases e:k'=k
   ·rw[if_pos e,if_pos e];exact⟨v,_,rfl,hv,ih h2⟩
   ·rw[if_neg e,if_neg e];exact⟨v',_,rfl,h1,ih h2⟩
 have ap:∀{ds:List (List (Sum Int Str)×D)} {ps:List (List Key×V)},RDt K H O ds ps->RDt K H O (ds++[(k,d)]) (ps++[(k,v)]):=by
  intro ds
  induction ds with
  |nil=>intro ps h;rw[RDt]at h;subst h;exact⟨v,[],rfl,hv,rfl⟩
  |cons p ds ih=>
   intro ps h
   obtain⟨k',d'⟩:=p
   obtain⟨v',r,rfl,h1,h2⟩:=h
   exact⟨v',_,rfl,h1,ih h2⟩
 unfold fM cP
 rw[any h]
 split
 ·exact mp h
 ·exact ap h
theorem nE{K:PySem.W.Frag}{H:Hp}{O:Addr->Prop}{d:D}{v:V}{k:Key}(h:eT d=some k)(r:RR K H O d v):v=kV k:=by
 cases d with
 |int i=>cases h;exact r.rd rfl
 |str i=>cases h;exact r.rd rfl
 |non=>cases h
 |bl _=>cases h
 |tup _=>cases h
 |lst _=>cases h
 |dct _=>cases h
 |tdc _=>cases h
theorem Ap:∀{ds:List D} {ks:List Key},cF ds=some ks->kY ds=some ks/\∀k∈ks,∃i,k=.inl i
 |[],ks,h=>by cases h;exact⟨rfl,λk hk=>by cases hk⟩
 |.int i::r,ks,h=>by
  rw[cF]at h
  cases e:cF r with
  |none=>rw[e]at h;cases h
  |some q=>
   rw[e]at h
   cases h
   obtain⟨h1,h2⟩:=Ap e
   refine⟨by rw[kY,h1];rfl,λk hk=>?_⟩
   rcases aZ.mp hk with rfl|hk
   ·exact⟨i,rfl⟩
   ·exact h2 k hk
 |.non::_,_,h | .bl _::_,_,h | .str _::_,_,h | .tup _::_,_,h | .lst _::_,_,h | .dct _::_,_,h | .tdc _::_,_,h=>by cases h
theorem Aq{K:PySem.W.Frag}{H:Hp}{O:Addr->Prop}:∀{ds:List D} {ks:List Key} {vs:List V},kY ds=some ks->RDs K H O ds vs->vs=ks.map kV
 |[],ks,vs,h,r=>by
  cases h
  rw[RDs]at r;subst r;rfl
 |d::ds,ks,vs,h,r=>by
  obtain⟨v,q,rfl,r1,r2⟩:=r
  rw[kY]at h
  cases e1:eT d with
  |none=>rw[e1]at h;cases h
  |some k=>
   rw[e1]at h
   cases e2:kY ds with
   |none=>rw[e2]at h;cases h
   |some ks'=>
    rw[e2]at h
    cases h
    rw[nE e1 r1.rr,Aq e2 r2];rfl
theorem kB{K:PySem.W.Frag}{H:Hp}{O:Addr->Prop}{ds:List D}{ks:List Key}{xs:List V}{b:Addr}(h:cF ds=some ks)(w:RDs K H O ds xs)(q:TupV K H b xs):H b=some (.tup (ks.map kV)):=by
 obtain⟨h1,h2⟩:=Ap h
 have e:=Aq h1 w
 subst e
 rcases q with q|⟨⟨ss,hne,e⟩,_⟩
 ·exact q
 ·exfalso
  cases ss with
  |nil=>exact hne rfl
  |cons x ss=>
   cases ks with
   |nil=>cases e
   |cons k ks=>
    obtain⟨i,rfl⟩:=h2 k aY
    injection e with e _
    cases e
theorem dU{α:Type}{o:Option α}{a:α}(h:Res.of o=.ok a):o=some a:=by
 cases o with
 |none=>cases h
 |some b=>cases h;rfl
theorem Sees.inj{H:Hp}{s:Shared}{pins:List (Addr×Obj)}{σ:L2.St}(I:Inv X pins σ H s){d d':D}{w:Value}(h:Sees X H s d w)(h':Sees X H s d' w):d=d':=by
 cases h with
 |non=>cases h';rfl
 |bl b=>cases h';rfl
 |int i t=>cases h';rfl
 |str x t=>cases h';rfl
 |tup ds a xs its q w r p=>
  cases h' with
  |tup ds' _ xs' its' q' w' r' p'=>have:=I.tuple_inj q q';subst this;rw[RDs.inj I w w']
  |lst ds' _ xs' its' q' w' r' p'=>exact(pN I q' q).elim
  |dct ds' _ ps' q' w'=>exact(pP I q' q).elim
  |tdc ds' _ ps' q' w'=>exact(pR I q' q).elim
 |dct ds a ps q w=>
  cases h' with
  |dct ds' _ ps' q' w'=>have:=pS q q';cases this;rw[RDk.inj I w w']
  |tup ds' _ xs' its' q' w' r' p'=>exact(pP I q q').elim
  |lst ds' _ xs' its' q' w' r' p'=>exact(pO I q q').elim
  |tdc ds' _ ps' q' w'=>have:=pS q q';cases this
 |tdc ds a ps q w=>
  cases h' with
  |tdc ds' _ ps' q' w'=>have:=pS q q';cases this;rw[RDt.inj I w w']
  |tup ds' _ xs' its' q' w' r' p'=>exact(pR I q q').elim
  |lst ds' _ xs' its' q' w' r' p'=>exact(pQ I q q').elim
  |dct ds' _ ps' q' w'=>have:=pS q q';cases this
 |lst ds a xs its q w r p=>
  cases h' with
  |lst ds' _ xs' its' q' w' r' p'=>have:=I.list_inj q q';subst this;rw[RDs.inj I w w']
  |tup ds' _ xs' its' q' w' r' p'=>exact(pN I q q').elim
  |dct ds' _ ps' q' w'=>exact(pO I q' q).elim
  |tdc ds' _ ps' q' w'=>exact(pQ I q' q).elim
open Classical in
noncomputable def dW(X:Cx)(H:Hp)(s:Shared)(x:D)(w:Value):Bool:=decide (∃d,Sees X H s d w/\D.eqb d x=true)
theorem Ar{H:Hp}{s:Shared}{pins:List (Addr×Obj)}{σ:L2.St}(I:Inv X pins σ H s){d x:D}{w:Value}(sd:Sees X H s d w):dW X H s x w=D.eqb d x:=by
 classical
 unfold dW
 by_cases h:D.eqb d x=true
 ·rw[h];simp only[decide_eq_true_eq];exact⟨d,sd,h⟩
 ·have h':D.eqb d x=false:=by simpa using h
  rw[h']
  simp only[decide_eq_false_iff_not]
  rintro⟨d',sd',h''⟩
  rw[Sees.inj I sd' sd]at h''
  exact h h''
theorem nF{H:Hp}{s:Shared}{pins:List (Addr×Obj)}{σ:L2.St}(I:Inv X pins σ H s){x:D}{ux:Value}{n:Nat}{A:Around}(hx:Sees X H s x ux)(fx:D.pl n x=true)(hu:A.units+n<cLine) :
 ∀{ds:List D} {xs:List V} {us:List Value},RDs X.K H no ds xs->Vals xs us->D.pls (n+1) ds=true->(∀w∈us,SeqAt.EqAt A s w ux (dW X H s x w))/\us.any (dW X H s x)=D.mem x ds
 |[],xs,us,w,r,f=>by
  rw[RDs]at w;subst w;cases r
  exact⟨λw h=>absurd h kO,rfl⟩
 |d::ds,xs,us,w,r,f=>by
  obtain⟨v,ys,rfl,e1,e2⟩:=w
  rw[tJ,aE]at f
  cases r with
  |cons a1 r1=>
   have ih:=nF I hx fx hu e2 r1 f.2
   have sd:=nB I e1 a1
   refine⟨λw hw=>?_,?_⟩
   ·rcases aZ.mp hw with rfl|hw
    ·rw[Ar I sd]
     exact eqAt_D I n d x A w ux sd hx f.1 fx hu
    ·exact ih.1 w hw
   ·rw[fW,D.mem,ih.2,Ar I sd]
theorem Gh{K:PySem.W.Frag}{H:Hp}{d:D}{x:V}(r:RD K H no d x):decide (x=.non)=D.isNon d:=by
 cases d with
 |non=>cases (show x=.non from r);rfl
 |bl b=>cases (show x=.bl b from r);rfl
 |int b=>cases (show x=.int b from r);rfl
 |str b=>cases (show x=.str b from r);rfl
 |tup ds=>obtain⟨a,xs,rfl,_⟩:=r;rfl
 |lst ds=>obtain⟨a,xs,rfl,_⟩:=r;rfl
 |dct ds=>obtain⟨a,xs,rfl,_⟩:=r;rfl
 |tdc ds=>obtain⟨a,xs,rfl,_⟩:=r;rfl
theorem As{K:PySem.W.Frag}{H:Hp}{O:Addr->Prop}{d:D}{x:V}(r:RR K H O d x):decide (x=.non)=D.isNon d:=by
 rcases r with r|⟨a,rfl,h⟩
 ·exact Gh (r.weak λ_ z=>z.elim)
 ·cases d<;>first|rfl|exact h.elim
theorem Au(o:CmpOp)(hroom:eU X):OpR X (compareOp o) (rD2 X.K (D.cmp o) false):=by
 intro pins s σ H x y v u Q I rx ry h
 obtain⟨O,d1,d2,d,r1,r2,ev,tr,k⟩:=h
 have hroom':X.A.units+64<cLine:=hroom
 have kk:∀b,d=.bl b->Q (.bl b) H:=λb e=>k _ H (Same.refl H) (by subst e;exact rfl) λz=>by cases z
 have s1:=uN I r1 rx
 have s2:=uN I r2 ry
 unfold D.cmp at ev
 split at ev
 ·obtain⟨c,ev⟩:=aU ev
  cases ev
  unfold D.eqOk at c
  rw[aE]at c
  exact rcAt_D I s1 s2 c.1 c.2 (by lia) X.prog X.w X.xe _ ⟨.bl _,H,I,rfl,kk _ rfl⟩
 ·obtain⟨c,ev⟩:=aU ev
  cases ev
  unfold D.eqOk at c
  rw[aE]at c
  exact Gc I s1 s2 c.1 c.2 (by lia) X.prog X.w X.xe _ ⟨.bl _,H,I,rfl,kk _ rfl⟩
 ·cases ev
  cases (show x=_ from r1.rd rfl)
  cases (show y=_ from r2.rd rfl)
  exact op_lt pins s σ H _ _ v u Q I rx ry ⟨_,_,rfl,rfl,kk _ rfl⟩
 ·cases ev
  cases (show x=_ from r1.rd rfl)
  cases (show y=_ from r2.rd rfl)
  exact op_le pins s σ H _ _ v u Q I rx ry ⟨_,_,rfl,rfl,kk _ rfl⟩
 ·cases ev
  cases (show x=_ from r1.rd rfl)
  cases (show y=_ from r2.rd rfl)
  exact op_gt pins s σ H _ _ v u Q I rx ry ⟨_,_,rfl,rfl,kk _ rfl⟩
 ·cases ev
  cases (show x=_ from r1.rd rfl)
  cases (show y=_ from r2.rd rfl)
  exact op_ge pins s σ H _ _ v u Q I rx ry ⟨_,_,rfl,rfl,kk _ rfl⟩
 ·cases ev
  cases (show y=_ from r2.rd rfl)
  have e:decide (x=.non)=D.isNon d1:=As r1
  exact op_isN pins s σ H _ _ v u Q I rx ry ⟨rfl,by rw[e];exact kk _ rfl⟩
 ·cases ev
  cases (show y=_ from r2.rd rfl)
  have e:decide (x=.non)=D.isNon d1:=As r1
  exact EV pins s σ H _ _ v u Q I rx ry ⟨rfl,by rw[e];exact kk _ rfl⟩
 ·cases ev
  cases (show x=_ from r1.rd rfl)
  cases (show y=_ from r2.rd rfl)
  cases rx
  cases ry
  exact is_bool (kU I (kk _ rfl) rfl)
 ·cases ev
  cases (show x=_ from r1.rd rfl)
  cases (show y=_ from r2.rd rfl)
  cases rx
  cases ry
  exact isnot_bool (kU I (kk _ rfl) rfl)
 ·obtain⟨b,e1,ev⟩:=Res.bind_ok ev
  cases ev
  unfold D.inn at e1
  split at e1
  ·obtain⟨c,e1⟩:=aU e1
   cases e1
   rw[aE]at c
   cases s2 with
   |lst ds a xs its q w r p=>
    have t:=nF I (n:=29) (A:=X.A.in1) s1 c.2 (by show X.A.units+1+29<cLine;lia) w r c.1
    refine SeqAt.in_listAt (dW X H s d1) p.isList (λw hw=>t.1 w (by simpa using hw)) ⟨.bl _,H,I,rfl,?_⟩
    rw[show its.toArray.any (dW X H s d1)=its.any (dW X H s d1) by simp,t.2]
    exact kk _ rfl
  ·obtain⟨c,e1⟩:=aU e1
   cases e1
   rw[aE]at c
   cases s2 with
   |tup ds a xs its q w r p=>
    have t:=nF I (n:=29) (A:=X.A.in1) s1 c.2 (by show X.A.units+1+29<cLine;lia) w r c.1
    refine SeqAt.in_tupleAt (dW X H s d1) p (λw hw=>t.1 w (by simpa using hw)) ⟨.bl _,H,I,rfl,?_⟩
    rw[show its.toArray.any (dW X H s d1)=its.any (dW X H s d1) by simp,t.2]
    exact kk _ rfl
  ·obtain⟨key,e2,e1⟩:=Res.bind_ok e1
   cases e1
   obtain⟨a,ps,rfl,q,w⟩:=r2.dct
   cases ry
   have ex:=nE (dU e2) r1
   subst ex
   refine d_in (by lia) I (.inl ⟨ps,key,q,rfl,rfl⟩) rx λs' I'=>⟨.bl _,H,I',rfl,?_⟩
   rw[<-(pU (k:=key) w).2]
   exact kk _ rfl
  ·split at e1
   ·obtain⟨key,e2,e1⟩:=Res.bind_ok e1
    cases e1
    obtain⟨a,ps,rfl,q,w⟩:=r2.tdc
    cases ry
    obtain⟨b',xs,rfl,tq,w1⟩:=r1.tupV
    refine d_in (by lia) I (.inr ⟨ps,key,b',q,rfl,kB (dU e2) w1 tq,rfl⟩) rx λs' I'=>⟨.bl _,H,I',rfl,?_⟩
    rw[<-(nD (k:=key) w).2]
    exact kk _ rfl
   ·cases e1
  ·split at e1
   ·cases (show x=_ from r1.rd rfl)
    cases (show y=_ from r2.rd rfl)
    exact EU pins s σ H _ _ v u Q I rx ry ⟨_,_,rfl,rfl,by rw[AJ e1];exact kk _ rfl⟩
   ·cases e1
  ·cases e1
 ·obtain⟨b,e1,ev⟩:=Res.bind_ok ev
  cases ev
  unfold D.inn at e1
  split at e1
  ·obtain⟨c,e1⟩:=aU e1
   cases e1
   rw[aE]at c
   cases s2 with
   |lst ds a xs its q w r p=>
    have t:=nF I (n:=29) (A:=X.A.in1) s1 c.2 (by show X.A.units+1+29<cLine;lia) w r c.1
    refine SeqAt.notIn_listAt (dW X H s d1) p.isList (λw hw=>t.1 w (by simpa using hw)) ⟨.bl _,H,I,rfl,?_⟩
    rw[show its.toArray.any (dW X H s d1)=its.any (dW X H s d1) by simp,t.2]
    exact kk _ rfl
  ·obtain⟨c,e1⟩:=aU e1
   cases e1
   rw[aE]at c
   cases s2 with
   |tup ds a xs its q w r p=>
    have t:=nF I (n:=29) (A:=X.A.in1) s1 c.2 (by show X.A.units+1+29<cLine;lia) w r c.1
    refine SeqAt.notIn_tupleAt (dW X H s d1) p (λw hw=>t.1 w (by simpa using hw)) ⟨.bl _,H,I,rfl,?_⟩
    rw[show its.toArray.any (dW X H s d1)=its.any (dW X H s d1) by simp,t.2]
    exact kk _ rfl
  ·obtain⟨key,e2,e1⟩:=Res.bind_ok e1
   cases e1
   obtain⟨a,ps,rfl,q,w⟩:=r2.dct
   cases ry
   have ex:=nE (dU e2) r1
   subst ex
   refine zP (by lia) I (.inl ⟨ps,key,q,rfl,rfl⟩) rx λs' I'=>⟨.bl _,H,I',rfl,?_⟩
   rw[<-(pU (k:=key) w).2]
   exact kk _ rfl
  ·split at e1
   ·obtain⟨key,e2,e1⟩:=Res.bind_ok e1
    cases e1
    obtain⟨a,ps,rfl,q,w⟩:=r2.tdc
    cases ry
    obtain⟨b',xs,rfl,tq,w1⟩:=r1.tupV
    refine zP (by lia) I (.inr ⟨ps,key,b',q,rfl,kB (dU e2) w1 tq,rfl⟩) rx λs' I'=>⟨.bl _,H,I',rfl,?_⟩
    rw[<-(nD (k:=key) w).2]
    exact kk _ rfl
   ·cases e1
  ·split at e1
   ·cases (show x=_ from r1.rd rfl)
    cases (show y=_ from r2.rd rfl)
    exact EW pins s σ H _ _ v u Q I rx ry ⟨_,_,rfl,rfl,by rw[AJ e1];exact kk _ rfl⟩
   ·cases e1
  ·cases e1
 ·cases ev
theorem uQ(n:Nat)(i:Int):Tr.ixN n i=L2.ixN n i:=rfl
theorem Av{K:PySem.W.Frag}{H:Hp}{O:Addr->Prop}{ds:List D}{xs:List V}{i:Int}{d:D}(w:RDs K H O ds xs)(h:Tr.atI ds i=some d):∃v,L2.atI xs i=some v/\RD K H O d v:=by
 unfold Tr.atI at h
 unfold L2.atI
 rw[w.length]
 rw[uQ]at h
 cases e:L2.ixN ds.length i with
 |none=>rw[e]at h;cases h
 |some j=>
  rw[e]at h
  exact w.get h
theorem d_ix{value slice:Expr}{pins:List (Addr×Obj)}{s:Shared}{σ:L2.St}{H:Hp}{a:Addr}{y v0:V}{u:Value}{Q:VK}(I:Inv X pins σ H s)(g:iE H a y (some v0))(ry:RelV y u)(hroom:eU X)(q:Q v0 H)
 (hs:subscripted slice false (.ref a) u=operate [.ref a,u] (getItem (.ref a) u)):wpAny (model X.prog X.w) X.A (subscriptTail value slice (.ref a) u) (EP X pins σ Q) X.xe s:=by
 have hroom':X.A.units+64<cLine:=hroom
 have hT:=FE I g
 unfold subscriptTail
 refine wpAny_bind ?_
 rw[getitemInPython_of_ne hT.not_modules]
 refine wpAny_bind (wpAny_specialOf hT PySem.F.slot_dict_getitem.lookup ?_)
 have fin:wpAny (model X.prog X.w) X.A (subscripted slice false (.ref a) u) (λr s₃=>wpAny (model X.prog X.w) X.A (letTemporaryGo value (.ref a) r>>=λ_=>pure r) (EP X pins σ Q) X.xe s₃) X.xe s:=by
  rw[hs]
  exact wpAny_operating (FC (by lia) I g ry λw' s3 I3 rw'=>wpAny_bind (wpAny_letTemporaryGo (wpAny_pure ⟨v0,H,I3,rw',q⟩)))
 first
  |exact wpAny_pure (wpAny_bind fin)
  |exact wpAny_bind (wpAny_pure (wpAny_bind fin))
  |exact wpAny_bind fin
theorem ixr(hroom:eU X):IxR X (rD2 X.K D.ix false):=by
 intro value slice pins s σ H x y v u Q I rx ry h hs
 obtain⟨O,d1,d2,d,r1,r2,ev,tr,k⟩:=h
 have kk:∀w,RD X.K H O d w->Q w H:=λw r=>k w H (Same.refl H) r λz=>by cases z
 unfold D.ix at ev
 split at ev
 ·obtain⟨a1,xs1,rfl,q1,w1⟩:=r1.lst
  cases (show y=_ from r2.rd rfl)
  rename_i ds i
  cases e:Tr.atI ds i with
  |none=>rw[e]at ev;cases ev
  |some d0=>
   rw[e]at ev;cases ev
   obtain⟨w,h1,h2⟩:=Av w1 e
   exact Ee value slice pins s σ H _ _ v u Q I rx ry ⟨a1,xs1,_,w,rfl,rfl,q1,h1,kk w h2⟩ hs
 ·obtain⟨a1,xs1,rfl,q1,w1⟩:=r1.tup
  cases (show y=_ from r2.rd rfl)
  rename_i ds i
  cases e:Tr.atI ds i with
  |none=>rw[e]at ev;cases ev
  |some d0=>
   rw[e]at ev;cases ev
   obtain⟨w,h1,h2⟩:=Av w1 e
   exact ix_tup value slice pins s σ H _ _ v u Q I rx ry ⟨a1,xs1,_,w,rfl,rfl,q1,h1,kk w h2⟩ hs
 ·rename_i z i
  obtain⟨c,ev⟩:=aU ev
  cases (show x=.str z from r1.rd rfl)
  cases (show y=.int i from r2.rd rfl)
  cases e:Tr.atI z.cps.toList i with
  |none=>rw[e]at ev;cases ev
  |some c0=>
   rw[e]at ev;cases ev
   exact ix_str value slice pins s σ H _ _ v u Q I rx ry ⟨z,i,c0,rfl,rfl,by rw[<-fQ];exact of_decide_eq_true c,e,kk _ rfl⟩ hs
 ·rename_i kvs y0
  obtain⟨key,e2,ev⟩:=Res.bind_ok ev
  obtain⟨a,ps,rfl,q,w⟩:=r1.dct
  cases rx
  have ex:=nE (dU e2) r2
  subst ex
  have hroom':X.A.units+64<cLine:=hroom
  obtain⟨v0,h1,h2⟩:=(pU (k:=key) w).1 _ (dU ev)
  have g:iE H a (kV key) (some v0):=.inl ⟨ps,key,q,rfl,h1.symm⟩
  exact d_ix I g ry hroom (kk v0 h2) hs
 ·rename_i kvs ks
  obtain⟨key,e2,ev⟩:=Res.bind_ok ev
  obtain⟨a,ps,rfl,q,w⟩:=r1.tdc
  cases rx
  obtain⟨b',xs,rfl,tq,w1⟩:=r2.tupV
  obtain⟨v0,h1,h2⟩:=(nD (k:=key) w).1 _ (dU ev)
  have g:iE H a (.ref b') (some v0):=.inr ⟨ps,key,b',q,rfl,kB (dU e2) w1 tq,h1.symm⟩
  exact d_ix I g ry hroom (kk v0 h2) hs
 ·cases ev
end
noncomputable def bA:Expr->Bool
 |.Starred _ _=>false
 |.Slice _ _ _ _=>false
 |.Set _ _ _=>false
 |_=>true
theorem Gi{e:Expr}(h:bA e=true):zB e:=by
 intro o i
 cases e<;>first|rfl|(cases h)
theorem aV{e:Expr}{es:List Expr}{env:Env}(h:bA e=true):starEach (e::es) env=(false,eval e env)::starEach es env:=by
 cases e<;>first|rfl|(cases h)
theorem gT{pos:Pos}{env:Env}:∀{es:List Expr},es.all bA=true->(backTo pos (starEach es env)).any (·.1)=false
 |[],_=>rfl
 |e::es,h=>by
  rw[fG,aE]at h
  have ih:=gT (pos:=pos) (env:=env) h.2
  rw[aV h.1]
  show(false||(backTo pos (starEach es env)).any (·.1))=false
  rw[ih];rfl
theorem Aw{o:CmpOp}{e:Expr}(h:bA e=true):behindInMarks o e=false:=by
 cases e<;>first|rfl|(cases h)
theorem Ax{e:Expr}{env:Env}(h:bA e=true):∀x,foldedSetIterable e env x=pure x:=by
 intro x
 cases e<;>first|rfl|(cases h)
section
variable{T:Tab}{cf:Nat->List D->Res D}{X:Cx}{x y z:E}{p q r:Expr}{pos:Pos}{es:List Expr}
theorem se_bin{o:Operator}(ha:SR T cf X x p)(hb:SR T cf X y q):SE T cf X (.bin o x y) (.BinOp p o q pos):=
 uL (f:=D.bin o) (λe=>rfl) (λh1 h2=>pe_op (Gf o _ (by cases o<;>first|(intro _;rfl)|(intro z;cases z))) h1 h2) ha hb
theorem se_cmp{o:CmpOp}(hR:eU X)(hm:bA q=true)(ha:SR T cf X x p)(hb:SR T cf X y q):SE T cf X (.cmp o x y) (.Compare p [o] [q] pos):=
 uL (f:=D.cmp o) (λe=>rfl) (λh1 h2=>EX (Au o hR) h1 h2 (Aw hm)) ha hb
theorem se_ix(hR:eU X)(hm:bA q=true)(ha:SR T cf X x p)(hb:SR T cf X y q):SE T cf X (.ix x y) (.Subscript p q pos):=
 uL (f:=D.ix) (λe=>rfl) (λh1 h2=>pe_ix (ixr hR) h1 h2 (Gi hm)) ha hb
theorem Gj{X:Cx}:SlR X (λx lo hi H Q=>∃a xs,x=.ref a/\SqT X.K H a xs/\(HT.sIx xs.length 0 lo=0/\HT.sIx xs.length xs.length hi=xs.length)/\Q (.ref a) H):=by
 intro pins s σ H x v vl vu lo hi sl Q I rx hs pl pu h
 obtain⟨a,xs,rfl,hx,hw,q⟩:=h
 cases rx
 obtain⟨its,r,ht,hz⟩:=I.tuple hx
 have hlen:its.toArray.size=xs.length:=by rw[aQ];exact r.length.symm
 refine⟨"tuple", _,PyProof.Rows.slot_tuple_getitem.lookup,ht.typeIs,?_⟩
 obtain⟨os,hos,hcs,hds⟩:=id hs
 have hTs:s.TypeIs (.ref sl) "slice" := ⟨os,hos,hcs⟩
 have fin:EP X pins σ Q (.ref a) s:=⟨.ref a,H,I,rfl,q⟩
 unfold getItem
 try with_reducible refine wpAny_holding ?_
 first|refine wpAny_bind (wpAny_pure ?_)|skip
 refine wpAny_bind (wpAny_sequenceKey ht.typeIs (by decide) ?_)
 refine wpAny_bind (wpAny_callSpecial?_slot (name:=Str.ofString "__getitem__") ht.typeIs PyProof.Rows.slot_tuple_getitem
  (wpAny_call_entry PyProof.Rows.slot_tuple_getitem ht.typeIs entry_tuple_getitem ?_ (args_tuple_getitem _ _)))
 show wpAny _ _ (Builtin.Tuple.tupleItemsOf (.ref a)>>=_) _ _ s
 refine wpAny_bind (tupleItemsOf_ ht ?_)
 refine wpAny_bind (wpAny_typeOf hTs ?_)
 rw[if_pos (by decide)]
 refine wpAny_bind (HT.sliceApplied_gen hs pl pu ?_)
 have hyes:(((HT.sIx its.toArray.size 0 lo:Nat):Int)==0&&(1:Int)==1&&(HT.sIx its.toArray.size its.toArray.size hi-HT.sIx its.toArray.size 0 lo)==its.toArray.size)=true:=by
  rw[hlen,hw.1,hw.2];simp
 show wpAny _ _ (if(((HT.sIx its.toArray.size 0 lo:Nat):Int)==0&&(1:Int)==1&&(HT.sIx its.toArray.size its.toArray.size hi-HT.sIx its.toArray.size 0 lo)==its.toArray.size)=true then _ else _) _ _ s
 rw[if_pos hyes]
 refine wpAny_bind (m:=Builtin.Tuple.tupleIsExact (.ref a)) ?_
 unfold Builtin.Tuple.tupleIsExact
 refine wpAny_bind (wpAny_typeOf ht.typeIs (wpAny_pure ?_))
 rw[if_pos (by decide)]
 refine wpAny_bind (wpAny_rule ?_)
 first
  |exact wpAny_pure ⟨_,rfl,wpAny_pure fin⟩
  |exact wpAny_bind (wpAny_pure ⟨_,rfl,wpAny_pure fin⟩)
  |exact wpAny_bind (wpAny_pure (wpAny_pure ⟨_,rfl,wpAny_pure fin⟩))
  |trace_state
end
section
variable{T:Tab}{cf:Nat->List D->Res D}{X:Cx}{x y z:E}{p q r:Expr}{pos pos':Pos}{es:List Expr}
theorem Ay(n d:Nat)(o:Option Int):Tr.sIx n d o=HT.sIx n d o:=by cases o<;>rfl
theorem slr:SlR X (λv lo hi H Q=>∃O d0 d,RR X.K H O d0 v/\D.sl d0 lo hi=.ok d/\(∀a,O a->∃o,H a=some o)/\∀w H',Same H H'->RD X.K H' O d w->NewL X.K H H' O d w->Q w H'):=by
 intro pins s σ H x v vl vu lo hi sl Q I rx hs pl pu h
 obtain⟨O,d0,d,r0,ev,tr,k⟩:=h
 unfold D.sl at ev
 split at ev
 ·cases ev
  obtain⟨a,xs,rfl,q0,w0⟩:=r0.lst
  refine Ej pins s σ H _ v vl vu _ _ sl Q I rx hs pl pu ⟨a,xs,rfl,q0,λp hp=>?_⟩
  have z:=lB (w0.cut lo hi) hp tr
  exact k _ _ (bM hp _) z.1 z.2
 ·cases ev
  obtain⟨a,xs,rfl,qv,w0⟩:=r0.tupV
  have q0:=qv.sq
  by_cases hw:HT.sIx xs.length 0 lo=0/\HT.sIx xs.length xs.length hi=xs.length
  ·refine Gj pins s σ H _ v vl vu _ _ sl Q I rx hs pl pu ⟨a,xs,rfl,q0,hw,?_⟩
   refine k _ _ (Same.refl H) ⟨a,xs,rfl,qv,?_⟩ (NewL.still rfl)
   unfold Tr.cut
   rw[<-w0.length,Ay,Ay,hw.1,hw.2,mH,sL,oJ (by rw[w0.length];exact aF _)]
   exact w0
  ·refine sl_tup pins s σ H _ v vl vu _ _ sl Q I rx hs pl pu ⟨a,xs,rfl,q0,hw,λp hp=>?_⟩
   exact k _ _ (bM hp _) (lC (w0.cut lo hi) hp) (NewL.still rfl)
 ·obtain⟨c,ev⟩:=aU ev
  cases ev
  cases (show x=_ from r0.rd rfl)
  exact sl_str pins s σ H _ v vl vu _ _ sl Q I rx hs pl pu ⟨_,rfl,by rw[<-fQ];exact of_decide_eq_true c,k _ H (Same.refl H) rfl (NewL.still rfl)⟩
 ·cases ev
noncomputable def SO(T:Tab)(cf:Nat->List D->Res D)(X:Cx)(x:E)(p:Option Expr):Prop:=∀H₀ O₀,PO X p (λσ H Q=>∃O own e d o,Fm X.K H₀ O₀ H O own e σ/\evE T cf x e=.ok d/\d.part=.ok o/\∀H',Same H H'->Q o H')
theorem Gk:SO T cf X .omit none:=λH₀ O₀ pins s σ H Q I ⟨O,own,e,d,o,F,ev,ep,k⟩=>by
 rw[FM]at ev;cases ev;cases ep
 exact Eb pins s σ H Q I (k H (Same.refl H))
theorem Gm(h:SE T cf X x p):SO T cf X x (some p):=λH₀ O₀ pins s σ H Q I ⟨O,own,e,d,o,F,ev,ep,k⟩=>by
 rw[evalPart_some]
 refine thn (h H₀ O₀ pins s σ H (λv H'=>Same H H'/\RD X.K H' O d v) I ⟨O,own,e,d,F,ev,λv H' s' r _=>⟨s',r⟩⟩) λu s1 ⟨v,H1,I1,r1,s',r⟩=>?_
 unfold D.part at ep
 split at ep
 ·cases ep
  cases (show v=_ from r)
  cases r1
  exact⟨none,H1,I1,.none,k H1 s'⟩
 ·cases ep
  cases (show v=_ from r)
  obtain⟨t,rfl⟩:=r1
  exact⟨_,H1,I1,.int _ t,k H1 s'⟩
 ·cases ep
theorem se_sl{lo hi:Option Expr}(ha:SR T cf X x p)(hl:SO T cf X y lo)(hh:SO T cf X z hi):SE T cf X (.sl x y z) (.Subscript p (.Slice lo hi none pos') pos):=λH₀ O₀=>by
 refine PE.imp (λσ H Q hq=>?_) (Ec slr (ha H₀ O₀) (hl H₀ O₀) (hh H₀ O₀))
 obtain⟨O,own,e,d,F,ev,k⟩:=hq
 rw[xE_sl]at ev
 obtain⟨d1,e1,ev⟩:=Res.bind_ok ev
 obtain⟨d2,e2,ev⟩:=Res.bind_ok ev
 obtain⟨o2,e2',ev⟩:=Res.bind_ok ev
 obtain⟨d3,e3,ev⟩:=Res.bind_ok ev
 obtain⟨o3,e3',ev⟩:=Res.bind_ok ev
 refine⟨O,own,e,d1,F,e1,λv1 H1 s1 r1=>⟨O,own,e,d2,o2,F.grow s1,e2,e2',λH2 s2=>⟨O,own,e,d3,o3,(F.grow s1).grow s2,e3,e3',λH3 s3=>?_⟩⟩⟩
 refine⟨O,d1,d,(r1.same s2).same s3,ev,((F.grow s1).grow (s2.trans s3)).trk,λw H' s4 r4 n4=>?_⟩
 exact k w H' ((s1.trans (s2.trans s3)).trans s4) r4 λ_=>n4.back (s1.trans (s2.trans s3))
theorem Az{a:E}{e:Nv}{ds:List D}(h:evA T cf a e=.ok ds):ds.length<=1000:=by
 cases a with
 |anil=>(first|rw[pF]at h|rw[pG]at h);cases h;exact fX _
 |acons a r=>
  (first|rw[pF]at h|rw[pG]at h)
  obtain⟨d1,e1,h⟩:=Res.bind_ok h
  obtain⟨d2,e2,h⟩:=Res.bind_ok h
  obtain⟨c,h⟩:=aU h
  cases h
  have:=of_decide_eq_true c
  rw[aN];lia
 |_=>exact absurd (show(Res.no:Res (List D))=Res.ok ds from h) (λz=>by cases z)
theorem sav_nil:SAv T cf X .anil []:=λH₀ O₀ pos pins s σ H Q I ⟨O,own,e,ds,F,ev,k⟩=>by
 rw[pF]at ev;cases ev
 exact eK pos pins s σ H Q I (k [] H (Same.refl H) rfl λj d v _ z=>by cases z)
theorem Gn(hp:bA p=true)(ha:SE T cf X x p)(hr:SAv T cf X y es):SAv T cf X (.acons x y) (p::es):=λH₀ O₀ pos pins s σ H Q I ⟨O,own,e,ds,F,ev,k⟩=>by
 rw[pG]at ev
 obtain⟨d1,e1,ev⟩:=Res.bind_ok ev
 obtain⟨d2,e2,ev⟩:=Res.bind_ok ev
 obtain⟨c,ev⟩:=aU ev
 cases ev
 refine dM (ha H₀ O₀) (hr H₀ O₀) (aV hp) pos pins s σ H Q I ⟨O,own,e,d1,F,e1,λv1 H1 s1 r1 n1=>⟨O,own,e,d2,F.grow s1,e2,λvs H2 s2 r2 n2=>?_⟩⟩
 refine k (v1::vs) H2 (s1.trans s2) ⟨v1,vs,rfl,r1.same s2,r2⟩ λj d v hf hd hv=>?_
 cases j with
 |zero=>cases hd;cases hv;exact(n1 hf).same s2
 |succ j=>exact(n2 j d v hf hd hv).back s1
theorem Gp:SAr T cf X .anil []:=sav_nil.sr
theorem Gq(hp:bA p=true)(ha:SR T cf X x p)(hr:SAr T cf X y es):SAr T cf X (.acons x y) (p::es):=λH₀ O₀ pos pins s σ H Q I ⟨O,own,e,ds,F,ev,k⟩=>by
 rw[pG]at ev
 obtain⟨d1,e1,ev⟩:=Res.bind_ok ev
 obtain⟨d2,e2,ev⟩:=Res.bind_ok ev
 obtain⟨c,ev⟩:=aU ev
 cases ev
 refine dM (ha H₀ O₀) (hr H₀ O₀) (aV hp) pos pins s σ H Q I ⟨O,own,e,d1,F,e1,λv1 H1 s1 r1=>⟨O,own,e,d2,F.grow s1,e2,λvs H2 s2 r2=>?_⟩⟩
 exact k (v1::vs) H2 (s1.trans s2) ⟨v1,vs,rfl,r1.same s2,r2⟩
theorem BA{n:Nat}(h:n<=1000):n<=sizeLine:=kI (FB h)
theorem se_tup{k:Nat}(ha:SAv T cf X x es):SE T cf X (.tup x) (.Tuple es k pos):=λH₀ O₀=>by
 refine PE.imp (λσ H Q hq=>?_) (pe_tup (ha H₀ O₀))
 obtain⟨O,own,e,d,F,ev,k⟩:=hq
 rw[pE]at ev
 obtain⟨ds,e1,ev⟩:=Res.bind_ok ev
 cases ev
 refine⟨O,own,e,ds,F,e1,λvs H1 s1 r1 _=>⟨by rw[r1.length];exact BA (Az e1),λp hp=>?_⟩⟩
 exact k _ _ (s1.trans (bM hp _)) (lC r1 hp) (λz=>by cases z)
theorem se_lst(ha:SAv T cf X x es):SE T cf X (.lst x) (.List es pos):=λH₀ O₀=>by
 refine PE.imp (λσ H Q hq=>?_) (pe_lst (ha H₀ O₀))
 obtain⟨O,own,e,d,F,ev,k⟩:=hq
 rw[mV]at ev
 obtain⟨ds,e1,ev⟩:=Res.bind_ok ev
 cases ev
 refine⟨O,own,e,ds,F,e1,λvs H1 s1 r1 _=>⟨by rw[r1.length];exact BA (Az e1),λp hp=>?_⟩⟩
 have z:=lB r1 hp (F.grow s1).trk
 exact k _ _ (s1.trans (bM hp _)) z.1 λ_=>z.2.back s1
theorem BB{α β:Type}{xs:List α}{ds:List β}(h:xs.length=ds.length):(!ds.isEmpty)=!xs.isEmpty:=by
 cases xs<;>cases ds<;>first|rfl|(simp at h)
theorem pV{K:PySem.W.Frag}{H:Hp}{O:Addr->Prop}{d:D}{v:V}{k:Bool}(r:RR K H O d v)(h:d.truth=.ok k):mQ K v H k:=by
 unfold D.truth at h
 split at h
 ·cases h;cases (show v=_ from r.rd rfl);exact(rfl:false=false)
 ·cases h;cases (show v=_ from r.rd rfl);exact(rfl:k=k)
 ·cases h;cases (show v=_ from r.rd rfl);exact rfl
 ·obtain⟨c,h⟩:=aU h
  cases h;cases (show v=_ from r.rd rfl);exact⟨by rw[<-fQ];exact of_decide_eq_true c,rfl⟩
 ·cases h
  obtain⟨a,xs,rfl,q,w⟩:=r.tup
  refine .inr (.inl ⟨xs,q,?_⟩)
  exact BB w.length
 ·cases h
  obtain⟨a,xs,rfl,q,w⟩:=r.lst
  refine .inl ⟨xs,q,?_⟩
  exact BB w.length
 ·cases h
 ·cases h
theorem BC(ha:SR T cf X x p)(he:∀whole,isTrue p X.env whole=(do let v<-whole;standAt p.pos;holding [v] (truthy v))):ST T cf X x p:=λH₀ O₀=>
 PT.imp (λσ H Q ⟨O,own,e,d,k,F,ev,et,q⟩=>⟨O,own,e,d,F,ev,λv H' s r=>⟨k,pV r et,q H' s⟩⟩) (E1 (ha H₀ O₀) he)
theorem cmp_bl{o:CmpOp}{a b d:D}(h:D.cmp o a b=.ok d):∃k,d=.bl k:=by
 unfold D.cmp at h
 split at h<;>first
  |(obtain⟨_,h⟩:=aU h;cases h;exact⟨_,rfl⟩)
  |(cases h;exact⟨_,rfl⟩)
  |(obtain⟨_,_,h⟩:=Res.bind_ok h;cases h;exact⟨_,rfl⟩)
  |cases h
theorem st_cmp{o:CmpOp}(hR:eU X)(hm:bA q=true)(ha:SR T cf X x p)(hb:SR T cf X y q):ST T cf X (.cmp o x y) (.Compare p [o] [q] pos):=λH₀ O₀=>by
 refine PT.imp (λσ H Q hq=>?_) (EY (Au o hR) (ha H₀ O₀) (hb H₀ O₀) (Aw hm))
 obtain⟨O,own,e,d,k,F,ev,et,qk⟩:=hq
 rw[xE_cmp]at ev
 obtain⟨d1,e1,ev⟩:=Res.bind_ok ev
 obtain⟨d2,e2,ev⟩:=Res.bind_ok ev
 obtain⟨k',rfl⟩:=cmp_bl ev
 cases et
 refine⟨O,own,e,d1,F,e1,λv1 H1 s1 r1=>⟨O,own,e,d2,F.grow s1,e2,λv2 H2 s2 r2=>?_⟩⟩
 refine⟨O,d1,d2,_,r1.same s2,r2,ev,(F.grow (s1.trans s2)).trk,λv H' s3 r3 _=>?_⟩
 exact⟨k,r3,qk H' ((s1.trans s2).trans s3)⟩
theorem Gr{a b:Expr}{rest:List Expr}{ta tb:TE}(ha:PE X a ta)(hb:PE X (.BoolOp .And (b::rest) pos) tb) :
 PE X (.BoolOp .And (a::b::rest) pos) (λσ H Q=>ta σ H λx H1=>∃c,mQ X.K x H1 c/\if c=true then tb σ H1 Q else Q x H1):=by
 intro pins s σ H Q I h
 refine BoolOp_and (thn (ha pins s σ H _ I h) λv s1 ⟨x,H1,I1,r1,c,tc,q1⟩=>?_)
 refine thn (oR pins s1 σ H1 x v (λb H2=>b=c/\H2=H1) I1 r1 ⟨c,tc,rfl,rfl⟩) λb s2 ⟨H2,I2,e1,e2⟩=>?_
 subst e1 e2
 cases b with
 |true=>exact hb pins s2 σ H2 Q I2 q1
 |false=>exact⟨x,H2,I2,r1,q1⟩
theorem pe_orV{a b:Expr}{rest:List Expr}{ta tb:TE}(ha:PE X a ta)(hb:PE X (.BoolOp .Or (b::rest) pos) tb) :
 PE X (.BoolOp .Or (a::b::rest) pos) (λσ H Q=>ta σ H λx H1=>∃c,mQ X.K x H1 c/\if c=true then Q x H1 else tb σ H1 Q):=by
 intro pins s σ H Q I h
 refine BoolOp_or (thn (ha pins s σ H _ I h) λv s1 ⟨x,H1,I1,r1,c,tc,q1⟩=>?_)
 refine thn (oR pins s1 σ H1 x v (λb H2=>b=c/\H2=H1) I1 r1 ⟨c,tc,rfl,rfl⟩) λb s2 ⟨H2,I2,e1,e2⟩=>?_
 subst e1 e2
 cases b with
 |false=>exact hb pins s2 σ H2 Q I2 q1
 |true=>exact⟨x,H2,I2,r1,q1⟩
theorem BD{rest:List Expr}(ha:SE T cf X x p)(hb:SE T cf X y (.BoolOp .And (q::rest) pos)):SE T cf X (.and x y) (.BoolOp .And (p::q::rest) pos):=λH₀ O₀=>by
 refine PE.imp (λσ H Q hq=>?_) (Gr (ha H₀ O₀) (hb H₀ O₀))
 obtain⟨O,own,e,d,F,ev,k⟩:=hq
 rw[zV]at ev
 obtain⟨d1,e1,ev⟩:=Res.bind_ok ev
 obtain⟨c,e2,ev⟩:=Res.bind_ok ev
 refine⟨O,own,e,d1,F,e1,λv1 H1 s1 r1 _=>⟨c,pV r1.rr e2,?_⟩⟩
 cases c with
 |true=>
  rw[if_pos rfl]at ev⊢
  exact⟨O,own,e,d,F.grow s1,ev,λv H' s' r _=>k v H' (s1.trans s') r (λz=>by cases z)⟩
 |false=>
  rw[if_neg aK]at ev⊢
  cases ev
  exact k v1 H1 s1 r1 (λz=>by cases z)
theorem BE{rest:List Expr}(ha:SE T cf X x p)(hb:SE T cf X y (.BoolOp .Or (q::rest) pos)):SE T cf X (.or x y) (.BoolOp .Or (p::q::rest) pos):=λH₀ O₀=>by
 refine PE.imp (λσ H Q hq=>?_) (pe_orV (ha H₀ O₀) (hb H₀ O₀))
 obtain⟨O,own,e,d,F,ev,k⟩:=hq
 rw[zW]at ev
 obtain⟨d1,e1,ev⟩:=Res.bind_ok ev
 obtain⟨c,e2,ev⟩:=Res.bind_ok ev
 refine⟨O,own,e,d1,F,e1,λv1 H1 s1 r1 _=>⟨c,pV r1.rr e2,?_⟩⟩
 cases c with
 |false=>
  rw[if_neg aK]at ev⊢
  exact⟨O,own,e,d,F.grow s1,ev,λv H' s' r _=>k v H' (s1.trans s') r (λz=>by cases z)⟩
 |true=>
  rw[if_pos rfl]at ev⊢
  cases ev
  exact k v1 H1 s1 r1 (λz=>by cases z)
theorem BF{op:BoolOp}(h:SE T cf X x p):SE T cf X x (.BoolOp op [p] pos):=λH₀ O₀=>pe_one (h H₀ O₀)
theorem BG(ha:ST T cf X x p)(hv:SR T cf X x p):SE T cf X (.not x) (.UnaryOp .Not p pos):=λH₀ O₀=>by
 intro pins s σ H Q I ⟨O,own,e,d,F,ev,k⟩
 rw[zX]at ev
 obtain⟨d1,e1,ev⟩:=Res.bind_ok ev
 obtain⟨c,e2,ev⟩:=Res.bind_ok ev
 cases ev
 refine UnaryOp_ (thn (hv H₀ O₀ pins s σ H (λv1 H1=>Same H H1/\RR X.K H1 O d1 v1) I ⟨O,own,e,d1,F,e1,λv1 H1 s1 r1=>⟨s1,r1⟩⟩) λv s1 ⟨x1,H1,I1,r1,s1',rr⟩=>?_)
 refine not_of ?_
 exact thn (oR pins s1 σ H1 x1 v (λb H2=>b=c/\H2=H1) I1 r1 ⟨c,pV rr e2,rfl,rfl⟩) λb s2 ⟨H2,I2,e3,e4⟩=>by
  subst e3 e4
  exact⟨.bl (!b),H2,I2,rfl,k _ H2 s1' rfl (λz=>by cases z)⟩
theorem st_not(ha:ST T cf X x p):ST T cf X (.not x) (.UnaryOp .Not p pos):=λH₀ O₀=>by
 refine PT.imp (λσ H Q hq=>?_) (pt_not (ha H₀ O₀))
 obtain⟨O,own,e,d,k,F,ev,et,qk⟩:=hq
 rw[zX]at ev
 obtain⟨d1,e1,ev⟩:=Res.bind_ok ev
 obtain⟨c,e2,ev⟩:=Res.bind_ok ev
 cases ev
 cases et
 exact⟨O,own,e,d1,c,F,e1,e2,λH' s=>qk H' s⟩
noncomputable def SW(T:Tab)(cf:Nat->List D->Res D)(X:Cx)(x:E)(p:Expr):Prop:=∀H₀ O₀,PW X p (tT T cf X.K H₀ O₀ x)
theorem SW.st(h:SW T cf X x p):ST T cf X x p:=λH₀ O₀=>(h H₀ O₀).pt
theorem PW.imp{t t':TT}(h:∀σ H Q,t' σ H Q->t σ H Q)(hp:PW X p t):PW X p t':=λw pins s σ H Q I q=>hp w pins s σ H Q I (h σ H Q q)
theorem Gs(ha:ST T cf X x p):SW T cf X x (.BoolOp .And [p] pos):=λH₀ O₀=>EF (ha H₀ O₀)
theorem sw_or1(ha:ST T cf X x p):SW T cf X x (.BoolOp .Or [p] pos):=λH₀ O₀=>pw_or1 (ha H₀ O₀)
theorem BH{rest:List Expr}(ha:ST T cf X x p)(hb:SW T cf X y (.BoolOp .And (q::rest) pos)):SW T cf X (.and x y) (.BoolOp .And (p::q::rest) pos):=λH₀ O₀=>by
 refine PW.imp (λσ H Q hq=>?_) (pw_and (ha H₀ O₀) (hb H₀ O₀))
 obtain⟨O,own,e,d,k,F,ev,et,qk⟩:=hq
 rw[zV]at ev
 obtain⟨d1,e1,ev⟩:=Res.bind_ok ev
 obtain⟨c,e2,ev⟩:=Res.bind_ok ev
 refine⟨O,own,e,d1,c,F,e1,e2,λH1 s1=>?_⟩
 cases c with
 |true=>
  rw[if_pos rfl]at ev⊢
  exact⟨O,own,e,d,k,F.grow s1,ev,et,λH' s'=>qk H' (s1.trans s')⟩
 |false=>
  rw[if_neg aK]at ev⊢
  cases ev
  rw[e2]at et;cases et
  exact qk H1 s1
theorem BI{rest:List Expr}(ha:ST T cf X x p)(hb:SW T cf X y (.BoolOp .Or (q::rest) pos)):SW T cf X (.or x y) (.BoolOp .Or (p::q::rest) pos):=λH₀ O₀=>by
 refine PW.imp (λσ H Q hq=>?_) (pw_or (ha H₀ O₀) (hb H₀ O₀))
 obtain⟨O,own,e,d,k,F,ev,et,qk⟩:=hq
 rw[zW]at ev
 obtain⟨d1,e1,ev⟩:=Res.bind_ok ev
 obtain⟨c,e2,ev⟩:=Res.bind_ok ev
 refine⟨O,own,e,d1,c,F,e1,e2,λH1 s1=>?_⟩
 cases c with
 |false=>
  rw[if_neg aK]at ev⊢
  exact⟨O,own,e,d,k,F.grow s1,ev,et,λH' s'=>qk H' (s1.trans s')⟩
 |true=>
  rw[if_pos rfl]at ev⊢
  cases ev
  rw[e2]at et;cases et
  exact qk H1 s1
theorem se_ife(hc:ST T cf X x p)(ha:SE T cf X y q)(hb:SE T cf X z r):SE T cf X (.ife x y z) (.IfExp p q r pos):=λH₀ O₀=>by
 refine PE.imp (λσ H Q hq=>?_) (EG (hc H₀ O₀) (ha H₀ O₀) (hb H₀ O₀))
 obtain⟨O,own,e,d,F,ev,k⟩:=hq
 rw[zZ]at ev
 obtain⟨d1,e1,ev⟩:=Res.bind_ok ev
 obtain⟨c,e2,ev⟩:=Res.bind_ok ev
 refine⟨O,own,e,d1,c,F,e1,e2,λH1 s1=>?_⟩
 cases c with
 |true=>
  rw[if_pos rfl]at ev⊢
  exact⟨O,own,e,d,F.grow s1,ev,λv H' s' r _=>k v H' (s1.trans s') r (λz=>by cases z)⟩
 |false=>
  rw[if_neg aK]at ev⊢
  exact⟨O,own,e,d,F.grow s1,ev,λv H' s' r _=>k v H' (s1.trans s') r (λz=>by cases z)⟩
theorem Gu{c a b:Expr}{tA ta tb:TT}(hc:PT X c tA)(ha:PT X a ta)(hb:PT X b tb):PT X (.IfExp c a b pos) (λσ H Q=>tA σ H λk H1=>if k=true then ta σ H1 Q else tb σ H1 Q):=by
 intro pins s σ H Q I h
 show wpAny _ _ (isTrue c X.env (eval c X.env)>>=λk=>if k=true then isTrue a X.env (eval a X.env)else isTrue b X.env (eval b X.env)) _ _ s
 refine wpAny_bind (thn (hc pins s σ H _ I h) λk s1 ⟨H1,I1,q1⟩=>?_)
 cases k with
 |true=>exact ha pins s1 σ H1 Q I1 q1
 |false=>exact hb pins s1 σ H1 Q I1 q1
theorem st_ife(hc:ST T cf X x p)(ha:ST T cf X y q)(hb:ST T cf X z r):ST T cf X (.ife x y z) (.IfExp p q r pos):=λH₀ O₀=>by
 refine PT.imp (λσ H Q hq=>?_) (Gu (hc H₀ O₀) (ha H₀ O₀) (hb H₀ O₀))
 obtain⟨O,own,e,d,k,F,ev,et,qk⟩:=hq
 rw[zZ]at ev
 obtain⟨d1,e1,ev⟩:=Res.bind_ok ev
 obtain⟨c,e2,ev⟩:=Res.bind_ok ev
 refine⟨O,own,e,d1,c,F,e1,e2,λH1 s1=>?_⟩
 cases c with
 |true=>
  rw[if_pos rfl]at ev⊢
  exact⟨O,own,e,d,k,F.grow s1,ev,et,λH' s'=>qk H' (s1.trans s')⟩
 |false=>
  rw[if_neg aK]at ev⊢
  exact⟨O,own,e,d,k,F.grow s1,ev,et,λH' s'=>qk H' (s1.trans s')⟩
theorem se_neg(ha:SR T cf X x p):SE T cf X (.neg x) (.UnaryOp .USub p pos):=λH₀ O₀=>by
 refine PE.imp (λσ H Q hq=>?_) (pe_un un_neg (ha H₀ O₀))
 obtain⟨O,own,e,d,F,ev,k⟩:=hq
 (first|rw[tQ]at ev|rw[zY]at ev)
 obtain⟨d1,e1,ev⟩:=Res.bind_ok ev
 split at ev
 ·cases ev
  refine⟨O,own,e,_,F,e1,λv1 H1 s1 r1=>⟨_,r1.rd rfl,k _ H1 s1 rfl λz=>by cases z⟩⟩
 ·cases ev
end
section
variable{T:Tab}{cf:Nat->List D->Res D}{X:Cx}{x y z:E}{p q r:Expr}{pos pos':Pos}{es:List Expr}
noncomputable def uR(d:D)(od:Option Addr)(H:Hp):Prop:=match d with
 |.int v=>∃dx,od=some dx/\H dx=some (.xd [("at", .int v)])
 |_=>od=none
noncomputable def spD(K:PySem.W.Frag)(F:List D->Res D)(fr:Bool):Sp:=λvs H Q E=>∃O ds,(∀a,O a->∃o,H a=some o)/\RDs K H O ds vs /\
 ((∃d,F ds=.ok d/\∀v H',Same H H'->RD K H' O d v->(fr=true->NewR K H H' O d v)->Q v H')\/∃c d,F ds=.err c d/\∀od H',Same H H'->uR d od H'->E (cvK K c) od H')
noncomputable def nG(T:Tab)(cf:Nat->List D->Res D)(X:Cx)(f:Nat)(n:Str):Prop:=
 ∃k a fd ps,FnOk X.prog X.w X.K X.mg X.base (CXE X.prog X.w) k a fd ps (spD X.K (cf f) (T.fresh f))/\Room k X.A/\X.mg n=some (.ref a)/\PySem.W.keepIn X.K (.ref a)=true/\Binds X.K fd ps []
theorem Gv{f:Nat}{H₀:Hp}{O₀:Addr->Prop}{σ:L2.St}{H:Hp}{Q:VK}(h:tE T cf X.K H₀ O₀ (.call f x) σ H Q):sY (spD X.K (cf f) (T.fresh f)) [] E0 (tAv T cf X.K H₀ O₀ x) σ H Q:=by
 obtain⟨O,own,e,d,F,ev,k⟩:=h
 rw[AA]at ev
 obtain⟨ds,e1,ev⟩:=Res.bind_ok ev
 refine⟨O,own,e,ds,F,e1,λvs H1 s1 r1 _=>?_⟩
 dsimp only
 rw[jM]
 refine⟨O,ds,(F.grow s1).trk,r1,.inl ⟨d,ev,λv H' s2 r2 n2=>k v H' (s1.trans s2) r2 λfr=>(n2 fr).1.back s1⟩⟩
theorem Gw {f:Nat} {n:Str} {pn:Pos} (hd:nG T cf X f n) (hg:Gl X n) (hdb:(n==("__debug__" : Str))=false) (hp:(p::es).all bA=true) (ha:SAv T cf X x (p::es)):SE T cf X (.call f x) (.Call (.Name n pn) (p::es) [] pos):=λH₀ O₀=>by
 obtain⟨k,a,fd,ps,Fk,hr,hm,hk,hb⟩:=hd
 rw[fG,aE]at hp
 exact PE.imp (λσ H Q h=>Gv h) (E4 Fk hr hg hm hk hb .nil Ag (ha H₀ O₀) hdb (aV hp.1) (gT hp.2))
theorem Gx {f:Nat} {n:Str} {pn:Pos} (hd:nG T cf X f n) (hg:Gl X n) (hdb:(n==("__debug__" : Str))=false):SE T cf X (.call f .anil) (.Call (.Name n pn) [] [] pos):=λH₀ O₀=>by
 obtain⟨k,a,fd,ps,Fk,hr,hm,hk,hb⟩:=hd
 refine PE.imp (λσ H Q h=>?_) (E5 Fk hr hg hm hk hb .nil Ag hdb)
 obtain⟨O,own,e,d,F,ev,k⟩:=h
 rw[AA]at ev
 obtain⟨ds,e1,ev⟩:=Res.bind_ok ev
 rw[pF]at e1;cases e1
 exact⟨O,[],F.trk,rfl,.inl ⟨d,ev,λv H' s2 r2 n2=>k v H' s2 r2 λfr=>(n2 fr).1⟩⟩
noncomputable def TabF(T:Tab)(cf:Nat->List D->Res D)(X:Cx)(n:Str)(fs:List Nat):Prop:=
 ∃(a:Addr)(xs:List V),X.mg n=some (.ref a)/\(∀H,SqT X.K H a xs)/\xs.length=fs.length/\∀(j f:Nat),fs[j]?=some f->∃(ad:Addr)(m:Str),xs[j]?=some (V.ref ad)/\X.mg m=some (.ref ad)/\nG T cf X f m
noncomputable def TabS(X:Cx)(n:Str)(ss:List Str):Prop:=∃a,X.mg n=some (.ref a)/\ModS X.K a ss
theorem BJ{K:PySem.W.Frag}{H:Hp}{O:Addr->Prop}:∀{ds:List D} {k:List Nat} {xs:List V},fN ds=some k->RDs K H O ds xs->xs=k.map λn:Nat=>V.int (n:Int)
 |[],k,xs,h,w=>by
  rw[fN]at h;cases h
  rw[RDs]at w;rw[w];rfl
 |d::r,k,xs,h,w=>by
  cases d with
  |int a=>
   rw[fN]at h
   split at h
   ·rename_i c
    rw[decide_eq_true_eq]at c
    cases hq:fN r with
    |none=>rw[hq]at h;cases h
    |some q=>
     rw[hq]at h
     cases h
     obtain⟨v,vs,rfl,w1,w2⟩:=w
     rw[BJ hq w2,show v=_ from w1,aG,Kz c]
   ·cases h
  |_=>cases h
theorem Gy{d:D}{k:List Nat}(h:pB d=some k):∃ds,d=.tup ds/\fN ds=some k/\inR k:=by
 cases d with
 |tup ds=>
  change ((fN ds).bind λk=>if keyTab.contains k then some k else none)=some k at h
  cases hq:fN ds with
  |none=>rw[hq]at h;cases h
  |some q=>
   rw[hq]at h
   change (if keyTab.contains q then some q else none)=some k at h
   split at h
   ·rename_i c
    cases h
    exact⟨ds,rfl,hq,jP.mp c⟩
   ·cases h
 |_=>cases h
theorem BL{K:PySem.W.Frag}{H:Hp}{O:Addr->Prop}:∀{ds:List D} {ps:List (List Nat)} {xs:List V},gC ds=some ps->RDs K H O ds xs->∃as,xs=as.map V.ref/\PairsAt K H as ps/\∀p∈ps,inR p
 |[],ps,xs,h,w=>by
  rw[gC]at h;cases h
  rw[RDs]at w;subst w;exact⟨[],rfl,rfl,λp hp=>by cases hp⟩
 |d::r,ps,xs,h,w=>by
  rw[gC]at h
  cases hp:pB d with
  |none=>rw[hp]at h;cases h
  |some p=>
   cases hq:gC r with
   |none=>rw[hp,hq]at h;cases h
   |some q=>
    rw[hp,hq]at h
    cases h
    obtain⟨v,vs,rfl,w1,w2⟩:=w
    obtain⟨as,rfl,h1,h2⟩:=BL hq w2
    obtain⟨ks,rfl,hn,hi⟩:=Gy hp
    obtain⟨a,ys,rfl,hs,w3⟩:=w1
    rw[BJ hn w3]at hs
    refine⟨a::as,rfl,⟨p,q,rfl,TupV.sq hs,h1⟩,λy hy=>?_⟩
    rcases aZ.mp hy with e|hy
    ·rw[e];exact hi
    ·exact h2 y hy
theorem Gz {pn pm pos2:Pos} (hh:X.calm=true) (hR:eU X) (hm1:X.mg "len" = none) (hm2:X.mg "set" = none) (hg1:Gl X "len") (hg2:Gl X "set") (hp:bA p=true) (ha:SR T cf X x p) :
 SE T cf X (.lset x) (.Call (.Name "len" pn) [.Call (.Name "set" pm) [p] [] pos2] [] pos):=λH₀ O₀=>by
 refine PE.imp (λσ H Q hq=>?_) (kW GU hg1 hm1 PySem.boot_len (dM (jT (GT hh hR) hg2 hm2 (by decide +kernel) (dM (ha H₀ O₀) eK (aV hp)) (by decide) (by decide) (aV hp) rfl) eK rfl) (by decide) (by decide) rfl rfl)
 obtain⟨O,own,e,d,F,ev,k⟩:=hq
 (first|rw[tQ]at ev|rw[pE]at ev|rw[mV]at ev|rw[FR]at ev)
 obtain⟨d1,e1,ev1⟩:=Res.bind_ok ev
 refine⟨O,own,e,d1,F,e1,λv1 H1 s1 r1=>?_⟩
 have key:∃n:Nat,d=.int n/\uD X.K H1 v1 n:=by
  have other:∀ds,d1=.lst ds->(match gC ds with|some ps=>aB (decide (ps.length<=72)) (Res.ok (D.int (bS ps).length))|none=>Res.no)=.ok d->∃n:Nat,d=.int n/\uD X.K H1 v1 n:=by
   intro ds e0 ew
   subst e0
   cases hp:gC ds with
   |none=>rw[hp]at ew;cases ew
   |some ps=>
    rw[hp]at ew
    obtain⟨c,ev3⟩:=aU ew
    rw[decide_eq_true_eq]at c
    cases ev3
    obtain⟨a,xs,rfl,q1,w1⟩:=r1.lst
    obtain⟨as,rfl,h1,h2⟩:=BL hp w1
    exact⟨_,rfl,⟨a,as,ps,rfl,q1,h1,c,rfl,h2⟩⟩
  cases d1 with
  |lst ds=>exact other ds rfl ev1
  |_=>cases ev1
 obtain⟨n,rfl,hs⟩:=key
 refine⟨v1,n,rfl,hs,λp hpn=>?_⟩
 exact⟨p,n,rfl,bY,k _ _ (s1.trans (bM hpn _)) rfl λz=>by cases z⟩
theorem pW{K:PySem.W.Frag}{H:Hp}{O:Addr->Prop}:∀{ds:List D} {ns:List Int} {xs:List V},eE ds=.ok ns->RDs K H O ds xs->xs=ns.map V.int
 |[],ns,xs,h,w=>by
  rw[eE]at h;cases h
  rw[RDs]at w;subst w;rfl
 |.int i::r,ns,xs,h,w=>by
  rw[eE]at h
  obtain⟨q,h1,h⟩:=Res.bind_ok h
  cases h
  obtain⟨v,ys,rfl,e1,e2⟩:=w
  cases (show v=_ from e1)
  rw[pW h1 e2];rfl
 |.non::_,_,_,h,_ | .bl _::_,_,_,h,_ | .str _::_,_,_,h,_ | .tup _::_,_,_,h,_ | .lst _::_,_,_,h,_ | .dct _::_,_,_,h,_ | .tdc _::_,_,_,h,_=>by
  rw[eE]at h<;>first|cases h|(intros;rename_i z;cases z)
theorem BM{K:PySem.W.Frag}{H:Hp}{O:Addr->Prop}:∀(lo:Int)(n:Nat),RDs K H O (bP lo n) ((aA n).map λi:Nat=>V.int (lo+(i:Nat)))
 |lo,0=>rfl
 |lo,n+1=>by
  rw[bP,mF,aG,bU]
  refine⟨_,_,rfl,by show V.int _=V.int _;simp,?_⟩
  have e:(aA n).map ((λi:Nat=>V.int (lo+(i:Nat)))∘Nat.succ)=(aA n).map λi:Nat=>V.int (lo+1+(i:Nat)):=by
   apply gP
   intro i _
   simp only[Function.comp]
   congr 1
   push_cast
   lia
  rw[e]
  exact BM (lo+1) n
noncomputable def rB(K:PySem.W.Frag)(f:List D->Res D)(fr:Bool):List V->Hp->VK->Prop:=λvs H Q=>∃O ds d,RRs K H O ds vs/\f ds=.ok d/\(∀a,O a->∃o,H a=some o)/\∀v H',Same H H'->RD K H' O d v->(fr=true->NewL K H H' O d v)->Q v H'
theorem rr1{K:PySem.W.Frag}{H:Hp}{O:Addr->Prop}{d:D}{vs:List V}(h:RRs K H O [d] vs):∃v,vs=[v]/\RR K H O d v:=by
 obtain⟨v,r,rfl,h1,h2⟩:=h
 rw[RRs]at h2;subst h2
 exact⟨v,rfl,h1⟩
theorem HA (hh:X.calm=true):bZ X (.builtin "sum") (λxs H Q=>∃(a:Addr) (ns:List Int),xs=[.ref a]/\SqL X.K H a (ns.map V.int)/\Q (.int ns.sum) H):=by
 intro pins s σ H xs us Q I r h
 obtain⟨a,ns,rfl,hq,q⟩:=h
 obtain⟨u,rfl,rx⟩:=fK r
 cases rx
 obtain⟨its,r',pl,hz⟩:=I.list hq
 have hi:IntsAre its ns:=Ea r'
 have hall:=hi.allInts
 obtain⟨ys,hys⟩:=hall.items
 have hn:(numsOf its.toArray.toList)=ns:=by rw[show its.toArray.toList=its by simp];exact hi.numsOf
 refine sum_intListG (xs:=ys) (I.ok.hd hh) (by rw[<-hys];exact pl.isList) λh' tk t' hk=>?_
 refine⟨.int ns.sum,H,I.kept (t':=tk) hk,⟨t',?_⟩,q⟩
 rw[hys,nums_intItems]at hn
 rw[preSum_eq,oJ (by simp),<-hn]
noncomputable def Bt.nm:Bt->Str
 |.len => "len"
 |.sum => "sum"
 |.tuple => "tuple"
 |.list => "list"
 |.int => "int"
 |.str => "str"
 |.bool => "bool"
 |.abs => "abs"
 |.min => "min"
 |.max => "max"
 |.all => "all"
 |.any => "any"
theorem lD{b:Bt}{ds:List D}{d:D}(h:b.run ds=.ok d)(hb:∀d1 d2,b.two d1 d2=.no):∃d0,ds=[d0]/\b.one d0=.ok d:=by
 unfold Bt.run at h
 split at h
 ·exact⟨_,rfl,h⟩
 ·rw[hb]at h;cases h
 ·cases h
theorem HB{b:Bt}{ds:List D}{d:D}(h:b.run ds=.ok d):(∃d0,ds=[d0]/\b.one d0=.ok d)\/∃d1 d2,ds=[d1,d2]/\b.two d1 d2=.ok d:=by
 unfold Bt.run at h
 split at h
 ·exact .inl ⟨_,rfl,h⟩
 ·exact .inr ⟨_,_,rfl,h⟩
 ·cases h
theorem rr2{K:PySem.W.Frag}{H:Hp}{O:Addr->Prop}{d d':D}{vs:List V}(h:RRs K H O [d,d'] vs):∃v v',vs=[v,v']/\RR K H O d v/\RR K H O d' v':=by
 obtain⟨v,r,rfl,h1,h2⟩:=h
 obtain⟨v',rfl,h3⟩:=rr1 h2
 exact⟨v,v',rfl,h1,h3⟩
theorem bt_len:bZ X (.builtin "len") (rB X.K (Bt.run .len) false):=by
 intro pins s σ H xs us Q I rv h
 obtain⟨O,ds,d,rr,ev,tr,k⟩:=h
 obtain⟨d0,rfl,ev⟩:=lD ev (λ_ _=>rfl)
 obtain⟨v,rfl,r1⟩:=rr1 rr
 have ev:D.len d0=.ok d:=ev
 unfold D.len at ev
 split at ev
 ·cases ev
  obtain⟨a,ys,rfl,q1,w1⟩:=r1.lst
  exact zC pins s σ H _ us Q I rv ⟨a,ys,rfl,.inl q1,k _ H (Same.refl H) (by rw[w1.length];exact rfl) (λz=>by cases z)⟩
 ·cases ev
  obtain⟨a,ys,rfl,q1,w1⟩:=r1.tup
  exact zC pins s σ H _ us Q I rv ⟨a,ys,rfl,.inr q1,k _ H (Same.refl H) (by rw[w1.length];exact rfl) (λz=>by cases z)⟩
 ·obtain⟨c,ev⟩:=aU ev
  cases ev
  cases (show v=_ from r1.rd rfl)
  exact Ek pins s σ H _ us Q I rv ⟨_,rfl,by rw[<-fQ];exact of_decide_eq_true c,k _ H (Same.refl H) rfl (λz=>by cases z)⟩
 ·cases ev
  obtain⟨a,ps,rfl,q1,w1⟩:=r1.dct
  obtain⟨u,rfl,ru⟩:=fK rv
  cases ru
  exact d_len I q1 λt s' I'=>⟨.int _,H,I',⟨t,rfl⟩,k _ H (Same.refl H) (by rw[w1.length];exact rfl) (λz=>by cases z)⟩
 ·cases ev
theorem bt_sum (hh:X.calm=true):bZ X (.builtin "sum") (rB X.K (Bt.run .sum) false):=by
 intro pins s σ H xs us Q I rv h
 obtain⟨O,ds,d,rr,ev,tr,k⟩:=h
 obtain⟨d0,rfl,ev⟩:=lD ev (λ_ _=>rfl)
 obtain⟨v,rfl,r1⟩:=rr1 rr
 have ev:D.sum d0=.ok d:=ev
 unfold D.sum at ev
 split at ev
 ·obtain⟨ns,e1,ev⟩:=Res.bind_ok ev
  cases ev
  obtain⟨a,ys,rfl,q1,w1⟩:=r1.lst
  have e:=pW e1 w1
  subst e
  exact HA hh pins s σ H _ us Q I rv ⟨a,ns,rfl,q1,k _ H (Same.refl H) rfl (λz=>by cases z)⟩
 ·cases ev
theorem HC:bZ X (.type "tuple") (rB X.K (Bt.run .tuple) false):=by
 intro pins s σ H xs us Q I rv h
 obtain⟨O,ds,d,rr,ev,tr,k⟩:=h
 obtain⟨d0,rfl,ev⟩:=lD ev (λ_ _=>rfl)
 obtain⟨v,rfl,r1⟩:=rr1 rr
 have ev:D.tuple d0=.ok d:=ev
 unfold D.tuple at ev
 split at ev
 ·cases ev
  obtain⟨a,ys,rfl,q1,w1⟩:=r1.lst
  exact zE pins s σ H _ us Q I rv ⟨a,ys,rfl,.inl ⟨q1,λl hl=>k _ _ (bM hl _) (lC w1 hl) (λz=>by cases z)⟩⟩
 ·cases ev
  obtain⟨a,ys,rfl,q1,w1⟩:=r1.tupV
  exact zE pins s σ H _ us Q I rv ⟨a,ys,rfl,.inr ⟨q1.sq,k _ H (Same.refl H) ⟨a,ys,rfl,q1,w1⟩ (λz=>by cases z)⟩⟩
 ·cases ev
theorem HD:bZ X (.type "list") (rB X.K (Bt.run .list) true):=by
 intro pins s σ H xs us Q I rv h
 obtain⟨O,ds,d,rr,ev,tr,k⟩:=h
 obtain⟨d0,rfl,ev⟩:=lD ev (λ_ _=>rfl)
 obtain⟨v,rfl,r1⟩:=rr1 rr
 have ev:D.list d0=.ok d:=ev
 unfold D.list at ev
 split at ev
 ·cases ev
  obtain⟨a,ys,rfl,q1,w1⟩:=r1.lst
  refine zD pins s σ H _ us Q I rv ⟨a,ys,rfl,.inl q1,λl hl=>?_⟩
  have z:=lB w1 hl tr
  exact k _ _ (bM hl _) z.1 (λ_=>z.2)
 ·cases ev
  obtain⟨a,ys,rfl,q1,w1⟩:=r1.tup
  refine zD pins s σ H _ us Q I rv ⟨a,ys,rfl,.inr q1,λl hl=>?_⟩
  have z:=lB w1 hl tr
  exact k _ _ (bM hl _) z.1 (λ_=>z.2)
 ·cases ev
theorem bt_int:bZ X (.type "int") (rB X.K (Bt.run .int) false):=by
 intro pins s σ H xs us Q I rv h
 obtain⟨O,ds,d,rr,ev,tr,k⟩:=h
 obtain⟨d0,rfl,ev⟩:=lD ev (λ_ _=>rfl)
 obtain⟨v,rfl,r1⟩:=rr1 rr
 have ev:D.toInt d0=.ok d:=ev
 unfold D.toInt at ev
 split at ev
 ·cases ev
  cases (show v=_ from r1.rd rfl)
  exact yR pins s σ H _ us Q I rv (.inl ⟨_,rfl,k _ H (Same.refl H) rfl (λz=>by cases z)⟩)
 ·cases ev
  cases (show v=_ from r1.rd rfl)
  exact yR pins s σ H _ us Q I rv (.inr ⟨_,rfl,k _ H (Same.refl H) rfl (λz=>by cases z)⟩)
 ·obtain⟨c,ev⟩:=aU ev
  cases ev
  rw[aE,decide_eq_true_eq]at c
  cases (show v=_ from r1.rd rfl)
  exact F_ pins s σ H _ us Q I rv ⟨_,rfl,c.1,c.2,k _ H (Same.refl H) rfl (λz=>by cases z)⟩
 ·cases ev
theorem bt_max (hc:X.calm=true):bZ X (.builtin "max") (rB X.K (Bt.run .max) false):=by
 intro pins s σ H xs us Q I rv h
 obtain⟨O,ds,d,rr,ev,tr,k⟩:=h
 rcases HB ev with⟨d0,rfl,ev⟩|⟨d1,d2,rfl,ev⟩
 ·obtain⟨v,rfl,r1⟩:=rr1 rr
  cases d0 with
  |lst a=>
   obtain⟨ns,e1,ev⟩:=Res.bind_ok (show(eE a>>=_)=Res.ok d from ev)
   cases ns with
   |nil=>cases ev
   |cons n ns=>
    cases ev
    obtain⟨a0,ys,rfl,q1,w1⟩:=r1.lst
    have e2:=pW e1 w1
    subst e2
    exact Fh hc pins s σ H _ us Q I rv ⟨a0,n,ns,rfl,q1,k _ H (Same.refl H) rfl (λz=>by cases z)⟩
  |tup a=>
   obtain⟨ns,e1,ev⟩:=Res.bind_ok (show(eE a>>=_)=Res.ok d from ev)
   cases ns with
   |nil=>cases ev
   |cons n ns=>
    cases ev
    obtain⟨a0,ys,rfl,q1,w1⟩:=r1.tup
    have e2:=pW e1 w1
    subst e2
    exact Fl hc pins s σ H _ us Q I rv ⟨a0,n,ns,rfl,q1,k _ H (Same.refl H) rfl (λz=>by cases z)⟩
  |_=>cases ev
 obtain⟨v,v',rfl,r1,r2⟩:=rr2 rr
 have ev:D.max2 d1 d2=.ok d:=ev
 unfold D.max2 at ev
 split at ev
 ·cases ev
  cases (show v=_ from r1.rd rfl)
  cases (show v'=_ from r2.rd rfl)
  exact E3 hc pins s σ H _ us Q I rv ⟨_,_,rfl,k _ H (Same.refl H) rfl (λz=>by cases z)⟩
 ·cases ev
theorem BN{K:PySem.W.Frag}{H:Hp}{O:Addr->Prop}:∀{ds:List D} {ns:List Bool} {xs:List V},fL ds=.ok ns->RDs K H O ds xs->xs=ns.map V.bl
 |[],ns,xs,h,w=>by
  rw[fL]at h;cases h
  rw[RDs]at w;subst w;rfl
 |.bl i::r,ns,xs,h,w=>by
  rw[fL]at h
  obtain⟨q,h1,h⟩:=Res.bind_ok h
  cases h
  obtain⟨v,ys,rfl,e1,e2⟩:=w
  cases (show v=_ from e1)
  rw[BN h1 e2];rfl
 |.non::_,_,_,h,_ | .int _::_,_,_,h,_ | .str _::_,_,_,h,_ | .tup _::_,_,_,h,_ | .lst _::_,_,_,h,_ | .dct _::_,_,_,h,_ | .tdc _::_,_,_,h,_=>by
  rw[fL]at h<;>first|cases h|(intros;rename_i z;cases z)
theorem bt_all (hc:X.calm=true):bZ X (.builtin "all") (rB X.K (Bt.run .all) false):=by
 intro pins s σ H xs us Q I rv h
 obtain⟨O,ds,d,rr,ev,tr,k⟩:=h
 obtain⟨d0,rfl,ev⟩:=lD ev (λ_ _=>rfl)
 obtain⟨v,rfl,r1⟩:=rr1 rr
 have ev:D.all d0=.ok d:=ev
 unfold D.all at ev
 split at ev
 ·obtain⟨ns,e1,ev⟩:=Res.bind_ok ev
  cases ev
  obtain⟨a,ys,rfl,q1,w1⟩:=r1.lst
  have e:=BN e1 w1
  subst e
  exact Tr.Fe pins s σ H _ us Q I rv ⟨a,ns,rfl,q1,hc,k _ H (Same.refl H) rfl (λz=>by cases z)⟩
 ·cases ev
theorem tcb_of{b:Bt}{H₀:Hp}{O₀:Addr->Prop}{σ:L2.St}{H:Hp}{Q:VK}(h:tE T cf X.K H₀ O₀ (.bt b x) σ H Q):tCB (rB X.K (Bt.run b) (bH T (.bt b x))) (tAr T cf X.K H₀ O₀ x) σ H Q:=by
 obtain⟨O,own,e,d,F,ev,k⟩:=h
 rw[xE_bt]at ev
 obtain⟨ds,e1,ev⟩:=Res.bind_ok ev
 refine⟨O,own,e,ds,F,e1,λvs H1 s1 r1=>?_⟩
 refine⟨O,ds,d,r1,ev,(F.grow s1).trk,λv H' s2 r2 n2=>k v H' (s1.trans s2) r2 λfr=>(n2 fr).back s1⟩
noncomputable def Bt.use:Bt->Bool
 |.str=>false
 |.bool=>false
 |.abs=>false
 |.min=>false
 |.any=>false
 |_=>true
theorem se_bt{b:Bt}{n:Str}{pn:Pos}(hu:b.use=true)(hh:X.calm=true)(hn:n=b.nm)(hm:X.mg b.nm=none)(hg:Gl X n)(hp:(p::es).all bA=true)(ha:SAr T cf X x (p::es)):SE T cf X (.bt b x) (.Call (.Name n pn) (p::es) [] pos):=λH₀ O₀=>by
 subst hn
 rw[fG,aE]at hp
 refine PE.imp (λσ H Q h=>tcb_of h) ?_
 cases b with
 |len=>exact kW bt_len hg hm PySem.boot_len (ha H₀ O₀) (by decide) (by decide) (aV hp.1) (gT hp.2)
 |sum=>exact kW (bt_sum hh) hg hm PyProof.Rows.boot_sum (ha H₀ O₀) (by decide) (by decide) (aV hp.1) (gT hp.2)
 |tuple=>exact jT HC hg hm PyProof.Rows.boot_tuple (ha H₀ O₀) (by decide) (by decide) (aV hp.1) (gT hp.2)
 |list=>exact jT HD hg hm PyProof.Rows.boot_list (ha H₀ O₀) (by decide) (by decide) (aV hp.1) (gT hp.2)
 |int=>exact jT bt_int hg hm PyProof.Rows.boot_int (ha H₀ O₀) (by decide) (by decide) (aV hp.1) (gT hp.2)
 |str=>cases hu
 |bool=>cases hu
 |abs=>cases hu
 |min=>cases hu
 |max=>exact kW (bt_max hh) hg hm (by decide +kernel) (ha H₀ O₀) (by decide) (by decide) (aV hp.1) (gT hp.2)
 |all=>exact kW (bt_all hh) hg hm (by decide +kernel) (ha H₀ O₀) (by decide) (by decide) (aV hp.1) (gT hp.2)
 |any=>cases hu
noncomputable def Ty.nm:Ty->String
 |.int => "int"
 |.bool => "bool"
 |.str => "str"
 |.tuple => "tuple"
 |.list => "list"
theorem HE (K:PySem.W.Frag) (t:Ty):PySem.W.kitOne K (.type "NoneType") (.type t.nm)=some (D.isTy .non t):=by cases t<;>rfl
theorem kit_bl (K:PySem.W.Frag) (t:Ty) (b:Bool):PySem.W.kitOne K (.type "bool") (.type t.nm)=some (D.isTy (.bl b) t):=by cases t<;>rfl
theorem HF (K:PySem.W.Frag) (t:Ty) (i:Int):PySem.W.kitOne K (.type "int") (.type t.nm)=some (D.isTy (.int i) t):=by cases t<;>rfl
theorem HG (K:PySem.W.Frag) (t:Ty) (x:Str):PySem.W.kitOne K (.type "str") (.type t.nm)=some (D.isTy (.str x) t):=by cases t<;>rfl
theorem HI (K:PySem.W.Frag) (t:Ty) (x:List D):PySem.W.kitOne K (.type "tuple") (.type t.nm)=some (D.isTy (.tup x) t):=by cases t<;>rfl
theorem HJ (K:PySem.W.Frag) (t:Ty) (x:List D):PySem.W.kitOne K (.type "list") (.type t.nm)=some (D.isTy (.lst x) t):=by cases t<;>rfl
theorem isi_D (t:Ty):bZ X (.builtin "isinstance") (λxs H Q=>∃O d v,xs=[v,.ty t.nm]/\RR X.K H O d v/\d.isDct=false/\Q (.bl (d.isTy t)) H):=by
 intro pins s σ H xs us Q I rv h
 obtain⟨O,d,v,rfl,r,nd,q⟩:=h
 obtain⟨u,w,rfl,r1,r2⟩:=yQ rv
 cases (show w=_ from r2)
 have fin:∀tk,EP X pins σ Q (.bool (d.isTy t)) {s with toks:=tk}:=λtk=>⟨.bl (d.isTy t),H,I.tok tk,rfl,q⟩
 have sn:=uN I r r1
 cases sn with
 |dct ds a ps q w=>cases nd
 |tdc ds a ps q w=>cases nd
 |non=>exact PySem.W.kia_one PySem.W.kitx_none I.kIn True.intro (HE _ t) (λz=>nomatch z) fin
 |bl b=>exact PySem.W.kia_one PySem.W.kitx_bool I.kIn True.intro (kit_bl _ t b) (λz=>nomatch z) fin
 |int i tk=>exact PySem.W.kia_one PySem.W.kitx_int I.kIn True.intro (HF _ t i) (λz=>nomatch z) fin
 |str x tk=>exact PySem.W.kia_one PySem.W.kitx_str I.kIn True.intro (HG _ t x) (λz=>nomatch z) fin
 |tup ds a xs its q w r p=>
  obtain⟨o,h1,h2,_⟩:=p
  exact PySem.W.kia_one PySem.W.kitx_tuple I.kIn ⟨o,h1,h2⟩ (HI _ t ds) (λz=>nomatch z) fin
 |lst ds a xs its q w r p=>
  obtain⟨o,h1,h2,_⟩:=p.isList
  exact PySem.W.kia_one PySem.W.kitx_list I.kIn ⟨o,h1,h2⟩ (HJ _ t ds) (λz=>nomatch z) fin
theorem HK(t:Ty):bootBuiltins (Str.ofString t.nm)=some (.type t.nm):=by
 cases t
 ·exact PyProof.Rows.boot_int
 ·exact PyProof.Rows.boot_bool
 ·exact PyProof.Rows.boot_str
 ·exact PyProof.Rows.boot_tuple
 ·exact PyProof.Rows.boot_list
theorem se_isi {t:Ty} {n m:Str} {pn pm:Pos} (hn:n = "isinstance") (hm':m=Str.ofString t.nm) (h0:X.mg "isinstance" = none) (h1:X.mg (Str.ofString t.nm)=none) (hg:Gl X n) (hg':Gl X m) (hp:bA p=true) (ha:SR T cf X x p) :
 SE T cf X (.isi x t) (.Call (.Name n pn) [p,.Name m pm] [] pos):=λH₀ O₀=>by
 subst hn hm'
 have ht:PE X (.Name (Str.ofString t.nm) pm) (tC (.ty t.nm)):=ED hg' h1 (HK t) rfl (by cases t<;>decide) (by cases t<;>decide)
 refine PE.imp (λσ H Q hq=>?_) (kW (isi_D t) hg h0 PyProof.Rows.boot_isinstance (dM (ha H₀ O₀) (dM ht eK (aV rfl)) (aV hp)) (by decide) (by decide) (aV hp) (gT rfl))
 obtain⟨O,own,e,d,F,ev,k⟩:=hq
 rw[xE_isi]at ev
 obtain⟨d1,e1,ev⟩:=Res.bind_ok ev
 obtain⟨c,ev⟩:=aU ev
 cases ev
 refine⟨O,own,e,d1,F,e1,λv1 H1 s1 r1=>?_⟩
 exact⟨O,d1,v1,rfl,r1,by simpa using c,k _ H1 s1 rfl (λz=>by cases z)⟩
noncomputable def pX:Expr->Bool
 |.Name _ _=>true
 |.Constant _ _ _=>true
 |.Subscript _ _ _=>true
 |.BinOp _ _ _ _=>true
 |_=>false
theorem base_of {e:Expr} {nm:Str} {env:Env} (h:pX e=true) (hn:(nm==("__class__" : Str))=false):attributeBase e nm env (eval e env)=eval e env:=by
 cases e<;>first|(cases h;done)|rfl
end
inductive Pin where
 |dv (d:D) (v:V)|fr (a:Addr) (o:Obj) (u:HO)
noncomputable def PinOk(K:PySem.W.Frag)(H:Hp)(O:Addr->Prop):Pin->Prop
 |.dv d v=>RD K H O d v
 |.fr a o u=>H a=some (.frz o u)
noncomputable def lE(K:PySem.W.Frag)(H:Hp)(O:Addr->Prop):Pin->Prop
 |.dv d v=>RR K H O d v
 |.fr a o u=>H a=some (.frz o u)
section
variable{K:PySem.W.Frag}{H H':Hp}{O O':Addr->Prop}{p:Addr}{t:Pin}
theorem PinOk.rr(h:PinOk K H O t):lE K H O t:=by
 cases t with
 |dv d v=>exact RD.rr h
 |fr a o u=>exact h
theorem PinOk.same(h:PinOk K H O t)(s:Same H H'):PinOk K H' O t:=by
 cases t with
 |dv d v=>exact RD.same s h
 |fr a o u=>exact s _ _ h
theorem PinOk.new(h:PinOk K H O t)(hp:H p=none):PinOk K H (cS O p) t:=by
 cases t with
 |dv d v=>exact RD.new hp h
 |fr a o u=>exact h
theorem PinOk.weak(h:PinOk K H O t)(s:∀a,O' a->O a):PinOk K H O' t:=by
 cases t with
 |dv d v=>exact RD.weak s h
 |fr a o u=>exact h
theorem PinOk.updM{o o':HO}(h:PinOk K H O t)(hO:O p)(hp:H p=some o)(hm:gG o):PinOk K (L2.upd H p o') O t:=by
 cases t with
 |dv d v=>exact RD.updM hO hp hm h
 |fr a o1 u=>exact(dR (K:=K) hO hp hm).2.2 a o1 u h
theorem PinOk.upd{ys zs:List V}(h:PinOk K H O t)(hO:O p)(hp:H p=some (.lst ys)):PinOk K (L2.upd H p (.lst zs)) O t:=h.updM hO hp trivial
end
noncomputable def Wk1(K:PySem.W.Frag)(J:It)(d0:D)(v0:V)(ds:List D):Prop:=∀i H O,RR K H O d0 v0 ->
 (i<ds.length->J.go i H)/\(ds.length<=i->J.stop i H)/\∀x H' d,ds[i]?=some d->J.yld i H x H'->Same H H'/\RD K H' O d x
noncomputable def Wk(K:PySem.W.Frag)(J:It)(srs:List Pin)(ds:List D):Prop:=∀i H O,(∀t∈srs,lE K H O t) ->
 (i<ds.length->J.go i H)/\(ds.length<=i->J.stop i H)/\∀x H' d,ds[i]?=some d->J.yld i H x H'->Same H H'/\RD K H' O d x
theorem Wk1.wk{K:PySem.W.Frag}{J:It}{d0:D}{v0:V}{ds:List D}(h:Wk1 K J d0 v0 ds):Wk K J [.dv d0 v0] ds:=λi H O r=>h i H O (r (.dv d0 v0) (bJ.mpr rfl))
theorem pY{K:PySem.W.Frag}{H:Hp}{O:Addr->Prop}{rd:Bool}{ds:List D}{R:It->Hp->Prop}(k:∀J H' srs,Same H H'->(∀t∈srs,lE K H' O t)->(rd=false->∀t∈srs,PinOk K H' O t)->Wk K J srs ds->R J H') :
 ∀J H' d0 v0,Same H H'->RR K H' O d0 v0->(rd=false->RD K H' O d0 v0)->Wk1 K J d0 v0 ds->R J H':=λJ H' d0 v0 s r rv w=>
 k J H' [.dv d0 v0] s (λt ht=>by rw[bJ.mp ht];exact r) (λz t ht=>by rw[bJ.mp ht];exact rv z) w.wk
noncomputable def tI(T:Tab)(cf:Nat->List D->Res D)(K:PySem.W.Frag)(H₀:Hp)(O₀:Addr->Prop)(x:E)(rd:Bool):TI:=λσ H R=>∃O own e ds,Fm K H₀ O₀ H O own e σ/\evI T cf x e=.ok ds /\
 ∀J H' srs,Same H H'->(∀t∈srs,lE K H' O t)->(rd=false->∀t∈srs,PinOk K H' O t)->Wk K J srs ds->R J H'
noncomputable def SI(T:Tab)(cf:Nat->List D->Res D)(X:Cx)(tg:Expr)(x:E)(rd:Bool)(p:Expr):Prop:=∀H₀ O₀,PI X tg p (tI T cf X.K H₀ O₀ x rd)
section
variable{T:Tab}{cf:Nat->List D->Res D}{X:Cx}{x y z:E}{p q r tg:Expr}{pos pos':Pos}{es:List Expr}
theorem HL{K:PySem.W.Frag}{a:Addr}{ds:List D}:Wk1 K (Itl K a) (.lst ds) (.ref a) ds:=by
 intro i H O r
 obtain⟨a',xs,e,q,w⟩:=r.lst
 cases e
 have hl:=w.length
 refine⟨λh=>?_,λh=>⟨xs,q,by lia⟩,λx H' d hd y=>?_⟩
 ·obtain⟨v,h1,h2⟩:=w.get (aH h)
  exact⟨xs,v,q,h1⟩
 ·obtain⟨rfl,y⟩:=y
  refine⟨Same.refl _,?_⟩
  obtain⟨v,h1,h2⟩:=w.get hd
  have:=(y xs q).symm.trans h1
  cases this
  exact h2
theorem wk_tup{K:PySem.W.Frag}{a:Addr}{ds:List D}:Wk1 K (Itt K a) (.tup ds) (.ref a) ds:=by
 intro i H O r
 obtain⟨a',xs,e,q,w⟩:=r.tup
 cases e
 have hl:=w.length
 refine⟨λh=>?_,λh=>⟨xs,q,by lia⟩,λx H' d hd y=>?_⟩
 ·obtain⟨v,h1,h2⟩:=w.get (aH h)
  exact⟨xs,v,q,h1⟩
 ·obtain⟨rfl,y⟩:=y
  refine⟨Same.refl _,?_⟩
  obtain⟨v,h1,h2⟩:=w.get hd
  have:=(y xs q).symm.trans h1
  cases this
  exact h2
theorem uS(lo:Int):∀n,(bP lo n).length=n
 |0=>rfl
 |n+1=>by rw[bP,aN,uS (lo+1) n]
theorem BO:∀(lo:Int)(n i:Nat),i<n->(bP lo n)[i]?=some (.int (lo+i))
 |lo,0,i,h=>absurd h (yB _)
 |lo,n+1,0,_=>by rw[bP];simp
 |lo,n+1,i+1,h=>by
  rw[bP,Dq,BO (lo+1) n i (by lia)]
  congr 2
  push_cast
  lia
theorem BP{K:PySem.W.Frag}{lo:Int}{n:Nat}:Wk1 K (Itr lo n) .non .non (bP lo n):=by
 intro i H O r
 rw[uS]
 refine⟨λh=>h,λh=>h,λx H' d hd y=>?_⟩
 obtain⟨rfl,rfl⟩:=y
 refine⟨Same.refl _,?_⟩
 by_cases hi:i<n
 ·rw[BO lo n i hi]at hd
  cases hd
  exact rfl
 ·rw[mM (by rw[uS];lia)]at hd
  cases hd
theorem wk_str{K:PySem.W.Frag}{z:Str}:Wk1 K (Its z) (.str z) (.str z) (z.cps.toList.map λc=>D.str (mU c)):=by
 intro i H O r
 rw[aC]
 refine⟨λh=>by simpa[Its]using h,λh=>by simpa[Its]using h,λx H' d hd y=>?_⟩
 obtain⟨rfl,c,hc,rfl⟩:=y
 refine⟨Same.refl _,?_⟩
 rw[bI]at hd
 have hc':z.cps.toList[i]?=some c:=by simpa using hc
 rw[hc']at hd
 cases hd
 exact rfl
theorem si_seq{rd:Bool}(ha:SR T cf X x p)(hv:rd=false->SE T cf X x p):SI T cf X tg (.seq x) rd p:=by
 intro H₀ O₀ pins s σ H R I h
 obtain⟨O,own,e,ds,F,ev,k⟩:=h
 replace k:=pY k
 rw[xI_seq]at ev
 obtain⟨d1,e1,ev⟩:=Res.bind_ok ev
 have main:∀{u:Value} {s1:Shared} {v:V} {H1:Hp},Inv X pins σ H1 s1->RelV v u->Same H H1->RR X.K H1 O d1 v->(rd=false->RD X.K H1 O d1 v)->wpAny (model X.prog X.w) X.A (pyIter u) (PIE X pins σ tg R) X.xe s1:=by
  intro u s1 v H1 I1 r1 s1' rr rv
  unfold D.items at ev
  split at ev
  ·cases ev
   obtain⟨a,xs,e,q1,w1⟩:=rr.lst
   subst e
   cases r1
   obtain⟨its,r',pl,hz⟩:=I1.list q1
   refine wpAny_pyIter_list pl.isList ?_
   refine⟨s1.heap.objs.size,[s1.heap.objs.size],_,Itl X.K a,H1,rfl,I1.kept (t':=s1.toks) λb u e=>Heap.get?_push_of_some _ e,EL a _,⟨_,Heap.get?_push_size _ rfl,rfl,rfl⟩,λb hb=>?_,k _ H1 _ _ s1' rr rv HL⟩
   rcases aZ.mp hb with rfl|hb
   ·exact I1.fpOk (aF _) (I1.hok.fresh (aF _))
   ·cases hb
  ·cases ev
   obtain⟨a,xs,e,q1,w1⟩:=rr.tup
   subst e
   cases r1
   obtain⟨its,r',pl,hz⟩:=I1.tuple q1
   refine wpAny_pyIter_tuple pl ?_
   refine⟨s1.heap.objs.size,[s1.heap.objs.size],_,Itt X.K a,H1,rfl,I1.kept (t':=s1.toks) λb u e=>Heap.get?_push_of_some _ e,EM a _,⟨_,Heap.get?_push_size _ rfl,rfl,rfl⟩,λb hb=>?_,k _ H1 _ _ s1' rr rv wk_tup⟩
   rcases aZ.mp hb with rfl|hb
   ·exact I1.fpOk (aF _) (I1.hok.fresh (aF _))
   ·cases hb
  ·cases ev
   rename_i z
   cases (show v=.str z from rr.rd rfl)
   obtain⟨t,rfl⟩:=r1
   exact pi_str I1 (k _ H1 (.str z) (.str z) s1' rr rv wk_str)
  ·cases ev
 cases rd with
 |true=>exact thn (ha H₀ O₀ pins s σ H (λv H1=>Same H H1/\RR X.K H1 O d1 v) I ⟨O,own,e,d1,F,e1,λv H' s' r=>⟨s',r⟩⟩) λu s1 ⟨v,H1,I1,r1,s1',rr⟩=>main I1 r1 s1' rr (λz=>by cases z)
 |false=>exact thn (hv rfl H₀ O₀ pins s σ H (λv H1=>Same H H1/\RD X.K H1 O d1 v) I ⟨O,own,e,d1,F,e1,λv H' s' r _=>⟨s',r⟩⟩) λu s1 ⟨v,H1,I1,r1,s1',rr⟩=>main I1 r1 s1' rr.rr (λ_=>rr)
theorem si_rng {rd:Bool} {n:Str} {pn:Pos} (hn:n = "range") (hg:Gl X n) (hm:X.mg "range" = none) (hp:bA p=true) (ha:SE T cf X x p):SI T cf X tg (.rng x) rd (.Call (.Name n pn) [p] [] pos):=by
 intro H₀ O₀ pins s σ H R I h
 subst hn
 obtain⟨O,own,e,ds,F,ev,k⟩:=h
 replace k:=pY k
 rw[AC]at ev
 obtain⟨d1,e1,ev⟩:=Res.bind_ok ev
 refine EO hg hm (dM (ha H₀ O₀) eK (aV hp)) (aV hp) pins s σ H R I ⟨O,own,e,d1,F,e1,λv H' s' r _=>?_⟩
 split at ev
 ·obtain⟨c,ev⟩:=aU ev
  cases ev
  cases (show v=_ from r)
  simp only[bV,aE,decide_eq_true_eq]at c
  exact⟨_,rfl,c.1,c.2,k _ H' .non .non s' (.inl rfl) (λ_=>rfl) BP⟩
 ·cases ev
theorem HM {rd:Bool} {n:Str} {pn:Pos} (hn:n = "range") (hg:Gl X n) (hm:X.mg "range" = none) (hp:bA p=true) (hq:bA q=true) (ha:SE T cf X x p) (hb:SE T cf X y q):SI T cf X tg (.rng2 x y) rd (.Call (.Name n pn) [p,q] [] pos):=by
 intro H₀ O₀ pins s σ H R I h
 subst hn
 obtain⟨O,own,e,ds,F,ev,k⟩:=h
 replace k:=pY k
 rw[AD]at ev
 obtain⟨d1,e1,ev⟩:=Res.bind_ok ev
 split at ev
 ·obtain⟨d2,e2,ev⟩:=Res.bind_ok ev
  split at ev
  ·obtain⟨c,ev⟩:=aU ev
   cases ev
   simp only[bV,aE,decide_eq_true_eq]at c
   refine ER hg hm (dM (ha H₀ O₀) (dM (hb H₀ O₀) eK (aV hq)) (aV hp)) (by rw[aV hp,aV hq];rfl) (aV hq) pins s σ H R I ⟨O,own,e,_,F,e1,λv H1 s1 r1 _=>⟨O,own,e,_,F.grow s1,e2,λv2 H2 s2 r2 _=>?_⟩⟩
   cases (show v=_ from r1)
   cases (show v2=_ from r2)
   exact⟨_,_,rfl,⟨c.1.1,c.1.2,c.2.1,c.2.2⟩,k _ H2 .non .non (s1.trans s2) (.inl rfl) (λ_=>rfl) BP⟩
  ·cases ev
 ·cases ev
noncomputable def Ft(K:PySem.W.Frag)(H₀:Hp)(O₀:Addr->Prop)(ts:List Pin)(e:Nv)(σ:L2.St)(H:Hp):Prop:=∃O own,Fm K H₀ O₀ H O own e σ/\∀t∈ts,PinOk K H O t
noncomputable def tG(K:PySem.W.Frag)(H₀:Hp)(O₀:Addr->Prop)(g:G):TG:=λv σ H Q=>∃O own e d e',Fm K H₀ O₀ H O own e σ/\RD K H O d v/\g.put d e=.ok e'/\∀σ' own',(∀j a,own' j=some a->own j=some a)->Fm K H₀ O₀ H O own' e' σ'->Q σ' H
noncomputable def SG(X:Cx)(g:G)(tg:Expr):Prop:=∀H₀ O₀,PG X tg (tG X.K H₀ O₀ g)
theorem PG.imp{t t':TG}(h:∀v σ H Q,t' v σ H Q->t v σ H Q)(hp:PG X tg t):PG X tg t':=λpins s σ H v u Q I r q=>hp pins s σ H v u Q I r (h v σ H Q q)
theorem BQ{own:Nat->Option Addr}{i:Nat}:∀j a,(λj=>if j=i then none else own j) j=some a->own j=some a:=λj a h=>by
 dsimp only at h
 by_cases hj:j=i
 ·rw[if_pos hj]at h;cases h
 ·rw[if_neg hj]at h;exact h
theorem sg_one{i:Nat}{n:Str}(hN:X.N.Nodup)(hi:X.N[i]?=some n)(hx:Loc X.env.scope n)(hf:X.fn n=true\/X.env.scope.names.lookup n=some .local):SG X (.one i) (.Name n pos):=λH₀ O₀=>
 PG.imp (λv σ H Q ⟨O,own,e,d,e',F,r,ev,k⟩=>by
  cases ev
  exact k _ _ BQ (F.setV i r)) (yM hN hi hx hf)
noncomputable def tGs(K:PySem.W.Frag)(H₀:Hp)(O₀:Addr->Prop)(is:List Nat):TGs:=λvs σ H Q=>∃O own e ds e',Fm K H₀ O₀ H O own e σ/\RDs K H O ds vs/\cR is ds e=.ok e'/\∀σ' own',(∀j a,own' j=some a->own j=some a)->Fm K H₀ O₀ H O own' e' σ'->Q σ' H
noncomputable def SGs(X:Cx)(is:List Nat)(tgs:List Expr):Prop:=∀H₀ O₀,PGs X tgs (tGs X.K H₀ O₀ is)
theorem PGs.imp{tgs:List Expr}{t t':TGs}(h:∀v σ H Q,t' v σ H Q->t v σ H Q)(hp:PGs X tgs t):PGs X tgs t':=λpins s σ H v u Q I r q=>hp pins s σ H v u Q I r (h v σ H Q q)
theorem HN:SGs X [] []:=λH₀ O₀=>PGs.imp (λvs σ H Q ⟨O,own,e,ds,e',F,r,ev,k⟩=>by
 cases ds with
 |nil=>
  simp only[cR]at ev
  cases ev
  rw[RDs]at r
  exact⟨r,k _ _ (λ_ _ h=>h) F⟩
 |cons d ds=>simp only[cR]at ev;cases ev) EJ
theorem HQ{n:Str}{pos:Pos}{es:List Expr}{env:Env}:(assignEach (.Name n pos::es) env).map (·.2)=assign (.Name n pos) env::(assignEach es env).map (·.2):=rfl
theorem HR{i:Nat}{is:List Nat}{n:Str}(hN:X.N.Nodup)(hi:X.N[i]?=some n)(hx:Loc X.env.scope n)(hf:X.fn n=true\/X.env.scope.names.lookup n=some .local)(h:SGs X is es):SGs X (i::is) (.Name n pos::es):=λH₀ O₀=>
 PGs.imp (λvs σ H Q ⟨O,own,e,ds,e',F,r,ev,k⟩=>by
  cases ds with
  |nil=>simp only[cR]at ev;cases ev
  |cons d ds=>
   rw[cR]at ev
   obtain⟨v,vr,rfl,r1,r2⟩:=r
   exact⟨v,vr,rfl,O,_,_,ds,e',F.setV i r1,r2,ev,λσ' own' h=>k σ' own' λj a q=>BQ j a (h j a q)⟩) (EK (yM hN hi hx hf) (h H₀ O₀) HQ)
noncomputable def nH:List Expr->Bool
 |[]=>true
 |.Name _ _::r=>nH r
 |_=>false
theorem HS{env:Env}:∀{es:List Expr},nH es=true->(assignEach es env).length=es.length:=by
 intro es
 induction es with
 |nil=>intro _;rfl
 |cons e es ih=>
  intro h
  cases e with
  |Name n pos=>
   show((false,assign (.Name n pos) env)::assignEach es env).length=_
   rw[aN,ih h,aN]
  |_=>exact absurd h aK
theorem HU{env:Env}:∀{es:List Expr},nH es=true->(assignEach es env).findIdx? (·.1)=none:=by
 intro es
 induction es with
 |nil=>intro _;rfl
 |cons e es ih=>
  intro h
  cases e with
  |Name n pos=>
   show((false,assign (.Name n pos) env)::assignEach es env).findIdx? (·.1)=none
   rw[List.findIdx?_cons,ih h];rfl
  |_=>exact absurd h aK
theorem BR:∀{is:List Nat} {ds:List D} {e e':Nv},cR is ds e=.ok e'->ds.length=is.length
 |[],[],_,_,_=>rfl
 |[],_::_,_,_,h=>by simp only[cR]at h;cases h
 |_::_,[],_,_,h=>by simp only[cR]at h;cases h
 |i::is,d::ds,e,e',h=>by
  rw[cR]at h
  rw[aN,aN,BR h]
theorem HV{is:List Nat}{k:Nat}(hc:X.calm=true)(hn:nH es=true)(hl:es.length=is.length)(h:SGs X is es):SG X (.many is) (.Tuple es k pos):=λH₀ O₀=>
 PG.imp (λv σ H Q ⟨O,own,e,d,e',F,r,ev,k⟩=>by
  cases d with
  |tup ds=>
   have ev:cR is ds e=.ok e':=ev
   obtain⟨a,xs,rfl,q,w⟩:=r
   exact⟨a,xs,rfl,q.sq,by rw[w.length,BR ev,<-hl],O,own,e,ds,e',F,w,ev,k⟩
  |non=>cases ev
  |bl _=>cases ev
  |int _=>cases ev
  |str _=>cases ev
  |lst _=>cases ev
  |dct _=>cases ev
  |tdc _=>cases ev) (pg_tup (n:=es.length) hc (h H₀ O₀) (HS hn) (HU hn))
noncomputable def Ends.to(K:PySem.W.Frag)(H₀:Hp)(O₀:Addr->Prop)(ts:List Pin)(D':Ends):Out->Prop
 |.nx e'=>∀σ' H',Ft K H₀ O₀ ts e' σ' H'->D'.nx σ' H'
 |.bk e'=>∀σ' H',Ft K H₀ O₀ ts e' σ' H'->D'.bk σ' H'
 |.ct e'=>∀σ' H',Ft K H₀ O₀ ts e' σ' H'->D'.ct σ' H'
 |.rt d fr=>∀v H',Same H₀ H'->RD K H' O₀ d v->(fr=true->NewR K H₀ H' O₀ d v)->D'.rt v H'
noncomputable def tS(T:Tab)(cf:Nat->List D->Res D)(K:PySem.W.Frag)(H₀:Hp)(O₀:Addr->Prop)(x:S):TS:=λD' σ H=>∃ts e out,Ft K H₀ O₀ ts e σ H/\exS T cf x e=.ok out/\Ends.to K H₀ O₀ ts D' out
noncomputable def SS(T:Tab)(cf:Nat->List D->Res D)(X:Cx)(x:S)(p:Stmt):Prop:=∀H₀ O₀,PS X p (tS T cf X.K H₀ O₀ x)
noncomputable def SB(T:Tab)(cf:Nat->List D->Res D)(X:Cx)(x:S)(p:List Stmt):Prop:=∀H₀ O₀,PSs X p (tS T cf X.K H₀ O₀ x)
theorem PS.imp{st:Stmt}{t t':TS}(h:∀D' σ H,t' D' σ H->t D' σ H)(hp:PS X st t):PS X st t':=λpins s σ H D' I q=>hp pins s σ H D' I (h D' σ H q)
theorem PSs.imp{st:List Stmt}{t t':TS}(h:∀D' σ H,t' D' σ H->t D' σ H)(hp:PSs X st t):PSs X st t':=λpins s σ H D' I q=>hp pins s σ H D' I (h D' σ H q)
variable{a b c:S}{st:Stmt}{sts:List Stmt}
theorem BS{pins:List (Addr×Obj)}{σ:L2.St}{H:Hp}{s:Shared}{p:Addr}{u:HO}(I:Inv X pins σ H s)(h:H p=some u)(hu:(∃ps,u=.dK ps)\/∃ps,u=.dT ps):∃ob,Inv X pins σ (L2.upd H p (.frz ob u)) s:=by
 rcases hu with⟨ps,rfl⟩|⟨ps,rfl⟩
 ·obtain⟨o,_,_,_,I2⟩:=freeze I h
  exact⟨o,I2⟩
 ·obtain⟨o,_,_,_,I2⟩:=uF I h
  exact⟨o,I2⟩
theorem sb_nil:SB T cf X .nil []:=λH₀ O₀=>PSs.imp (λD' σ H ⟨ts,e,out,F,ev,k⟩=>by
 rw[xS_nil]at ev;cases ev
 exact k σ H F) EH
theorem HW(h1:SS T cf X a st)(h2:SB T cf X b sts):SB T cf X (.cons a b) (st::sts):=λH₀ O₀=>by
 refine PSs.imp (λD' σ H hq=>?_) (EI (h1 H₀ O₀) (h2 H₀ O₀))
 obtain⟨ts,e,out,F,ev,k⟩:=hq
 rw[pH]at ev
 obtain⟨o1,e1,ev⟩:=Res.bind_ok ev
 refine⟨ts,e,o1,F,e1,?_⟩
 cases o1 with
 |nx e'=>exact λσ' H' F'=>⟨ts,e',out,F',ev,k⟩
 |rt d fr=>cases ev;exact k
 |bk e'=>cases ev;exact k
 |ct e'=>cases ev;exact k
theorem HX{i:Nat}(h2:SB T cf X b sts):SB T cf X (.cons (.sealed i) b) sts:=λH₀ O₀ pins s σ H D' I hq=>by
 obtain⟨ts,e,out,⟨O,own,F,tt⟩,ev,k⟩:=hq
 (first|rw[pH]at ev|rw[AF]at ev)
 obtain⟨o1,e1,ev⟩:=Res.bind_ok ev
 (first|rw[pH]at e1|rw[AF]at e1)
 obtain⟨l,e2,e1⟩:=Res.bind_ok e1
 cases e1
 cases hd:l.isDct with
 |false=>
  obtain⟨O',own',F',sub⟩:=F.seal i (Sl.ownA_ok e2) hd
  exact h2 H₀ O₀ pins s σ H D' I ⟨ts,_,out,⟨O',own',F',λt ht=>(tt t ht).weak sub⟩,ev,k⟩
 |true=>
  obtain⟨p,u,g1,g2,g3,g4,g5⟩:=F.sealD i (Sl.ownA_ok e2) hd
  obtain⟨ob,I2⟩:=BS I g1 g2
  obtain⟨⟨own',F'⟩,_⟩:=g5 ob
  exact h2 H₀ O₀ pins s σ _ D' I2 ⟨ts,_,out,⟨_,own',F',λt ht=>((tt t ht).updM g4.1 g1 g4.2).weak λ_ z=>z.1⟩,ev,k⟩
theorem ss_ret(h:SE T cf X x p):SS T cf X (.ret x) (.Return (some p) pos):=λH₀ O₀=>by
 refine PS.imp (λD' σ H hq=>?_) (sX (h H₀ O₀))
 obtain⟨ts,e,out,⟨O,own,F,tt⟩,ev,k⟩:=hq
 rw[xS_ret]at ev
 obtain⟨d,e1,ev⟩:=Res.bind_ok ev
 cases ev
 refine⟨O,own,e,d,F,e1,λv H' s' r n=>k v H' (F.same.trans s') (r.weak F.sub) λfr=>?_⟩
 rw[aE,bQ]at fr
 exact NewR.of (((n fr.1).back F.same).weak F.sub) fr.2
theorem HY {i:Nat} {n:Str} (hN:X.N[i]?=some n) (hv:Vis X.env.scope n) (hd:(n==("__debug__" : Str))=false) (hc:(n==("__classdict__" : Str))=false):SS T cf X (.retO i) (.Return (some (.Name n pos')) pos):=λH₀ O₀ pins s σ H D' I hq=>by
 obtain⟨ts,e,out,⟨O,own,F,tt⟩,ev,k⟩:=hq
 rw[FS]at ev
 obtain⟨l,e1,ev⟩:=Res.bind_ok ev
 cases ev
 cases hz:l.isDct with
 |false=>
  rw[hz]at k
  have q:=F.sl i
  rw[Sl.ownA_ok e1]at q
  obtain⟨p,e2,e3,h1⟩:=q
  have hn:=F.new i p e2
  have nO:¬O₀ p:=λz=>by
   obtain⟨o,w⟩:=F.trk0 p z
   rw[hn.2]at w;cases w
  exact sX (fJ hN hv hd hc) pins s σ H D' I ⟨.ref p,dS e3,k _ H F.same (OwnAt.rd nO hz (h1.weak F.sub)) λ_=>⟨λ_=>⟨p,rfl,hn.2,h1.weak λb hb=>hb.elim (F.sub b) λz=>z▸hn.1⟩,λ_ a r z=>by subst z;exact h1.elim⟩⟩
 |true=>
  rw[hz]at k
  obtain⟨p,u,g1,g2,g3,g4,g5⟩:=F.sealD i (Sl.ownA_ok e1) hz
  obtain⟨ob,I2⟩:=BS I g1 g2
  obtain⟨⟨own',F'⟩,rd⟩:=g5 ob
  exact sX (fJ hN hv hd hc) pins s σ _ D' I2 ⟨.ref p,dS g3,k _ _ F'.same (rd.weak F'.sub) λz=>by cases z⟩
noncomputable def cW:Expr->Bool
 |.ListComp _ _ _ _=>false
 |.SetComp _ _ _ _=>false
 |.DictComp _ _ _ _ _=>false
 |_=>true
noncomputable def nI:Expr->Bool
 |.Tuple _ _ _=>false
 |_=>true
theorem jD{e:Expr}{t:Option Expr}{l:Nat}{env:Env}(h:cW e=true):swapsWith e t l env=pure false:=by
 cases e<;>first|rfl|(cases h)
theorem HZ{e tg:Expr}{env:Env}(h:nI e=true):swappedStores [tg] e env=pure none:=by
 cases tg<;>first|rfl|(cases e<;>first|rfl|(cases h;done))
theorem H0{tg:Expr}{env:Env}(h:bA tg=true):(assignEach [tg] env).map (·.2)=[assign tg env]:=by
 cases tg<;>first|rfl|(cases h)
theorem ss_asg{g:G}(hx:cW p=true)(ht:nI p=true)(hq:bA tg=true)(h:SE T cf X x p)(hg:SG X g tg):SS T cf X (.asg g x) (.Assign [tg] p pos):=λH₀ O₀=>by
 refine PS.imp (λD' σ H hq=>?_) (yN (h H₀ O₀) (hg H₀ O₀) (jD hx) (HZ ht) (H0 hq))
 obtain⟨ts,e,out,⟨O,own,F,tt⟩,ev,k⟩:=hq
 rw[pI]at ev
 obtain⟨d,e1,ev⟩:=Res.bind_ok ev
 obtain⟨e2,e3,ev⟩:=Res.bind_ok ev
 cases ev
 refine⟨O,own,e,d,F,e1,λv H' s' r n=>⟨O,own,e,d,e2,F.grow s',r,e3,λσ' own' _ F'=>?_⟩⟩
 exact k σ' H' ⟨O,own',F',λt ht=>(tt t ht).same s'⟩
theorem H_{i:Nat}{n:Str}(hx:cW p=true)(hN:X.N.Nodup)(hi:X.N[i]?=some n)(hl:Loc X.env.scope n)(hf:X.fn n=true\/X.env.scope.names.lookup n=some .local)(h:SE T cf X x p):SS T cf X (.asgO i x) (.Assign [.Name n pos'] p pos):=λH₀ O₀=>by
 refine PS.imp (λD' σ H hq=>?_) (mO hN hi hl (h H₀ O₀) (jD hx) hf)
 obtain⟨ts,e,out,⟨O,own,F,tt⟩,ev,k⟩:=hq
 rw[pJ]at ev
 obtain⟨d,e1,ev⟩:=Res.bind_ok ev
 split at ev
 ·obtain⟨c,ev⟩:=aU ev
  cases ev
  refine⟨O,own,e,_,F,e1,λv H' s' r n=>?_⟩
  obtain⟨p,rfl,h2,h3⟩:=n c rfl
  exact k _ H' ⟨_,_,F.setO s' i h2 h3,λt ht=>((tt t ht).new h2).same s'⟩
 ·obtain⟨c,ev⟩:=aU ev
  cases ev
  refine⟨O,own,e,_,F,e1,λv H' s' r n=>?_⟩
  obtain⟨p,rfl,h2,h3⟩:=n c rfl
  exact k _ H' ⟨_,_,F.setO s' i h2 h3,λt ht=>((tt t ht).new h2).same s'⟩
 ·obtain⟨c,ev⟩:=aU ev
  cases ev
  refine⟨O,own,e,_,F,e1,λv H' s' r n=>?_⟩
  obtain⟨p,rfl,h2,h3⟩:=n c rfl
  exact k _ H' ⟨_,_,F.setO s' i h2 h3,λt ht=>((tt t ht).new h2).same s'⟩
 ·cases ev
theorem Ha{i:Nat}{n:Str}{dpos:Pos}(hN:X.N.Nodup)(hi:X.N[i]?=some n)(hl:Loc X.env.scope n)(hf:X.fn n=true\/X.env.scope.names.lookup n=some .local):SS T cf X (.newD i) (.Assign [.Name n pos'] (.Dict [] [] dpos) pos):=λH₀ O₀=>by
 refine PS.imp (λD' σ H hq=>?_) (mO hN hi hl FG (jD rfl) hf)
 obtain⟨ts,e,out,⟨O,own,F,tt⟩,ev,k⟩:=hq
 rw[FV]at ev
 cases ev
 intro p hp
 exact k _ _ ⟨_,_,F.setO (bM hp _) i hp (Ga (ds:=[]) (ps:=[]) rfl hp),λt ht=>((tt t ht).new hp).same (bM hp _)⟩
theorem Hc{i:Nat}{n:Str}{dpos:Pos}(hN:X.N.Nodup)(hi:X.N[i]?=some n)(hl:Loc X.env.scope n)(hf:X.fn n=true\/X.env.scope.names.lookup n=some .local):SS T cf X (.newT i) (.Assign [.Name n pos'] (.Dict [] [] dpos) pos):=λH₀ O₀=>by
 refine PS.imp (λD' σ H hq=>?_) (mO hN hi hl FH (jD rfl) hf)
 obtain⟨ts,e,out,⟨O,own,F,tt⟩,ev,k⟩:=hq
 rw[FW]at ev
 cases ev
 intro p hp
 exact k _ _ ⟨_,_,F.setO (bM hp _) i hp (Gb (ds:=[]) (ps:=[]) rfl hp),λt ht=>((tt t ht).new hp).same (bM hp _)⟩
theorem ss_ite{ps qs:List Stmt}(hc:ST T cf X x p)(ha:SB T cf X a ps)(hb:SB T cf X b qs):SS T cf X (.ite x a b) (.If p ps qs pos):=λH₀ O₀=>by
 refine PS.imp (λD' σ H hq=>?_) (ps_if (hc H₀ O₀) (ha H₀ O₀) (hb H₀ O₀))
 obtain⟨ts,e,out,⟨O,own,F,tt⟩,ev,k⟩:=hq
 rw[xS_ite]at ev
 obtain⟨d,e1,ev⟩:=Res.bind_ok ev
 obtain⟨c,e2,ev⟩:=Res.bind_ok ev
 refine⟨O,own,e,d,c,F,e1,e2,λH1 s1=>?_⟩
 cases c with
 |true=>rw[if_pos rfl]at ev⊢;exact⟨ts,e,out,⟨O,own,F.grow s1,λt ht=>(tt t ht).same s1⟩,ev,k⟩
 |false=>rw[if_neg aK]at ev⊢;exact⟨ts,e,out,⟨O,own,F.grow s1,λt ht=>(tt t ht).same s1⟩,ev,k⟩
theorem ss_for{g:G}{ps:List Stmt}(hp:PassesOwn (model X.prog X.w) X.A X.env X.xe)(hc:X.calm=true)(hq:bA p=true)(hi:SI T cf X tg x false p)(hg:SG X g tg)(hb:SB T cf X b ps):SS T cf X (.forS g x b) (.For tg p ps [] pos):=λH₀ O₀=>by
 refine PS.imp (λD' σ H hq=>?_) (ps_for hp hc (hi H₀ O₀) (hg H₀ O₀) (hb H₀ O₀) (Ax hq))
 obtain⟨ts,e,out,⟨O,own,F,tt⟩,ev,k⟩:=hq
 rw[FT]at ev
 obtain⟨ds,e1,ev⟩:=Res.bind_ok ev
 refine⟨O,own,e,ds,F,e1,λJ H1 srs s1 rr rv wk=>?_⟩
 refine⟨λi m σ H=>m=ds.length-i/\i<=ds.length/\∃e',Ft X.K H₀ O₀ (srs++ts) e' σ H/\forL (λd e0=>do let e1<-g.put d e0;exS T cf b e1) (ds.drop i) e'=.ok out,⟨ds.length,by simp,fX _,e,⟨O,own,F.grow s1,λt ht=>?_⟩,by simpa using ev⟩,?_⟩
 ·rcases cU.mp ht with ht|ht
  ·exact rv rfl t ht
  ·exact(tt t ht).same s1
 rintro i m σ2 H2 ⟨rfl,hi',e',⟨O2,own2,F2,t2⟩,ev2⟩
 obtain⟨w1,w2,w3⟩:=wk i H2 O2 λt ht=>(t2 t (kJ _ ht)).rr
 by_cases hlt:i<ds.length
 ·refine .inr ⟨w1 hlt,λσ' H'=>∃e',Ft X.K H₀ O₀ (srs++ts) e' σ' H'/\forL (λd e0=>do let e1<-g.put d e0;exS T cf b e1) (ds.drop (i+1)) e'=.ok out,λσ' H' n=>⟨ds.length-(i+1),by lia,rfl,hlt,n⟩,λv H' y=>?_⟩
  obtain⟨s3,r3⟩:=w3 v H' _ (aH hlt) y
  rw[xT hlt,forL]at ev2
  obtain⟨o1,ev3,ev4⟩:=Res.bind_ok ev2
  obtain⟨e3,ev5,ev6⟩:=Res.bind_ok ev3
  refine⟨O2,own2,e',_,e3,F2.grow s3,r3,ev5,λσ' own' _ F'=>?_⟩
  refine⟨srs++ts,e3,o1,⟨O2,own',F',λt ht=>(t2 t ht).same s3⟩,ev6,?_⟩
  have down:∀{e'':Nv} {σ'':L2.St} {H'':Hp},Ft X.K H₀ O₀ (srs++ts) e'' σ'' H''->Ft X.K H₀ O₀ ts e'' σ'' H'':=λ⟨O',own',F',t'⟩=>⟨O',own',F',λt ht=>t' t (eI _ ht)⟩
  cases o1 with
  |nx e4=>exact λσ'' H'' F''=>⟨e4,F'',ev4⟩
  |ct e4=>exact λσ'' H'' F''=>⟨e4,F'',ev4⟩
  |bk e4=>cases ev4;exact λσ'' H'' F''=>k σ'' H'' (down F'')
  |rt d fr=>cases ev4;exact k
 ·have e4:i=ds.length:=by lia
  subst e4
  refine .inl ⟨w2 (aF _),?_⟩
  rw[LA,forL]at ev2
  cases ev2
  exact k σ2 H2 ⟨O2,own2,F2,λt ht=>t2 t (eI _ ht)⟩
theorem ss_app {i:Nat} {n nm:Str} {px apos cpos:Pos} (hN:X.N[i]?=some n) (hv:Vis X.env.scope n) (hd:(n==("__debug__" : Str))=false) (hc:(n==("__classdict__" : Str))=false) (hnm:nm = "append") (hline:(apos.endLine==cpos.line)=true) (hp:bA p=true) (h:SE T cf X x p) :
 SS T cf X (.app i x) (.Expr (.Call (.Attribute (.Name n px) nm apos) [p] [] cpos) pos):=λH₀ O₀=>by
 subst hnm
 refine PS.imp (λD' σ H hq=>?_) (mN (tD PySem.F.plainAttrs_list PySem.F.slot_list_append PySem.F.type_list_append zJ (fJ hN hv hd hc) (dM (h H₀ O₀) eK (aV hp)) rfl (by rw[aV hp];rfl) hline (aV hp) rfl) rfl)
 obtain⟨ts,e,out,⟨O,own,F,tt⟩,ev,k⟩:=hq
 rw[xS_app]at ev
 obtain⟨d,e1,ev⟩:=Res.bind_ok ev
 obtain⟨l,e2,ev⟩:=Res.bind_ok ev
 obtain⟨c,ev⟩:=aU ev
 cases ev
 obtain⟨q0,xs0,f1,f2,f3,f4,f5⟩:=F.mut i (Sl.own_ok e2)
 refine⟨.ref q0,dS f1,.inl ⟨rfl,xs0,.of f2⟩,O,own,e,d,F,e1,λv H' s' r _=>?_⟩
 obtain⟨q1,xs1,g1,g2,g3,g4,g5⟩:=(F.grow s').mut i (Sl.own_ok e2)
 have eq:q1=q0:=by rw[f1]at g1;cases g1;rfl
 subst eq
 refine⟨q1,xs1,v,rfl,rfl,g2,by rw[g3.length,<-fQ];exact of_decide_eq_true c,?_⟩
 exact k _ _ ⟨O,own,g5 _ _ (g3.append ⟨v,[],rfl,r,rfl⟩),λt ht=>((tt t ht).same s').upd g4 g2⟩
theorem ss_rev {i:Nat} {n nm:Str} {px apos cpos:Pos} (hN:X.N[i]?=some n) (hv:Vis X.env.scope n) (hd:(n==("__debug__" : Str))=false) (hc:(n==("__classdict__" : Str))=false) (hnm:nm = "reverse") (hline:(apos.endLine==cpos.line)=true) :
 SS T cf X (.rev i) (.Expr (.Call (.Attribute (.Name n px) nm apos) [] [] cpos) pos):=λH₀ O₀=>by
 subst hnm
 refine PS.imp (λD' σ H hq=>?_) (mN (zG PySem.F.plainAttrs_list PySem.F.slot_list_reverse PySem.F.type_list_reverse Et (fJ hN hv hd hc) rfl hline) rfl)
 obtain⟨ts,e,out,⟨O,own,F,tt⟩,ev,k⟩:=hq
 rw[xS_rev]at ev
 obtain⟨l,e2,ev⟩:=Res.bind_ok ev
 cases ev
 obtain⟨q0,xs0,f1,f2,f3,f4,f5⟩:=F.mut i (Sl.own_ok e2)
 refine⟨.ref q0,dS f1,.inl ⟨rfl,xs0,.of f2⟩,q0,xs0,rfl,rfl,f2,?_⟩
 exact k _ _ ⟨O,own,f5 _ _ f3.reverse,λt ht=>(tt t ht).upd f4 f2⟩
theorem ss_ext {i:Nat} {n nm:Str} {px apos cpos:Pos} (hN:X.N[i]?=some n) (hv:Vis X.env.scope n) (hd:(n==("__debug__" : Str))=false) (hc:(n==("__classdict__" : Str))=false) (hnm:nm = "extend") (hline:(apos.endLine==cpos.line)=true) (hp:bA p=true) (h:SE T cf X x p) :
 SS T cf X (.ext i x) (.Expr (.Call (.Attribute (.Name n px) nm apos) [p] [] cpos) pos):=λH₀ O₀=>by
 subst hnm
 refine PS.imp (λD' σ H hq=>?_) (mN (tD PySem.F.plainAttrs_list PySem.F.slot_list_extend PySem.F.type_list_extend Ep (fJ hN hv hd hc) (dM (h H₀ O₀) eK (aV hp)) rfl (by rw[aV hp];rfl) hline (aV hp) rfl) rfl)
 obtain⟨ts,e,out,⟨O,own,F,tt⟩,ev,k⟩:=hq
 rw[AG]at ev
 obtain⟨d,e1,ev⟩:=Res.bind_ok ev
 split at ev
 ·obtain⟨l,e2,ev⟩:=Res.bind_ok ev
  obtain⟨c,ev⟩:=aU ev
  rw[aE]at c
  cases ev
  obtain⟨q0,xs0,f1,f2,f3,f4,f5⟩:=F.mut i (Sl.own_ok e2)
  refine⟨.ref q0,dS f1,.inl ⟨rfl,xs0,.of f2⟩,O,own,e,_,F,e1,λv H' s' r nl=>?_⟩
  obtain⟨b,rfl,hb0,zs,hb1,hb2⟩:=nl c.1 rfl
  obtain⟨q1,xs1,g1,g2,g3,g4,g5⟩:=(F.grow s').mut i (Sl.own_ok e2)
  have eq:q1=q0:=by rw[f1]at g1;cases g1;rfl
  subst eq
  refine⟨q1,b,xs1,zs,rfl,rfl,g2,hb1,by rw[g3.length,hb2.length,<-fQ];exact of_decide_eq_true c.2,?_⟩
  exact k _ _ ⟨O,own,g5 _ _ (g3.append (hb2.weak λ_ z=>.inl z)),λt ht=>((tt t ht).same s').upd g4 g2⟩
 ·cases ev
theorem Hd {i:Nat} {n:Str} {px tpos:Pos} (hR:eU X) (hN:X.N[i]?=some n) (hv:Vis X.env.scope n) (hd:(n==("__debug__" : Str))=false) (hc:(n==("__classdict__" : Str))=false) (hx:cW p=true) (hk:SE T cf X y q) (h:SE T cf X x p) :
 SS T cf X (.dput i y x) (.Assign [.Subscript (.Name n px) q tpos] p pos):=λH₀ O₀=>by
 have hR':X.A.units+64<cLine:=hR
 refine PS.imp (λD' σ H hq=>?_) (zQ (by lia) (fJ hN hv hd hc) (hk H₀ O₀) (h H₀ O₀) (jD hx))
 obtain⟨ts,e,out,⟨O,own,F,tt⟩,ev,k⟩:=hq
 rw[FU]at ev
 obtain⟨d,e1,ev⟩:=Res.bind_ok ev
 obtain⟨l,e2,ev⟩:=Res.bind_ok ev
 obtain⟨dk,e3,ev⟩:=Res.bind_ok ev
 obtain⟨key,e4,ev⟩:=Res.bind_ok ev
 obtain⟨c,ev⟩:=aU ev
 cases ev
 refine⟨O,own,e,d,F,e1,λv H1 s1 r1 _=>?_⟩
 obtain⟨q1,xs1,g1,g2,g3,g4,g5⟩:=(F.grow s1).mutD i (Sl.ownD_ok e2)
 refine⟨.ref q1,dS g1,O,own,e,dk,F.grow s1,e3,λvk H2 s2 r2 _=>?_⟩
 have ex:=nE (dU e4) r2.rr
 subst ex
 obtain⟨q2,xs2,f1,f2,f3,f4,f5⟩:=((F.grow s1).grow s2).mutD i (Sl.ownD_ok e2)
 have eq:q2=q1:=by rw[g1]at f1;cases f1;rfl
 subst eq
 refine⟨q2,_,rfl,DPut.k f2 (by rw[f3.length,<-fQ];exact of_decide_eq_true c),?_⟩
 exact k _ _ ⟨O,own,f5 _ _ (Gg (r1.same s2) f3),λt ht=>(((tt t ht).same s1).same s2).updM f4 f2 trivial⟩
theorem He{n:Nat}{i:Int}{j:Nat}(h:Tr.ixN n i=some j):seqIndex? i n=some j:=(sZ (by rw[<-uQ];exact h)).1
theorem RDs.eraseIdx{K:PySem.W.Frag}{H:Hp}{O:Addr->Prop}:∀{ds:List D} {vs:List V} (n:Nat),RDs K H O ds vs->RDs K H O (ds.eraseIdx n) (vs.eraseIdx n)
 |[],_,n,h=>by rw[RDs]at h;subst h;exact rfl
 |d::ds,vs,0,h=>by
  obtain⟨v,r,rfl,h1,h2⟩:=h
  exact h2
 |d::ds,vs,n+1,h=>by
  obtain⟨v,r,rfl,h1,h2⟩:=h
  exact⟨v,r.eraseIdx n,rfl,h1,RDs.eraseIdx n h2⟩
noncomputable def pZ(T:Tab)(cf:Nat->List D->Res D)(K:PySem.W.Frag)(H₀:Hp)(O₀:Addr->Prop)(i:Nat)(k:E):TE:=λσ H Q=>∃O own e a dk j y,Fm K H₀ O₀ H O own e σ/\e.at i=.o (.lst a)/\evE T cf k e=.ok dk/\jZ a.length k dk=.ok j/\a[j]?=some y /\
 ∀v p H1 xs xs',Same H H1->bW σ i=some (.ref p)->O p->H1 p=some (.lst xs)->RD K (upd H1 p (.lst xs')) O y v->Fm K H₀ O₀ (upd H1 p (.lst xs')) O own (e.set i (.o (.lst (a.eraseIdx j)))) σ->Q v (upd H1 p (.lst xs'))
theorem Hf(xs:List V):xs.eraseIdx (xs.length-1)=xs.dropLast:=by
 rw[Dr,LB]
 cases xs with
 |nil=>rfl
 |cons a r=>simp
theorem Hg {i:Nat} {n nm:Str} {px apos cpos:Pos} (hN:X.N[i]?=some n) (hv:Vis X.env.scope n) (hd:(n==("__debug__" : Str))=false) (hc:(n==("__classdict__" : Str))=false) (hnm:nm = "pop") (hline:(apos.endLine==cpos.line)=true) (H₀:Hp) (O₀:Addr->Prop) :
 PE X (.Call (.Attribute (.Name n px) nm apos) [] [] cpos) (pZ T cf X.K H₀ O₀ i .omit):=by
 subst hnm
 refine PE.imp (λσ H Q hq=>?_) (zG PySem.F.plainAttrs_list PySem.F.slot_list_pop PySem.F.type_list_pop mt_pop (fJ hN hv hd hc) rfl hline)
 obtain⟨O,own,e,a,dk,j,y,F,ha,ek,ej,ey,k⟩:=hq
 have ej:(if a.length=0 then Res.no else .ok (a.length-1))=Res.ok j:=ej
 split at ej
 ·cases ej
 ·cases ej
  obtain⟨p,xs,f1,f2,f3,f4,f5⟩:=F.mut i ha
  obtain⟨v,hv1,hv2⟩:=f3.get ey
  have hl:=f3.length
  refine⟨.ref p,dS f1,.inl ⟨rfl,xs,.of f2⟩,p,xs,v,rfl,rfl,f2,by rw[hl];exact hv1,?_⟩
  have z:=f5 _ _ (f3.eraseIdx (a.length-1))
  rw[show xs.eraseIdx (a.length-1)=xs.dropLast by rw[<-hl,Hf]]at z
  exact k v p H _ _ (Same.refl H) f1 f4 f2 (hv2.upd f4 f2) z
theorem Hh {i:Nat} {n nm:Str} {px apos cpos:Pos} (hN:X.N[i]?=some n) (hv:Vis X.env.scope n) (hd:(n==("__debug__" : Str))=false) (hc:(n==("__classdict__" : Str))=false) (hnm:nm = "pop") (hline:(apos.endLine==cpos.line)=true) (hp:bA p=true) (ho:∀d m,jZ m x d=jY m d) (h:SE T cf X x p) (H₀:Hp) (O₀:Addr->Prop) :
 PE X (.Call (.Attribute (.Name n px) nm apos) [p] [] cpos) (pZ T cf X.K H₀ O₀ i x):=by
 subst hnm
 refine PE.imp (λσ H Q hq=>?_) (tD PySem.F.plainAttrs_list PySem.F.slot_list_pop PySem.F.type_list_pop Er (fJ hN hv hd hc) (dM (h H₀ O₀) eK (aV hp)) rfl (by rw[aV hp];rfl) hline (aV hp) rfl)
 obtain⟨O,own,e,a,dk,j,y,F,ha,ek,ej,ey,k⟩:=hq
 rw[ho]at ej
 obtain⟨p0,xs0,g1,g2,_⟩:=F.mut i ha
 refine⟨.ref p0,dS g1,.inl ⟨rfl,xs0,.of g2⟩,O,own,e,dk,F,ek,λvk H1 s1 r1 _=>?_⟩
 cases dk with
 |int m=>
  have ej:aB (bV m) (Res.of (Tr.ixN a.length m))=.ok j:=ej
  obtain⟨c,ej⟩:=aU ej
  simp only[bV,aE,decide_eq_true_eq]at c
  have ej:=He (dU ej)
  cases (show vk=_ from r1)
  obtain⟨p,xs,f1,f2,f3,f4,f5⟩:=(F.grow s1).mut i ha
  have eqp:p=p0:=by rw[g1]at f1;cases f1;rfl
  subst eqp
  obtain⟨v,hv1,hv2⟩:=f3.get ey
  have hl:=f3.length
  refine⟨p,xs,m,j,v,rfl,rfl,f2,by lia,by lia,by rw[hl];exact ej,hv1,?_⟩
  exact k v p H1 _ _ s1 f1 f4 f2 (hv2.upd f4 f2) (f5 _ _ (f3.eraseIdx j))
 |non=>cases ej
 |bl _=>cases ej
 |str _=>cases ej
 |tup _=>cases ej
 |lst _=>cases ej
 |dct _=>cases ej
 |tdc _=>cases ej
theorem Hj{i:Nat}{q:Expr}(hs:swapsWith q none pos.line X.env=pure false)(h:∀H₀ O₀,PE X q (pZ T cf X.K H₀ O₀ i x)):SS T cf X (.popS i x) (.Expr q pos):=λH₀ O₀=>by
 refine PS.imp (λD' σ H hq=>?_) (mN (h H₀ O₀) hs)
 obtain⟨ts,e,out,⟨O,own,F,tt⟩,ev,k⟩:=hq
 rw[FY]at ev
 obtain⟨a,e1,ev⟩:=Res.bind_ok ev
 obtain⟨dk,e2,ev⟩:=Res.bind_ok ev
 obtain⟨j,e3,ev⟩:=Res.bind_ok ev
 obtain⟨y,e4,ev⟩:=Res.bind_ok ev
 cases ev
 refine⟨O,own,e,a,dk,j,y,F,Sl.own_ok e1,e2,e3,dU e4,λv p H1 xs xs' s1 hp hO hH r F'=>?_⟩
 exact k _ _ ⟨O,own,F',λt ht=>((tt t ht).same s1).upd hO hH⟩
theorem RDs.set{K:PySem.W.Frag}{H:Hp}{O:Addr->Prop}{d:D}{v:V}(r:RD K H O d v):∀{ds:List D} {vs:List V} (n:Nat),RDs K H O ds vs->RDs K H O (ds.set n d) (vs.set n v)
 |[],_,n,h=>by rw[RDs]at h;subst h;exact rfl
 |d0::ds,vs,0,h=>by
  obtain⟨v0,q,rfl,h1,h2⟩:=h
  exact⟨v,q,rfl,r,h2⟩
 |d0::ds,vs,n+1,h=>by
  obtain⟨v0,q,rfl,h1,h2⟩:=h
  exact⟨v0,q.set n v,rfl,h1,RDs.set r n h2⟩
theorem Hk {i:Nat} {n:Str} {px tpos:Pos} (hN:X.N[i]?=some n) (hv:Vis X.env.scope n) (hd:(n==("__debug__" : Str))=false) (hc:(n==("__classdict__" : Str))=false) (hx:cW p=true) (hk:SE T cf X y q) (h:SE T cf X x p)
 (ha:∀v,assign (.Subscript (.Name n px) q tpos) X.env v=(do
  let ov<-holding [v] (eval (.Name n px) X.env)
  let iv<-holding [v,ov] (eval q X.env)
  standAt tpos
  holding [v,ov,iv] (setItem ov iv v)
  release [v,ov,iv] [])):SS T cf X (.lput i y x) (.Assign [.Subscript (.Name n px) q tpos] p pos):=λH₀ O₀=>by
 refine PS.imp (λD' σ H hq=>?_) (yN (h H₀ O₀) (pg_sub (fJ hN hv hd hc) (hk H₀ O₀) Eg ha) (show swapsWith p (some (.Subscript (.Name n px) q tpos)) pos.line X.env=pure false from jD hx) (by cases p<;>rfl) rfl)
 obtain⟨ts,e,out,⟨O,own,F,tt⟩,ev,k⟩:=hq
 rw[FZ]at ev
 obtain⟨d,e1,ev⟩:=Res.bind_ok ev
 obtain⟨l,e2,ev⟩:=Res.bind_ok ev
 obtain⟨dk,e3,ev⟩:=Res.bind_ok ev
 obtain⟨j,e4,ev⟩:=Res.bind_ok ev
 cases ev
 refine⟨O,own,e,d,F,e1,λv H1 s1 r1 _=>?_⟩
 obtain⟨q1,xs1,g1,g2,g3,g4,g5⟩:=(F.grow s1).mut i (Sl.own_ok e2)
 refine⟨.ref q1,dS g1,O,own,e,dk,F.grow s1,e3,λvk H2 s2 r2 _=>?_⟩
 obtain⟨q2,xs2,f1,f2,f3,f4,f5⟩:=((F.grow s1).grow s2).mut i (Sl.own_ok e2)
 have eq:q2=q1:=by rw[g1]at f1;cases f1;rfl
 subst eq
 cases dk with
 |int kk=>
  cases (show vk=.int kk from r2)
  obtain⟨_,e5⟩:=aU (show aB (bV kk) (Res.of (Tr.ixN l.length kk))=.ok j from e4)
  have e6:=dU e5
  rw[<-f3.length]at e6
  refine⟨q2,xs2,kk,j,rfl,rfl,f2,by rw[<-uQ];exact e6,?_⟩
  exact k _ _ ⟨O,own,f5 _ _ (RDs.set (r1.same s2) j f3),λt ht=>(((tt t ht).same s1).same s2).upd f4 f2⟩
 |non=>cases e4
 |bl _=>cases e4
 |str _=>cases e4
 |tup _=>cases e4
 |lst _=>cases e4
 |dct _=>cases e4
 |tdc _=>cases e4
theorem ss_exp(hs:swapsWith p none pos.line X.env=pure false)(h:SE T cf X x p):SS T cf X (.exp x) (.Expr p pos):=λH₀ O₀=>by
 refine PS.imp (λD' σ H hq=>?_) (mN (h H₀ O₀) hs)
 obtain⟨ts,e,out,⟨O,own,F,tt⟩,ev,k⟩:=hq
 rw[xS_exp]at ev
 obtain⟨d,e1,ev⟩:=Res.bind_ok ev
 cases ev
 exact⟨O,own,e,d,F,e1,λv H' s' r _=>k _ _ ⟨O,own,F.grow s',λt ht=>(tt t ht).same s'⟩⟩
end
section
variable{T:Tab}{cf:Nat->List D->Res D}{X:Cx}{x y z:E}{p q r tg:Expr}{pos pos':Pos}{es:List Expr}{a b c:S}{st:Stmt}{sts:List Stmt}
end
noncomputable def dX(cells:List (Str×Addr)):List (Str×NameKind)->List (Str×Addr)->List (Str×Addr)
 |[],cs=>cs
 |(n,k)::r,cs=>dX cells r (if(k==.free)=true then(match cells.lookup n with|some c=>(n,c)::cs|none=>cs)else cs)
theorem BU{env:Env}:∀(names:List (Str×NameKind))(cs:List (Str×Addr)),(∀x∈names,x.2=.free->∃c,env.cells.lookup x.1=some c) ->
 (forIn names cs (λ(x:Str×NameKind) (r:List (Str×Addr))=>(if(x.2==.free)=true then(do let c<-cellOf env x.1;pure (ForInStep.yield ((x.1,c)::r)))else pure (ForInStep.yield r):Sem _)))=pure (dX env.cells names cs)
 |[],cs,_=>rfl
 |(n,k)::r,cs,h=>by
  rw[LC]
  have ih:=BU (env:=env) r
  by_cases hk:(k==NameKind.free)=true
  ·have hk':k=.free:=by simpa using hk
   obtain⟨c,hc⟩:=h (n,k) (aY ..) hk'
   simp only at hc
   simp only[hk,if_true]
   unfold cellOf
   rw[hc]
   show(do let r<-(pure (ForInStep.yield ((n,c)::cs)):Sem _);_)=_
   rw[dX,if_pos hk,hc]
   exact ih _ λx hx=>h x (bE _ hx)
  ·simp only[hk,if_false,eC]
   rw[dX,if_neg hk]
   exact ih _ λx hx=>h x (bE _ hx)
theorem Hl{scope:Scope}{env:Env}(h:∀x∈scope.names,x.2=.free->∃c,env.cells.lookup x.1=some c):closureFor scope env=pure (dX env.cells scope.names []):=by
 have:=BU (env:=env) scope.names [] h
 unfold closureFor
 rw[<-this]
 first|rfl|simp
theorem BV{cells:List (Str×Addr)}:∀{names:List (Str×NameKind)} {cs:List (Str×Addr)} {n:Str} {c:Addr},(n,c)∈dX cells names cs->(n,c)∈cs\/((n,NameKind.free)∈names/\cells.lookup n=some c)
 |[],_,_,_,h=>.inl h
 |(m,k)::r,cs,n,c,h=>by
  rw[dX]at h
  rcases BV h with g|⟨h1,h2⟩
  ·clear h
   split at g
   ·rename_i hk
    have hk':k=.free:=by simpa using hk
    subst hk'
    split at g
    ·rename_i c' hc
     rcases aZ.mp g with e|g
     ·cases e
      exact .inr ⟨aY ..,hc⟩
     ·exact .inl g
    ·exact .inl g
   ·exact .inl g
  ·exact .inr ⟨bE _ h1,h2⟩
theorem BW{cells:List (Str×Addr)}:∀{names:List (Str×NameKind)} {cs:List (Str×Addr)} {x:Str×Addr},x∈cs->x∈dX cells names cs
 |[],_,_,h=>h
 |(m,k)::r,cs,x,h=>by
  rw[dX]
  refine BW ?_
  split
  ·split
   ·exact bE _ h
   ·exact h
  ·exact h
theorem uT{cells:List (Str×Addr)}:∀{names:List (Str×NameKind)} {cs:List (Str×Addr)} {n:Str} {c:Addr},(n,NameKind.free)∈names->cells.lookup n=some c->(n,c)∈dX cells names cs
 |[],_,_,_,h,_=>by cases h
 |(m,k)::r,cs,n,c,h,hc=>by
  rw[dX]
  rcases aZ.mp h with e|h
  ·cases e
   refine BW ?_
   rw[if_pos (by simp),hc]
   exact aY ..
  ·exact uT h hc
theorem BX{l:List (Str×Addr)}{n:Str}{c:Addr}(h:(n,c)∈l):∃c',l.lookup n=some c':=by
 induction l with
 |nil=>cases h
 |cons x l ih=>
  obtain⟨m,d⟩:=x
  rw[kP]
  by_cases e:(n==m)=true
  ·rw[e];exact⟨d,rfl⟩
  ·have e':(n==m)=false:=by simpa using e
   rw[e']
   rcases aZ.mp h with z|z
   ·cases z;simp at e
   ·exact ih z
theorem BY{env:Env}:∀{names:List (Str×NameKind)} {x:Str},(∀y∈names,y.2≠.cell) ->
 ((names.map λ(n,k)=>if(k==NameKind.free&&env.scope.kind==.function&&env.kindOf n==some .cell)then(n,NameKind.cell)else(n,k)).lookup x=some .cell \/
  (names.map λ(n,k)=>if(k==NameKind.free&&env.scope.kind==.function&&env.kindOf n==some .cell)then(n,NameKind.cell)else(n,k)).lookup x=some .free)->(x,NameKind.free)∈names
 |[],_,_,h=>by rcases h with h|h<;>cases h
 |(n,k)::r,x,hc,h=>by
  have hk:=hc (n,k) (aY ..)
  have ih:=@BY env r x λy hy=>hc y (bE _ hy)
  rw[aG]at h
  dsimp only at h
  by_cases hx:(x==n)=true
  ·have hx':x=n:=by simpa using hx
   subst hx'
   refine aZ.mpr (.inl ?_)
   by_cases z:(k==NameKind.free&&env.scope.kind==.function&&env.kindOf x==some .cell)=true
   ·have:k=.free:=by
     cases k<;>first|rfl|(exact absurd z (by simp))
    rw[this]
   ·rw[if_neg z]at h
    simp only[kP,beq_self_eq_true]at h
    rcases h with h|h
    ·cases h;exact absurd rfl hk
    ·cases h;rfl
  ·have hx':(x==n)=false:=by simpa using hx
   refine bE _ (ih ?_)
   by_cases z:(k==NameKind.free&&env.scope.kind==.function&&env.kindOf n==some .cell)=true
   ·rw[if_pos z]at h
    simpa only[kP,hx']using h
   ·rw[if_neg z]at h
    simpa only[kP,hx']using h
theorem BZ{env:Env}:∀{names:List (Str×NameKind)} {x:Str},
 (names.map λ(n,k)=>if(k==NameKind.free&&env.scope.kind==.function&&env.kindOf n==some .cell)then(n,NameKind.cell)else(n,k)).lookup x=some .local->names.lookup x=some .local
 |[],_,h=>by cases h
 |(n,k)::r,x,h=>by
  have ih:=@BZ env r x
  rw[aG]at h
  dsimp only at h
  by_cases z:(k==NameKind.free&&env.scope.kind==.function&&env.kindOf n==some .cell)=true
  ·rw[if_pos z]at h
   by_cases hx:(x==n)=true
   ·simp only[kP,hx]at h;cases h
   ·have hx':(x==n)=false:=by simpa using hx
    simp only[kP,hx']at h⊢
    exact ih h
  ·rw[if_neg z]at h
   by_cases hx:(x==n)=true
   ·simp only[kP,hx]at h⊢;exact h
   ·have hx':(x==n)=false:=by simpa using hx
    simp only[kP,hx']at h⊢
    exact ih h
noncomputable def cxC(X:Cx)(scope:Scope)(C:Addr)(Nc:List Str)(s2:Shared)(H2:Hp)(fp:List Addr):Cx where
 prog:=X.prog
 w:=X.w
 K:=X.K
 mg:=X.mg
 base:=X.base
 A:=X.A
 N:=Nc
 s₀:=s2
 H₀:=H2
 env:=compEnvC scope (dX X.env.cells scope.names []) C X.env
 outer:=X.stack
 stack:=X.stack
 ex:=fp
 fn:=λn=>scope.names.lookup n==some .local
 calm:=X.calm
 pn:=[]
 xe:=λ_ _=>False
set_option genInjectivity false in
structure ScopeC(X:Cx)(scope:Scope):Prop where
 kind:scope.kind=.function
 cell:∀y∈scope.names,y.2≠.cell
 names:∀x∈scope.names,x.2=.local->scope.names.lookup x.1=some .local
 nd:∀x∈scope.names,x.2=.free->scope.names.lookup x.1≠some .local
 free:∀x∈scope.names,x.2=.free->X.env.kindOf x.1=some .cell\/X.env.kindOf x.1=some .free
section
variable{X:Cx}{scope:Scope}{C:Addr}{Nc:List Str}{s2:Shared}{H2:Hp}{fp:List Addr}{pins:List (Addr×Obj)}{σ:L2.St}
theorem iK{x:Str}{c:Addr}(h:(dX X.env.cells scope.names []).lookup x=some c):(x,NameKind.free)∈scope.names/\X.env.cells.lookup x=some c:=by
 rcases BV (PySem.mem_of_lookup h)with z|z
 ·cases z
 ·exact z
theorem ScopeC.cells(S:ScopeC X scope)(ok:X.Ok):∀x∈scope.names,x.2=.free->∃c,X.env.cells.lookup x.1=some c:=λx hx hf=>ok.has x.1 (S.free x hx hf)
theorem cxC_ok(I:Inv X pins σ H2 s2)(S:ScopeC X scope)(hfp:∀b∈fp,fY X pins H2 b)(hfo:∀b∈fp,b<s2.heap.objs.size)(hC:s2.heap.objs.size<=C):(cxC X scope C Nc s2 H2 fp).Ok where
 mod:=I.ok.mod
 kind:=S.kind
 glob:=I.ok.glob
 blt:=I.ok.blt
 above:=hC
 inj:=λx y c h1 h2=>I.ok.inj x y c (iK h1).2 (iK h2).2
 has:=λx h=>by
  have hf:=BY (env:=X.env) S.cell h
  obtain⟨c,hc⟩:=S.cells I.ok (x,.free) hf rfl
  exact BX (uT hf hc)
 cab:=λx c h1 h2=>by
  have h1':scope.names.lookup x=some .local:=by simpa[cxC]using h1
  exact absurd h1' (S.nd (x,.free) (iK h2).1 rfl)
 hd:=I.ok.hd
 frames:=I.ok.frames
 stk:=.inl rfl
 exf:=λb hb=>⟨bD (dH (hfo b hb) hC),λx c h=>(hfp b hb).2.2.2.2.1 x c (iK h).2⟩
 bs:=I.bs
 bsz:=aW I.ok.bsz I.sz
 noex:=λb o e hb=>by
  rcases(hfp b hb).2.2.2.1 with z|z
  ·exact I.ok.noex b o e z
  ·exact absurd (dH (Heap.lt_size e) (aW I.ok.bsz z)) (fT _)
 exfs:=λb hb z=>by
  rcases aZ.mp (I.stkSub b z)with z|z
  ·exact(hfp b hb).2.1 z
  ·exact(hfp b hb).2.2.1 z
 funs:=I.stack
 frf:=I.stkFree
noncomputable def stC(own:Nat)(caps:List Nat)(σ:L2.St):L2.St:=aM own none++caps.map λi=>bW σ i
set_option genInjectivity false in
structure CapsOk(X:Cx)(scope:Scope)(own:Nat)(caps:List Nat)(Nc:List Str):Prop where
 len:Nc.length=own+caps.length
 nd:caps.Nodup
 cap:∀j i,caps[j]?=some i->∃n,X.N[i]?=some n/\Nc[own+j]?=some n/\(n,NameKind.free)∈scope.names
theorem Hm{own:Nat}{caps:List Nat}{j:Nat}{v:V}(h:(stC own caps σ)[j]?=some (some v)):∃k i,j=own+k/\caps[k]?=some i/\bW σ i=some v:=by
 unfold stC at h
 by_cases hj:j<own
 ·rw[lW (by rw[eB];exact hj),oF,if_pos hj]at h
  cases h
 ·rw[jN (by rw[eB];lia),eB,bI]at h
  cases e:caps[j-own]? with
  |none=>rw[e]at h;cases h
  |some i=>
   rw[e]at h
   exact⟨j-own,i,by lia,e,eA.inj h⟩
theorem vis_of(I:Inv X pins σ H2 s2)(S:ScopeC X scope){n:Str}(h:(n,NameKind.free)∈scope.names):Vis X.env.scope n:=by
 rcases S.free _ h rfl with z|z
 ·exact .inr (.inl z)
 ·exact .inr (.inr z)
theorem invC{own:Nat}{caps:List Nat}{h1:Heap}{t1:Nat}(I:Inv X pins σ H2 s2)(S:ScopeC X scope)(P:CapsOk X scope own caps Nc)(ok:(cxC X scope C Nc s2 H2 fp).Ok)
 (keep:∀b o,s2.heap.get? b=some o->h1.get? b=some o) (hC:s2.heap.objs.size<C) (ns:h1.Ns C λ_=>none) (acc:h1.get? s2.heap.objs.size=some {cls:=.type "list", data:=.seq #[] }) :
 Inv (cxC X scope C Nc s2 H2 fp) [] (stC own caps σ) (upd H2 s2.heap.objs.size (.lst [])) {s2 with heap:=h1,toks:=t1}:=by
 have fr:H2 s2.heap.objs.size=none:=I.hok.fresh (aF _)
 have cellK:∀x c v,X.env.cells.lookup x=some c->s2.heap.IsCell c v->h1.IsCell c v:=λx c v _ ⟨o,ho,hd⟩=>⟨o,keep c o ho,hd⟩
 refine⟨ok,rfl,I.bare,Un.laid keep (aF _) fr,⟨_,ns,λi x v e1 e2 e3=>?_⟩,λx c h=>?_,?_,λx c h=>?_,λp hp=>absurd hp (by simp[cxC]),I.hok.laid keep (aF _) ?_,?_⟩
 ·obtain⟨k,i',rfl,hk,hv⟩:=Hm e2
  obtain⟨n,hn1,hn2,hn3⟩:=P.cap k i' hk
  have e1':Nc[own+k]?=some x:=e1
  rw[hn2]at e1';cases e1'
  obtain⟨m,hm,hl⟩:=I.loc
  obtain⟨u,ru,lk⟩:=hl i' _ v hn1 (dS hv) (vis_of I S hn3)
  refine⟨u,ru,?_⟩
  rcases lk with⟨kl,_⟩|⟨_,c,hc,hcell⟩
  ·rcases S.free _ hn3 rfl with z|z
   ·rw[kl]at z;cases z
   ·rw[kl]at z;cases z
  ·refine .inr ⟨?_,?_⟩
   ·rcases e3 with z|z
    ·exact absurd (BZ (env:=X.env) z) (S.nd _ hn3 rfl)
    ·exact z
   ·obtain⟨c',hc'⟩:=BX (uT (cs:=[]) hn3 hc)
    have:=(iK hc').2
    rw[hc]at this;cases this
    exact⟨c,hc',cellK _ c _ hc hcell⟩
 ·obtain⟨v,z⟩:=I.cell x c (iK h).2
  exact⟨v,cellK x c v (iK h).2 z⟩
 ·show upd H2 s2.heap.objs.size (.lst []) C=none
  rw[aI (oD hC)]
  exact I.hok.fresh (kI hC)
 ·obtain⟨v,z⟩:=I.cell x c (iK h).2
  rw[aI (bD z.lt)]
  exact I.freeC x c (iK h).2
 ·exact⟨fX _,[],0,.nil,acc⟩
 ·show(stC own caps σ).length=Nc.length
  unfold stC
  rw[bL,eB,aC,P.len]
theorem Un.but{fs ex:List Addr}{H H':Hp}{h h1 h2:Heap}{C:Addr}(u:Un fs ex H H' h h1)(hC:h.objs.size<=C)(s:Heap.SameBut C h1 h2):Un fs ex H H' h h2 where
 keep:=λb o e n hb hx=>(s.2 b (bD (dH (Heap.lt_size e) hC))).trans (u.keep b o e n hb hx)
 slot:=λb o e n hb hx=>let ⟨sl,q⟩:=u.slot b o e n hb hx;⟨sl,(s.2 b (bD (dH (Heap.lt_size e) hC))).trans q⟩
 free:=u.free
 there:=λb o e hx=>let ⟨o',q⟩:=u.there b o e hx;⟨o',(s.2 b (bD (dH (Heap.lt_size e) hC))).trans q⟩
 tups:=u.tups
 frzs:=u.frzs
 tbls:=u.tbls
theorem HOk.but{P:Program}{w:World}{H:Hp}{h1 h2:Heap}{C:Addr}(x:HOk P w H h1)(hC:H C=none)(s:Heap.SameBut C h1 h2):HOk P w H h2:=λb ob e=>by
 refine(x b ob e).stay (λc w' hc q=>(s.2 c ?_).trans q) (λ_ q=>q) λ_ _ q=>q
 rintro rfl
 rcases hc with rfl|hc
 ·rw[hC]at e;cases e
 ·rw[hC]at hc;cases hc
theorem outC{σi:L2.St}{Hi:Hp}{s':Shared}{h':Heap}(I:Inv X pins σ H2 s2)(Ic:Inv (cxC X scope C Nc s2 H2 fp) [] σi Hi s')(hfp:∀b∈fp,fY X pins H2 b)(hC:s2.heap.objs.size<=C)(sb:Heap.SameBut C s'.heap h'):Inv X pins σ Hi {s' with heap:=h' }:=by
 refine I.call' (s':={s' with heap:=h' }) (ch:=fp) Ic.os ?_ ?_ Ic.bare λb hb=>?_
 ·exact Un.but (show Un (frs X.stack) fp H2 Hi s2.heap s'.heap from Ic.base) hC sb
 ·exact HOk.but (show HOk X.prog X.w Hi s'.heap from Ic.hok) (show Hi C=none from Ic.free) sb
 ·obtain⟨_,a1,_,a3,a4,a5⟩:=hfp b hb
  exact⟨a3,a1,a4,a5⟩
end
section
variable{prog:Program}{w:World}{A:Around}{R:Result->Shared->Prop}{s:Shared}
theorem Hn{elt target iter:Expr}{ifs:List Expr}{scope:Scope}{pos:Pos}{it acc:Value}{env:Env}(I:Nat->Shared->Prop)
 (turn:∀n s,I n s->wpAny (model prog w) A (pyNext it) (λr s₁=>match r with
  |none=>R (.ok .next) s₁
  |some v=>wpAny (model prog w) A (letOwnedTupleGo target it v) (λ_ s₀=>wpAny (model prog w) A (assign target env v) (λ_ s₂=>
   wpAny (model prog w) A (forIn ifs true λc r=>if r=true then do let ok<-isTrue c env (eval c env);pure (ForInStep.yield ok)else pure (ForInStep.yield r)) (λok s₃=>
    if ok=true then wpAny (model prog w) A (eval elt env) (λx s₄=>
     wpAny (model prog w) A (call (.builtin "list.append") [acc,x]) (λ_ s₅=>∃m,m<n/\I m s₅) (λ_ _=>False) s₄) (λ_ _=>False) s₃
    else ∃m,m<n/\I m s₃) (λ_ _=>False) s₂) (λ_ _=>False) s₀) (λ_ _=>False) s₁) (λ_ _=>False) s)
 (n:Nat) (h:I n s) :
 codeAny (model prog w) A (.compLoop (.ListComp elt [⟨target,iter,ifs,0⟩] scope pos) 0 it acc env) R s:=by
 refine codeAny_loop rfl I (λn s hI=>?_) n h
 show wpAny _ A ((compTurn (.ListComp elt [⟨target,iter,ifs,0⟩] scope pos) 0 it acc env).onRaise (λx=>do noteFrame x env;theTreesLotGoes x)) _ _ s
 refine wpAny_noted ?_
 rw[compTurn_list]
 refine wpAny_bind (wpAny_standAt (wpAny_bind (wpAny_mono (turn n s hI) (λr s₁ h₁=>?_) λ_ _ h'=>h'.elim)))
 cases r with
 |none=>exact wpAny_pure h₁
 |some v=>
  refine wpAny_bind (wpAny_mono h₁ (λ_ s₀ h₀=>?_) λ_ _ h'=>h'.elim)
  refine wpAny_bind (wpAny_mono h₀ (λ_ s₂ h₂=>wpAny_bind (wpAny_mono h₂ (λok s₃ h₃=>?_) λ_ _ h'=>h'.elim)) λ_ _ h'=>h'.elim)
  cases ok with
  |false=>exact wpAny_pure ⟨rfl,h₃⟩
  |true=>
   exact wpAny_bind (wpAny_bind (wpAny_mono h₃ (λx s₄ h₄=>wpAny_bind (wpAny_mono h₄ (λ_ s₅ h₅=>wpAny_pure (wpAny_pure ⟨rfl,h₅⟩)) λ_ _ h'=>h'.elim)) λ_ _ h'=>h'.elim))
end
section
variable{K:PySem.W.Frag}{H₀ H H':Hp}{O₀ O O':Addr->Prop}{own:Nat->Option Addr}{e e':Nv}{σ:L2.St}
theorem Fm.updO(F:Fm K H₀ O₀ H O own e σ){p:Addr}{ys zs:List V}(hO:O p)(hp:H p=some (.lst ys))(h0:H₀ p=none)(hn:∀j,own j≠some p):Fm K H₀ O₀ (upd H p (.lst zs)) O own e σ where
 len:=F.len
 sl:=λj=>RS.map (λq=>q.upd hO hp) (λq=>q.upd hO hp) (λq=>q.updM hO hp trivial) (λq=>q.updM hO hp trivial) (λa ys ea _ q=>by
  have:a≠p:=λz=>hn j (z▸ea)
  rw[aI this];exact q) (F.sl j) (uJ hO) (dR (K:=K) hO hp trivial).1
 inj:=F.inj
 same:=λb o hb=>by rw[aI (λz=>by rw[z,h0]at hb;cases hb)];exact F.same b o hb
 sub:=F.sub
 trk0:=F.trk0
 trk:=λa ha=>by
  by_cases h:a=p
  ·subst h;exact⟨_,bY⟩
  ·obtain⟨ys,q⟩:=F.trk a ha
   exact⟨ys,by rw[aI h];exact q⟩
 new:=F.new
 nw:=F.nw
theorem Fm.back(F:Fm K H₀ O₀ H O own e σ)(hl:e'.length=e.length)(h:∀j,e'.at j=.no\/e'.at j=e.at j):Fm K H₀ O₀ H O own e' σ where
 len:=hl.trans F.len
 sl:=λj=>by
  rcases h j with z|z
  ·rw[z];trivial
  ·rw[z];exact F.sl j
 inj:=F.inj
 same:=F.same
 sub:=F.sub
 trk0:=F.trk0
 trk:=F.trk
 new:=F.new
 nw:=λj d a h1 h2=>by
  rcases h j with z|z
  ·rw[z]at h1;cases h1
  ·rw[z]at h1;exact F.nw j d a h1 h2
theorem uU{n:Nat}{caps:List Nat}{e:Nv}(j:Nat):(compEnv n caps e).at j=.no\/∃k i,j=n+k/\caps[k]?=some i/\(compEnv n caps e).at j=e.at i:=by
 unfold compEnv
 by_cases hj:j<n
 ·left
  unfold Nv.at
  rw[lW (by rw[eB];exact hj),oF,if_pos hj];rfl
 ·cases q:caps[j-n]? with
  |none=>
   left
   unfold Nv.at
   rw[jN (by rw[eB];lia),eB,bI,q];rfl
  |some i=>
   right
   refine⟨j-n,i,by lia,q,?_⟩
   show(((aM n Sl.no++caps.map λi=>e.at i))[j]?).getD .no=_
   rw[jN (by rw[eB];lia),eB,bI,q];rfl
theorem Ho{l:List Nat}(h:l.Nodup){j k i:Nat}(h1:l[j]?=some i)(h2:l[k]?=some i):j=k:=by
 obtain⟨a,e1⟩:=fU.mp h1
 obtain⟨b,e2⟩:=fU.mp h2
 exact(K3 h).mp (e1.trans e2.symm)
theorem Fm.comp(F:Fm K H₀ O₀ H O own e σ)(n:Nat){caps:List Nat}(hc:caps.Nodup){p:Addr}(hp:H p=none){xs:List V} :
 ∃own',Fm K H₀ O₀ (upd H p (.lst xs)) (cS O p) own' (compEnv n caps e) (stC n caps σ)/\∀j,own' j≠some p:=by
 have np:∀j,own j≠some p:=λj q=>by
  obtain⟨ys,w⟩:=F.trk p (F.new j p q).1
  rw[hp]at w;cases w
 have sm:=bM hp (.lst xs)
 refine⟨λj=>if j<n then none else(caps[j-n]?).bind own,⟨?_,λj=>?_,λj k a h1 h2=>?_,F.same.trans sm,λa h=>.inl (F.sub a h),F.trk0,λa h=>?_,λj a h1=>?_,λj d a h1 h2=>?_⟩,λj h1=>?_⟩
 ·unfold compEnv stC
  simp
 ·rcases uU (n:=n) (caps:=caps) (e:=e) j with z|⟨k,i,rfl,hk,z⟩
  ·rw[z];trivial
  ·rw[z,if_neg (by lia),show n+k-n=k by lia,hk]
   have e1:bW (stC n caps σ) (n+k)=bW σ i:=by
    unfold stC
    unfold bW
    rw[jN (by rw[eB];lia),eB,bI,show n+k-n=k by lia,hk]
    rfl
   rw[e1]
   exact RS.map (λq=>(q.new hp).same sm) (λq=>(q.new hp).same sm) (λq=>(q.new hp).same sm) (λq=>(q.new hp).same sm) (λa ys _ _ q=>sm _ _ q) (F.sl i) (Ai hp sm)
 ·by_cases hj:j<n
  ·rw[if_pos hj]at h1;cases h1
  ·by_cases hk:k<n
   ·rw[if_pos hk]at h2;cases h2
   ·rw[if_neg hj]at h1
    rw[if_neg hk]at h2
    cases q1:caps[j-n]? with
    |none=>rw[q1]at h1;cases h1
    |some i1=>
     cases q2:caps[k-n]? with
     |none=>rw[q2]at h2;cases h2
     |some i2=>
      rw[q1]at h1
      rw[q2]at h2
      have:=F.inj i1 i2 a h1 h2
      subst this
      have:=Ho hc q1 q2
      lia
 ·rcases h with h|h
  ·obtain⟨ys,q⟩:=F.trk a h
   exact⟨ys,sm _ _ q⟩
  ·subst h;exact⟨_,bY⟩
 ·by_cases hj:j<n
  ·rw[if_pos hj]at h1;cases h1
  ·rw[if_neg hj]at h1
   cases q1:caps[j-n]? with
   |none=>rw[q1]at h1;cases h1
   |some i1=>
    rw[q1]at h1
    exact⟨.inl (F.new i1 a h1).1,(F.new i1 a h1).2⟩
 ·rcases uU (n:=n) (caps:=caps) (e:=e) j with z|⟨k,i,rfl,hk,z⟩
  ·rw[z]at h1;cases h1
  ·rw[z]at h1
   refine F.nw i d a h1 ?_
   rw[<-h2]
   unfold stC
   unfold bW
   rw[jN (by rw[eB];lia),eB,bI,show n+k-n=k by lia,hk]
   rfl
 ·dsimp only at h1
  by_cases hj:j<n
  ·rw[if_pos hj]at h1;cases h1
  ·rw[if_neg hj]at h1
   cases q1:caps[j-n]? with
   |none=>rw[q1]at h1;cases h1
   |some i1=>
    rw[q1]at h1
    exact np i1 h1
noncomputable def G.below(n:Nat):G->Bool
 |.one i=>decide (i<n)
 |.many is=>is.all λi=>decide (i<n)
theorem B0{n:Nat}:∀{is:List Nat} {ds:List D} {e e':Nv},(is.all λi=>decide (i<n))=true->cR is ds e=.ok e'->e'.length=e.length/\∀j,n<=j->e'.at j=e.at j
 |[],[],e,e',_,h=>by rw[cR]at h;cases h;exact⟨rfl,λ_ _=>rfl⟩
 |[],_::_,_,_,_,h=>by simp only[cR]at h;cases h
 |_::_,[],_,_,_,h=>by simp only[cR]at h;cases h
 |i::is,d::ds,e,e',hb,h=>by
  rw[cR]at h
  rw[fG,aE]at hb
  obtain⟨h1,h2⟩:=B0 hb.2 h
  have hi:=of_decide_eq_true hb.1
  exact⟨by rw[h1,dI],λj hj=>by rw[h2 j hj,gH (by lia)]⟩
theorem Hq{n:Nat}{g:G}{d:D}{e e':Nv}(hb:g.below n=true)(h:g.put d e=.ok e'):e'.length=e.length/\∀j,n<=j->e'.at j=e.at j:=by
 cases g with
 |one i=>
  have h:Res.ok (e.set i (.v d))=.ok e':=h
  cases h
  have hi:i<n:=of_decide_eq_true hb
  exact⟨dI,λj hj=>gH (by lia)⟩
 |many is=>
  cases d with
  |tup ds=>exact B0 hb h
  |non=>cases h
  |bl _=>cases h
  |int _=>cases h
  |str _=>cases h
  |lst _=>cases h
  |dct _=>cases h
  |tdc _=>cases h
end
section
variable{T:Tab}{cf:Nat->List D->Res D}{X:Cx}{x y z:E}{p q r tg iter:Expr}{pos:Pos}
noncomputable def Src(K:PySem.W.Frag)(H:Hp)(O:Addr->Prop)(p:Addr)(d:D)(v:V):Prop:=RD K H O d v\/∃a,v=.ref a/\a≠p/\OwnAt K H O a d
theorem Src.rr{K:PySem.W.Frag}{H:Hp}{O:Addr->Prop}{p:Addr}{d:D}{v:V}(h:Src K H O p d v):RR K H O d v:=by
 rcases h with z|⟨al,z1,z2,z3⟩
 ·exact .inl z
 ·exact .inr ⟨al,z1,z3⟩
theorem Src.same{K:PySem.W.Frag}{H H':Hp}{O:Addr->Prop}{p:Addr}{d:D}{v:V}(h:Src K H O p d v)(s:Same H H'):Src K H' O p d v:=by
 rcases h with z|⟨al,z1,z2,z3⟩
 ·exact .inl (z.same s)
 ·exact .inr ⟨al,z1,z2,z3.same s⟩
theorem Src.upd{K:PySem.W.Frag}{H:Hp}{O:Addr->Prop}{p:Addr}{d:D}{v:V}{ys zs:List V}(h:Src K H O p d v)(hO:O p)(hp:H p=some (.lst ys)):Src K (L2.upd H p (.lst zs)) O p d v:=by
 rcases h with z|⟨al,z1,z2,z3⟩
 ·exact .inl (z.upd hO hp)
 ·exact .inr ⟨al,z1,z2,z3.updM hO hp trivial z2⟩
noncomputable def PinS(K:PySem.W.Frag)(H:Hp)(O:Addr->Prop)(p:Addr):Pin->Prop
 |.dv d v=>Src K H O p d v
 |.fr a o u=>H a=some (.frz o u)
theorem PinS.rr{K:PySem.W.Frag}{H:Hp}{O:Addr->Prop}{p:Addr}{t:Pin}(h:PinS K H O p t):lE K H O t:=by
 cases t with
 |dv d v=>exact Src.rr h
 |fr a o u=>exact h
theorem PinS.same{K:PySem.W.Frag}{H H':Hp}{O:Addr->Prop}{p:Addr}{t:Pin}(h:PinS K H O p t)(s:Same H H'):PinS K H' O p t:=by
 cases t with
 |dv d v=>exact Src.same h s
 |fr a o u=>exact s _ _ h
theorem PinS.upd{K:PySem.W.Frag}{H:Hp}{O:Addr->Prop}{p:Addr}{t:Pin}{ys zs:List V}(h:PinS K H O p t)(hO:O p)(hp:H p=some (.lst ys)):PinS K (L2.upd H p (.lst zs)) O p t:=by
 cases t with
 |dv d v=>exact Src.upd h hO hp
 |fr a o u=>
  have h:H a=some (.frz o u):=h
  show L2.upd H p (.lst zs) a=some (.frz o u)
  rw[aI (kS h hp (by intro z;cases z))];exact h
noncomputable def nJ(ifs:List Expr)(cond:E)(P:Expr->Prop):Prop:=(ifs=[]/\cond=.con (.bl true))\/∃c,ifs=[c]/\P c
theorem B1{n:Nat}{caps:List Nat}{g:G}{elt src cond:E}{pe:Expr}{ifs:List Expr}{scope:Scope}{Nc:List Str}(hc:X.calm=true)(S:ScopeC X scope)(P:CapsOk X scope n caps Nc)(hb:g.below n=true)
 (hplain:bA iter=true) (hsrc:SI T cf X tg src true iter)
 (body:∀C s2 H2 fp,(cxC X scope C Nc s2 H2 fp).Ok->SG (cxC X scope C Nc s2 H2 fp) g tg/\SE T cf (cxC X scope C Nc s2 H2 fp) elt pe/\nJ ifs cond (ST T cf (cxC X scope C Nc s2 H2 fp) cond))
 {use:Option (Value->Sem Unit)} {H₀:Hp} {O₀:Addr->Prop} {pins:List (Addr×Obj)} {s:Shared} {σ:L2.St} {H:Hp} {O:Addr->Prop} {own:Nat->Option Addr} {e:Nv} {d:D} {Q:Value->Shared->Prop} (I:Inv X pins σ H s) (F:Fm X.K H₀ O₀ H O own e σ)
 (ev:evE T cf (.comp n caps g elt src cond) e=.ok d)
 (fin:∀C s2 H2 Hi s' a,Inv X pins σ H2 s2->Same H H2->s2.heap.objs.size<C->(∀h',Heap.SameBut C s'.heap h'->Inv X pins σ Hi {s' with heap:=h' })->(∃m,s'.heap.Ns C m)->Hi C=none->Same H Hi->Fm X.K H₀ O₀ Hi O own e σ->RD X.K Hi O d (.ref a)->NewL X.K H Hi O d (.ref a)->a≠C ->
  compPost (model X.prog X.w) X.A X.xe use Q (.ref a) C (.ok .next) s') :
 wpAny (model X.prog X.w) X.A (comprehension (.ListComp pe [⟨tg,iter,ifs,0⟩] scope pos) scope X.env (firstIterPos [⟨tg,iter,ifs,0⟩] pos) (newList []) false (eval iter X.env) use) Q X.xe s:=by
 (first|rw[tU]at ev|rw[mV]at ev|rw[AB]at ev)
 obtain⟨ds,e1,ev⟩:=Res.bind_ok ev
 obtain⟨ys,e2,ev⟩:=Res.bind_ok ev
 obtain⟨cz,ev⟩:=aU ev
 cases ev
 have hz:=of_decide_eq_true cz
 refine wpAny_comprehension_free rfl (Ax hplain) (Hl (S.cells I.ok)) S.kind S.names ?_
 refine thn (hsrc H₀ O₀ pins s σ H (λJ H2=>∃srs,Same H H2/\(∀t∈srs,lE X.K H2 O t)/\Wk X.K J srs ds) I ⟨O,own,e,ds,F,e1,λJ H' srs s' rr _ wk=>⟨srs,s',rr,wk⟩⟩) λv s1 h1=>thn h1 λitv s2 h2=>?_
 obtain⟨it,fp,tn,J,H2,rfl,I2,Tn,tn0,hfp,srs,s12,rr0,wk⟩:=h2
 refine wpAny_newObj_type (wpAny_newFunctionEnv S.cell (by intro y hy;simp at hy) (λh₁ hns₁ hsb₁=>?_) S.kind)
 dsimp only at hns₁ hsb₁⊢
 generalize hH2:s2.heap.push {cls:=.type "list", dict:=none,data:=.seq ([]:List Value).toArray}=HP at hns₁ hsb₁⊢
 have hC:HP.objs.size=s2.heap.objs.size+1:=by rw[<-hH2,Heap.size_push]
 have hCl:s2.heap.objs.size<HP.objs.size:=by rw[hC];exact oK _
 have below:∀b,b<s2.heap.objs.size->b≠HP.objs.size:=λb hb=>by rw[hC];exact bD (mJ hb)
 have old:∀b o,s2.heap.get? b=some o->h₁.get? b=some o:=λb o e=>hsb₁.extBut b o (below b (Heap.lt_size e)) (Heap.get?_push_of_some _ (hH2▸Heap.get?_push_of_some _ e))
 have hacc:h₁.get? s2.heap.objs.size=some {cls:=.type "list", data:=.seq #[] }:=hsb₁.extBut _ _ (bD hCl) (Heap.get?_push_of_some _ (hH2▸Heap.get?_push_size _ rfl))
 have hfo:∀b∈fp,b<s2.heap.objs.size:=λb hb=>let ⟨o,q,_⟩:=Tn.obj 0 _ tn0 b hb;Heap.lt_size q
 have ok:=cxC_ok (Nc:=Nc) I2 S hfp hfo (kI hCl)
 have fr:H2 s2.heap.objs.size=none:=I2.hok.fresh (aF _)
 have F2:=F.grow s12
 obtain⟨ownc,Fc,nown⟩:=F2.comp n (caps:=caps) P.nd fr (xs:=[])
 obtain⟨bg,be,bt⟩:=body HP.objs.size s2 H2 fp ok
 have I0:=invC (t1:=s2.toks+([]:List (Str×Value)).length) (fp:=fp) I2 S P ok old hCl (by simpa using hns₁) hacc
 have fpn:∀{Hi:Hp} {pins':List (Addr×Obj)},(∀b∈fp,Hi b=none)->(∀b∈fp,∀p∈pins',p.1≠b)->∀b∈fp,fY (cxC X scope HP.objs.size Nc s2 H2 fp) pins' Hi b:=λhn hpp b hb=>by
  refine⟨hn b hb,(ok.exf b hb).1,ok.exfs b hb,.inl hb,(ok.exf b hb).2,λp hp=>hpp b hb p (by simpa[cxC]using hp)⟩
 let f : D → Res (Option D) := fun d => do
     let e1<-g.put d (compEnv n caps e)
     let c<-evE T cf cond e1
     let k<-c.truth
     if k then do let y<-evE T cf elt e1;.ok (some y)else .ok none
 have loop:∀s₃:Shared,s₃={s2 with heap:=h₁,toks:=s2.toks+([]:List (Str×Value)).length} ->
  codeAny (model X.prog X.w) X.A (.compLoop (.ListComp pe [⟨tg,iter,ifs,0⟩] scope pos) 0 (.ref it) (.ref s2.heap.objs.size) (compEnvC scope (dX X.env.cells scope.names []) HP.objs.size X.env))
   (compPost (model X.prog X.w) X.A X.xe use Q (.ref s2.heap.objs.size) HP.objs.size) s₃:=by
  rintro s₃ rfl
  refine Hn (λk s'=>∃i σi Hi own' as bs,k=ds.length+1-i/\i<=ds.length/\Inv (cxC X scope HP.objs.size Nc s2 H2 fp) [] σi Hi s'/\tn i s'.heap/\(∀b∈fp,Hi b=none)/\Same H2 Hi /\
   Fm X.K H₀ O₀ Hi (cS O s2.heap.objs.size) own' (compEnv n caps e) σi/\(∀j,own' j≠some s2.heap.objs.size)/\compL f (ds.drop i)=.ok bs/\ys=as++bs/\as.length<=i /\
   (∃xs,Hi s2.heap.objs.size=some (.lst xs)/\RDs X.K Hi (cS O s2.heap.objs.size) as xs)/\∀t∈srs,PinS X.K Hi (cS O s2.heap.objs.size) s2.heap.objs.size t) ?_ (ds.length+1) ?_
  ·rintro k s' ⟨i,σi,Hi,own',as,bs,rfl,hi,Ii,tni,fri,smi,Fi,noi,evd,rfl,hal,⟨xs,hx,wx⟩,rri⟩
   have stat:∀b∈fp,fY (cxC X scope HP.objs.size Nc s2 H2 fp) [] Hi b:=fpn fri (λb _ p hp=>by cases hp)
   obtain⟨w1,w2,w3⟩:=wk i Hi (cS O s2.heap.objs.size) λt ht=>(rri t ht).rr
   by_cases hlt:i<ds.length
   ·refine thn (Tn.item (cxC X scope HP.objs.size Nc s2 H2 fp) rfl rfl rfl hc i [] s' σi Hi (λ_ _=>False) Ii stat tni (w1 hlt)) λr s4 ⟨u,hr,h4⟩=>?_
    subst hr
    refine thn h4 λ_ s5 ⟨v,H5,I5,r5,y5,tn5,fr5⟩=>?_
    obtain⟨s35,rv⟩:=w3 v H5 _ (aH hlt) y5
    have I5':=I5.pinned (fpn fr5 (λb _ p hp=>by cases hp)) (Tn.obj _ _ tn5)
    rw[xT hlt,compL]at evd
    obtain⟨o,ef,evd⟩:=Res.bind_ok evd
    obtain⟨b',eb,evd⟩:=Res.bind_ok evd
    obtain⟨e3,ep,ef⟩:=Res.bind_ok ef
    obtain⟨dc,ec,ef⟩:=Res.bind_ok ef
    obtain⟨kc,et,ef⟩:=Res.bind_ok ef
    have F5:=Fi.grow s35
    refine thn (bg H₀ O₀ _ s5 σi H5 v u (λσ' H'=>H'=H5/\∃own'',Fm X.K H₀ O₀ H5 (cS O s2.heap.objs.size) own'' e3 σ'/\∀j,own'' j≠some s2.heap.objs.size) I5' r5 ⟨_,own',_,_,e3,F5,rv,ep,λσ' own'' hle F'=>⟨rfl,own'',F',λj q=>noi j (hle j _ q)⟩⟩) λ_ s6 ⟨σ6,H6,I6,q6⟩=>?_
    obtain⟨rfl,own6,F6,no6⟩:=q6
    have tests:wpAny (model X.prog X.w) X.A (forIn ifs true λc r=>if r=true then do let ok<-isTrue c (compEnvC scope (dX X.env.cells scope.names []) HP.objs.size X.env) (eval c (compEnvC scope (dX X.env.cells scope.names []) HP.objs.size X.env));pure (ForInStep.yield ok)else pure (ForInStep.yield r))
     (λok s7=>ok=kc/\∃H7,Inv (cxC X scope HP.objs.size Nc s2 H2 fp) ([]++kT fp s5.heap) σ6 H7 s7/\Same H6 H7) (λ_ _=>False) s6:=by
     rcases bt with⟨hi0,hc0⟩|⟨c0,hi0,st0⟩
     ·subst hi0 hc0
      (first|rw[tU]at ec|rw[mV]at ec|rw[AB]at ec);cases ec;cases et
      exact wpAny_tests_nil ⟨rfl,H6,I6,Same.refl _⟩
     ·subst hi0
      refine wpAny_tests_one (thn (st0 H₀ O₀ _ s6 σ6 H6 (λb H'=>b=kc/\Same H6 H') I6 ⟨_,own6,e3,dc,kc,F6,ec,et,λH' s=>⟨rfl,s⟩⟩) λb s7 ⟨H7,I7,q1,q2⟩=>⟨q1,H7,I7,q2⟩)
    refine thn tests λok s7 ⟨hok,H7,I7,s57⟩=>?_
    subst hok
    have F7:=F6.grow s57
    obtain⟨pl1,pl2⟩:=Hq hb ep
    have bk:∀j,(compEnv n caps e).at j=.no\/(compEnv n caps e).at j=e3.at j:=λj=>by
     by_cases hj:n<=j
     ·exact .inr (pl2 j hj).symm
     ·rcases uU (n:=n) (caps:=caps) (e:=e) j with z|⟨k,i,rfl,_,_⟩
      ·exact .inl z
      ·exact absurd (sR n k) hj
    have keepT:∀{H8:Hp} {s8:Shared} {σ8:L2.St},Inv (cxC X scope HP.objs.size Nc s2 H2 fp) ([]++kT fp s5.heap) σ8 H8 s8->tn (i+1) s8.heap/\∀b∈fp,H8 b=none:=λI8=>
     ⟨Tn.keep _ _ _ tn5 λb hb o q=>(I8.pin (b,o) (eI _ (eI _ (oP hb q)))).1,λb hb=>by
      obtain⟨o,q,_⟩:=Tn.obj _ _ tn5 b hb
      exact(I8.pin (b,o) (eI _ (eI _ (oP hb q)))).2.1⟩
    cases ok with
    |false=>
     rw[if_neg aK]at ef⊢
     cases ef
     cases evd
     obtain⟨t1,t2⟩:=keepT I7
     exact⟨ds.length+1-(i+1),by lia,i+1,σ6,H7,own6,as,bs,rfl,hlt,I7.unpinned,t1,t2,smi.trans (s35.trans s57),F7.back pl1.symm bk,no6,eb,rfl,Nat.le_succ_of_le hal,⟨xs,s57 _ _ (s35 _ _ hx),(wx.same s35).same s57⟩,λt ht=>((rri t ht).same s35).same s57⟩
    |true=>
     rw[if_pos rfl]at ef⊢
     obtain⟨dy,ey,ef⟩:=Res.bind_ok ef
     cases ef
     cases evd
     refine thn (be H₀ O₀ _ s7 σ6 H7 (λv H'=>Same H7 H'/\RD X.K H' (cS O s2.heap.objs.size) dy v) I7 ⟨_,own6,e3,dy,F7,ey,λv H' s r _=>⟨s,r⟩⟩) λwv s8 ⟨vy,H8,I8,r8,s78,rd8⟩=>?_
     have sm8:=s35.trans (s57.trans s78)
     have hx8:=sm8 _ _ hx
     have F8:=F7.grow s78
     have wx8:=wx.same sm8
     have h0:H₀ s2.heap.objs.size=none:=(F.same.trans s12).free fr
     refine thn (zJ (X:=cxC X scope HP.objs.size Nc s2 H2 fp) _ s8 σ6 H8 (.ref s2.heap.objs.size) [vy] (.ref s2.heap.objs.size) [wv] (λ_ H'=>H'=upd H8 s2.heap.objs.size (.lst (xs++[vy]))) I8 rfl (.cons r8 .nil) ⟨_,xs,vy,rfl,rfl,hx8,by rw[wx.length,<-fQ];lia,rfl⟩) λ_ s9 ⟨v9,H9,I9,r9,e9⟩=>?_
     subst e9
     obtain⟨t1,t2⟩:=keepT I9
     have smU:Same H2 (upd H8 s2.heap.objs.size (.lst (xs++[vy]))):=λb o q=>by
      rw[aI (fH q fr)]
      exact sm8 _ _ (smi _ _ q)
     refine⟨ds.length+1-(i+1),by lia,i+1,σ6,_,own6,as++[dy],b',rfl,hlt,I9.unpinned,t1,t2,smU,(F8.updO (.inr rfl) hx8 h0 no6).back pl1.symm bk,no6,eb,by simp,?_,⟨xs++[vy],bY,?_⟩,λt ht=>((rri t ht).same sm8).upd (.inr rfl) hx8⟩
     ·rw[bL,fV];lia
     ·exact(wx8.append (RDs.cons rd8 RDs.nil)).upd (.inr rfl) hx8
   ·have hii:i=ds.length:=by lia
    subst hii
    refine thn (Tn.done (cxC X scope HP.objs.size Nc s2 H2 fp) rfl rfl rfl hc _ [] s' σi Hi (λ_ _=>False) Ii stat tni (w2 (aF _))) λr s4 ⟨hr,I4⟩=>?_
    subst hr
    rw[LA,compL]at evd
    cases evd
    have nO:¬O s2.heap.objs.size:=λz=>by
     obtain⟨o,q⟩:=F2.trk _ z
     rw[fr]at q;cases q
    refine fin HP.objs.size s2 H2 Hi s4 s2.heap.objs.size I2 s12 hCl (λh' sb=>outC I2 I4 hfp (kI hCl) sb) ?_ I4.free (s12.trans smi) (F.grow (s12.trans smi)) ?_ ?_ (bD hCl)
    ·obtain⟨m,hn,_⟩:=I4.loc
     exact⟨m,hn⟩
    ·exact⟨_,xs,rfl,.inl ⟨nO,.inl hx⟩,by rw[jM];exact wx.weak λ_ z=>.inl z⟩
    ·exact λ_=>⟨_,rfl,s12.free fr,xs,hx,by rw[jM];exact wx⟩
  ·refine⟨0,_,_,ownc,[],ys,rfl,fX _,I0,Tn.keep _ _ _ tn0 λb _ o q=>old b o q,λb hb=>?_,bM fr _,Fc,nown,by simpa using e2,rfl,aF _,⟨[],bY,rfl⟩,?_⟩
   ·rw[aI (bD (hfo b hb))];exact(hfp b hb).1
   ·intro t ht
    have r0:=rr0 t ht
    cases t with
    |fr a o u=>exact bM fr _ _ _ r0
    |dv d0 v0=>
     rcases r0 with z|⟨al,z1,z2⟩
     ·exact .inl ((z.new fr).same (bM fr _))
     ·obtain⟨ob,hob,_⟩:=z2.obj
      exact .inr ⟨al,z1,fH hob fr,(z2.new fr).same (bM fr _)⟩
 exact codeAny_compStart_list (loop _ rfl) (Tn.self _ 0 _ _ _ (Tn.keep _ _ _ tn0 λb _ o q=>old b o q) (loop _ rfl))
end
section
variable{T:Tab}{cf:Nat->List D->Res D}{X:Cx}{x y z:E}{p q r tg iter:Expr}{pos pos' pos'':Pos}
theorem B2{n:Nat}{caps:List Nat}{g:G}{elt src cond:E}{pe:Expr}{ifs:List Expr}{scope:Scope}{Nc:List Str}(hc:X.calm=true)(S:ScopeC X scope)(P:CapsOk X scope n caps Nc)(hb:g.below n=true)
 (hplain:bA iter=true) (hsrc:SI T cf X tg src true iter)
 (body:∀C s2 H2 fp,(cxC X scope C Nc s2 H2 fp).Ok->SG (cxC X scope C Nc s2 H2 fp) g tg/\SE T cf (cxC X scope C Nc s2 H2 fp) elt pe/\nJ ifs cond (ST T cf (cxC X scope C Nc s2 H2 fp) cond)) :
 SE T cf X (.comp n caps g elt src cond) (.ListComp pe [⟨tg,iter,ifs,0⟩] scope pos):=by
 intro H₀ O₀ pins s σ H Q I ⟨O,own,e,d,F,ev,k⟩
 rw[eval_ListComp]
 refine B1 (use:=none) hc S P hb hplain hsrc body I F ev ?_
 intro C s2 H2 Hi s' a I2 s12 hC hI ns hn sm Fi rd nl hne
 obtain⟨m,ns⟩:=ns
 exact⟨m,ns,λh' sb=>⟨.ref a,Hi,hI h' sb,rfl,k _ Hi sm rd λ_=>nl⟩⟩
theorem Hr{i:Nat}{nm:Str}{n:Nat}{caps:List Nat}{g:G}{elt src cond:E}{pe:Expr}{ifs:List Expr}{scope:Scope}{Nc:List Str}(hN:X.N.Nodup)(hi:X.N[i]?=some nm)(hl:Loc X.env.scope nm)(hf:X.fn nm=true\/X.env.scope.names.lookup nm=some .local)
 (hsw:swapsWith (.ListComp pe [⟨tg,iter,ifs,0⟩] scope pos) (some (.Name nm pos')) pos''.line X.env=pure true)
 (hc:X.calm=true) (S:ScopeC X scope) (P:CapsOk X scope n caps Nc) (hb:g.below n=true)
 (hplain:bA iter=true) (hsrc:SI T cf X tg src true iter)
 (body:∀C s2 H2 fp,(cxC X scope C Nc s2 H2 fp).Ok->SG (cxC X scope C Nc s2 H2 fp) g tg/\SE T cf (cxC X scope C Nc s2 H2 fp) elt pe/\nJ ifs cond (ST T cf (cxC X scope C Nc s2 H2 fp) cond)) :
 ∀H₀ O₀,PS X (.Assign [.Name nm pos'] (.ListComp pe [⟨tg,iter,ifs,0⟩] scope pos) pos'') (λD' σ H=>∃O own e d,Fm X.K H₀ O₀ H O own e σ/\evE T cf (.comp n caps g elt src cond) e=.ok d/\∀v H',Same H H'->RD X.K H' O d v->NewL X.K H H' O d v->D'.nx (σ.set i (some v)) H'):=by
 intro H₀ O₀ pins s σ H D' I ⟨O,own,e,d,F,ev,k⟩
 rw[exec_Assign_Name_used _ _ _ _ hsw]
 refine wpAny_bind (wpAny_standAt (wpAny_bind ?_))
 show wpAny _ X.A (do let _<-comprehension (.ListComp pe [⟨tg,iter,ifs,0⟩] scope pos) scope X.env _ (newList []) false (eval iter X.env) (some (assign (.Name nm pos') X.env))) _ _ s
 refine wpAny_bind (wpAny_mono (B1 (use:=some (assign (.Name nm pos') X.env)) (Q:=λ_ s'=>SP X pins D' .next s') hc S P hb hplain hsrc body I F ev ?_) (λ_ s' hq=>wpAny_pure (wpAny_pure hq)) λ_ _ e=>e)
 intro C s2 H2 Hi s' a I2 s12 hC hI ns hn sm Fi rd nl hne
 obtain⟨m,ns⟩:=ns
 have I':Inv X pins σ Hi s':=by
  have:=hI s'.heap (.refl ..)
  exact this
 show wpAny _ X.A (assign (.Name nm pos') X.env (.ref a)) _ _ _
 refine wpAny_assign_Name (yJ (v:=.ref a) I' hN hi hl rfl (λs'' I'' ⟨a0,sb,ha0⟩=>?_) hf)
 have lt0:a0<s2.heap.objs.size:=by
  rcases ha0 with z|z
  ·rw[z];exact I2.lt
  ·obtain⟨v,w⟩:=I2.cell nm a0 z
   exact w.lt
 have neC:C≠a0:=oD (gO lt0 hC)
 refine⟨m,ns.sameBut sb neC,λh' sb'=>?_⟩
 refine⟨σ.set i (some (.ref a)),Hi,?_,k _ Hi sm rd nl⟩
 refine I''.turned (t':=s''.toks) (it:=C) (λb o hb' e=>(sb'.2 b hb').trans e) hn (oD (gO I2.lt hC)) (.inr (aW I2.sz (kI hC))) (λx c e z=>?_) (λp hp z=>?_)
 ·obtain⟨v,w⟩:=I2.cell x c e
  exact absurd (gO w.lt hC) (by rw[z];exact fT _)
 ·exact absurd (gO (Heap.lt_size (I2.pin p hp).1) hC) (by rw[z];exact fT _)
theorem Hs{i:Nat}{nm:Str}{n:Nat}{caps:List Nat}{g:G}{elt src cond:E}{pe:Expr}{ifs:List Expr}{scope:Scope}{Nc:List Str}(hN:X.N.Nodup)(hi:X.N[i]?=some nm)(hl:Loc X.env.scope nm)(hf:X.fn nm=true\/X.env.scope.names.lookup nm=some .local)
 (hc:X.calm=true) (S:ScopeC X scope) (P:CapsOk X scope n caps Nc) (hb:g.below n=true)
 (hplain:bA iter=true) (hsrc:SI T cf X tg src true iter) (o:Bool)
 (body:∀C s2 H2 fp,(cxC X scope C Nc s2 H2 fp).Ok->SG (cxC X scope C Nc s2 H2 fp) g tg/\SE T cf (cxC X scope C Nc s2 H2 fp) elt pe/\nJ ifs cond (ST T cf (cxC X scope C Nc s2 H2 fp) cond)) :
 SS T cf X (if o then .asgO i (.comp n caps g elt src cond)else .asg (.one i) (.comp n caps g elt src cond)) (.Assign [.Name nm pos'] (.ListComp pe [⟨tg,iter,ifs,0⟩] scope pos) pos''):=by
 intro H₀ O₀
 have main:PS X (.Assign [.Name nm pos'] (.ListComp pe [⟨tg,iter,ifs,0⟩] scope pos) pos'') (λD' σ H=>∃O own e d,Fm X.K H₀ O₀ H O own e σ/\evE T cf (.comp n caps g elt src cond) e=.ok d/\∀v H',Same H H'->RD X.K H' O d v->NewL X.K H H' O d v->D'.nx (σ.set i (some v)) H'):=by
  have hsw:∃b:Bool,swapsWith (.ListComp pe [⟨tg,iter,ifs,0⟩] scope pos) (some (.Name nm pos')) pos''.line X.env=pure b:=⟨_,rfl⟩
  obtain⟨b,hsw⟩:=hsw
  cases b with
  |true=>exact Hr hN hi hl hf hsw hc S P hb hplain hsrc body H₀ O₀
  |false=>
   refine PS.imp (λD' σ H hq=>?_) (mO hN hi hl (B2 hc S P hb hplain hsrc body H₀ O₀) hsw hf)
   obtain⟨O,own,e,d,F,ev,k⟩:=hq
   exact⟨O,own,e,d,F,ev,λv H' s' r n=>k v H' s' r (n rfl)⟩
 refine PS.imp (λD' σ H hq=>?_) main
 obtain⟨ts,e,out,⟨O,own,F,tt⟩,ev,k⟩:=hq
 cases o with
 |true=>
  rw[if_pos rfl]at ev
  (first|rw[pI]at ev|rw[pJ]at ev)
  obtain⟨d,e1,ev⟩:=Res.bind_ok ev
  split at ev
  ·obtain⟨c,ev⟩:=aU ev
   cases ev
   refine⟨O,own,e,_,F,e1,λv H' s' r n=>?_⟩
   obtain⟨p,rfl,h2,h3⟩:=n rfl
   exact k _ H' ⟨_,_,F.setO s' i h2 h3,λt ht=>((tt t ht).new h2).same s'⟩
  ·obtain⟨c,ev⟩:=aU ev
   cases ev
   refine⟨O,own,e,_,F,e1,λv H' s' r n=>?_⟩
   obtain⟨p,rfl,h2,h3⟩:=n rfl
   exact k _ H' ⟨_,_,F.setO s' i h2 h3,λt ht=>((tt t ht).new h2).same s'⟩
  ·obtain⟨c,ev⟩:=aU ev
   cases ev
   refine⟨O,own,e,_,F,e1,λv H' s' r n=>?_⟩
   obtain⟨p,rfl,h2,h3⟩:=n rfl
   exact k _ H' ⟨_,_,F.setO s' i h2 h3,λt ht=>((tt t ht).new h2).same s'⟩
  ·cases ev
 |false=>
  rw[if_neg aK]at ev
  (first|rw[pI]at ev|rw[pJ]at ev)
  obtain⟨d,e1,ev⟩:=Res.bind_ok ev
  obtain⟨e2,e3,ev⟩:=Res.bind_ok ev
  cases ev
  cases e3
  exact⟨O,own,e,d,F,e1,λv H' s' r n=>k _ H' ⟨O,_,(F.grow s').setV i r,λt ht=>(tt t ht).same s'⟩⟩
theorem Ht{pins:List (Addr×Obj)}{σ:L2.St}{H:Hp}{s:Shared}{h':Heap}{t':Nat}{a b:Addr}(I:Inv X pins σ H s)(k:∀c o,c≠a->c≠b->s.heap.get? c=some o->h'.get? c=some o)(na:H a=none)(nb:H b=none)
 (fa:a≠X.env.locals/\(a∈X.ex\/X.s₀.heap.objs.size<=a)/\(∀x c,X.env.cells.lookup x=some c->c≠a)/\∀p∈X.pn++pins,p.1≠a)
 (fb:b≠X.env.locals/\(b∈X.ex\/X.s₀.heap.objs.size<=b)/\(∀x c,X.env.cells.lookup x=some c->c≠b)/\∀p∈X.pn++pins,p.1≠b):Inv X pins σ H {s with heap:=h',toks:=t' }:=by
 have nn:∀c u,H c=some u->c≠a/\c≠b:=λc u e=>⟨λz=>(by rw[z,na]at e;cases e),λz=>(by rw[z,nb]at e;cases e)⟩
 have no2:∀{c},c∉[a,b]->c≠a/\c≠b:=λhc=>⟨λz=>hc (by simp[z]),λz=>hc (by simp[z])⟩
 refine I.step (g':=s.gens) (d':=s.drawn) (ch:=[a,b]) (λc hc=>?_) (λc o _ _ hc e _=>k c o (no2 hc).1 (no2 hc).2 e) (λc o _ _ hc e _=>⟨o.slots,k c o (no2 hc).1 (no2 hc).2 e⟩) (λ_ _ _ _ n=>n)
  (λc o hc e=>⟨o,k c o (no2 hc).1 (no2 hc).2 e⟩) (λ_ _ e=>e) (λ_ _ _ e=>e) (λb ps e=>⟨#[],by rw[e];simp⟩) (λm hm=>?_) (λc u e=>?_) I.bare
 ·rcases aZ.mp hc with rfl|hc
  ·exact⟨fa.2.1,fa.1,fa.2.2.1,fa.2.2.2⟩
  ·have e:c=b:=by simpa using hc
   subst e
   exact⟨fb.2.1,fb.1,fb.2.2.1,fb.2.2.2⟩
 ·obtain⟨o,es,ep,ho,r⟩:=hm
  exact⟨o,es,ep,k _ o (Ne.symm fa.1) (Ne.symm fb.1) ho,r⟩
 ·refine(I.hok c u e).stay (λc' v hc q=>?_) (λ_ q=>q) λ_ _ q=>q
  have:c'≠a/\c'≠b:=by
   rcases hc with z|z
   ·rw[z];exact nn c u e
   ·exact nn c' _ z
  exact k c' v this.1 this.2 q
noncomputable def Ite(K:PySem.W.Frag)(a:Addr):It:=
 ⟨λi H=>∃xs x,SqL K H a xs/\xs[i]?=some x,λi H x H'=>∃p y,H p=none/\x=.ref p/\H'=upd H p (.tup [.int i,y])/\∀xs,SqL K H a xs->xs[i]?=some y,λi H=>∃xs,SqL K H a xs/\xs.length<=i⟩
theorem Hu{Pg:Program}{w:World}{K:PySem.W.Frag}{es:List Expr}{kk:Nat}{pos:Pos}(a en it:Addr)(hne:en≠it):Turn Pg w K (.Tuple es kk pos) (Ite K a) [en,it] en (λi h=>∃old,IsEnum h en it i old/\h.IsListIter it a i) where
 mem:=by simp
 obj:=λi h st b hb=>by
  obtain⟨old,st1,o,e,c,d⟩:=st
  rcases aZ.mp hb with rfl|hb
  ·exact⟨_,st1,λv z=>by
    have z':Data.fields _=Data.cell v:=z
    cases z'⟩
  ·have e':b=it:=by simpa using hb
   subst e'
   exact⟨o,e,λv z=>by rw[d]at z;cases z⟩
 keep:=λi h h' st k=>by
  obtain⟨old,st1,st2⟩:=st
  exact⟨old,k en (by simp) _ st1,st2.at λo e=>k it (by simp) o e⟩
 item:=by
  intro X hP hw hK hc i pins s σ H E I hf st hg
  subst hP hw hK
  obtain⟨xs,x,hq,hx⟩:=hg
  obtain⟨old,st1,st2⟩:=st
  obtain⟨its,rv,p,hz⟩:=I.list hq
  obtain⟨u,hu,ru⟩:=rv.get hx
  obtain⟨f0,f1,f2,f3,f4,f5⟩:=hf en (by simp)
  obtain⟨g0,g1,g2,g3,g4,g5⟩:=hf it (by simp)
  refine wpAny_pyNext_enum_item st1 st2 p.isList (x:=u) (by simpa using hu) hne λh₁ heo hit₁ ht₁ hz₁ hk₁=>?_
  refine⟨_,rfl,wpAny_letOwnedTupleGo_enum heo λh₂ he₂ hs₂=>?_⟩
  replace hs₂:Heap.SameBut en h₁ h₂:=hs₂
  have enl:en<s.heap.objs.size:=Heap.lt_size st1
  have itl:it<s.heap.objs.size:=by
   obtain⟨o,q,_⟩:=id st2
   exact Heap.lt_size q
  have fr:H s.heap.objs.size=none:=I.hok.fresh (aF _)
  have hm:∃hm:Heap,hm=s.heap.push {cls:=.type "tuple", data:=.seq #[.int i s.toks,u] }:=⟨_,rfl⟩
  obtain⟨hm,ehm⟩:=hm
  have I1:Inv X pins σ (upd H s.heap.objs.size (.tup [.int i,x])) {s with heap:=hm}:=by
   rw[ehm]
   refine I.laid (t':=s.toks) (λb o q=>Heap.get?_push_of_some _ q) (aF _) ?_
   exact⟨by show 2<=sizeLine;decide,[.int i s.toks,u],.cons ⟨_,rfl⟩ (.cons ru .nil),⟨_,Heap.get?_push_size _ rfl,rfl,_,rfl⟩⟩
  have kept:∀b o,b≠en->b≠it->hm.get? b=some o->h₂.get? b=some o:=λb o hb1 hb2 q=>by
   refine(hs₂.2 b hb1).trans ?_
   rw[ehm]at q
   rcases Heap.get?_push_cases q with⟨e1,e2⟩|q
   ·rw[e1,e2];exact ht₁
   ·exact hk₁ b o hb1 hb2 q
  have up:∀{c:Addr},c<s.heap.objs.size->H c=none->upd H s.heap.objs.size (.tup [.int i,x]) c=none:=λhl hn=>by rw[aI (bD hl)];exact hn
  have I2:Inv X pins σ (upd H s.heap.objs.size (.tup [.int i,x])) {s with heap:=h₂,toks:=s.toks+1}:=Ht (s:={s with heap:=hm}) (t':=s.toks+1) I1 kept (up enl f0) (up itl g0) ⟨f1,f3,f4,f5⟩ ⟨g1,g3,g4,g5⟩
  refine⟨.ref s.heap.objs.size,_,I2,rfl,⟨_,x,fr,rfl,rfl,λys hy=>by rw[I.list_inj hy hq];exact hx⟩,⟨u,?_,hit₁.extBut hs₂.extBut (Ne.symm hne)⟩,λb hb=>?_⟩
  ·have:((i+1:Nat):Int)=(i:Int)+1:=by push_cast;rfl
   rw[this];exact he₂
  ·rcases aZ.mp hb with rfl|hb
   ·exact up enl f0
   ·have e':b=it:=by simpa using hb
    subst e'
    exact up itl g0
 done:=by
  intro X hP hw hK hc i pins s σ H E I hf st hg
  subst hP hw hK
  obtain⟨xs,hq,hx⟩:=hg
  obtain⟨old,st1,st2⟩:=st
  obtain⟨its,rv,p,hz⟩:=I.list hq
  obtain⟨g0,g1,g2,g3,g4,g5⟩:=hf it (by simp)
  have hl:=rv.length
  exact wpAny_pyNext_enum_end (I.ok.hd hc) st1 st2 p.isList (by simp;lia) λh' eb=>⟨rfl,I.turned (t':=s.toks) (λb o hb e=>eb b o hb e) g0 g1 g3 g4 g5⟩
 self:=λ_ _ _ _ _ st h=>by
  obtain⟨old,st1,_⟩:=st
  exact wpAny_pyIter_enum st1 h
theorem uV(k:Int):∀ds:List D,(cQ k ds).length=ds.length
 |[]=>rfl
 |d::ds=>by rw[cQ,aN,aN,uV (k+1) ds]
theorem B3:∀(k:Int)(ds:List D)(i:Nat)(d:D),ds[i]?=some d->(cQ k ds)[i]?=some (.tup [.int (k+i),d])
 |k,[],i,d,h=>by simp at h
 |k,d0::ds,0,d,h=>by simp at h;subst h;rw[cQ];simp
 |k,d0::ds,i+1,d,h=>by
  rw[cQ,Dq,B3 (k+1) ds i d (by simpa using h)]
  congr 4
  push_cast
  lia
theorem Hv{K:PySem.W.Frag}{a:Addr}{ds:List D}:Wk1 K (Ite K a) (.lst ds) (.ref a) (cQ 0 ds):=by
 intro i H O r
 obtain⟨a',xs,e,q,w⟩:=r.lst
 cases e
 have hl:=w.length
 rw[uV]
 refine⟨λh=>?_,λh=>⟨xs,q,by lia⟩,λx H' d hd y=>?_⟩
 ·obtain⟨v,h1,h2⟩:=w.get (aH h)
  exact⟨xs,v,q,h1⟩
 ·obtain⟨p,yv,hp,rfl,rfl,hy⟩:=y
  refine⟨bM hp _,?_⟩
  have hi:i<ds.length:=by
   have:=(fU.mp hd).1
   rwa [uV]at this
  obtain⟨v,h1,h2⟩:=w.get (aH hi)
  have:=(hy xs q).symm.trans h1
  cases this
  rw[B3 0 ds i _ (aH hi)]at hd
  cases hd
  refine lC (RDs.cons ?_ (RDs.cons h2 RDs.nil)) hp
  show V.int (i:Int)=V.int (0+(i:Int))
  rw[Int.zero_add]
theorem Hw {rd:Bool} {n:Str} {pn:Pos} {es:List Expr} {kk:Nat} {tpos:Pos} (hn:n = "enumerate") (hg:Gl X n) (hm:X.mg "enumerate" = none) (hp:bA p=true) (ha:SR T cf X x p) (hv:rd=false->SE T cf X x p) :
 SI T cf X (.Tuple es kk tpos) (.enum x) rd (.Call (.Name n pn) [p] [] pos):=by
 intro H₀ O₀ pins s σ H R I h
 subst hn
 obtain⟨O,own,e,ds,F,ev,k⟩:=h
 replace k:=pY k
 rw[AE]at ev
 obtain⟨d1,e1,ev⟩:=Res.bind_ok ev
 have main:∀{u:Value} {s1:Shared} {v:V} {H1:Hp},Inv X pins σ H1 s1->RelV v u->Same H H1->RR X.K H1 O d1 v->(rd=false->RD X.K H1 O d1 v)->wpAny (model X.prog X.w) X.A (call (.type "enumerate") [u]) (λv s1=>wpAny (model X.prog X.w) X.A (pyIter v) (PIE X pins σ (.Tuple es kk tpos) R) X.xe s1) X.xe s1:=by
  intro u s1 v H1 I1 r1 s1' rr rv
  cases d1 with
  |lst dl=>
   cases ev
   obtain⟨a,xs,e,q1,w1⟩:=rr.lst
   subst e
   cases r1
   obtain⟨its,r',pl,hz⟩:=I1.list q1
   refine call_enumerate_list pl.isList λh' he hit hz' hk=>?_
   refine wpAny_pyIter_enum he ?_
   have I2:Inv X pins σ H1 {s1 with heap:=h' }:=I1.kept (t':=s1.toks) hk
   refine⟨s1.heap.objs.size+1,[s1.heap.objs.size+1,s1.heap.objs.size],_,Ite X.K a,H1,rfl,I2,Hu a _ _ (Nat.succ_ne_self _),⟨_,he,hit⟩,λb hb=>?_,k _ H1 _ _ s1' rr rv Hv⟩
   rcases aZ.mp hb with rfl|hb
   ·exact I1.fpOk (sI _) (I1.hok.fresh (sI _))
   ·have e':b=s1.heap.objs.size:=by simpa using hb
    subst e'
    exact I1.fpOk (aF _) (I1.hok.fresh (aF _))
  |tup _=>cases ev
  |non=>cases ev
  |bl _=>cases ev
  |int _=>cases ev
  |str _=>cases ev
  |dct _=>cases ev
  |tdc _=>cases ev
 cases rd with
 |true=>
  refine Call_ (jR I hg hm PyProof.Rows.boot_enumerate (PyProof.Rows.callWith_type1 (thn (dM (ha H₀ O₀) eK (aV hp) pos pins s σ H (λvs H1=>∃v,vs=[v]/\Same H H1/\RR X.K H1 O d1 v) I ⟨O,own,e,d1,F,e1,λv H' s' r=>⟨v,rfl,s',r⟩⟩) λus s1 ⟨vs,H1,I1,r1,v,ev1,s1',rr⟩=>?_) (aV hp) rfl))
  subst ev1
  obtain⟨u,rfl,ru⟩:=fK r1
  exact main I1 ru s1' rr (λz=>by cases z)
 |false=>
  refine Call_ (jR I hg hm PyProof.Rows.boot_enumerate (PyProof.Rows.callWith_type1 (thn (dM (hv rfl H₀ O₀) eK (aV hp) pos pins s σ H (λvs H1=>∃v,vs=[v]/\Same H H1/\RD X.K H1 O d1 v) I ⟨O,own,e,d1,F,e1,λv H' s' r _=>⟨v,rfl,s',r⟩⟩) λus s1 ⟨vs,H1,I1,r1,v,ev1,s1',rr⟩=>?_) (aV hp) rfl))
  subst ev1
  obtain⟨u,rfl,ru⟩:=fK r1
  exact main I1 ru s1' rr.rr (λ_=>rr)
end
section
variable{K:PySem.W.Frag}{H₀ H H':Hp}{O₀ O O':Addr->Prop}{own:Nat->Option Addr}{e:Nv}{σ:L2.St}
end
section
variable{T:Tab}{cf:Nat->List D->Res D}{X:Cx}{x y z:E}{p q r tg:Expr}{pos pos':Pos}{es:List Expr}
end
section
variable{T:Tab}{cf:Nat->List D->Res D}{X:Cx}{x y z:E}{p q r tg:Expr}{pos pos':Pos}{es:List Expr}
noncomputable def spM(K:PySem.W.Frag)(j:Nat)(F:List D->Res D)(fr:Bool):Sp:=λvs H Q E=>∃O ds Hb d0 v0,Same Hb H/\(∀a,O a->∃o,Hb a=some o)/\RDs K H O ds vs/\ds[j]?=some d0/\vs[j]?=some v0/\NV K H O d0 v0/\(∀a,v0=.ref a->Hb a=none) /\
 ((∃d,F ds=.ok d/\∀v H',Same Hb H'->RD K H' O d v->(fr=true->NewR K Hb H' O d v)->Q v H')\/∃c d,F ds=.err c d/\∀od H',Same Hb H'->uR d od H'->E (cvK K c) od H')
noncomputable def iL(K:PySem.W.Frag)(T:Tab)(F:List D->Res D)(i:Nat):Sp:=match T.mv i with
 |none=>spD K F (T.fresh i)
 |some j=>spM K j F (T.fresh i)
theorem nK{K:PySem.W.Frag}{F:List D->Res D}{i:Nat}(h:T.mv i=none):iL K T F i=spD K F (T.fresh i):=by unfold iL;rw[h]
theorem B4{K:PySem.W.Frag}{F:List D->Res D}{i j:Nat}(h:T.mv i=some j):iL K T F i=spM K j F (T.fresh i):=by unfold iL;rw[h]
noncomputable def B5(T:Tab)(cf:Nat->List D->Res D)(X:Cx)(f:Nat)(n:Str):Prop:=
 ∃k a fd ps,FnOk X.prog X.w X.K X.mg X.base (CXE X.prog X.w) k a fd ps (iL X.K T (cf f) f)/\Room k X.A/\X.mg n=some (.ref a)/\PySem.W.keepIn X.K (.ref a)=true/\Binds X.K fd ps []
end
theorem Hx:typeLookup (.type "list") "keys" = pure none:=am_miss_of_fast (by decide +kernel)
theorem Hy{prog:Program}{w:World}{A:Around}{E:Value->Shared->Prop}{s:Shared}{a:Addr}{o:Obj}{xs:Array Value}{k:Nat}{Q:Option Value->Shared->Prop}
 (hx:s.heap.get? a=some o) (hc:o.cls=.type "list") (hdat:o.data=.seq xs k) (hd:o.dict=none) (hA:A.handled=none)
 (h:∀h' tk e,Heap.NewExcOf s.heap h' e "AttributeError" -> Q none {s with heap:=h',toks:=tk}) :
 wpAny (model prog w) A (getAttr? (.ref a) "keys") Q E s:=by
 obtain⟨c,dct,dat,sl⟩:=o
 simp only at hc hdat hd
 subst hc hdat hd
 obtain⟨hp,g,d,tk,os⟩:=s
 have hT:∀tk',(⟨hp,g,d,tk',os⟩:Shared).TypeIs (.ref a) "list" := λ_=>⟨_,hx,rfl⟩
 have f1:=sub_AttributeError
 have f3:=F.slot_list_getattribute.lookup
 have f4:=F.slot_list_getattribute.bind (.ref a)
 have f5:=am_list_getattr_none
 unfold getAttr? getAttrBy? getAttrBy
 repeat(any_goals(first|assumption|exact hT _|((with_reducible show wpAny _ _ (call (Value.builtin "list.__getattribute__") _ _) _ _ _);refine call_meets F.slot_list_getattribute (hT _) am_entry_list_getattribute (F.args_list_getattribute_2 _ _) (meets_getattribute_miss_list a xs k sl "keys" _ Hx (by decide +kernel) (by size_fits)) ⟨hx,hA,λh' tk' e hx'=>?_⟩)|wp_step))
 obtain⟨t',u',he⟩:=hx'.there
 show wpAny _ _ (getattributeRaised _ _ _ _ _ _ _) _ _ _
 unfold getattributeRaised
 repeat(any_goals(first|assumption|wp_step))
 exact h _ _ _ hx'.of
theorem B6:entryFor table "dict.update.loop" = some Builtin.«dict.update.loop»:=entryFor_of_tree (by kernel_rfl)
theorem qA:plainId "dict.update.loop" = true:=by decide +kernel
theorem Hz{xs:List (List Key×Addr×Value)}{k:List Key}{b:Addr}{u:Value}:∀q∈storedH xs k b u,q.2.1=b\/∃p∈xs,p.2.1=q.2.1:=by
 intro q hq
 unfold storedH at hq
 split at hq
 ·obtain⟨p,hp,rfl⟩:=bG.mp hq
  refine .inr ⟨p,hp,?_⟩
  unfold putAt;split<;>rfl
 ·rcases cU.mp hq with h|h
  ·exact .inr ⟨q,h,rfl⟩
  ·rw[bJ]at h;subst h;exact .inl rfl
theorem IA{xs:List (List Key×Addr×Value)}{k:List Key}{b:Addr}{u:Value}:(storedH xs k b u).length<=xs.length+1:=by
 unfold storedH
 split
 ·rw[aC];exact sI _
 ·rw[bL];exact aF _
section
variable{prog:Program}{w:World}
theorem qB{h h':Heap}{d:Addr}{xs:List (List Key×Addr×Value)}(hd:h.DictOfH (tupleKind (bR prog w)) d xs)(k0:∀o,h.get? d=some o->h'.get? d=some o)(k:∀q∈xs,∀o,h.get? q.2.1=some o->h'.get? q.2.1=some o):h'.DictOfH (tupleKind (bR prog w)) d xs:=by
 obtain⟨o,es,ep,ho,hc,hdt,he,his,hn⟩:=hd
 refine⟨o,es,ep,k0 o ho,hc,hdt,he,λq hq=>?_,hn⟩
 obtain⟨o',its,m,e1,e2⟩:=his q hq
 exact⟨o',its,m,k q hq _ e1,e2⟩
noncomputable def PairAt(prog:Program)(w:World)(h:Heap)(x:Addr)(q:List Key×Addr×Value):Prop:=
 (∃o n,h.get? x=some o/\o.cls=.type "tuple" /\ o.data=.seq #[.ref q.2.1,q.2.2] n)/\(tupleKind (bR prog w)).is h q.1 q.2.1
theorem PairAt.keeps{h h':Heap}{x:Addr}{q:List Key×Addr×Value}(p:PairAt prog w h x q)(k0:∀o,h.get? x=some o->h'.get? x=some o)(k:∀o,h.get? q.2.1=some o->h'.get? q.2.1=some o):PairAt prog w h' x q:=by
 obtain⟨⟨o,n,e1,e2,e3⟩,o',its,m,e4,e5⟩:=p
 exact⟨⟨o,n,k0 _ e1,e2,e3⟩,o',its,m,k _ e4,e5⟩
variable{A:Around}{R:Result->Shared->Prop}{I:Addr}{fp wr:List Addr}{G:Array GenState->Array GenState->Prop}{n:Nat}{P:Nat->Value->Prop}{St:Nat->Shared->Prop}
theorem IB(W:WalksS prog w A.in1 I fp wr G n P St)(d:Addr)(hdf:d∉fp)(val:Nat->List Key×Addr×Value)(hu:A.in1.units<cLine) :
 ∀(k i:Nat)(s:Shared)(xs:List (List Key×Addr×Value)),n-i=k->i<=n->St i s->xs.length+k<=sizeLine ->
  (∀i v,i<n->P i v->∃x,v=.ref x/\(x≠d/\x∉wr)/\((val i).2.1≠d/\(val i).2.1∉wr)/\PairAt prog w s.heap x (val i)) ->
  (∀q∈xs,q.2.1∉wr) ->
  s.heap.DictOfH (tupleKind (bR prog w)) d xs ->
  (∀s',Moved (d::wr) G s s'->s'.heap.DictOfH (tupleKind (bR prog w)) d ((bX i k).foldl (λxs j=>storedH xs (val j).1 (val j).2.1 (val j).2.2) xs)->R (.ok (.ret .none)) s') ->
  codeAny (model prog w) A (.builtin "dict.update.loop" ⟨[.ref d,.ref I,rawInt (i:Nat),.none],[]⟩) R s:=by
 have hdw:d∉wr:=λh=>hdf (W.sub _ h)
 have hsub:∀b∈wr,b∈d::wr:=λb hb=>bE _ hb
 intro k
 induction k with
 |zero=>
  intro i s xs hk hi hst hz hT hx hD hR
  have hin:i=n:=by lia
  subst hin
  refine codeAny_builtin B6 ?_
  rw[Around.under_plainId qA _]
  show wpAny _ A.in1 (pyNext (.ref I)>>=_) _ _ s
  refine wpAny_bind (W.done s _ _ hst λs' hm=>?_)
  show wpAny _ A.in1 (Builtin.Dict.addKeywords d []>>=_) _ _ s'
  exact wpAny_bind (wpAny_pure (wpAny_pure (hR s' (hm.mono hsub) (qB hD (λo e=>hm.heap d o hdw e) λq hq o e=>hm.heap _ o (hx q hq) e))))
 |succ k ih=>
  intro i s xs hk hi hst hz hT hx hD hR
  have hlt:i<n:=by lia
  refine codeAny_builtin B6 ?_
  rw[Around.under_plainId qA _]
  show wpAny _ A.in1 (pyNext (.ref I)>>=_) _ _ s
  refine wpAny_bind (W.item i s _ _ hlt hst λv s' hP hst' hm=>?_)
  have hT':∀i v,i<n->P i v->∃x,v=.ref x/\(x≠d/\x∉wr)/\((val i).2.1≠d/\(val i).2.1∉wr)/\PairAt prog w s'.heap x (val i):=λi v hi hv=>by
   obtain⟨x,e1,e2,e3,e4⟩:=hT i v hi hv
   exact⟨x,e1,e2,e3,e4.keeps (λo e=>hm.heap x o e2.2 e) λo e=>hm.heap _ o e3.2 e⟩
  obtain⟨x,rfl,hxd,hbd,⟨ox,nx,ex,cx,dx⟩,hkx⟩:=hT' i v hlt hP
  have hD':s'.heap.DictOfH (tupleKind (bR prog w)) d xs:=qB hD (λo e=>hm.heap d o hdw e) λq hq o e=>hm.heap _ o (hx q hq) e
  show wpAny _ A.in1 (holding [.ref x] _>>=_) _ _ s'
  have tx:s'.TypeIs (.ref x) "tuple" := ⟨ox,ex,cx⟩
  refine wpAny_bind (wpAny_holding ?_)
  refine wpAny_bind (wpAny_tryCatch ?_)
  unfold Builtin.Dict.pairItems
  refine wpAny_bind (wpAny_typeOf tx ?_)
  rw[if_pos (by decide)]
  refine wpAny_bind (wpAny_seqItems ex dx (wpAny_pure ?_))
  show wpAny _ A.in1 (holding [.ref (val i).2.1,(val i).2.2] (dictSet d (.ref (val i).2.1) (val i).2.2)) _ _ s'
  refine wpAny_holding ?_
  refine wpAny_dictSet_heap (hsz:=by lia) hu hkx hD' λh' hD2 hsb=>?_
  show wpAny _ A.in1 (again (.builtin "dict.update.loop" ⟨[.ref d,.ref I,rawInt ((i:Int)+1),.none],[]⟩)) _ _ _
  refine wpAny_pure ⟨plainId_quiet qA _,?_⟩
  have hsame:∀b o,b≠d->s'.heap.get? b=some o->h'.get? b=some o:=λb o hb e=>(hsb.2 b hb).trans e
  refine ih (i+1) _ (storedH xs (val i).1 (val i).2.1 (val i).2.2) (by lia) hlt (W.frame _ s' _ _ hst' (sR _ _) λb hb o e=>?_) (by have:=IA (xs:=xs) (k:=(val i).1) (b:=(val i).2.1) (u:=(val i).2.2);lia) (λi v hi hv=>?_) (λq hq=>?_) hD2 λs'' hm'' hD''=>?_
  ·exact hsame b o (λh:b=d=>hdf (by rw[<-h];exact hb)) e
  ·obtain⟨x,e1,e2,e3,e4⟩:=hT' i v hi hv
   exact⟨x,e1,e2,e3,e4.keeps (λo e=>hsame x o e2.1 e) λo e=>hsame _ o e3.1 e⟩
  ·rcases Hz q hq with e|⟨p,hp,e⟩
   ·rw[e];exact hbd.2
   ·rw[<-e];exact hx p hp
  ·refine hR s'' (Moved.trans W.gtrans ((hm.mono hsub).then_heap (sR _ _) λb o hb e=>?_) hm'') ?_
   ·exact hsame b o (λh:b=d=>hb (by rw[h];exact aY)) e
   ·rw[iV,lZ];exact hD''
end
section
variable{prog:Program}{w:World}{A:Around}{E:Value->Shared->Prop}{s:Shared}
theorem IC{l:Addr}{its:Array Value}{nl:Nat}{val:Nat->List Key×Addr×Value}{Q:Value->Shared->Prop}(hh:A.handled=none)(hu:A.units+8<cLine)
 {ol:Obj} (hl:s.heap.get? l=some ol) (hlc:ol.cls=.type "list") (hld:ol.dict=none) (hls:ol.data=.seq its nl) (hz:its.size<=sizeLine) (hval:∀i v,its[i]?=some v->∃x,v=.ref x/\PairAt prog w s.heap x (val i))
 (h:∀(h':Heap)(tk:Nat),h'.DictOfH (tupleKind (bR prog w)) s.heap.objs.size ((bX 0 its.size).foldl (λxs j=>storedH xs (val j).1 (val j).2.1 (val j).2.2) []) ->
  (∀b o,b<s.heap.objs.size->s.heap.get? b=some o->h'.get? b=some o)->Q (.ref s.heap.objs.size) {s with heap:=h',toks:=tk}) :
 wpAny (model prog w) A (call (.type "dict") [.ref l]) Q E s:=by
 refine callType_codes (Q₁:=λobj s₁=>obj=.ref s.heap.objs.size/\s₁={s with heap:=s.heap.push {cls:=.type "dict", data:=.dict #[] } }) F.kt_called_dict (F.kt_typeCall_dict_1 _) F.entry_dict_init (kt_code_dict_new _ ⟨rfl,rfl⟩) ?_
 rintro obj s₁ ⟨rfl,rfl⟩
 have hnew:(s.heap.push {cls:=.type "dict", data:=.dict #[] }).DictOfH (tupleKind (bR prog w)) s.heap.objs.size []:=Heap.DictOfH.new s.heap
 have hty:({s with heap:=s.heap.push {cls:=.type "dict", data:=.dict #[] } }:Shared).TypeIs (.ref s.heap.objs.size) "dict" := Heap.DictOfH.typeIs hnew
 refine⟨hty,F.args_dict_init_2 _ _,?_⟩
 generalize hpu:s.heap.push {cls:=.type "dict", data:=.dict #[] }=hp1 at *
 have hz1:hp1.objs.size=s.heap.objs.size+1:=by rw[<-hpu];exact Heap.size_push ..
 have hold:∀b o,s.heap.get? b=some o->hp1.get? b=some o:=λb o e=>by rw[<-hpu];exact Heap.get?_push_of_some _ e
 have hlS:l<s.heap.objs.size:=Heap.lt_size hl
 have hl1:=hold _ _ hl
 unfold Builtin.«dict.__init__»
 refine wpAny_bind ?_
 unfold Builtin.Dict.selfAndRest
 refine wpAny_bind (wpAny_notOrdered_dict hty ?_)
 show wpAny _ _ (pure (s.heap.objs.size,[Value.ref l])) _ _ _
 refine wpAny_pure ?_
 show wpAny _ _ (Builtin.Dict.updateFrom "dict.__init__" s.heap.objs.size (.ref l) [] .none) _ _ _
 unfold Builtin.Dict.updateFrom
 refine wpAny_bind (wpAny_typeOf (T := "list") ⟨_,hl1,hlc⟩ ?_)
 rw[if_pos (by decide)]
 have hh2:A.in1.in1.handled=none:=by simp[hh]
 refine wpAny_bind (Hy hl1 hlc hls hld hh2 λh2 tk2 e2 hx2=>?_)
 rw[if_pos (by rfl)]
 have hl2:h2.IsList l its:=⟨_,hx2.keeps _ _ hl1,hlc,nl,hls⟩
 have hD2:h2.DictOfH (tupleKind (bR prog w)) s.heap.objs.size []:=qB hnew (λo e=>hx2.keeps _ _ e) λq hq=>by cases hq
 have hdz:s.heap.objs.size<h2.objs.size:=by
  obtain⟨o,_,_,ho,_⟩:=hD2
  exact Heap.lt_size ho
 refine wpAny_bind (wpAny_rule ?_)
 refine wpAny_bind (wpAny_pyIter_list hl2 ?_)
 refine wpAny_pure ⟨plainId_quiet qA _,?_⟩
 have hh3:A.in1.in1.handled=none:=by simp[hh]
 have hu3:A.in1.in1.units<cLine:=by show A.units+1+1<cLine;lia
 have hneI:l≠h2.objs.size:=bD (gO hlS hdz)
 refine IB ((Walks.list hh3 _ l hneI its).toS) s.heap.objs.size (by simp only[aZ,bJ,kO,or_false,not_or];exact⟨bD hdz,oD hlS⟩) val hu3 its.size 0 _ [] (by lia) (fX _) ⟨⟨_,Heap.get?_push_size _ rfl,rfl,rfl⟩,(hl2.push _)⟩ (by simpa using hz) (λi v _ hv=>?_) (λq hq=>by cases hq) (qB hD2 (λo e=>Heap.get?_push_of_some _ e) λq hq=>by cases hq) λs' hm hD'=>?_
 ·obtain⟨x,rfl,px⟩:=hval i v hv
  have hlx:x<s.heap.objs.size:=let ⟨⟨_,_,e,_⟩,_⟩:=px;Heap.lt_size e
  have hlb:(val i).2.1<s.heap.objs.size:=let ⟨_,_,_,_,e,_⟩:=px;Heap.lt_size e
  refine⟨x,rfl,⟨bD hlx,?_⟩,⟨bD hlb,?_⟩,px.keeps (λo e=>Heap.get?_push_of_some _ (hx2.keeps _ _ (hold _ _ e))) λo e=>Heap.get?_push_of_some _ (hx2.keeps _ _ (hold _ _ e))⟩
  ·simp only[aZ,bJ,kO,or_false,not_or];exact bD (gO hlx hdz)
  ·simp only[aZ,bJ,kO,or_false,not_or];exact bD (gO hlb hdz)
 ·obtain⟨h',g',d',tk',os'⟩:=s'
  have eg:g'=s.gens:=hm.gens
  have ed:d'=s.drawn:=hm.drawn
  have eo:os'=s.os:=hm.os
  subst eg;subst ed;subst eo
  refine⟨rfl,h h' tk' hD' λb o hb e=>?_⟩
  exact hm.heap b o (by simp only[aZ,bJ,kO,or_false,not_or];exact⟨bD hb,bD (gO hb hdz)⟩) (Heap.get?_push_of_some _ (hx2.keeps _ _ (hold _ _ e)))
end
noncomputable def qC(K:PySem.W.Frag)(H:Hp):List Addr->List (List Key×V)->Prop
 |[],qs=>qs=[]
 |a::r,qs=>∃k b y q,qs=(k,y)::q/\SqT K H a [.ref b,y]/\H b=some (.tup (k.map kV))/\qC K H r q
noncomputable def gU(qs:List (List Key×V))(kvs:List (List Key×V)):List (List Key×V):=qs.foldl (λm q=>cP m q.1 q.2) kvs
theorem ID{kvs:List (List Key×V)}{k:List Key}{v:V}:(cP kvs k v).length<=kvs.length+1:=by
 unfold cP
 split
 ·rw[aC];exact sI _
 ·rw[bL];exact aF _
theorem B7:∀{qs:List (List Key×V)} {kvs:List (List Key×V)},(gU qs kvs).length<=kvs.length+qs.length
 |[],kvs=>aF _
 |q::r,kvs=>by
  have h1:=B7 (qs:=r) (kvs:=cP kvs q.1 q.2)
  have h2:=ID (kvs:=kvs) (k:=q.1) (v:=q.2)
  rw[aN]
  exact aW h1 (by lia)
theorem B8{X:Cx}{pins:List (Addr×Obj)}{σ:L2.St}{H:Hp}{s:Shared}(I:Inv X pins σ H s):∀{as:List Addr} {qs:List (List Key×V)},qC X.K H as qs ->
 ∃vs:List (List Key×Addr×Value),vs.length=as.length/\qs.length=as.length/\(∀(i:Nat)(a:Addr),as[i]?=some a->∃q,vs[i]?=some q/\PairAt X.prog X.w s.heap a q) /\
  ∀{kvs:List (List Key×V)} {xs:List (List Key×Addr×Value)},KT H kvs xs->KT H (gU qs kvs) (vs.foldl (λxs q=>storedH xs q.1 q.2.1 q.2.2) xs)
 |[],qs,h=>by
  cases h
  exact⟨[],rfl,rfl,λi a e=>by simp at e,λr=>r⟩
 |a::r,qs,h=>by
  obtain⟨k,b,y,q,rfl,ht,hb,hr⟩:=h
  obtain⟨vs,l1,l2,h1,h2⟩:=B8 I hr
  obtain⟨its,rv,⟨o,e,hc,n,d⟩,_⟩:=I.tuple ht
  cases rv with
  |cons r1 rv=>
   cases rv with
   | @cons _ u _ _ r2 rv=>
    cases rv
    cases (show _=Value.ref b from r1)
    refine⟨(k,b,u)::vs,by rw[aN,aN,l1],by rw[aN,aN,l2],λi a' e'=>?_,λrk=>?_⟩
    ·cases i with
     |zero=>
      cases e'
      exact⟨_,rfl,⟨o,n,e,hc,d⟩,jA I.hok hb⟩
     |succ i=>exact h1 i a' e'
    ·exact h2 (rk.put k hb r2)
theorem IE{α β:Type}(f:β->α->β)(z:α)(vs:List α)(x:β):(bX 0 vs.length).foldl (λb j=>f b (vs.getD j z)) x=vs.foldl f x:=by
 have e:(bX 0 vs.length).map (λj=>vs.getD j z)=vs:=by
  rw[<-iW]
  apply Kx
  ·simp
  ·intro i h1 h2
   simp[h2]
 rw[<-List.foldl_map (f:=λj=>vs.getD j z) (g:=f),e]
theorem IF {X:Cx} (hc:X.calm=true) (hr:X.A.units+64<cLine):bZ X (.type "dict") (λvs H Q=>∃a as qs,vs=[.ref a]/\SqL X.K H a (as.map V.ref)/\qC X.K H as qs/\∀p o,H p=none->Q (.ref p) (upd H p (.frz o (.dT (gU qs []))))):=by
 intro pins s σ H vs us Q I rv h
 obtain⟨a,as,qs,rfl,hS,hP,q⟩:=h
 obtain⟨u,rfl,ru⟩:=rv.one
 cases ru
 obtain⟨its,r,⟨ol,nl,e1,e2,e3,e4⟩,hz⟩:=I.list hS
 have hits:=uE r
 subst hits
 obtain⟨xs,l1,l2,h1,h2⟩:=B8 I hP
 rw[aC]at hz
 refine IC (val:=λi=>xs.getD i ([],0,.none)) (I.ok.hd hc) (by lia) e1 e2 e3 e4 (by rw[aQ,aC];exact hz) (λi v hv=>?_) λh' tk hD hkeep=>?_
 ·have hv':(as.map Value.ref)[i]?=some v:=by simpa using hv
  rw[bI]at hv'
  cases e:as[i]? with
  |none=>rw[e]at hv';cases hv'
  |some x=>
   rw[e]at hv'
   cases hv'
   obtain⟨q,g1,g2⟩:=h1 i x e
   exact⟨x,rfl,by show PairAt _ _ _ _ (xs.getD i ([],0,.none));rw[cZ,g1];exact g2⟩
 ·have fr:H s.heap.objs.size=none:=I.hok.fresh (aF _)
  rw[show(List.map Value.ref as).toArray.size=xs.length from by rw[aQ,aC,l1],IE (λxs q=>storedH xs q.1 q.2.1 q.2.2) ([],0,.none) xs []]at hD
  obtain⟨ob,es,ep,g1,g2,g3,g4,_,g5⟩:=hD
  have I1:Inv X pins σ (upd H s.heap.objs.size (.dT (gU qs []))) {s with heap:=h',toks:=tk}:=
   I.laid (λb o e=>hkeep b o (Heap.lt_size e) e) (aF _) ⟨aW B7 (by rw[l2,mC,iB];exact hz),beq_eq_false_iff_ne.mpr (Ne.symm (bD I.big)),_,KT.keeps (h2 .nil) (λc ys ec=>by rw[aI (fH ec fr)];exact ec),ob,es,ep,g1,g2,g3,g4,g5⟩
  obtain⟨o,_,_,_,I2⟩:=uF I1 bY
  rw[show L2.upd (L2.upd H s.heap.objs.size (.dT (gU qs []))) s.heap.objs.size (.frz o (.dT (gU qs [])))=L2.upd H s.heap.objs.size (.frz o (.dT (gU qs [])))from yH]at I2
  exact⟨.ref s.heap.objs.size,_,I2,rfl,q _ o fr⟩
theorem RD.updD{K:PySem.W.Frag}{H:Hp}{O:Addr->Prop}{p:Addr}{ps:List (List Key×V)}{o':HO}(hp:H p=some (.dT ps)){d:D}{v:V}(h:RD K H O d v):RD K (L2.upd H p o') O d v:=by
 have ne:∀{a:Addr} {u:HO},H a=some u->u≠.dT ps->a≠p:=λx1 x2=>kS x1 hp x2
 refine RD.map (λa xs q=>?_) (λa xs n q=>⟨n,?_⟩) (λa o u q=>?_) h
 ·rcases q with q|q
  ·exact .inl (by rw[aI (ne q (λz=>by cases z))];exact q)
  ·exact .inr q
 ·rcases q with q|⟨o,q⟩
  ·exact .inl (by rw[aI (ne q (λz=>by cases z))];exact q)
  ·exact .inr ⟨o,by rw[aI (ne q (λz=>by cases z))];exact q⟩
 ·rw[aI (ne q (λz=>by cases z))];exact q
noncomputable def B9(p:Addr)(Q:VK)(ps:List (V×V))(H2:Hp):Prop:=H2 p=some (.dT [])/\∃b key y,ps=[(.ref b,y)]/\H2 b=some (.tup (key.map kV))/\∀o,Q (.ref p) (L2.upd H2 p (.frz o (.dT [(key,y)])))
noncomputable def tDisp1(tk tv:TE):TE:=λσ H Q=>∀p,H p=none->tk σ (L2.upd H p (.dT [])) λx H1=>tv σ H1 λy H2=>B9 p Q [(x,y)] H2
theorem IG{X:Cx}{k v:Expr}{pos:Pos}{tk tv:TE}(hu:X.A.units+1<cLine)(hk:PE X k tk)(hv:PE X v tv):PE X (.Dict [some k] [v] pos) (tDisp1 tk tv):=by
 intro pins s σ H Q I q
 have hn:=I.hok.fresh (aF s.heap.objs.size)
 have I1:=I.laid (a:=s.heap.objs.size) (o:=.dT []) (h':=s.heap.push {cls:=.type "dict", data:=.dict #[] }) (t':=s.toks) (λ_ _ q=>Heap.get?_push_of_some _ q) (aF _) (zR s.heap I.big)
 refine wpAny_Dict_any rfl rfl (by simp) (by simp) (thn (FJ (pos:=pos) hk hv FI pins _ σ _ (B9 s.heap.objs.size Q) I1 (q _ hn)) λws s2 ⟨ps,H2,I2,rel,e,b,key,y,ep,eb,q2⟩=>?_)
 subst ep
 cases rel with
 | @cons _ w _ _ r1 rel=>
  cases rel
  obtain⟨u1,u2⟩:=w
  obtain⟨r1,r2⟩:=r1
  obtain rfl:u1=Value.ref b:=r1
  obtain⟨z,hd,xs,rel,dd⟩:=zO I2.hok e
  cases rel
  unfold storeAll
  rw[LC]
  refine wpAny_bind (wpAny_bind (wpAny_dictSet_heap (hsz:=fX _) (show X.A.units<cLine by lia) (jA I2.hok eb) dd λh' dd' hs=>wpAny_pure ?_))
  dsimp only
  rw[List.forIn_nil]
  refine wpAny_pure ?_
  obtain⟨ob,es,ep,hq,h2,h3,h4,_,h5⟩:=dd'
  have I3:Inv X pins σ (L2.upd H2 s.heap.objs.size (.dT [(key,y)])) {s2 with heap:=h',toks:=s2.toks+(tupleKind (bR X.prog X.w)).draws key}:=tF I2 (by rw[e];exact True.intro) hs ⟨ob,hq⟩ ⟨by show 1<=sizeLine;decide,hd,[(key,b,u2)],.cons ⟨rfl,by rw[aI (kS eb e (λz=>nomatch z))];exact eb,r2⟩ .nil,ob,es,ep,hq,h2,h3,h4,h5⟩
  obtain⟨o,_,_,_,I4⟩:=uF I3 bY
  rw[show L2.upd (L2.upd H2 s.heap.objs.size (.dT [(key,y)])) s.heap.objs.size (.frz o (.dT [(key,y)]))=L2.upd H2 s.heap.objs.size (.frz o (.dT [(key,y)]))from yH]at I4
  exact⟨.ref s.heap.objs.size,_,I4,rfl,q2 o⟩
section
variable{T:Tab}{cf:Nat->List D->Res D}{X:Cx}{x y z:E}{p q r tg:Expr}{pos pos':Pos}{es:List Expr}
theorem IH(hR:eU X)(ha:SE T cf X x p)(hb:SE T cf X y q):SE T cf X (.dlit x y) (.Dict [some p] [q] pos):=λH₀ O₀=>by
 have hR':X.A.units+64<cLine:=hR
 refine PE.imp (λσ H Q hq=>?_) (IG (by lia) (ha H₀ O₀) (hb H₀ O₀))
 obtain⟨O,own,e,d,F,ev,k⟩:=hq
 (first|rw[pE]at ev|rw[FN]at ev)
 obtain⟨d1,e1,ev⟩:=Res.bind_ok ev
 obtain⟨d2,e2,ev⟩:=Res.bind_ok ev
 intro a hn
 have s0:=bM hn (.dT [])
 refine⟨O,own,e,d1,F.grow s0,e1,λv1 H1 s1 r1 _=>⟨O,own,e,d2,(F.grow s0).grow s1,e2,λv2 H2 s2 r2 _=>?_⟩⟩
 cases d1 with
 |tup ks=>
  obtain⟨key,e3,ev⟩:=Res.bind_ok (show(Res.of (cF ks)>>=_)=Res.ok d from ev)
  cases ev
  obtain⟨b,xs,rfl,tq,w1⟩:=r1
  have hb:=s2 _ _ (kB (dU e3) w1 tq)
  have h2:H2 a=some (.dT []):=s2 _ _ (s1 _ _ bY)
  refine⟨h2,b,key,v2,rfl,hb,λo=>?_⟩
  refine k _ _ (λc u hc=>?_) ⟨a,[(key,v2)],rfl,⟨o,bY⟩,v2,[],rfl,r2.updD h2,rfl⟩ (λz=>by cases z)
  rw[aI (fH hc hn)]
  exact s2 _ _ (s1 _ _ (s0 _ _ hc))
 |_=>cases ev
theorem B_{K:PySem.W.Frag}{H:Hp}{O:Addr->Prop}:∀{ds:List D} {qs:List (List (Sum Int Str)×D)} {xs:List V},iH ds=.ok qs->RDs K H O ds xs->∃(as:List Addr)(ys:List (List Key×V)),xs=as.map V.ref/\qC K H as ys/\RDt K H O qs ys
 |[],qs,xs,h,w=>by
  rw[iH]at h;cases h
  rw[RDs]at w;subst w
  exact⟨[],[],rfl,rfl,rfl⟩
 |d::r,qs,xs,h,w=>by
  unfold iH at h
  split at h
  ·rename_i e;cases e
  ·rename_i ks v r' e
   cases e
   obtain⟨key,e3,h⟩:=Res.bind_ok h
   obtain⟨q,e4,h⟩:=Res.bind_ok h
   cases h
   obtain⟨u,us,rfl,w1,w2⟩:=w
   obtain⟨as,ys,rfl,p1,p2⟩:=B_ e4 w2
   obtain⟨a,zs,rfl,tq,z1,zr,rfl,⟨b,xs',rfl,tb,wb⟩,z2,zs2,rfl,rv,e5⟩:=w1
   cases (show zs2=[]from e5)
   exact⟨a::as,(key,z2)::ys,rfl,⟨key,b,z2,ys,rfl,TupV.sq tq,kB (dU e3) wb tb,p1⟩,z2,ys,rfl,rv,p2⟩
  ·cases h
theorem Ba{K:PySem.W.Frag}{H:Hp}{O:Addr->Prop}:∀{qs:List (List (Sum Int Str)×D)} {ys:List (List Key×V)} {ds:List (List (Sum Int Str)×D)} {ps:List (List Key×V)},RDt K H O qs ys->RDt K H O ds ps->RDt K H O (jW qs ds) (gU ys ps)
 |[],ys,ds,ps,h,w=>by rw[RDt]at h;subst h;exact w
 |(k,d)::qs,ys,ds,ps,h,w=>by
  obtain⟨v,r,rfl,h1,h2⟩:=h
  show RDt K H O (jW qs (fM ds k d)) (gU r (cP ps k v))
  exact Ba h2 (Ao h1 w)
theorem se_dcl {pn:Pos} (hh:X.calm=true) (hR:eU X) (hm1:X.mg "dict" = none) (hg1:Gl X "dict") (hp:bA p=true) (ha:SE T cf X x p):SE T cf X (.dcl x) (.Call (.Name "dict" pn) [p] [] pos):=λH₀ O₀=>by
 refine PE.imp (λσ H Q hq=>?_) (jT (IF hh hR) hg1 hm1 (by decide +kernel) (dM (ha H₀ O₀) eK (aV hp)) (by decide) (by decide) (aV hp) rfl)
 obtain⟨O,own,e,d,F,ev,k⟩:=hq
 (first|rw[xE_dcl]at ev|rw[mV]at ev)
 obtain⟨d1,e1,ev1⟩:=Res.bind_ok ev
 refine⟨O,own,e,d1,F,e1,λv1 H1 s1 r1 _=>?_⟩
 cases d1 with
 |lst ds=>
  obtain⟨qs,e2,ev2⟩:=Res.bind_ok (show(iH ds>>=_)=Res.ok d from ev1)
  cases ev2
  obtain⟨a,xs,rfl,q1,w1⟩:=(RD.rr r1).lst
  obtain⟨as,ys,rfl,p1,p2⟩:=B_ e2 w1
  refine⟨a,as,ys,rfl,q1,p1,λp o hn=>?_⟩
  have s2:=bM hn (.frz o (.dT (gU ys [])))
  exact k _ _ (s1.trans s2) ⟨p,_,rfl,⟨o,bY⟩,(Ba (ds:=[]) (ps:=[]) p2 rfl).same s2⟩ (λz=>by cases z)
 |_=>cases ev1
theorem II{K:PySem.W.Frag}{H:Hp}{O:Addr->Prop}(n:Nat):RDs K H O (bP 0 n) ((aA n).map λi:Nat=>V.int (0+(i:Nat))):=BM 0 n
theorem IJ {pn pm pos2:Pos} (hh:X.calm=true) (hm1:X.mg "tuple" = none) (hm2:X.mg "range" = none) (hg1:Gl X "tuple") (hg2:Gl X "range") (hp:bA p=true) (ha:SE T cf X x p) :
 SE T cf X (.trng x) (.Call (.Name "tuple" pn) [.Call (.Name "range" pm) [p] [] pos2] [] pos):=λH₀ O₀=>by
 refine PE.imp (λσ H Q hq=>?_) (jT (G4 hh) hg1 hm1 (by decide +kernel) (dM (jT Ff hg2 hm2 (by decide +kernel) (dM (ha H₀ O₀) eK (aV hp)) (by decide) (by decide) (aV hp) rfl) eK rfl) (by decide) (by decide) rfl rfl)
 obtain⟨O,own,e,d,F,ev,k⟩:=hq
 rw[FO]at ev
 obtain⟨d1,e1,ev⟩:=Res.bind_ok ev
 refine⟨O,own,e,d1,F,e1,λv1 H1 s1 r1 _=>?_⟩
 cases d1 with
 |int n=>
  obtain⟨c,ev⟩:=aU (show aB (bV n&&decide (n<=1000)) _=Res.ok d from ev)
  cases ev
  cases (show v1=_ from r1)
  simp only[bV,aE,decide_eq_true_eq]at c
  refine⟨n,rfl,λp hpn=>⟨p,n,rfl,bY,c.1.1,c.1.2,c.2,λl hl=>?_⟩⟩
  have z:=lC (K:=X.K) (O:=O) (II n.toNat) hl
  exact k _ _ ((s1.trans (bM hpn _)).trans (bM hl _)) z λz=>by cases z
 |_=>cases ev
theorem IK {nm:Str} {apos cpos:Pos} (hR:eU X) (hnm:nm = "get") (hbase:pX p=true) (hline:(apos.endLine==cpos.line)=true) (hp:bA q=true) (ha:SE T cf X x p) (hb:SE T cf X y q) :
 SE T cf X (.getV x y) (.Call (.Attribute p nm apos) [q] [] cpos):=λH₀ O₀=>by
 subst hnm
 have hR':X.A.units+64<cLine:=hR
 refine PE.imp (λσ H Q hq=>?_) (FK (by lia) (ha H₀ O₀) (hb H₀ O₀) ⟨base_of hbase (by decide),by rw[aV hp];rfl,hline,by rw[aV hp];rfl⟩)
 obtain⟨O,own,e,d,F,ev,k⟩:=hq
 (first|rw[pE]at ev|rw[FP]at ev)
 obtain⟨d1,e1,ev⟩:=Res.bind_ok ev
 obtain⟨d2,e2,ev⟩:=Res.bind_ok ev
 refine⟨O,own,e,d1,F,e1,λv1 H1 s1 r1 _=>?_⟩
 cases d1 with
 |tdc kvs=>
  cases d2 with
  |tup ks=>
   obtain⟨key,e3,ev⟩:=Res.bind_ok (show(Res.of (cF ks)>>=_)=Res.ok d from ev)
   cases ev
   obtain⟨a,ps,rfl,⟨o,hf⟩,w⟩:=r1
   refine⟨a,rfl,.inr ⟨ps,.inr ⟨o,hf⟩⟩,O,own,e,_,F.grow s1,e2,λv2 H2 s2 r2 _=>?_⟩
   obtain⟨b,xs,rfl,tq,w1⟩:=r2
   refine⟨dN ps key,.inr ⟨ps,key,b,.inr ⟨o,s2 _ _ hf⟩,rfl,kB (dU e3) w1 tq,rfl⟩,?_⟩
   have rv:=nD (k:=key) (w.same s2)
   cases eV:cB kvs key with
   |some d'=>
    obtain⟨v',h1,h2⟩:=rv.1 d' eV
    rw[h1]
    exact k _ _ (s1.trans s2) (by rw[eV];exact h2) (λz=>by cases z)
   |none=>
    have h1:dN ps key=none:=by
     have:=rv.2
     rw[eV]at this
     cases hz:dN ps key with
     |none=>rfl
     |some _=>rw[hz]at this;cases this
    rw[h1]
    exact k _ _ (s1.trans s2) (by rw[eV];exact rfl) (λz=>by cases z)
  |_=>cases ev
 |_=>cases ev
theorem Bb{K:PySem.W.Frag}{H:Hp}{O:Addr->Prop}:∀{kvs:List (Sum Int Str×D)} {ps:List (Key×V)} {i:Nat} {kv:Sum Int Str×D},RDk K H O kvs ps->kvs[i]?=some kv->∃q,ps[i]?=some q/\q.1=kv.1
 |[],_,_,_,_,e=>by simp at e
 |(k,d)::r,ps,i,kv,h,e=>by
  obtain⟨v,q,rfl,_,h2⟩:=h
  cases i with
  |zero=>cases e;exact⟨_,rfl,rfl⟩
  |succ i=>exact Bb (i:=i) h2 (by simpa using e)
theorem Bc{K:PySem.W.Frag}{H:Hp}{O:Addr->Prop}:∀{kvs:List (List (Sum Int Str)×D)} {ps:List (List Key×V)} {i:Nat} {kv:List (Sum Int Str)×D},RDt K H O kvs ps->kvs[i]?=some kv->∃q,ps[i]?=some q/\q.1=kv.1
 |[],_,_,_,_,e=>by simp at e
 |(k,d)::r,ps,i,kv,h,e=>by
  obtain⟨v,q,rfl,_,h2⟩:=h
  cases i with
  |zero=>cases e;exact⟨_,rfl,rfl⟩
  |succ i=>exact Bc (i:=i) h2 (by simpa using e)
theorem Bd{K:PySem.W.Frag}{H:Hp}{O:Addr->Prop}(k:Key):RD K H O (iG k) (kV k):=by
 cases k with
 |inl i=>exact rfl
 |inr x=>exact rfl
theorem Be{K:PySem.W.Frag}{H:Hp}{O:Addr->Prop}:∀(ks:List Key),RDs K H O (ks.map iG) (ks.map kV)
 |[]=>rfl
 |k::ks=>⟨_,_,rfl,Bd k,Be ks⟩
theorem IL{K:PySem.W.Frag}{a:Addr}{o:Obj}{kvs:List (Sum Int Str×D)}{ps:List (Key×V)}(hl:ps.length=kvs.length)(hk:∀(i:Nat)(kv:Sum Int Str×D),kvs[i]?=some kv->∃q:Key×V,ps[i]?=some q/\q.1=kv.1):Wk K (Itk a o kvs.length) [.fr a o (.dK ps)] (kvs.map λkv=>iG kv.1):=by
 intro i H O r
 have h:H a=some (.frz o (.dK ps)):=r _ (bJ.mpr rfl)
 rw[aC]
 refine⟨λhi=>.inl ⟨ps,h,hl,hi⟩,λhi=>⟨.inl ⟨ps,h,hl⟩,hi⟩,λx H' d hd y=>?_⟩
 obtain⟨rfl,y⟩:=y
 refine⟨Same.refl _,?_⟩
 rw[bI]at hd
 cases hz:kvs[i]? with
 |none=>rw[hz]at hd;cases hd
 |some kv=>
  rw[hz]at hd
  cases hd
  obtain⟨q,h1,h2⟩:=hk i kv hz
  rcases y with⟨ps',y1,y2,y3⟩|⟨ps',y1,_⟩
  ·rw[h]at y1
   cases y1
   rw[h1]at y3
   cases y3
   show RD K _ O (iG kv.1) (kV q.1)
   rw[h2]
   exact Bd _
  ·rw[h]at y1;cases y1
theorem IM{K:PySem.W.Frag}{a:Addr}{o:Obj}{kvs:List (List (Sum Int Str)×D)}{ps:List (List Key×V)}(hl:ps.length=kvs.length)(hk:∀(i:Nat)(kv:List (Sum Int Str)×D),kvs[i]?=some kv->∃q:List Key×V,ps[i]?=some q/\q.1=kv.1):Wk K (Itk a o kvs.length) [.fr a o (.dT ps)] (kvs.map λkv=>.tup (kv.1.map iG)):=by
 intro i H O r
 have h:H a=some (.frz o (.dT ps)):=r _ (bJ.mpr rfl)
 rw[aC]
 refine⟨λhi=>.inr ⟨ps,h,hl,hi⟩,λhi=>⟨.inr ⟨ps,h,hl⟩,hi⟩,λx H' d hd y=>?_⟩
 obtain⟨rfl,y⟩:=y
 refine⟨Same.refl _,?_⟩
 rw[bI]at hd
 cases hz:kvs[i]? with
 |none=>rw[hz]at hd;cases hd
 |some kv=>
  rw[hz]at hd
  cases hd
  obtain⟨q,h1,h2⟩:=hk i kv hz
  rcases y with⟨ps',y1,_⟩|⟨ps',y1,y2,y3⟩
  ·rw[h]at y1;cases y1
  ·rw[h]at y1
   cases y1
   rw[h1]at y3
   rcases y3 with⟨z,_⟩|⟨q',b,z1,z2,z3⟩
   ·cases z
   ·cases z1
    cases z2
    rw[h2]at z3
    exact⟨b,_,rfl,.inl z3,Be _⟩
theorem SI.up(h:SI T cf X tg x false p):SI T cf X tg x true p:=λH₀ O₀ pins s σ H R I q=>
 h H₀ O₀ pins s σ H R I (let ⟨O,own,e,ds,F,ev,k⟩:=q;⟨O,own,e,ds,F,ev,λJ H' srs s' r _ wk=>k J H' srs s' r (λz=>nomatch z) wk⟩)
theorem Bf(hv:SE T cf X x p):SI T cf X tg (.seqD x) false p:=by
 intro H₀ O₀ pins s σ H R I h
 obtain⟨O,own,e,ds,F,ev,k⟩:=h
 rw[FQ]at ev
 obtain⟨d1,e1,ev⟩:=Res.bind_ok ev
 refine thn (hv H₀ O₀ pins s σ H (λv H1=>Same H H1/\RD X.K H1 O d1 v) I ⟨O,own,e,d1,F,e1,λv H' s' r _=>⟨s',r⟩⟩) λu s1 ⟨v,H1,I1,r1,s1',rr⟩=>?_
 have go:∀(a:Addr)(o:Obj)(n:Nat)(es:Array DictEntry)(ep:Nat)(pn:Pin),o.data=.dict es ep->RawD s1.heap a es ep->(a==sysModules)=false->es.size=n->PinOk X.K H1 O pn->Wk X.K (Itk a o n) [pn] ds->wpAny (model X.prog X.w) X.A (pyIter (.ref a)) (PIE X pins σ tg R) X.xe s1:=by
  intro a o n es ep pn hd rw' ns hn hp wk
  subst hn
  refine GW ns rw' ?_
  refine⟨s1.heap.objs.size,[s1.heap.objs.size],_,Itk a o es.size,H1,rfl,I1.kept (t':=s1.toks) λb u e=>Heap.get?_push_of_some _ e,GZ hd a _ es.size rfl,⟨_,Heap.get?_push_size _ rfl,rfl,rfl⟩,λb hb=>?_,k _ H1 [pn] s1' (λt ht=>by rw[bJ.mp ht];exact hp.rr) (λ_ t ht=>by rw[bJ.mp ht];exact hp) wk⟩
  rcases aZ.mp hb with rfl|hb
  ·exact I1.fpOk (aF _) (I1.hok.fresh (aF _))
  ·cases hb
 cases d1 with
 |tdc kvs=>
  cases (show Res.ok _=Res.ok ds from ev)
  obtain⟨a,ps,rfl,⟨o,hf⟩,w⟩:=rr
  cases r1
  obtain⟨e1,e2,e3,xs,e4,o',es,ep,g1,g2,g3,g4⟩:=(show ObjOk X.prog X.w H1 s1.heap a (.frz o (.dT ps))from I1.hok a _ hf)
  have eo:o'=o:=by rw[e1]at g1;cases g1;rfl
  subst eo
  obtain⟨x1,x2,x3,x4⟩:=uH I1 hf g3
  exact go a o' kvs.length es ep (.fr a o' (.dT ps)) g3 x1 x2 (by rw[x3,w.length]) hf (IM w.length λi kv=>Bc w)
 |dct kvs=>
  cases (show Res.ok _=Res.ok ds from ev)
  obtain⟨a,ps,rfl,⟨o,hf⟩,w⟩:=rr
  cases r1
  obtain⟨e1,e2,e3,xs,e4,o',es,ep,g1,g2,g3,g4⟩:=(show ObjOk X.prog X.w H1 s1.heap a (.frz o (.dK ps))from I1.hok a _ hf)
  have eo:o'=o:=by rw[e1]at g1;cases g1;rfl
  subst eo
  obtain⟨x1,x2,x3,x4⟩:=uG I1 hf g3
  exact go a o' kvs.length es ep (.fr a o' (.dK ps)) g3 x1 x2 (by rw[x3,w.length]) hf (IL w.length λi kv=>Bb w)
 |_=>cases ev
theorem IP {i:Nat} {n:Str} {px tpos:Pos} (hR:eU X) (hN:X.N[i]?=some n) (hv:Vis X.env.scope n) (hd:(n==("__debug__" : Str))=false) (hc:(n==("__classdict__" : Str))=false) (hx:cW p=true) (hk:SE T cf X y q) (h:SE T cf X x p) :
 SS T cf X (.dputV i y x) (.Assign [.Subscript (.Name n px) q tpos] p pos):=λH₀ O₀=>by
 have hR':X.A.units+64<cLine:=hR
 refine PS.imp (λD' σ H hq=>?_) (zQ (by lia) (fJ hN hv hd hc) (hk H₀ O₀) (h H₀ O₀) (jD hx))
 obtain⟨ts,e,out,⟨O,own,F,tt⟩,ev,k⟩:=hq
 rw[FX]at ev
 obtain⟨d,e1,ev⟩:=Res.bind_ok ev
 obtain⟨l,e2,ev⟩:=Res.bind_ok ev
 obtain⟨dk,e3,ev⟩:=Res.bind_ok ev
 obtain⟨key,e4,ev⟩:=Res.bind_ok ev
 obtain⟨c,ev⟩:=aU ev
 cases ev
 refine⟨O,own,e,d,F,e1,λv H1 s1 r1 _=>?_⟩
 obtain⟨q1,xs1,g1,g2,g3,g4,g5⟩:=(F.grow s1).mutT i (Sl.ownT_ok e2)
 refine⟨.ref q1,dS g1,O,own,e,dk,F.grow s1,e3,λv2 H2 s2 r2 _=>?_⟩
 have F2:=(F.grow s1).grow s2
 obtain⟨q2,xs2,f1,f2,f3,f4,f5⟩:=F2.mutT i (Sl.ownT_ok e2)
 have eq:q2=q1:=by rw[g1]at f1;cases f1;rfl
 subst eq
 cases dk with
 |tup ks=>
  obtain⟨b,xs,rfl,tq,w1⟩:=r2
  have hp3:=kB (dU (show Res.of (cF ks)=.ok key from e4)) w1 tq
  refine⟨q2,_,rfl,DPut.t f2 hp3 (by rw[f3.length,<-fQ];exact of_decide_eq_true c),?_⟩
  exact k _ _ ⟨O,own,f5 _ _ (Ao (r1.same s2) f3),λt ht=>(((tt t ht).same s1).same s2).updM f4 f2 trivial⟩
 |_=>cases e4
end
set_option genInjectivity false in
structure Txt where
 gn:List Str
 dn:List Str
 tf:List (Str×List Nat):=[]
 ts:List (Str×List Str):=[]
 cls:List Str:=[]
 icl:List Str:=[]
 dm:List (Nat×Str):=[]
noncomputable def gI{α:Type}[BEq α]:List α->Bool
 |[]=>true
 |a::r=>!r.contains a&&gI r
theorem qD{α:Type}[BEq α][LawfulBEq α]:∀{l:List α},gI l=true->l.Nodup
 |[],_=>sJ
 |a::r,h=>by
  rw[gI,aE]at h
  refine dP.mpr ⟨λm=>?_,qD h.2⟩
  have:r.contains a=true:=jP.mpr m
  rw[this]at h
  exact absurd h.1 (by simp)
noncomputable def aD:E->Bool
 |.rd _=>true
 |_=>false
noncomputable def visB(sc:Scope)(n:Str):Bool:=(sc.names.lookup n==some .local)||(sc.names.lookup n==some .cell)||(sc.names.lookup n==some .free)
noncomputable def glB(sc:Scope)(n:Str):Bool:=sc.names.lookup n==some .globalImplicit
noncomputable def jE (n:Str):Bool:=!(n==("__debug__" : Str))&&!(n==("__classdict__" : Str))
noncomputable def cC(N:List Str)(sc:Scope)(i:Nat)(n:Str):Bool:=(N[i]?==some n)&&visB sc n&&jE n
noncomputable def iM(scope sc:Scope):Scope:={scope with names:=scope.names.map λ(n,k)=>if(k==.free&&sc.kind==.function&&sc.names.lookup n==some .cell)then(n,.cell)else(n,k) }
noncomputable def cK:Expr->List Str
 |.Name n _=>[n]
 |.Tuple es _ _=>es.filterMap λ| .Name n _=>some n|_=>none
 |_=>[]
noncomputable def mGs(loc:Bool)(N:List Str)(sc:Scope):List Nat->List Expr->Bool
 |[],[]=>true
 |i::is,.Name n _::es=>(N[i]?==some n)&&((sc.names.lookup n==some .local)||(!loc&&sc.names.lookup n==some .cell))&&mGs loc N sc is es
 |_,_=>false
noncomputable def mG(loc:Bool)(N:List Str)(sc:Scope):G->Expr->Bool
 |.one i,.Name n _=>(N[i]?==some n)&&((sc.names.lookup n==some .local)||(!loc&&sc.names.lookup n==some .cell))
 |.many is,.Tuple es _ _=>mGs loc N sc is es
 |_,_=>false
noncomputable def scB(sc scope:Scope):Bool:=(scope.kind==.function)&&scope.names.all (λx=>!(x.2==.cell))&&scope.names.all (λx=>!(x.2==.local)||(scope.names.lookup x.1==some .local)) &&
 scope.names.all (λx=>!(x.2==.free)||(!(scope.names.lookup x.1==some .local)&&((sc.names.lookup x.1==some .cell)||(sc.names.lookup x.1==some .free))))
noncomputable def cL (N:List Str) (caps:List Nat):List Str:=caps.map λi=>(N[i]?).getD ""
noncomputable def nL(N:List Str)(scope:Scope)(caps:List Nat):Bool:=caps.all λi=>match N[i]? with|some n=>scope.names.contains (n,.free)|none=>false
noncomputable def qE:E->Bool
 |.con (.bl true)=>true
 |_=>false
noncomputable def eF:E->Bool
 |.omit=>true
 |_=>false
noncomputable def uW:Expr->Bool
 |.Tuple _ _ _=>true
 |_=>false
noncomputable def vC(G:Str->List Expr->Bool):Expr->Bool
 |.Call (.Name n _) es [] _=>G n es
 |_=>false
noncomputable def v1(G:Expr->Bool):List Expr->Bool
 |[q]=>G q
 |_=>false
noncomputable def vL(G:List Expr->Bool):List Expr->Bool
 |[]=>false
 |e::es=>G (e::es)
theorem iN{G:Str->List Expr->Bool}{p:Expr}(h:vC G p=true):∃n pn es pos,p=.Call (.Name n pn) es [] pos/\G n es=true:=by
 cases p with
 |Call fn es ks pos=>
  cases fn with
  |Name n pn=>cases ks with
   |nil=>exact⟨n,pn,es,pos,rfl,h⟩
   |cons _ _=>exact absurd h aK
  |_=>exact absurd h aK
 |_=>exact absurd h aK
theorem jF{G:Expr->Bool}{l:List Expr}(h:v1 G l=true):∃q,l=[q]/\G q=true:=by
 rcases l with _|⟨q,_|⟨q',es⟩⟩
 ·exact absurd h aK
 ·exact⟨q,rfl,h⟩
 ·exact absurd h aK
theorem vL_of{G:List Expr->Bool}{l:List Expr}(h:vL G l=true):∃e es,l=e::es/\G (e::es)=true:=by
 cases l with
 |nil=>exact absurd h aK
 |cons e es=>exact⟨e,es,rfl,h⟩
noncomputable def vP(G:Expr->Expr->Bool):List Expr->Bool
 |[q,r]=>G q r
 |_=>false
theorem Bg{G:Expr->Expr->Bool}{l:List Expr}(h:vP G l=true):∃q r,l=[q,r]/\G q r=true:=by
 rcases l with _|⟨q,_|⟨r,_|⟨q',es⟩⟩⟩
 ·exact absurd h aK
 ·exact absurd h aK
 ·exact⟨q,r,rfl,h⟩
 ·exact absurd h aK
noncomputable def v2(G:Str->Str->Expr->Bool):Expr->Bool:=vC λn=>v1 (vC λm=>v1 (G n m))
theorem Bh{G:Str->Str->Expr->Bool}{p:Expr}(h:v2 G p=true):∃n pn m pm q pos2 pos,p=.Call (.Name n pn) [.Call (.Name m pm) [q] [] pos2] [] pos/\G n m q=true:=by
 obtain⟨n,pn,es,pos,rfl,g1⟩:=iN h
 obtain⟨c,rfl,g2⟩:=jF g1
 obtain⟨m,pm,es2,pos2,rfl,g3⟩:=iN g2
 obtain⟨q,rfl,g4⟩:=jF g3
 exact⟨n,pn,m,pm,q,pos2,pos,rfl,g4⟩
noncomputable def vM(G:Str->Str->Pos->Pos->List Expr->Bool):Stmt->Bool
 |.Expr (.Call (.Attribute (.Name n _) nm apos) es [] cpos) _=>G n nm apos cpos es
 |_=>false
theorem uX{G:Str->Str->Pos->Pos->List Expr->Bool}{p:Stmt}(h:vM G p=true):∃n px nm apos es cpos pos,p=.Expr (.Call (.Attribute (.Name n px) nm apos) es [] cpos) pos/\G n nm apos cpos es=true:=by
 cases p with
 |Expr v pos=>cases v with
  |Call f es ks cpos=>cases f with
   |Attribute o nm apos=>cases o with
    |Name n px=>cases ks with
     |nil=>exact⟨n,px,nm,apos,es,cpos,pos,rfl,h⟩
     |cons _ _=>exact absurd h aK
    |_=>exact absurd h aK
   |_=>exact absurd h aK
  |_=>exact absurd h aK
 |_=>exact absurd h aK
noncomputable def vA(G:Expr->Expr->Bool):Stmt->Bool
 |.Assign tgs v _=>v1 (λtg=>G tg v) tgs
 |_=>false
theorem nM{G:Expr->Expr->Bool}{p:Stmt}(h:vA G p=true):∃tg v pos,p=.Assign [tg] v pos/\G tg v=true:=by
 cases p with
 |Assign tgs v pos=>
  obtain⟨tg,rfl,h⟩:=jF h
  exact⟨tg,v,pos,rfl,h⟩
 |_=>exact absurd h aK
noncomputable def vX(G:Str->Expr->Bool):Expr->Bool
 |.Subscript (.Name n _) q _=>G n q
 |_=>false
theorem uY{G:Str->Expr->Bool}{p:Expr}(h:vX G p=true):∃n px q pos,p=.Subscript (.Name n px) q pos/\G n q=true:=by
 cases p with
 |Subscript o q pos=>cases o with
  |Name n px=>exact⟨n,px,q,pos,rfl,h⟩
  |_=>exact absurd h aK
 |_=>exact absurd h aK
noncomputable def vN(G:Str->Pos->Bool):Expr->Bool
 |.Name n pn=>G n pn
 |_=>false
theorem uZ{G:Str->Pos->Bool}{p:Expr}(h:vN G p=true):∃n pn,p=.Name n pn/\G n pn=true:=by
 cases p with
 |Name n pn=>exact⟨n,pn,rfl,h⟩
 |_=>exact absurd h aK
noncomputable def vD:Expr->Bool
 |.Dict [] [] _=>true
 |_=>false
theorem Bi{p:Expr}(h:vD p=true):∃pos,p=.Dict [] [] pos:=by
 cases p with
 |Dict ks vs pos=>cases ks with
  |nil=>cases vs with
   |nil=>exact⟨pos,rfl⟩
   |cons _ _=>exact absurd h aK
  |cons _ _=>exact absurd h aK
 |_=>exact absurd h aK
section
variable(Tx:Txt)
mutual
noncomputable def mE:E->List Str->Scope->Expr->Bool
 |.var i,N,sc,.Name n _=>cC N sc i n
 |.rd i,N,sc,.Name n _=>cC N sc i n
 |.con d,_,_,.Constant c _ _=>uK d c
 |.glob g,_,sc,.Name n _=>(Tx.gn[g]?==some n)&&glB sc n&&jE n
 |.bin o a b,N,sc,.BinOp l o' r _=>(o==o')&&mE a N sc l&&mE b N sc r
 |.cmp o a b,N,sc,.Compare l [o'] [r] _=>(o==o')&&mE a N sc l&&mE b N sc r
 |.neg a,N,sc,.UnaryOp .USub l _=>mE a N sc l
 |.and a b,N,sc,.BoolOp .And [l,r] _=>!aD a&&!aD b&&mE a N sc l&&mE b N sc r
 |.and a b,N,sc,.BoolOp .And (l::r::r'::rest) pos=>!aD a&&!aD b&&mE a N sc l&&mE b N sc (.BoolOp .And (r::r'::rest) pos)
 |.or a b,N,sc,.BoolOp .Or [l,r] _=>!aD a&&!aD b&&mE a N sc l&&mE b N sc r
 |.or a b,N,sc,.BoolOp .Or (l::r::r'::rest) pos=>!aD a&&!aD b&&mE a N sc l&&mE b N sc (.BoolOp .Or (r::r'::rest) pos)
 |.not a,N,sc,.UnaryOp .Not l _=>mE a N sc l
 |.ife c a b,N,sc,.IfExp l m r _=>!aD a&&!aD b&&mE c N sc l&&mE a N sc m&&mE b N sc r
 |.ix a b,N,sc,.Subscript l r _=>mE a N sc l&&mE b N sc r
 |.sl a lo hi,N,sc,.Subscript l (.Slice p q none _) _=>mE a N sc l&&(match p with|none=>eF lo|some p'=>!aD lo&&mE lo N sc p')&&(match q with|none=>eF hi|some q'=>!aD hi&&mE hi N sc q')
 |.tup a,N,sc,.Tuple es _ _=>mA a false N sc es
 |.lst a,N,sc,.List es _=>mA a false N sc es
 |.call f a,N,sc,p=>vC (λn es=>(Tx.dn[f]?==some n)&&glB sc n&&jE n&&mA a false N sc es) p
 |.dlit a b,N,sc,.Dict [some k] [v] _=>!aD a&&!aD b&&mE a N sc k&&mE b N sc v
 |.trng a,N,sc,p=>v2 (λn m q=>(n == "tuple")&&(m == "range")&&glB sc n&&glB sc m&&!aD a&&mE a N sc q) p
 |.getV a b,N,sc,.Call (.Attribute o nm apos) [q] [] cpos=>(nm == "get")&&pX o&&(apos.endLine==cpos.line)&&!aD a&&!aD b&&mE a N sc o&&mE b N sc q
 |.dcl a,N,sc,p=>vC (λn=>v1 λq=>(n == "dict")&&glB sc n&&!aD a&&mE a N sc q) p
 |.bt b a,N,sc,p=>vC (λn=>vL λes=>b.use&&(n==b.nm)&&glB sc n&&mA a true N sc es) p
 |.lset a,N,sc,p=>v2 (λn m q=>(n == "len")&&(m == "set")&&glB sc n&&glB sc m&&mE a N sc q) p
 |.isi a t,N,sc,p=>vC (λn=>vP λl r=>vN (λm _=>(n == "isinstance")&&(m==Str.ofString t.nm)&&glB sc n&&glB sc m&&mE a N sc l) r) p
 |.comp own caps g elt src cond,N,sc,.ListComp pe [⟨tg,iter,ifs,isa⟩] scope _=>
  (isa==0)&&scB sc scope&&nL N scope caps&&gI caps&&gI (cK tg++cL N caps)&&(own==(cK tg).length)&&g.below own&&mG true (cK tg++cL N caps) (iM scope sc) g tg &&
  mI src true N sc tg iter&&!aD elt&&mE elt (cK tg++cL N caps) (iM scope sc) pe &&
  (match ifs with
   |[]=>qE cond
   |[c]=>mE cond (cK tg++cL N caps) (iM scope sc) c
   |_=>false)
 |_,_,_,_=>false
termination_by structural x=>x
noncomputable def mA:E->Bool->List Str->Scope->List Expr->Bool
 |.anil,_,_,_,[]=>true
 |.acons a r,rd,N,sc,p::ps=>(rd||!aD a)&&mE a N sc p&&mA r rd N sc ps
 |_,_,_,_,_=>false
termination_by structural x=>x
noncomputable def mI:E->Bool->List Str->Scope->Expr->Expr->Bool
 |.seq a,rd,N,sc,_,p=>(rd||!aD a)&&mE a N sc p
 |.rng a,_,N,sc,_,p=>vC (λn=>v1 λq=>(n == "range")&&glB sc n&&!aD a&&mE a N sc q) p
 |.rng2 a b,_,N,sc,_,p=>vC (λn=>vP λq r=>(n == "range")&&glB sc n&&!aD a&&!aD b&&mE a N sc q&&mE b N sc r) p
 |.enum a,rd,N,sc,tg,p=>vC (λn=>v1 λq=>(n == "enumerate")&&glB sc n&&uW tg&&(rd||!aD a)&&mE a N sc q) p
 |.seqD a,_,N,sc,_,p=>!aD a&&mE a N sc p
 |_,_,_,_,_,_=>false
termination_by structural x=>x
end
end
section
variable{Tx:Txt}{N:List Str}{sc:Scope}{p tg:Expr}
theorem nof{P:Prop}(h:false=true):P:=absurd h aK
theorem aR{a b:Bool}(h:(a&&b)=true):a=true/\b=true:=by rw[aE]at h;exact h
theorem eM{a:Bool}(h:(!a)=true):a=false:=by rw[bQ]at h;exact h
theorem beq1{α:Type}[BEq α][LawfulBEq α]{a b:α}(h:(a==b)=true):a=b:=eq_of_beq h
theorem Bj{i:Nat}(h:mE Tx (.var i) N sc p=true):∃n pos,p=.Name n pos/\cC N sc i n=true:=by
 cases p<;>first|exact nof h|exact⟨_,_,rfl,h⟩
theorem i_rd{i:Nat}(h:mE Tx (.rd i) N sc p=true):∃n pos,p=.Name n pos/\cC N sc i n=true:=by
 cases p<;>first|exact nof h|exact⟨_,_,rfl,h⟩
theorem Bk{d:D}(h:mE Tx (.con d) N sc p=true):∃c k pos,p=.Constant c k pos/\uK d c=true:=by
 cases p<;>first|exact nof h|exact⟨_,_,_,rfl,h⟩
theorem Bl{g:Nat}(h:mE Tx (.glob g) N sc p=true):∃n pos,p=.Name n pos/\(Tx.gn[g]?==some n&&glB sc n&&jE n)=true:=by
 cases p<;>first|exact nof h|exact⟨_,_,rfl,h⟩
theorem Bm{o:Operator}{a b:E}(h:mE Tx (.bin o a b) N sc p=true):∃l r pos,p=.BinOp l o r pos/\mE Tx a N sc l=true/\mE Tx b N sc r=true:=by
 cases p with
 |BinOp l o' r pos=>
  have h:=aR (show((o==o')&&mE Tx a N sc l&&mE Tx b N sc r)=true from h)
  have h1:=aR h.1
  have e:o=o':=beq1 h1.1
  subst e
  exact⟨l,r,pos,rfl,h1.2,h.2⟩
 |_=>exact nof h
theorem Bo{o:CmpOp}{a b:E}(h:mE Tx (.cmp o a b) N sc p=true):∃l r pos,p=.Compare l [o] [r] pos/\mE Tx a N sc l=true/\mE Tx b N sc r=true:=by
 cases p with
 |Compare l os rs pos=>
  rcases os with _|⟨o',_|⟨o'',os⟩⟩
  ·exact nof h
  ·rcases rs with _|⟨r,_|⟨r',rs⟩⟩
   ·exact nof h
   ·have h:=aR (show((o==o')&&mE Tx a N sc l&&mE Tx b N sc r)=true from h)
    have h1:=aR h.1
    have e:o=o':=beq1 h1.1
    subst e
    exact⟨l,r,pos,rfl,h1.2,h.2⟩
   ·exact nof h
  ·exact nof h
 |_=>exact nof h
theorem Bp{a:E}(h:mE Tx (.neg a) N sc p=true):∃l pos,p=.UnaryOp .USub l pos/\mE Tx a N sc l=true:=by
 cases p with
 |UnaryOp op l pos=>cases op<;>first|exact nof h|exact⟨_,_,rfl,h⟩
 |_=>exact nof h
theorem Bq{a b:E}(h:mE Tx (.dlit a b) N sc p=true):∃k v pos,p=.Dict [some k] [v] pos/\(!aD a&&!aD b&&mE Tx a N sc k&&mE Tx b N sc v)=true:=by
 cases p with
 |Dict ks vs pos=>
  rcases ks with _|⟨k,_|⟨k',ks⟩⟩
  ·exact nof h
  ·cases k with
   |none=>exact nof h
   |some k=>
    rcases vs with _|⟨v,_|⟨v',vs⟩⟩
    ·exact nof h
    ·exact⟨k,v,pos,rfl,h⟩
    ·exact nof h
  ·cases k<;>exact nof h
 |_=>exact nof h
theorem Br {a b:E} (h:mE Tx (.getV a b) N sc p=true):∃o nm apos q cpos,p=.Call (.Attribute o nm apos) [q] [] cpos/\((nm == "get")&&pX o&&(apos.endLine==cpos.line)&&!aD a&&!aD b&&mE Tx a N sc o&&mE Tx b N sc q)=true:=by
 cases p with
 |Call fn es ks pos=>
  cases fn with
  |Attribute o nm apos=>
   rcases es with _|⟨q,_|⟨q',es⟩⟩
   ·exact nof h
   ·cases ks with
    |nil=>exact⟨o,nm,apos,q,pos,rfl,h⟩
    |cons _ _=>exact nof h
   ·exact nof h
  |_=>exact nof h
 |_=>exact nof h
theorem Bs{a b:E}(h:mE Tx (.and a b) N sc p=true):∃l r rest pos,p=.BoolOp .And (l::r::rest) pos/\aD a=false/\aD b=false/\mE Tx a N sc l=true/\((rest=[]/\mE Tx b N sc r=true)\/(∃r' rs,rest=r'::rs/\mE Tx b N sc (.BoolOp .And (r::rest) pos)=true)):=by
 cases p with
 |BoolOp op vs pos=>
  cases op with
  |Or=>exact nof h
  |And=>
   rcases vs with _|⟨l,_|⟨r,_|⟨r',rest⟩⟩⟩
   ·exact nof h
   ·exact nof h
   ·have h:=aR (show(!aD a&&!aD b&&mE Tx a N sc l&&mE Tx b N sc r)=true from h)
    have h1:=aR h.1
    have h2:=aR h1.1
    exact⟨l,r,[],pos,rfl,eM h2.1,eM h2.2,h1.2,.inl ⟨rfl,h.2⟩⟩
   ·have h:=aR (show(!aD a&&!aD b&&mE Tx a N sc l&&mE Tx b N sc (.BoolOp .And (r::r'::rest) pos))=true from h)
    have h1:=aR h.1
    have h2:=aR h1.1
    exact⟨l,r,r'::rest,pos,rfl,eM h2.1,eM h2.2,h1.2,.inr ⟨r',rest,rfl,h.2⟩⟩
 |_=>exact nof h
theorem i_or{a b:E}(h:mE Tx (.or a b) N sc p=true):∃l r rest pos,p=.BoolOp .Or (l::r::rest) pos/\aD a=false/\aD b=false/\mE Tx a N sc l=true/\((rest=[]/\mE Tx b N sc r=true)\/(∃r' rs,rest=r'::rs/\mE Tx b N sc (.BoolOp .Or (r::rest) pos)=true)):=by
 cases p with
 |BoolOp op vs pos=>
  cases op with
  |And=>exact nof h
  |Or=>
   rcases vs with _|⟨l,_|⟨r,_|⟨r',rest⟩⟩⟩
   ·exact nof h
   ·exact nof h
   ·have h:=aR (show(!aD a&&!aD b&&mE Tx a N sc l&&mE Tx b N sc r)=true from h)
    have h1:=aR h.1
    have h2:=aR h1.1
    exact⟨l,r,[],pos,rfl,eM h2.1,eM h2.2,h1.2,.inl ⟨rfl,h.2⟩⟩
   ·have h:=aR (show(!aD a&&!aD b&&mE Tx a N sc l&&mE Tx b N sc (.BoolOp .Or (r::r'::rest) pos))=true from h)
    have h1:=aR h.1
    have h2:=aR h1.1
    exact⟨l,r,r'::rest,pos,rfl,eM h2.1,eM h2.2,h1.2,.inr ⟨r',rest,rfl,h.2⟩⟩
 |_=>exact nof h
theorem Bu{a:E}(h:mE Tx (.not a) N sc p=true):∃l pos,p=.UnaryOp .Not l pos/\mE Tx a N sc l=true:=by
 cases p with
 |UnaryOp op l pos=>cases op<;>first|exact nof h|exact⟨_,_,rfl,h⟩
 |_=>exact nof h
theorem Bv{c a b:E}(h:mE Tx (.ife c a b) N sc p=true):∃l m r pos,p=.IfExp l m r pos/\aD a=false/\aD b=false/\mE Tx c N sc l=true/\mE Tx a N sc m=true/\mE Tx b N sc r=true:=by
 cases p with
 |IfExp l m r pos=>
  have h:=aR (show(!aD a&&!aD b&&mE Tx c N sc l&&mE Tx a N sc m&&mE Tx b N sc r)=true from h)
  have h1:=aR h.1
  have h2:=aR h1.1
  have h3:=aR h2.1
  exact⟨l,m,r,pos,rfl,eM h3.1,eM h3.2,h2.2,h1.2,h.2⟩
 |_=>exact nof h
theorem i_ix{a b:E}(h:mE Tx (.ix a b) N sc p=true):∃l r pos,p=.Subscript l r pos/\mE Tx a N sc l=true/\mE Tx b N sc r=true:=by
 cases p with
 |Subscript l r pos=>
  have h:=aR (show(mE Tx a N sc l&&mE Tx b N sc r)=true from h)
  exact⟨l,r,pos,rfl,h.1,h.2⟩
 |_=>exact nof h
theorem i_sl{a lo hi:E}(h:mE Tx (.sl a lo hi) N sc p=true):∃l pl ph pos pos',p=.Subscript l (.Slice pl ph none pos') pos/\mE Tx a N sc l=true/\((pl=none/\eF lo=true)\/∃q,pl=some q/\aD lo=false/\mE Tx lo N sc q=true)/\((ph=none/\eF hi=true)\/∃q,ph=some q/\aD hi=false/\mE Tx hi N sc q=true):=by
 cases p with
 |Subscript l r pos=>
  cases r with
  |Slice pl ph st pos'=>
   cases st with
   |some _=>exact nof h
   |none=>
    refine⟨l,pl,ph,pos,pos',rfl,?_⟩
    cases pl with
    |none=>
     cases ph with
     |none=>
      have h:=aR (show(mE Tx a N sc l&&eF lo&&eF hi)=true from h)
      exact⟨(aR h.1).1,.inl ⟨rfl,(aR h.1).2⟩,.inl ⟨rfl,h.2⟩⟩
     |some q=>
      have h:=aR (show(mE Tx a N sc l&&eF lo&&(!aD hi&&mE Tx hi N sc q))=true from h)
      exact⟨(aR h.1).1,.inl ⟨rfl,(aR h.1).2⟩,.inr ⟨q,rfl,eM (aR h.2).1,(aR h.2).2⟩⟩
    |some q0=>
     cases ph with
     |none=>
      have h:=aR (show(mE Tx a N sc l&&(!aD lo&&mE Tx lo N sc q0)&&eF hi)=true from h)
      exact⟨(aR h.1).1,.inr ⟨q0,rfl,eM (aR (aR h.1).2).1,(aR (aR h.1).2).2⟩,.inl ⟨rfl,h.2⟩⟩
     |some q=>
      have h:=aR (show(mE Tx a N sc l&&(!aD lo&&mE Tx lo N sc q0)&&(!aD hi&&mE Tx hi N sc q))=true from h)
      exact⟨(aR h.1).1,.inr ⟨q0,rfl,eM (aR (aR h.1).2).1,(aR (aR h.1).2).2⟩,.inr ⟨q,rfl,eM (aR h.2).1,(aR h.2).2⟩⟩
  |_=>exact nof h
 |_=>exact nof h
theorem Bw{a:E}(h:mE Tx (.tup a) N sc p=true):∃es k pos,p=.Tuple es k pos/\mA Tx a false N sc es=true:=by
 cases p<;>first|exact nof h|exact⟨_,_,_,rfl,h⟩
theorem Bx{a:E}(h:mE Tx (.lst a) N sc p=true):∃es pos,p=.List es pos/\mA Tx a false N sc es=true:=by
 cases p<;>first|exact nof h|exact⟨_,_,rfl,h⟩
theorem vB{f:Nat}{a:E}(h:mE Tx (.call f a) N sc p=true):∃n pn es pos,p=.Call (.Name n pn) es [] pos/\(Tx.dn[f]?==some n&&glB sc n&&jE n&&mA Tx a false N sc es)=true:=by
 exact iN h
theorem By {a:E} (h:mE Tx (.dcl a) N sc p=true):∃n pn q pos,p=.Call (.Name n pn) [q] [] pos/\((n == "dict")&&glB sc n&&!aD a&&mE Tx a N sc q)=true:=by
 obtain⟨n,pn,es,pos,rfl,g1⟩:=iN h
 obtain⟨q,rfl,g2⟩:=jF g1
 exact⟨n,pn,q,pos,rfl,g2⟩
theorem i_bt{b:Bt}{a:E}(h:mE Tx (.bt b a) N sc p=true):∃n pn e es pos,p=.Call (.Name n pn) (e::es) [] pos/\(b.use&&(n==b.nm)&&glB sc n&&mA Tx a true N sc (e::es))=true:=by
 obtain⟨n,pn,es,pos,rfl,g1⟩:=iN h
 obtain⟨e,es,rfl,g2⟩:=vL_of g1
 exact⟨n,pn,e,es,pos,rfl,g2⟩
theorem Bz {a:E} (h:mE Tx (.lset a) N sc p=true):∃n pn m pm q pos2 pos,p=.Call (.Name n pn) [.Call (.Name m pm) [q] [] pos2] [] pos/\((n == "len")&&(m == "set")&&glB sc n&&glB sc m&&mE Tx a N sc q)=true:=by
 exact Bh h
theorem CA {a:E} (h:mE Tx (.trng a) N sc p=true):∃n pn m pm q pos2 pos,p=.Call (.Name n pn) [.Call (.Name m pm) [q] [] pos2] [] pos/\((n == "tuple")&&(m == "range")&&glB sc n&&glB sc m&&!aD a&&mE Tx a N sc q)=true:=by
 exact Bh h
theorem CB {a:E} {t:Ty} (h:mE Tx (.isi a t) N sc p=true):∃n pn l m pm pos,p=.Call (.Name n pn) [l,.Name m pm] [] pos/\((n == "isinstance")&&(m==Str.ofString t.nm)&&glB sc n&&glB sc m&&mE Tx a N sc l)=true:=by
 obtain⟨n,pn,es,pos,rfl,g1⟩:=iN h
 obtain⟨l,r,rfl,g2⟩:=Bg g1
 obtain⟨m,pm,rfl,g3⟩:=uZ g2
 exact⟨n,pn,l,m,pm,pos,rfl,g3⟩
end
noncomputable def kC:List Str:=["len", "sum", "tuple", "list", "int", "str", "isinstance", "range", "enumerate", "bool", "abs", "min", "max", "all", "any", "set", "zip", "sorted", "dict"]
set_option genInjectivity false in
structure OkX(T:Tab)(cf:Nat->List D->Res D)(Tx:Txt)(X:Cx):Prop where
 calm:X.calm=true
 roomy:eU X
 defs:∀f n,Tx.dn[f]?=some n->nG T cf X f n
 globs:∀g n,Tx.gn[g]?=some n->Ak X n (T.glob g)
 blt:∀n∈kC,X.mg n=none
 nd:X.N.Nodup
 tf:∀q∈Tx.tf,TabF T cf X q.1 q.2
 ts:∀q∈Tx.ts,TabS X q.1 q.2
 dm:∀q∈Tx.dm,B5 T cf X q.1 q.2
section
variable{T:Tab}{cf:Nat->List D->Res D}{Tx:Txt}{X:Cx}
theorem gJ {i:Nat} {n:Str} {N:List Str} {sc:Scope} (h:cC N sc i n=true):N[i]?=some n/\Vis sc n/\(n==("__debug__" : Str))=false/\(n==("__classdict__" : Str))=false:=by
 simp only[cC,visB,jE,aE,eD,bQ,beq_iff_eq]at h
 refine⟨h.1.1,?_,h.2.1,h.2.2⟩
 rcases h.1.2 with(z|z)|z
 ·exact .inl z
 ·exact .inr (.inl z)
 ·exact .inr (.inr z)
theorem eN{n:Str}(h:glB X.env.scope n=true):Gl X n:=by
 have h':X.env.scope.names.lookup n=some .globalImplicit:=by simpa[glB]using h
 exact h'
noncomputable def vE:Expr->Bool
 |.BoolOp _ _ _=>true
 |_=>false
theorem vF {n:Str} (h:jE n=true):(n==("__debug__" : Str))=false:=by
 simp only[jE,aE,bQ]at h
 exact h.1
theorem CC{loc:Bool}(hN:X.N.Nodup)(hf:∀n,loc=false->X.fn n=true):∀{is:List Nat} {es:List Expr},mGs loc X.N X.env.scope is es=true->SGs X is es/\nH es=true/\es.length=is.length
 |[],[],_=>⟨HN,rfl,rfl⟩
 |[],_::_,h=>by exact nof h
 |_::_,[],h=>by exact nof h
 |i::is,e::es,h=>by
  cases e with
  |Name n pos=>
   change (_&&(_||_)&&_)=true at h
   simp only[aE,eD,beq_iff_eq,bQ]at h
   obtain⟨⟨h1,h2⟩,h3⟩:=h
   obtain⟨a1,a2,a3⟩:=CC hN hf h3
   refine⟨HR hN h1 ?_ ?_ a1,a2,by rw[aN,aN,a3]⟩
   ·rcases h2 with z|z
    ·exact .inl z
    ·exact .inr z.2
   ·rcases h2 with z|z
    ·exact .inr z
    ·exact .inl (hf n z.1)
  |_=>exact nof h
theorem vG{loc:Bool}{g:G}{tg:Expr}(hc:X.calm=true)(hN:X.N.Nodup)(hf:∀n,loc=false->X.fn n=true)(h:mG loc X.N X.env.scope g tg=true):SG X g tg/\bA tg=true:=by
 cases g with
 |one i=>
  cases tg with
  |Name n pos=>
   change (_&&(_||_))=true at h
   simp only[aE,eD,beq_iff_eq,bQ]at h
   refine⟨sg_one hN h.1 ?_ ?_,rfl⟩
   ·rcases h.2 with z|z
    ·exact .inl z
    ·exact .inr z.2
   ·rcases h.2 with z|z
    ·exact .inr z
    ·exact .inl (hf n z.1)
  |_=>exact nof h
 |many is=>
  cases tg with
  |Tuple es k pos=>
   obtain⟨a1,a2,a3⟩:=CC hN hf h
   exact⟨HV hc a2 a3 a1,rfl⟩
  |_=>exact nof h
noncomputable def PEx(T:Tab)(cf:Nat->List D->Res D)(Tx:Txt)(x:E):Prop:=∀X p,OkX T cf Tx X->mE Tx x X.N X.env.scope p=true->SR T cf X x p/\(aD x=false->SE T cf X x p)/\ST T cf X x p/\bA p=true/\(vE p=true->SW T cf X x p)
noncomputable def PAx(T:Tab)(cf:Nat->List D->Res D)(Tx:Txt)(x:E):Prop:=∀X rd ps,OkX T cf Tx X->mA Tx x rd X.N X.env.scope ps=true->SAr T cf X x ps/\(rd=false->SAv T cf X x ps)/\ps.all bA=true
noncomputable def PIx(T:Tab)(cf:Nat->List D->Res D)(Tx:Txt)(x:E):Prop:=∀X rd tg p,OkX T cf Tx X->mI Tx x rd X.N X.env.scope tg p=true->SI T cf X tg x rd p/\bA p=true
theorem noA{x:E}(h:∀rd N sc ps,mA Tx x rd N sc ps=false):PAx T cf Tx x:=λX rd ps _ m=>by rw[h]at m;cases m
theorem noI{x:E}(h:∀rd N sc tg p,mI Tx x rd N sc tg p=false):PIx T cf Tx x:=λX rd tg p _ m=>by rw[h]at m;cases m
theorem noE{x:E}(h:∀N sc p,mE Tx x N sc p=false):PEx T cf Tx x:=λX p _ m=>by rw[h]at m;cases m
theorem dA{x:E}{p:Expr}(h:SE T cf X x p)(he:∀whole,isTrue p X.env whole=(do let v<-whole;standAt p.pos;holding [v] (truthy v)))(hp:bA p=true)(hb:vE p=false:=by rfl):SR T cf X x p/\(aD x=false->SE T cf X x p)/\ST T cf X x p/\bA p=true/\(vE p=true->SW T cf X x p):=
 ⟨h.sr,λ_=>h,BC h.sr he,hp,λz=>by rw[hb]at z;cases z⟩
theorem okC(ok:OkX T cf Tx X){scope:Scope}{C:Addr}{Nc:List Str}{s2:Shared}{H2:Hp}{fp:List Addr}(h:Nc.Nodup):OkX T cf Tx (cxC X scope C Nc s2 H2 fp):=
 ⟨ok.calm,ok.roomy,ok.defs,ok.globs,ok.blt,h,ok.tf,ok.ts,ok.dm⟩
theorem scC_of{scope:Scope}(h:scB X.env.scope scope=true):ScopeC X scope:=by
 simp only[scB,aE,fF,eD,bQ,beq_iff_eq,beq_eq_false_iff_ne,ne_eq]at h
 obtain⟨⟨⟨h1,h2⟩,h3⟩,h4⟩:=h
 refine⟨h1,h2,λx hx e=>?_,λx hx e=>?_,λx hx e=>?_⟩
 ·rcases h3 x hx with z|z
  ·exact absurd e z
  ·exact z
 ·rcases h4 x hx with z|z
  ·exact absurd e z
  ·exact z.1
 ·rcases h4 x hx with z|z
  ·exact absurd e z
  ·exact z.2
theorem capsOk{scope:Scope}{caps:List Nat}{own:Nat}{tn:List Str}(h:nL X.N scope caps=true)(hn:gI caps=true)(ho:own=tn.length):CapsOk X scope own caps (tn++cL X.N caps):=by
 refine⟨by rw[bL,ho,cL,aC],qD hn,λj i hj=>?_⟩
 simp only[nL,fF]at h
 have:=h i (kK hj)
 cases e:X.N[i]? with
 |none=>rw[e]at this;cases this
 |some n=>
  rw[e]at this
  refine⟨n,rfl,?_,by simpa using this⟩
  rw[ho,jN (by lia),show tn.length+j-tn.length=j by lia,cL,bI,hj]
  simp[e]
theorem i_rng {a:E} {rd:Bool} {N:List Str} {sc:Scope} {tg p:Expr} (h:mI Tx (.rng a) rd N sc tg p=true):∃n pn q pos,p=.Call (.Name n pn) [q] [] pos/\((n == "range")&&glB sc n&&!aD a&&mE Tx a N sc q)=true:=by
 obtain⟨n,pn,es,pos,rfl,g1⟩:=iN h
 obtain⟨q,rfl,g2⟩:=jF g1
 exact⟨n,pn,q,pos,rfl,g2⟩
theorem i_rng2 {a b:E} {rd:Bool} {N:List Str} {sc:Scope} {tg p:Expr} (h:mI Tx (.rng2 a b) rd N sc tg p=true):∃n pn q r pos,p=.Call (.Name n pn) [q,r] [] pos/\((n == "range")&&glB sc n&&!aD a&&!aD b&&mE Tx a N sc q&&mE Tx b N sc r)=true:=by
 obtain⟨n,pn,es,pos,rfl,g1⟩:=iN h
 obtain⟨q,r,rfl,g2⟩:=Bg g1
 exact⟨n,pn,q,r,pos,rfl,g2⟩
theorem i_enum {a:E} {rd:Bool} {N:List Str} {sc:Scope} {tg p:Expr} (h:mI Tx (.enum a) rd N sc tg p=true):∃n pn q pos,p=.Call (.Name n pn) [q] [] pos/\((n == "enumerate")&&glB sc n&&uW tg&&(rd||!aD a)&&mE Tx a N sc q)=true:=by
 obtain⟨n,pn,es,pos,rfl,g1⟩:=iN h
 obtain⟨q,rfl,g2⟩:=jF g1
 exact⟨n,pn,q,pos,rfl,g2⟩
theorem CD{own:Nat}{caps:List Nat}{g:G}{elt src cond:E}{N:List Str}{sc:Scope}{p:Expr}(h:mE Tx (.comp own caps g elt src cond) N sc p=true):∃pe tg iter ifs scope pos,p=.ListComp pe [⟨tg,iter,ifs,0⟩] scope pos /\
 scB sc scope=true/\nL N scope caps=true/\gI caps=true/\gI (cK tg++cL N caps)=true/\own=(cK tg).length/\g.below own=true/\mG true (cK tg++cL N caps) (iM scope sc) g tg=true /\
 mI Tx src true N sc tg iter=true/\aD elt=false/\mE Tx elt (cK tg++cL N caps) (iM scope sc) pe=true /\
 ((ifs=[]/\qE cond=true)\/∃c,ifs=[c]/\mE Tx cond (cK tg++cL N caps) (iM scope sc) c=true):=by
 cases p with
 |ListComp pe gens scope pos=>
  rcases gens with _|⟨⟨tg,iter,ifs,isa⟩,_|⟨g2,gens⟩⟩
  ·exact nof h
  ·change (_&&_)=true at h;simp only[aE,bQ,beq_iff_eq]at h
   obtain⟨⟨⟨⟨⟨⟨⟨⟨⟨⟨⟨a1,a2⟩,a3⟩,a4⟩,a5⟩,a6⟩,a7⟩,a8⟩,a9⟩,a10⟩,a11⟩,a12⟩:=h
   subst a1
   refine⟨pe,tg,iter,ifs,scope,pos,rfl,a2,a3,a4,a5,a6,a7,a8,a9,a10,a11,?_⟩
   rcases ifs with _|⟨c,_|⟨c',ifs⟩⟩
   ·exact .inl ⟨rfl,a12⟩
   ·exact .inr ⟨c,rfl,a12⟩
   ·cases a12
  ·exact nof h
 |_=>exact nof h
theorem CF{own:Nat}{caps:List Nat}{g:G}{elt src cond:E}{pe tg iter:Expr}{ifs:List Expr}{scope:Scope}(ok:OkX T cf Tx X)(ie:PEx T cf Tx elt)(is:PIx T cf Tx src)(ic:PEx T cf Tx cond)
 (a2:scB X.env.scope scope=true) (a3:nL X.N scope caps=true) (a4:gI caps=true) (a5:gI (cK tg++cL X.N caps)=true) (a6:own=(cK tg).length) (a8:mG true (cK tg++cL X.N caps) (iM scope X.env.scope) g tg=true)
 (a9:mI Tx src true X.N X.env.scope tg iter=true) (a10:aD elt=false) (a11:mE Tx elt (cK tg++cL X.N caps) (iM scope X.env.scope) pe=true)
 (a12:(ifs=[]/\qE cond=true)\/∃c,ifs=[c]/\mE Tx cond (cK tg++cL X.N caps) (iM scope X.env.scope) c=true) :
 ScopeC X scope/\CapsOk X scope own caps (cK tg++cL X.N caps)/\bA iter=true/\SI T cf X tg src true iter /\
 ∀C s2 H2 fp,(cxC X scope C (cK tg++cL X.N caps) s2 H2 fp).Ok->SG (cxC X scope C (cK tg++cL X.N caps) s2 H2 fp) g tg/\SE T cf (cxC X scope C (cK tg++cL X.N caps) s2 H2 fp) elt pe/\nJ ifs cond (ST T cf (cxC X scope C (cK tg++cL X.N caps) s2 H2 fp) cond):=by
 obtain⟨s1,s2⟩:=is X true tg iter ok a9
 refine⟨scC_of a2,capsOk a3 a4 a6,s2,s1,λC s2 H2 fp _=>?_⟩
 have okc:OkX T cf Tx (cxC X scope C (cK tg++cL X.N caps) s2 H2 fp):=okC ok (qD a5)
 refine⟨(vG (X:=cxC X scope C (cK tg++cL X.N caps) s2 H2 fp) ok.calm okc.nd (λn z=>by cases z) a8).1,(ie _ _ okc a11).2.1 a10,?_⟩
 rcases a12 with⟨z1,z2⟩|⟨c,z1,z2⟩
 ·refine .inl ⟨z1,?_⟩
  unfold qE at z2
  split at z2
  ·rfl
  ·cases z2
 ·exact .inr ⟨c,z1,(ic _ _ okc z2).2.2.1⟩
theorem dB:∀x:E,PEx T cf Tx x/\PAx T cf Tx x/\PIx T cf Tx x:=by
 intro x
 induction x with
 |var i=>
  refine⟨λX p ok h=>?_,noA λrd N sc ps=>rfl,noI λrd N sc tg p=>rfl⟩
  obtain⟨n,pos,rfl,hn⟩:=Bj h
  obtain⟨a1,a2,a3,a4⟩:=gJ hn
  exact dA (se_var a1 a2 a3 a4) (λ_=>rfl) rfl
 |rd i=>
  refine⟨λX p ok h=>?_,noA λrd N sc ps=>rfl,noI λrd N sc tg p=>rfl⟩
  obtain⟨n,pos,rfl,hn⟩:=i_rd h
  obtain⟨a1,a2,a3,a4⟩:=gJ hn
  exact⟨Aj a1 a2 a3 a4,(λz=>by cases z),BC (Aj a1 a2 a3 a4) (λ_=>rfl),rfl,λz=>by cases z⟩
 |con d=>
  refine⟨λX p ok h=>?_,noA λrd N sc ps=>rfl,noI λrd N sc tg p=>rfl⟩
  obtain⟨c,k,pos,rfl,hn⟩:=Bk h
  exact dA (se_con hn) (λ_=>rfl) rfl
 |glob g=>
  refine⟨λX p ok h=>?_,noA λrd N sc ps=>rfl,noI λrd N sc tg p=>rfl⟩
  obtain⟨n,pos,rfl,hn⟩:=Bl h
  simp only[aE,beq_iff_eq]at hn
  exact dA (G7 (eN hn.1.2) (ok.globs g n hn.1.1) (vF hn.2)) (λ_=>rfl) rfl
 |bin o a b iha ihb=>
  refine⟨λX p ok h=>?_,noA λrd N sc ps=>rfl,noI λrd N sc tg p=>rfl⟩
  obtain⟨l,r,pos,rfl,h1,h2⟩:=Bm h
  exact dA (se_bin (iha.1 X l ok h1).1 (ihb.1 X r ok h2).1) (λ_=>rfl) rfl
 |cmp o a b iha ihb=>
  refine⟨λX p ok h=>?_,noA λrd N sc ps=>rfl,noI λrd N sc tg p=>rfl⟩
  obtain⟨l,r,pos,rfl,h1,h2⟩:=Bo h
  have hb:=ihb.1 X r ok h2
  have se:=se_cmp (o:=o) (pos:=pos) ok.roomy hb.2.2.2.1 (iha.1 X l ok h1).1 hb.1
  exact⟨se.sr,λ_=>se,st_cmp ok.roomy hb.2.2.2.1 (iha.1 X l ok h1).1 hb.1,rfl,λz=>by cases z⟩
 |dlit a b iha ihb=>
  refine⟨λX p ok h=>?_,noA λrd N sc ps=>rfl,noI λrd N sc tg p=>rfl⟩
  obtain⟨k,v,pos,rfl,hn⟩:=Bq h
  simp only[aE,bQ]at hn
  exact dA (IH ok.roomy ((iha.1 X k ok hn.1.2).2.1 hn.1.1.1) ((ihb.1 X v ok hn.2).2.1 hn.1.1.2)) (λ_=>rfl) rfl
 |getV a b iha ihb=>
  refine⟨λX p ok h=>?_,noA λrd N sc ps=>rfl,noI λrd N sc tg p=>rfl⟩
  obtain⟨o,nm,apos,q,cpos,rfl,hn⟩:=Br h
  simp only[aE,bQ]at hn
  obtain⟨⟨⟨⟨⟨⟨h1,h2⟩,h3⟩,h4⟩,h5⟩,h6⟩,h7⟩:=hn
  obtain⟨_,b2,_,b4,_⟩:=ihb.1 X q ok h7
  exact dA (IK ok.roomy (eq_of_beq h1) h2 h3 b4 ((iha.1 X o ok h6).2.1 h4) (b2 h5)) (λ_=>rfl) rfl
 |trng a iha=>
  refine⟨λX p ok h=>?_,noA λrd N sc ps=>rfl,noI λrd N sc tg p=>rfl⟩
  obtain⟨n,pn,m,pm,q,pos2,pos,rfl,hn⟩:=CA h
  simp only[aE,bQ]at hn
  obtain⟨⟨⟨⟨⟨h1,h2⟩,h3⟩,h4⟩,h0⟩,h5⟩:=hn
  obtain⟨_,a2,_,a4,_⟩:=iha.1 X q ok h5
  cases eq_of_beq h1
  cases eq_of_beq h2
  exact dA (IJ ok.calm (ok.blt _ (by decide)) (ok.blt _ (by decide)) (eN h3) (eN h4) a4 (a2 h0)) (λ_=>rfl) rfl
 |seqD a iha=>
  refine⟨noE λN sc p=>rfl,noA λrd N sc ps=>rfl,λX rd tg p ok h=>?_⟩
  change (_&&_)=true at h;simp only[aE,bQ]at h
  obtain⟨a1,a2,_,a4,_⟩:=iha.1 X p ok h.2
  cases rd with
  |true=>exact⟨(Bf (a2 h.1)).up,a4⟩
  |false=>exact⟨Bf (a2 h.1),a4⟩
 |and a b iha ihb=>
  refine⟨λX p ok h=>?_,noA λrd N sc ps=>rfl,noI λrd N sc tg p=>rfl⟩
  obtain⟨l,r,rest,pos,rfl,ra,rb,h1,h2⟩:=Bs h
  obtain⟨_,sa,ta,_⟩:=iha.1 X l ok h1
  have sb:SE T cf X b (.BoolOp .And (r::rest) pos)/\SW T cf X b (.BoolOp .And (r::rest) pos):=by
   rcases h2 with⟨rfl,h2⟩|⟨r',rs,rfl,h2⟩
   ·obtain⟨_,b1,b2,_⟩:=ihb.1 X r ok h2
    exact⟨BF (b1 rb),Gs b2⟩
   ·obtain⟨_,b1,b2,_,b5⟩:=ihb.1 X _ ok h2
    exact⟨b1 rb,b5 rfl⟩
  exact⟨(BD (sa ra) sb.1).sr,λ_=>BD (sa ra) sb.1,(BH ta sb.2).st,rfl,λ_=>BH ta sb.2⟩
 |or a b iha ihb=>
  refine⟨λX p ok h=>?_,noA λrd N sc ps=>rfl,noI λrd N sc tg p=>rfl⟩
  obtain⟨l,r,rest,pos,rfl,ra,rb,h1,h2⟩:=i_or h
  obtain⟨_,sa,ta,_⟩:=iha.1 X l ok h1
  have sb:SE T cf X b (.BoolOp .Or (r::rest) pos)/\SW T cf X b (.BoolOp .Or (r::rest) pos):=by
   rcases h2 with⟨rfl,h2⟩|⟨r',rs,rfl,h2⟩
   ·obtain⟨_,b1,b2,_⟩:=ihb.1 X r ok h2
    exact⟨BF (b1 rb),sw_or1 b2⟩
   ·obtain⟨_,b1,b2,_,b5⟩:=ihb.1 X _ ok h2
    exact⟨b1 rb,b5 rfl⟩
  exact⟨(BE (sa ra) sb.1).sr,λ_=>BE (sa ra) sb.1,(BI ta sb.2).st,rfl,λ_=>BI ta sb.2⟩
 |not a iha=>
  refine⟨λX p ok h=>?_,noA λrd N sc ps=>rfl,noI λrd N sc tg p=>rfl⟩
  obtain⟨l,pos,rfl,h1⟩:=Bu h
  obtain⟨a1,_,a3,_,_⟩:=iha.1 X l ok h1
  exact⟨(BG a3 a1).sr,λ_=>BG a3 a1,st_not a3,rfl,λz=>by cases z⟩
 |neg a iha=>
  refine⟨λX p ok h=>?_,noA λrd N sc ps=>rfl,noI λrd N sc tg p=>rfl⟩
  obtain⟨l,pos,rfl,h1⟩:=Bp h
  exact dA (se_neg (iha.1 X l ok h1).1) (λ_=>rfl) rfl
 |ife c a b ihc iha ihb=>
  refine⟨λX p ok h=>?_,noA λrd N sc ps=>rfl,noI λrd N sc tg p=>rfl⟩
  obtain⟨l,m,r,pos,rfl,ra,rb,h1,h2,h3⟩:=Bv h
  have se:=se_ife (pos:=pos) (ihc.1 X l ok h1).2.2.1 ((iha.1 X m ok h2).2.1 ra) ((ihb.1 X r ok h3).2.1 rb)
  exact⟨se.sr,λ_=>se,st_ife (ihc.1 X l ok h1).2.2.1 (iha.1 X m ok h2).2.2.1 (ihb.1 X r ok h3).2.2.1,rfl,λz=>by cases z⟩
 |ix a b iha ihb=>
  refine⟨λX p ok h=>?_,noA λrd N sc ps=>rfl,noI λrd N sc tg p=>rfl⟩
  obtain⟨l,r,pos,rfl,h1,h2⟩:=i_ix h
  have hb:=ihb.1 X r ok h2
  exact dA (se_ix ok.roomy hb.2.2.2.1 (iha.1 X l ok h1).1 hb.1) (λ_=>rfl) rfl
 |sl a lo hi iha ihl ihh=>
  refine⟨λX p ok h=>?_,noA λrd N sc ps=>rfl,noI λrd N sc tg p=>rfl⟩
  obtain⟨l,pl,ph,pos,pos',rfl,h1,h2,h3⟩:=i_sl h
  have part:∀{y:E} {q:Option Expr},PEx T cf Tx y->((q=none/\eF y=true)\/∃r,q=some r/\aD y=false/\mE Tx y X.N X.env.scope r=true)->SO T cf X y q:=by
   intro y q ih hq
   rcases hq with⟨rfl,z⟩|⟨r,rfl,z1,z2⟩
   ·unfold eF at z
    split at z
    ·exact Gk
    ·cases z
   ·exact Gm ((ih X r ok z2).2.1 z1)
  exact dA (se_sl (iha.1 X l ok h1).1 (part ihl.1 h2) (part ihh.1 h3)) (λ_=>rfl) rfl
 | «omit»=>exact⟨noE λN sc p=>rfl,noA λrd N sc ps=>rfl,noI λrd N sc tg p=>rfl⟩
 |tup a iha=>
  refine⟨λX p ok h=>?_,noA λrd N sc ps=>rfl,noI λrd N sc tg p=>rfl⟩
  obtain⟨es,k,pos,rfl,h1⟩:=Bw h
  exact dA (se_tup ((iha.2.1 X false es ok h1).2.1 rfl)) (λ_=>rfl) rfl
 |lst a iha=>
  refine⟨λX p ok h=>?_,noA λrd N sc ps=>rfl,noI λrd N sc tg p=>rfl⟩
  obtain⟨es,pos,rfl,h1⟩:=Bx h
  exact dA (se_lst ((iha.2.1 X false es ok h1).2.1 rfl)) (λ_=>rfl) rfl
 |anil=>
  refine⟨noE λN sc p=>rfl,λX rd ps ok h=>?_,noI λrd N sc tg p=>rfl⟩
  cases ps with
  |nil=>exact⟨Gp,λ_=>sav_nil,rfl⟩
  |cons _ _=>exact nof h
 |acons a r iha ihr=>
  refine⟨noE λN sc p=>rfl,λX rd ps ok h=>?_,noI λrd N sc tg p=>rfl⟩
  cases ps with
  |nil=>exact nof h
  |cons p ps=>
   change (_&&_)=true at h;simp only[aE,eD,bQ]at h
   obtain⟨a1,a2,_,a4,_⟩:=iha.1 X p ok h.1.2
   obtain⟨b1,b2,b3⟩:=ihr.2.1 X rd ps ok h.2
   refine⟨Gq a4 a1 b1,λz=>Gn a4 (a2 ?_) (b2 z),by rw[fG,a4,b3];rfl⟩
   rcases h.1.1 with q|q
   ·rw[z]at q;cases q
   ·exact q
 |call f a iha=>
  refine⟨λX p ok h=>?_,noA λrd N sc ps=>rfl,noI λrd N sc tg p=>rfl⟩
  obtain⟨n,pn,es,pos,rfl,hn⟩:=vB h
  simp only[aE,beq_iff_eq]at hn
  obtain⟨_,b2,b3⟩:=iha.2.1 X false es ok hn.2
  cases es with
  |nil=>
   cases a with
   |anil=>exact dA (Gx (ok.defs f n hn.1.1.1) (eN hn.1.1.2) (vF hn.1.2)) (λ_=>rfl) rfl
   |_=>exact nof hn.2
  |cons e es=>exact dA (Gw (ok.defs f n hn.1.1.1) (eN hn.1.1.2) (vF hn.1.2) b3 (b2 rfl)) (λ_=>rfl) rfl
 |dcl a iha=>
  refine⟨λX p ok h=>?_,noA λrd N sc ps=>rfl,noI λrd N sc tg p=>rfl⟩
  obtain⟨n,pn,q,pos,rfl,hn⟩:=By h
  simp only[aE,beq_iff_eq,bQ]at hn
  obtain⟨⟨⟨rfl,h2⟩,h0⟩,h3⟩:=hn
  obtain⟨_,a2,_,a4,_⟩:=iha.1 X q ok h3
  exact dA (se_dcl ok.calm ok.roomy (ok.blt _ (by decide)) (eN h2) a4 (a2 h0)) (λ_=>rfl) rfl
 |bt b a iha=>
  refine⟨λX p ok h=>?_,noA λrd N sc ps=>rfl,noI λrd N sc tg p=>rfl⟩
  obtain⟨n,pn,e,es,pos,rfl,hn⟩:=i_bt h
  simp only[aE,beq_iff_eq]at hn
  obtain⟨b1,_,b3⟩:=iha.2.1 X true (e::es) ok hn.2
  exact dA (se_bt hn.1.1.1 ok.calm hn.1.1.2 (ok.blt _ (by cases b<;>decide)) (eN hn.1.2) b3 b1) (λ_=>rfl) rfl
 |lset a iha=>
  refine⟨λX p ok h=>?_,noA λrd N sc ps=>rfl,noI λrd N sc tg p=>rfl⟩
  obtain⟨n,pn,m,pm,q,pos2,pos,rfl,hn⟩:=Bz h
  simp only[aE]at hn
  obtain⟨⟨⟨⟨h1,h2⟩,h3⟩,h4⟩,h5⟩:=hn
  obtain⟨a1,_,_,a4,_⟩:=iha.1 X q ok h5
  cases eq_of_beq h1
  cases eq_of_beq h2
  exact dA (Gz ok.calm ok.roomy (ok.blt _ (by decide)) (ok.blt _ (by decide)) (eN h3) (eN h4) a4 a1) (λ_=>rfl) rfl
 |isi a t iha=>
  refine⟨λX p ok h=>?_,noA λrd N sc ps=>rfl,noI λrd N sc tg p=>rfl⟩
  obtain⟨n,pn,l,m,pm,pos,rfl,hn⟩:=CB h
  simp only[aE,beq_iff_eq]at hn
  obtain⟨a1,_,_,a4,_⟩:=iha.1 X l ok hn.2
  exact dA (se_isi hn.1.1.1.1 hn.1.1.1.2 (ok.blt _ (by simp[kC])) (ok.blt _ (by cases t<;>simp[kC,Ty.nm])) (eN hn.1.1.2) (eN hn.1.2) a4 a1) (λ_=>rfl) rfl
 |comp own caps g elt src cond ihe ihs ihc=>
  refine⟨λX p ok h=>?_,noA λrd N sc ps=>rfl,noI λrd N sc tg p=>rfl⟩
  obtain⟨pe,tg,iter,ifs,scope,pos,rfl,a2,a3,a4,a5,a6,a7,a8,a9,a10,a11,a12⟩:=CD h
  obtain⟨c1,c2,c3,c4,c5⟩:=CF ok ihe.1 ihs.2.2 ihc.1 a2 a3 a4 a5 a6 a8 a9 a10 a11 a12
  exact dA (B2 ok.calm c1 c2 a7 c3 c4 c5) (λ_=>rfl) rfl
 |seq a iha=>
  refine⟨noE λN sc p=>rfl,noA λrd N sc ps=>rfl,λX rd tg p ok h=>?_⟩
  change (_&&_)=true at h;simp only[aE,eD,bQ]at h
  obtain⟨a1,a2,_,a4,_⟩:=iha.1 X p ok h.2
  refine⟨si_seq a1 λz=>a2 ?_,a4⟩
  rcases h.1 with q|q
  ·rw[z]at q;cases q
  ·exact q
 |rng a iha=>
  refine⟨noE λN sc p=>rfl,noA λrd N sc ps=>rfl,λX rd tg p ok h=>?_⟩
  obtain⟨n,pn,q,pos,rfl,hn⟩:=i_rng h
  simp only[aE,beq_iff_eq,bQ]at hn
  obtain⟨_,a2,_,a4,_⟩:=iha.1 X q ok hn.2
  exact⟨si_rng hn.1.1.1 (eN hn.1.1.2) (ok.blt _ (by simp[kC])) a4 (a2 hn.1.2),rfl⟩
 |rng2 a b iha ihb=>
  refine⟨noE λN sc p=>rfl,noA λrd N sc ps=>rfl,λX rd tg p ok h=>?_⟩
  obtain⟨n,pn,q,r,pos,rfl,hn⟩:=i_rng2 h
  simp only[aE,beq_iff_eq,bQ]at hn
  obtain⟨_,a2,_,a4,_⟩:=iha.1 X q ok hn.1.2
  obtain⟨_,b2,_,b4,_⟩:=ihb.1 X r ok hn.2
  exact⟨HM hn.1.1.1.1.1 (eN hn.1.1.1.1.2) (ok.blt _ (by simp[kC])) a4 b4 (a2 hn.1.1.1.2) (b2 hn.1.1.2),rfl⟩
 |enum a iha=>
  refine⟨noE λN sc p=>rfl,noA λrd N sc ps=>rfl,λX rd tg p ok h=>?_⟩
  obtain⟨n,pn,q,pos,rfl,hn⟩:=i_enum h
  simp only[aE,beq_iff_eq,bQ,eD]at hn
  obtain⟨a1,a2,_,a4,_⟩:=iha.1 X q ok hn.2
  cases tg with
  |Tuple es kk tpos=>
   refine⟨Hw hn.1.1.1.1 (eN hn.1.1.1.2) (ok.blt _ (by simp[kC])) a4 a1 λz=>a2 ?_,rfl⟩
   rcases hn.1.2 with q|q
   ·rw[z]at q;cases q
   ·exact q
  |_=>exact absurd hn.1.1.2 (by simp[uW])
end
section
variable(Tx:Txt)
noncomputable def mPop(i:Nat)(k:E)(N:List Str)(sc:Scope):Expr->Bool
 |.Call (.Attribute (.Name n _) nm apos) [] [] cpos=>eF k&&cC N sc i n&&(nm == "pop")&&(apos.endLine==cpos.line)
 |.Call (.Attribute (.Name n _) nm apos) [q] [] cpos=>!eF k&&cC N sc i n&&(nm == "pop")&&(apos.endLine==cpos.line)&&!aD k&&mE Tx k N sc q
 |_=>false
noncomputable def IQ:E->Bool
 |.call _ _=>true
 |_=>false
mutual
noncomputable def mB:S->List Str->Scope->List Stmt->Bool
 |.nil,_,_,[]=>true
 |.cons (.sealed _) r,N,sc,ps=>mB r N sc ps
 |.cons a r,N,sc,p::ps=>mS a N sc p&&mB r N sc ps
 |_,_,_,_=>false
termination_by structural x=>x
noncomputable def mS:S->List Str->Scope->Stmt->Bool
 |.ret x,N,sc,.Return (some p) _=>!aD x&&mE Tx x N sc p
 |.retO i,N,sc,.Return (some (.Name n _)) _=>cC N sc i n
 |.asg g x,N,sc,.Assign [tg] p _=>!aD x&&mG false N sc g tg&&mE Tx x N sc p&&((cW p&&nI p)||(match g,tg with | .one _,.Name _ _=>true|_,_=>false))
 |.asgO i x,N,sc,.Assign [.Name n pn] p _=>!aD x&&mG false N sc (.one i) (.Name n pn)&&mE Tx x N sc p
 |.ite c a b,N,sc,.If p ps qs _=>mE Tx c N sc p&&mB a N sc ps&&mB b N sc qs
 |.forS g src b,N,sc,.For tg p ps [] _=>mI Tx src false N sc tg p&&mG false N sc g tg&&mB b N sc ps
 |.app i x,N,sc,p=>vM (λn nm apos cpos=>v1 λq=>cC N sc i n&&(nm == "append")&&(apos.endLine==cpos.line)&&!aD x&&mE Tx x N sc q) p
 |.rev i,N,sc,p=>vM (λn nm apos cpos es=>es.isEmpty&&(cC N sc i n&&(nm == "reverse")&&(apos.endLine==cpos.line))) p
 |.ext i x,N,sc,p=>vM (λn nm apos cpos=>v1 λq=>cC N sc i n&&(nm == "extend")&&(apos.endLine==cpos.line)&&!aD x&&mE Tx x N sc q) p
 |.dput i y x,N,sc,p=>vA (λtg v=>vX (λn q=>cC N sc i n&&cW v&&!aD y&&mE Tx y N sc q&&!aD x&&mE Tx x N sc v) tg) p
 |.popS i k,N,sc,.Expr p _=>mPop Tx i k N sc p
 |.lput i y x,N,sc,p=>vA (λtg v=>vX (λn q=>cC N sc i n&&cW v&&!aD y&&mE Tx y N sc q&&!aD x&&mE Tx x N sc v) tg) p
 |.exp x,N,sc,.Expr p _=>IQ x&&mE Tx x N sc p
 |.newD i,N,sc,p=>vA (λtg v=>vN (λn pn=>vD v&&mG false N sc (.one i) (.Name n pn)) tg) p
 |.newT i,N,sc,p=>vA (λtg v=>vN (λn pn=>vD v&&mG false N sc (.one i) (.Name n pn)) tg) p
 |.dputV i y x,N,sc,p=>vA (λtg v=>vX (λn q=>cC N sc i n&&cW v&&!aD y&&mE Tx y N sc q&&!aD x&&mE Tx x N sc v) tg) p
 |_,_,_,_=>false
termination_by structural x=>x
end
end
set_option genInjectivity false in
structure OkS(T:Tab)(cf:Nat->List D->Res D)(Tx:Txt)(X:Cx):Prop where
 ok:OkX T cf Tx X
 xe:X.xe=λ_ _=>False
 fn:∀n,X.fn n=true
section
variable{T:Tab}{cf:Nat->List D->Res D}{Tx:Txt}{X:Cx}
theorem OkS.pass(o:OkS T cf Tx X):PassesOwn (model X.prog X.w) X.A X.env X.xe:=by rw[o.xe];exact PassesOwn.never
noncomputable def PSx(T:Tab)(cf:Nat->List D->Res D)(Tx:Txt)(x:S):Prop:=∀X p,OkS T cf Tx X->mS Tx x X.N X.env.scope p=true->SS T cf X x p
noncomputable def PBx(T:Tab)(cf:Nat->List D->Res D)(Tx:Txt)(x:S):Prop:=∀X ps,OkS T cf Tx X->mB Tx x X.N X.env.scope ps=true->SB T cf X x ps
theorem noB{x:S}(h:∀N sc ps,mB Tx x N sc ps=false):PBx T cf Tx x:=λX ps _ m=>by rw[h]at m;cases m
theorem noS{x:S}(h:∀N sc p,mS Tx x N sc p=false):PSx T cf Tx x:=λX ps _ m=>by rw[h]at m;cases m
theorem x_comp{x:E}{N:List Str}{sc:Scope}{p:Expr}(hp:cW p=false)(h:mE Tx x N sc p=true):∃own caps g elt src cond,x=.comp own caps g elt src cond:=by
 cases x with
 |comp own caps g elt src cond=>exact⟨_,_,_,_,_,_,rfl⟩
 |var i=>obtain⟨n,pos,rfl,_⟩:=Bj h;cases hp
 |rd i=>obtain⟨n,pos,rfl,_⟩:=i_rd h;cases hp
 |con d=>obtain⟨c,k,pos,rfl,_⟩:=Bk h;cases hp
 |glob d=>obtain⟨c,pos,rfl,_⟩:=Bl h;cases hp
 |bin o a b=>obtain⟨c,_,pos,rfl,_⟩:=Bm h;cases hp
 |cmp o a b=>obtain⟨c,_,pos,rfl,_⟩:=Bo h;cases hp
 |and a b=>obtain⟨c,_,_,pos,rfl,_⟩:=Bs h;cases hp
 |or a b=>obtain⟨c,_,_,pos,rfl,_⟩:=i_or h;cases hp
 |not a=>obtain⟨c,pos,rfl,_⟩:=Bu h;cases hp
 |ife c a b=>obtain⟨c,_,_,pos,rfl,_⟩:=Bv h;cases hp
 |ix a b=>obtain⟨c,_,pos,rfl,_⟩:=i_ix h;cases hp
 |sl a b c=>obtain⟨c,_,_,_,pos,rfl,_⟩:=i_sl h;cases hp
 |tup a=>obtain⟨c,_,pos,rfl,_⟩:=Bw h;cases hp
 |lst a=>obtain⟨c,pos,rfl,_⟩:=Bx h;cases hp
 |call f a=>obtain⟨c,_,_,pos,rfl,_⟩:=vB h;cases hp
 |dcl a=>obtain⟨c,_,_,pos,rfl,_⟩:=By h;cases hp
 |bt f a=>obtain⟨c,_,_,_,pos,rfl,_⟩:=i_bt h;cases hp
 |lset a=>obtain⟨_,_,_,_,_,_,pos,rfl,_⟩:=Bz h;cases hp
 |isi a t=>obtain⟨c,_,_,_,_,pos,rfl,_⟩:=CB h;cases hp
 |neg a=>obtain⟨c,pos,rfl,_⟩:=Bp h;cases hp
 |dlit a b=>obtain⟨_,_,pos,rfl,_⟩:=Bq h;cases hp
 |getV a b=>obtain⟨_,_,_,_,pos,rfl,_⟩:=Br h;cases hp
 |trng a=>obtain⟨_,_,_,_,_,_,pos,rfl,_⟩:=CA h;cases hp
 |_=>exact nof h
theorem i_newD{i:Nat}{N:List Str}{sc:Scope}{p:Stmt}(h:mS Tx (.newD i) N sc p=true):∃n pn dpos pos,p=.Assign [.Name n pn] (.Dict [] [] dpos) pos/\mG false N sc (.one i) (.Name n pn)=true:=by
 obtain⟨tg,v,pos,rfl,g1⟩:=nM h
 obtain⟨n,pn,rfl,g2⟩:=uZ g1
 obtain⟨h1,h2⟩:=aR g2
 obtain⟨dpos,rfl⟩:=Bi h1
 exact⟨n,pn,dpos,pos,rfl,h2⟩
theorem i_newT{i:Nat}{N:List Str}{sc:Scope}{p:Stmt}(h:mS Tx (.newT i) N sc p=true):∃n pn dpos pos,p=.Assign [.Name n pn] (.Dict [] [] dpos) pos/\mG false N sc (.one i) (.Name n pn)=true:=by
 obtain⟨tg,v,pos,rfl,g1⟩:=nM h
 obtain⟨n,pn,rfl,g2⟩:=uZ g1
 obtain⟨h1,h2⟩:=aR g2
 obtain⟨dpos,rfl⟩:=Bi h1
 exact⟨n,pn,dpos,pos,rfl,h2⟩
theorem nN{i:Nat}{n:Str}{pos:Pos}(o:OkS T cf Tx X)(h:mG false X.N X.env.scope (.one i) (.Name n pos)=true):X.N[i]?=some n/\Loc X.env.scope n/\(X.fn n=true\/X.env.scope.names.lookup n=some .local):=by
 change (_&&(_||_))=true at h
 simp only[aE,eD,beq_iff_eq,bQ,Bool.not_false,true_and]at h
 exact⟨h.1,h.2,.inl (o.fn n)⟩
theorem CG{i:Nat}{n:Str}{pos pos':Pos}{x:E}{p:Expr}(b:Bool)(o:OkS T cf Tx X)(hp:cW p=false)(h1:mG false X.N X.env.scope (.one i) (.Name n pos)=true)(h2:mE Tx x X.N X.env.scope p=true):SS T cf X (if b then .asgO i x else .asg (.one i) x) (.Assign [.Name n pos] p pos'):=by
 obtain⟨own,caps,g,elt,src,cond,rfl⟩:=x_comp hp h2
 obtain⟨pe,tg,iter,ifs,scope,pos2,rfl,a2,a3,a4,a5,a6,a7,a8,a9,a10,a11,a12⟩:=CD h2
 obtain⟨c1,c2,c3,c4,c5⟩:=CF o.ok (dB elt).1 (dB src).2.2 (dB cond).1 a2 a3 a4 a5 a6 a8 a9 a10 a11 a12
 obtain⟨n1,n2,n3⟩:=nN o h1
 exact Hs o.ok.nd n1 n2 n3 o.ok.calm c1 c2 a7 c3 c4 b c5
theorem i_app {i:Nat} {x:E} {N:List Str} {sc:Scope} {p:Stmt} (h:mS Tx (.app i x) N sc p=true):∃n px nm apos q cpos pos,p=.Expr (.Call (.Attribute (.Name n px) nm apos) [q] [] cpos) pos/\(cC N sc i n&&(nm == "append")&&(apos.endLine==cpos.line)&&!aD x&&mE Tx x N sc q)=true:=by
 obtain⟨n,px,nm,apos,es,cpos,pos,rfl,g1⟩:=uX h
 obtain⟨q,rfl,g2⟩:=jF g1
 exact⟨n,px,nm,apos,q,cpos,pos,rfl,g2⟩
theorem i_ext {i:Nat} {x:E} {N:List Str} {sc:Scope} {p:Stmt} (h:mS Tx (.ext i x) N sc p=true):∃n px nm apos q cpos pos,p=.Expr (.Call (.Attribute (.Name n px) nm apos) [q] [] cpos) pos/\(cC N sc i n&&(nm == "extend")&&(apos.endLine==cpos.line)&&!aD x&&mE Tx x N sc q)=true:=by
 obtain⟨n,px,nm,apos,es,cpos,pos,rfl,g1⟩:=uX h
 obtain⟨q,rfl,g2⟩:=jF g1
 exact⟨n,px,nm,apos,q,cpos,pos,rfl,g2⟩
theorem pop_at{k:E}(h:eF k=false):∀d m,jZ m k d=jY m d:=by
 intro d m
 cases k<;>first|rfl|(cases h;done)
theorem pop_of{i:Nat}{k:E}{p:Expr}(o:OkX T cf Tx X)(h:mPop Tx i k X.N X.env.scope p=true):(∀H₀ O₀,PE X p (pZ T cf X.K H₀ O₀ i k))/\cW p=true/\nI p=true/\bA p=true:=by
 cases p with
 |Call f es ks cpos=>cases f with
  |Attribute b nm apos=>cases b with
   |Name n px=>
    rcases es with _|⟨q,_|⟨q',es⟩⟩
    ·cases ks with
     |nil=>
      change (eF k&&cC X.N X.env.scope i n&&(nm == "pop")&&(apos.endLine==cpos.line))=true at h
      simp only[aE]at h
      obtain⟨⟨⟨h1,h2⟩,h3⟩,h4⟩:=h
      obtain⟨a1,a2,a3,a4⟩:=gJ h2
      have e:k=.omit:=by
       cases k<;>first|rfl|(cases h1;done)
      subst e
      exact⟨Hg a1 a2 a3 a4 (eq_of_beq h3) h4,rfl,rfl,rfl⟩
     |cons _ _=>exact nof h
    ·cases ks with
     |nil=>
      change (!eF k&&cC X.N X.env.scope i n&&(nm == "pop")&&(apos.endLine==cpos.line)&&!aD k&&mE Tx k X.N X.env.scope q)=true at h
      simp only[aE,bQ]at h
      obtain⟨⟨⟨⟨⟨h1,h2⟩,h3⟩,h4⟩,h5⟩,h6⟩:=h
      obtain⟨a1,a2,a3,a4⟩:=gJ h2
      obtain⟨_,b2,_,b4,_⟩:=(dB k).1 X q o h6
      exact⟨Hh a1 a2 a3 a4 (eq_of_beq h3) h4 b4 (pop_at h1) (b2 h5),rfl,rfl,rfl⟩
     |cons _ _=>exact nof h
    ·exact nof h
   |_=>exact nof h
  |_=>exact nof h
 |_=>exact nof h
theorem i_dput{i:Nat}{y x:E}{N:List Str}{sc:Scope}{p:Stmt}(h:mS Tx (.dput i y x) N sc p=true):∃n px q tpos v pos,p=.Assign [.Subscript (.Name n px) q tpos] v pos/\(cC N sc i n&&cW v&&!aD y&&mE Tx y N sc q&&!aD x&&mE Tx x N sc v)=true:=by
 obtain⟨tg,v,pos,rfl,g1⟩:=nM h
 obtain⟨n,px,q,tpos,rfl,g2⟩:=uY g1
 exact⟨n,px,q,tpos,v,pos,rfl,g2⟩
theorem IR{i:Nat}{y x:E}{N:List Str}{sc:Scope}{p:Stmt}(h:mS Tx (.dputV i y x) N sc p=true):∃n px q tpos v pos,p=.Assign [.Subscript (.Name n px) q tpos] v pos/\(cC N sc i n&&cW v&&!aD y&&mE Tx y N sc q&&!aD x&&mE Tx x N sc v)=true:=by
 obtain⟨tg,v,pos,rfl,g1⟩:=nM h
 obtain⟨n,px,q,tpos,rfl,g2⟩:=uY g1
 exact⟨n,px,q,tpos,v,pos,rfl,g2⟩
theorem i_lput{i:Nat}{y x:E}{N:List Str}{sc:Scope}{p:Stmt}(h:mS Tx (.lput i y x) N sc p=true):∃n px q tpos v pos,p=.Assign [.Subscript (.Name n px) q tpos] v pos/\(cC N sc i n&&cW v&&!aD y&&mE Tx y N sc q&&!aD x&&mE Tx x N sc v)=true:=by
 obtain⟨tg,v,pos,rfl,g1⟩:=nM h
 obtain⟨n,px,q,tpos,rfl,g2⟩:=uY g1
 exact⟨n,px,q,tpos,v,pos,rfl,g2⟩
theorem i_rev {i:Nat} {N:List Str} {sc:Scope} {p:Stmt} (h:mS Tx (.rev i) N sc p=true):∃n px nm apos cpos pos,p=.Expr (.Call (.Attribute (.Name n px) nm apos) [] [] cpos) pos/\(cC N sc i n&&(nm == "reverse")&&(apos.endLine==cpos.line))=true:=by
 obtain⟨n,px,nm,apos,es,cpos,pos,rfl,g1⟩:=uX h
 obtain⟨h1,h2⟩:=aR g1
 cases es with
 |nil=>exact⟨n,px,nm,apos,cpos,pos,rfl,h2⟩
 |cons _ _=>exact nof h1
theorem IS{i:Nat}{n:Str}{x:E}{p:Expr}{pos pos':Pos}(hx:cW p=true)(hN:X.N.Nodup)(hi:X.N[i]?=some n)(hl:Loc X.env.scope n)(hf:X.fn n=true\/X.env.scope.names.lookup n=some .local)(h:SE T cf X x p):SS T cf X (.asg (.one i) x) (.Assign [.Name n pos'] p pos):=λH₀ O₀=>by
 refine PS.imp (λD' σ H hq=>?_) (mO hN hi hl (h H₀ O₀) (jD hx) hf)
 obtain⟨ts,e,out,⟨O,own,F,tt⟩,ev,k⟩:=hq
 rw[pI]at ev
 obtain⟨d,e1,ev⟩:=Res.bind_ok ev
 obtain⟨e2,e3,ev⟩:=Res.bind_ok ev
 cases ev
 cases e3
 exact⟨O,own,e,d,F,e1,λv H' s' r n=>k _ H' ⟨O,_,(F.grow s').setV i r,λt ht=>(tt t ht).same s'⟩⟩
theorem wholeS:∀x:S,PSx T cf Tx x/\PBx T cf Tx x:=by
 intro x
 induction x with
 |nil=>
  refine⟨noS λN sc p=>rfl,λX ps o h=>?_⟩
  cases ps with
  |nil=>exact sb_nil
  |cons _ _=>exact nof h
 |cons a r iha ihr=>
  refine⟨noS λN sc p=>rfl,λX ps o h=>?_⟩
  by_cases hs:∃i,a=.sealed i
  ·obtain⟨i,rfl⟩:=hs
   exact HX (ihr.2 X ps o h)
  ·cases ps with
   |nil=>
    exfalso
    cases a<;>first|(exact hs ⟨_,rfl⟩)|exact nof h
   |cons p ps=>
    have h':(mS Tx a X.N X.env.scope p&&mB Tx r X.N X.env.scope ps)=true:=by
     cases a<;>first|(exact absurd ⟨_,rfl⟩ hs)|exact h
    rw[aE]at h'
    exact HW (iha.1 X p o h'.1) (ihr.2 X ps o h'.2)
 |ret x=>
  refine⟨λX p o h=>?_,noB λN sc ps=>rfl⟩
  cases p with
  |Return v pos=>cases v with
   |some p=>
    change (_&&_)=true at h;simp only[aE,bQ]at h
    exact ss_ret (((dB x).1 X p o.ok h.2).2.1 h.1)
   |none=>exact nof h
  |_=>exact nof h
 |retO i=>
  refine⟨λX p o h=>?_,noB λN sc ps=>rfl⟩
  cases p with
  |Return v pos=>cases v with
   |some p=>cases p with
    |Name n pn=>
     obtain⟨a1,a2,a3,a4⟩:=gJ h
     exact HY a1 a2 a3 a4
    |_=>exact nof h
   |none=>exact nof h
  |_=>exact nof h
 |asg g x=>
  refine⟨λX p o h=>?_,noB λN sc ps=>rfl⟩
  cases p with
  |Assign tgs p pos=>
   rcases tgs with _|⟨tg,_|⟨t2,tgs⟩⟩
   ·exact nof h
   ·change (_&&_)=true at h;simp only[aE,bQ,eD]at h
    obtain⟨⟨⟨h1,h2⟩,h3⟩,h4⟩:=h
    obtain⟨g1,g2⟩:=vG o.ok.calm o.ok.nd (λn _=>o.fn n) h2
    by_cases hc:cW p=true
    ·by_cases ht:nI p=true
     ·exact ss_asg hc ht g2 (((dB x).1 X p o.ok h3).2.1 h1) g1
     ·rcases h4 with z|z
      ·exact absurd z.2 ht
      ·cases g with
       |one i=>cases tg with
        |Name n pn=>
         obtain⟨n1,n2,n3⟩:=nN o h2
         exact IS hc o.ok.nd n1 n2 n3 (((dB x).1 X p o.ok h3).2.1 h1)
        |_=>cases z
       |many _=>cases z
    ·have hc':cW p=false:=by simpa using hc
     rcases h4 with z|z
     ·exact absurd z.1 hc
     ·cases g with
      |one i=>cases tg with
       |Name n pn=>exact CG false o hc' h2 h3
       |_=>cases z
      |many _=>cases z
   ·exact nof h
  |_=>exact nof h
 |asgO i x=>
  refine⟨λX p o h=>?_,noB λN sc ps=>rfl⟩
  cases p with
  |Assign tgs p pos=>
   rcases tgs with _|⟨tg,_|⟨t2,tgs⟩⟩
   ·exact nof h
   ·cases tg with
    |Name n pn=>
     change (_&&_)=true at h;simp only[aE,bQ]at h
     obtain⟨⟨h1,h2⟩,h3⟩:=h
     by_cases hc:cW p=true
     ·obtain⟨n1,n2,n3⟩:=nN o h2
      exact H_ hc o.ok.nd n1 n2 n3 (((dB x).1 X p o.ok h3).2.1 h1)
     ·exact CG true o (by simpa using hc) h2 h3
    |_=>exact nof h
   ·cases tg<;>exact nof h
  |_=>exact nof h
 | «sealed» i=>exact⟨noS λN sc p=>rfl,noB λN sc ps=>rfl⟩
 |ite c a b iha ihb=>
  refine⟨λX p o h=>?_,noB λN sc ps=>rfl⟩
  cases p with
  |If p ps qs pos=>
   change (_&&_)=true at h;simp only[aE]at h
   exact ss_ite ((dB c).1 X p o.ok h.1.1).2.2.1 (iha.2 X ps o h.1.2) (ihb.2 X qs o h.2)
  |_=>exact nof h
 |forS g src b ihb=>
  refine⟨λX p o h=>?_,noB λN sc ps=>rfl⟩
  cases p with
  |For tg p ps qs pos=>cases qs with
   |nil=>
    change (_&&_)=true at h;simp only[aE]at h
    have hg:=(vG o.ok.calm o.ok.nd (λn _=>o.fn n) h.1.2).1
    obtain⟨s1,s2⟩:=(dB src).2.2 X false tg p o.ok h.1.1
    exact ss_for o.pass o.ok.calm s2 s1 hg (ihb.2 X ps o h.2)
   |cons _ _=>exact nof h
  |_=>exact nof h
 |app i x=>
  refine⟨λX p o h=>?_,noB λN sc ps=>rfl⟩
  obtain⟨n,px,nm,apos,q,cpos,pos,rfl,hn⟩:=i_app h
  simp only[aE,beq_iff_eq,bQ]at hn
  obtain⟨a1,a2,a3,a4⟩:=gJ hn.1.1.1.1
  obtain⟨_,b2,_,b4,_⟩:=(dB x).1 X q o.ok hn.2
  exact ss_app a1 a2 a3 a4 hn.1.1.1.2 (by simpa using hn.1.1.2) b4 (b2 hn.1.2)
 |rev i=>
  refine⟨λX p o h=>?_,noB λN sc ps=>rfl⟩
  obtain⟨n,px,nm,apos,cpos,pos,rfl,hn⟩:=i_rev h
  simp only[aE,beq_iff_eq]at hn
  obtain⟨a1,a2,a3,a4⟩:=gJ hn.1.1
  exact ss_rev a1 a2 a3 a4 hn.1.2 (by simpa using hn.2)
 |ext i x=>
  refine⟨λX p o h=>?_,noB λN sc ps=>rfl⟩
  obtain⟨n,px,nm,apos,q,cpos,pos,rfl,hn⟩:=i_ext h
  simp only[aE,beq_iff_eq,bQ]at hn
  obtain⟨a1,a2,a3,a4⟩:=gJ hn.1.1.1.1
  obtain⟨_,b2,_,b4,_⟩:=(dB x).1 X q o.ok hn.2
  exact ss_ext a1 a2 a3 a4 hn.1.1.1.2 (by simpa using hn.1.1.2) b4 (b2 hn.1.2)
 |dput i y x=>
  refine⟨λX p o h=>?_,noB λN sc ps=>rfl⟩
  obtain⟨n,px,q,tpos,v,pos,rfl,hn⟩:=i_dput h
  simp only[aE,bQ]at hn
  obtain⟨a1,a2,a3,a4⟩:=gJ hn.1.1.1.1.1
  obtain⟨_,b2,_⟩:=(dB y).1 X q o.ok hn.1.1.2
  obtain⟨_,c2,_⟩:=(dB x).1 X v o.ok hn.2
  exact Hd o.ok.roomy a1 a2 a3 a4 hn.1.1.1.1.2 (b2 hn.1.1.1.2) (c2 hn.1.2)
 |popS i k=>
  refine⟨λX p o h=>?_,noB λN sc ps=>rfl⟩
  cases p with
  |Expr q pos=>
   have h:mPop Tx i k X.N X.env.scope q=true:=h
   obtain⟨p1,p2,p3,p4⟩:=pop_of o.ok h
   refine Hj ?_ p1
   cases q with
   |Call f es ks cpos=>rfl
   |_=>exact nof h
  |_=>exact nof h
 |lput i y x=>
  refine⟨λX p o h=>?_,noB λN sc ps=>rfl⟩
  obtain⟨n,px,q,tpos,v,pos,rfl,hn⟩:=i_lput h
  simp only[aE,bQ]at hn
  obtain⟨⟨⟨⟨⟨h1,h2⟩,h4⟩,h5⟩,h6⟩,h7⟩:=hn
  obtain⟨a1,a2,a3,a4⟩:=gJ h1
  obtain⟨_,b2,_,b4,_⟩:=(dB y).1 X q o.ok h5
  obtain⟨_,c2,_⟩:=(dB x).1 X v o.ok h7
  exact Hk a1 a2 a3 a4 h2 (b2 h4) (c2 h6) (λw=>by cases q<;>first|rfl|(exact nof b4))
 |exp x=>
  refine⟨λX p o h=>?_,noB λN sc ps=>rfl⟩
  cases p with
  |Expr q pos=>
   change (_&&_)=true at h;simp only[aE]at h
   cases x with
   |call f a=>
    have b:=((dB (.call f a)).1 X q o.ok h.2).2.1 rfl
    obtain⟨c,_,_,pos2,rfl,_⟩:=vB h.2
    exact ss_exp rfl b
   |_=>exact nof h.1
  |_=>exact nof h
 |newD i=>
  refine⟨λX p o h=>?_,noB λN sc ps=>rfl⟩
  obtain⟨n,pn,dpos,pos,rfl,hn⟩:=i_newD h
  obtain⟨n1,n2,n3⟩:=nN o hn
  exact Ha o.ok.nd n1 n2 n3
 |newT i=>
  refine⟨λX p o h=>?_,noB λN sc ps=>rfl⟩
  obtain⟨n,pn,dpos,pos,rfl,hn⟩:=i_newT h
  obtain⟨n1,n2,n3⟩:=nN o hn
  exact Hc o.ok.nd n1 n2 n3
 |dputV i y x=>
  refine⟨λX p o h=>?_,noB λN sc ps=>rfl⟩
  obtain⟨n,px,q,tpos,v,pos,rfl,hn⟩:=IR h
  simp only[aE,bQ]at hn
  obtain⟨⟨⟨⟨⟨h1,h2⟩,h3⟩,h4⟩,h5⟩,h6⟩:=hn
  obtain⟨a1,a2,a3,a4⟩:=gJ h1
  exact IP o.ok.roomy a1 a2 a3 a4 h2 (((dB y).1 X q o.ok h4).2.1 h3) (((dB x).1 X v o.ok h6).2.1 h5)
end
end Tr
namespace Tr
open PySem PySem.Spec PyProof.Rows L2 PySem.W
section
variable{T:Tab}{cf:Nat->List D->Res D}{Tx:Txt}
end
end Tr
namespace Tr
open PySem PySem.Spec PyProof.Rows L2
set_option genInjectivity false in
structure DefT where
 nm:Str
 st:Stmt
 N:List Str
 ps:List Str
 body:S
 told:Option Told:=none
noncomputable def DefT.df(t:DefT):Df:=⟨t.N.length,t.ps.length,t.body,t.told⟩
noncomputable def qF(N P:List Str)(sc:Scope):Bool:=(sc.kind==.function)&&!sc.isCoroutine&&!sc.isGenerator&&gI N&&(N.take P.length==P)&&P.all (λx=>(sc.names.lookup x==some .local)||(sc.names.lookup x==some .cell))&&sc.names.all (λy=>!(y.2==.free))
theorem IT{N P:List Str}{sc:Scope}(h:qF N P sc=true):FnScope N P sc:=by
 simp only[qF,aE,fF,eD,bQ,beq_iff_eq,beq_eq_false_iff_ne,ne_eq]at h
 obtain⟨⟨⟨⟨⟨⟨h1,h2⟩,h3⟩,h4⟩,h5⟩,h6⟩,h7⟩:=h
 exact⟨h1,h2,h3,qD h4,h5,h6,h7⟩
noncomputable def DefT.okB(Tx:Txt)(t:DefT):Bool:=qF t.N t.ps (dE t.st)&&(t.told.isSome||mB Tx t.body t.N (dE t.st) (gA t.st))
noncomputable def CH(K:PySem.W.Frag)(mg:Str->Option Value)(n:Str)(d:D):Prop:=∃v u,mg n=some u/\RelV v u/\∀H O,RD K H O d v
noncomputable def initB(f:Str)(ps N:List Str)(st:Stmt):Bool:=qF N ps (dE st)&&(ps.length==2)&&(match gA st with
 |[.Assign [.Attribute (.Name s _) g _] (.Name x _) _]=>(g==f)&&cC N (dE st) 0 s&&cC N (dE st) 1 x
 |_=>false)
noncomputable def IniK (K:PySem.W.Frag) (mg:Str->Option Value) (c:Str):Prop:=∃(C fI:Addr) (fd:FuncData) (ps N:List Str) (qual:Str) (st:Stmt),mg c=some (.ref C)/\cvK K c=.ref C/\InitCls K C fI "at" /\ PySem.W.isFn K (.ref fI)=true/\Fun K "__init__" qual st fI fd/\Binds K fd ps []/\initB "at" ps N st=true
structure TextOk0(K:PySem.W.Frag)(mg:Str->Option Value)(T:Tab)(Tx:Txt)(defs:List DefT):Prop where
 dn:∀g nm,Tx.dn[g]?=some nm->T.mv g=none/\∃t,defs[g]?=some t/\nm=t.nm
 ok:defs.all (·.okB Tx)=true
 funs:∀t∈defs,∃f fd,Fun K t.nm t.nm t.st f fd/\mg t.nm=some (.ref f)/\Binds K fd t.ps []
 globs:∀g n,Tx.gn[g]?=some n->CH K mg n (T.glob g)
 blt:∀n∈kC,mg n=none
 tf:∀q∈Tx.tf,∃(a:Addr)(xs:List V),mg q.1=some (.ref a)/\(∀H,SqT K H a xs)/\xs.length=q.2.length/\∀(j f:Nat),q.2[j]?=some f->∃(ad:Addr)(t:DefT),xs[j]?=some (V.ref ad)/\mg t.nm=some (.ref ad)/\defs[f]?=some t
 ts:∀q∈Tx.ts,∃a:Addr,mg q.1=some (.ref a)/\ModS K a q.2
 cls:∀c∈Tx.cls,∃C,ClsIs K mg c C
 ini:∀c∈Tx.icl,IniK K mg c
 dm:∀q∈Tx.dm,∃t,defs[q.1]?=some t/\q.2=t.nm
 tmv:∀q∈Tx.tf,∀f∈q.2,T.mv f=none
noncomputable def ToldOk(K:PySem.W.Frag)(mg:Str->Option Value)(T:Tab)(defs:List DefT)(t:DefT):Prop:=∀(P:Program)(w:World)(base:Heap)(n i:Nat)(f:Addr)(fd:FuncData),defs[i]?=some t->Fun K t.nm t.nm t.st f fd ->
 (∀i t,defs[i]?=some t->∀f fd,Fun K t.nm t.nm t.st f fd->FnOk P w K mg base (CXE P w) (n+2) f fd t.ps (iL K T (callF T (defs.map DefT.df) n i) i)) ->
 FnOk P w K mg base (CXE P w) (n+1+2) f fd t.ps (spD K (callF T (defs.map DefT.df) (n+1) i) (T.fresh i))
set_option genInjectivity false in
structure TextOk(K:PySem.W.Frag)(mg:Str->Option Value)(T:Tab)(Tx:Txt)(defs:List DefT):Prop extends TextOk0 K mg T Tx defs where
 told:∀t∈defs,∀td,t.told=some td->ToldOk K mg T defs t
 nmv:∀i t,defs[i]?=some t->t.told.isSome=true->T.mv i=none
theorem dn_of{T:Tab}{Tx:Txt}{defs:List DefT}(h1:(defs.take Tx.dn.length).map (·.nm)=Tx.dn)(h2:(aA Tx.dn.length).all (λg=>(T.mv g).isNone)=true):∀g nm,Tx.dn[g]?=some nm->T.mv g=none/\∃t,defs[g]?=some t/\nm=t.nm:=λg nm h=>by
 have hl:g<Tx.dn.length:=by
  by_cases z:g<Tx.dn.length
  ·exact z
  ·rw[mM (by lia)]at h;cases h
 refine⟨Option.isNone_iff_eq_none.mp (fF.mp h2 g (cO.mpr hl)),?_⟩
 rw[<-h1,bI,K5 hl]at h
 cases e:defs[g]? with
 |none=>rw[e]at h;cases h
 |some t=>rw[e]at h;cases h;exact⟨t,rfl,rfl⟩
theorem okx_of{P:Program}{w:World}{K:PySem.W.Frag}{mg:Str->Option Value}{base:Heap}{T:Tab}{Tx:Txt}{defs:List DefT}(X:TextOk0 K mg T Tx defs){n:Nat}{N:List Str}{nm:Str}{sc:Scope}{f:Addr}{cdv:Value}{A:Around}{outer:List Env}{s:Shared}{H:Hp}{E:XK}(hr:Room (n+2) (A.deeper (envOfC nm sc s.heap.objs.size f cdv)))(nd:N.Nodup)
 (ih:∀i t,defs[i]?=some t->∀f fd,Fun K t.nm t.nm t.st f fd->FnOk P w K mg base (CXE P w) (n+2) f fd t.ps (iL K T (callF T (defs.map DefT.df) n i) i)) :
 OkX T (callF T (defs.map DefT.df) n) Tx (fZ (CXE P w) P w K mg base N nm sc f cdv A outer s H E).nox:=by
 have dfa:∀g t',defs[g]?=some t'->B5 T (callF T (defs.map DefT.df) n) (fZ (CXE P w) P w K mg base N nm sc f cdv A outer s H E).nox g t'.nm:=λg t' e=>by
  obtain⟨f',fd',F',m',b'⟩:=X.funs t' (kK e)
  exact⟨n+2,f',fd',t'.ps,ih g t' e f' fd' F',hr,m',F'.kp,b'⟩
 have dfi:∀g t',T.mv g=none->defs[g]?=some t'->nG T (callF T (defs.map DefT.df) n) (fZ (CXE P w) P w K mg base N nm sc f cdv A outer s H E).nox g t'.nm:=λg t' hm e=>by
  obtain⟨k',f',fd',ps',h1,h2⟩:=dfa g t' e
  rw[nK hm]at h1
  exact⟨k',f',fd',ps',h1,h2⟩
 exact⟨rfl,hr.units,λg nm hg=>by
  obtain⟨hm,t',e,rfl⟩:=X.dn g nm hg
  exact dfi g t' hm e,λg nm hg=>X.globs g nm hg,X.blt,nd,λq hq=>by
  obtain⟨a,xs,h1,h2,h3,h4⟩:=X.tf q hq
  refine⟨a,xs,h1,h2,h3,λj g hg=>?_⟩
  obtain⟨ad,t',h5,h6,h7⟩:=h4 j g hg
  exact⟨ad,t'.nm,h5,h6,dfi g t' (X.tmv q hq g (kK hg)) h7⟩,X.ts,λq hq=>by
  obtain⟨t',e,e2⟩:=X.dm q hq
  rw[e2]
  exact dfa q.1 t' e⟩
theorem CI{P:Program}{w:World}{K:PySem.W.Frag}{mg:Str->Option Value}{base:Heap}{x qual:Str}{st:Stmt}{f:Addr}{fd:FuncData}{N ps:List Str}{k:Nat}{sp:Sp}(F:Fun K x qual st f fd)(S:FnScope N ps (dE st))(len:∀vs H Q E,sp vs H Q E->vs.length=ps.length)
 (hbody:∀(cdv:Value)(A:Around)(outer:List Env)(s:Shared)(H:Hp)(vs:List V)(Q:VK)(E:XK),Room k (A.deeper (envOfC qual (dE st) s.heap.objs.size f cdv))->sp vs H Q E ->
  ∃t,PSs (fZ (CXE P w) P w K mg base N qual (dE st) f cdv A outer s H E) (gA st) t/\t {nx:=λ_ H'=>Q .non H',rt:=Q} (cV N vs) H):FnOk P w K mg base (CXE P w) (k+1) f fd ps sp:=by
 obtain⟨oc,od,kV,doc,pm,an,cdv,ct,osl,rfl,lk,hcd⟩:=F.ex
 exact fn_of lk hcd S len λA outer s H vs Q E hr hsp=>hbody cdv A outer s H vs Q E hr hsp
section
variable{P:Program}{w:World}{K:PySem.W.Frag}{mg:Str->Option Value}{base:Heap}{T:Tab}{Tx:Txt}{defs:List DefT}
theorem CJ{H Hb:Hp}{O:Addr->Prop}{N:List Str}{ds:List D}{vs:List V}(sm:Same Hb H)(w:RDs K H O ds vs)(tr:∀a,O a->∃o,Hb a=some o)(n:Nat)(hn:n=N.length-vs.length) :
 Fm K Hb O H O (λ_=>none) (ds.map Sl.v++aM n Sl.no) (cV N vs) where
 len:=by
  unfold L2.cV
  rw[bL,bL,aC,aC,eB,eB,w.length,hn,w.length]
 sl:=λi=>by
  by_cases hi:i<ds.length
  ·obtain⟨v,h1,h2⟩:=w.get (aH hi)
   have e1:Nv.at (ds.map Sl.v++aM n Sl.no) i=.v ds[i]:=by
    unfold Nv.at
    rw[lW (by rw[aC];exact hi),bI,aH hi];rfl
   have e2:bW (cV N vs) i=some v:=by
    unfold bW L2.cV
    rw[lW (by rw[aC,w.length];exact hi),bI,h1];rfl
   rw[e1,e2]
   exact⟨v,rfl,h2⟩
  ·have e1:Nv.at (ds.map Sl.v++aM n Sl.no) i=.no:=by
    unfold Nv.at
    rw[jN (by rw[aC];lia),oF]
    split<;>rfl
   rw[e1];trivial
 inj:=λ_ _ _ h=>by cases h
 same:=sm
 sub:=λ_ h=>h
 trk0:=tr
 trk:=λa h=>let ⟨o,q⟩:=tr a h;⟨o,sm _ _ q⟩
 new:=λ_ _ h=>by cases h
 nw:=λi d a h _=>by
  exfalso
  by_cases hi:i<ds.length
  ·have e1:Nv.at (ds.map Sl.v++aM n Sl.no) i=.v ds[i]:=by
    unfold Nv.at
    rw[lW (by rw[aC];exact hi),bI,aH hi];rfl
   rw[e1]at h;cases h
  ·have e1:Nv.at (ds.map Sl.v++aM n Sl.no) i=.no:=by
    unfold Nv.at
    rw[jN (by rw[aC];lia),oF]
    split<;>rfl
   rw[e1]at h;cases h
theorem IU{H:Hp}{O:Addr->Prop}{N:List Str}{ds:List D}{vs:List V}(w:RDs K H O ds vs)(tr:∀a,O a->∃o,H a=some o)(n:Nat)(hn:n=N.length-vs.length) :
 Fm K H O H O (λ_=>none) (ds.map Sl.v++aM n Sl.no) (cV N vs):=CJ (Same.refl H) w tr n hn
theorem IV{H Hb:Hp}{O:Addr->Prop}{N:List Str}{ds:List D}{vs:List V}(sm:Same Hb H)(w:RDs K H O ds vs)(tr:∀a,O a->∃o,Hb a=some o)(n:Nat)(hn:n=N.length-vs.length){j:Nat}{d0:D}{v0:V}(h1:ds[j]?=some d0)(h2:vs[j]?=some v0)(h3:NV K H O d0 v0)(h4:∀a,v0=.ref a->Hb a=none) :
 ∃own,Fm K Hb O H O own (dQ (some j) ds++aM n Sl.no) (cV N vs):=by
 have F:=(CJ (N:=N) sm w tr n hn).setN j h3 h4
 have e1:(ds.map Sl.v++aM n Sl.no).set j (.n d0)=dQ (some j) ds++aM n Sl.no:=by
  have hj:j<ds.length:=by
   by_cases z:j<ds.length
   ·exact z
   ·rw[mM (by lia)]at h1;cases h1
  rw[List.set_append_left _ _ (by rw[aC];exact hj)]
  show _=(ds.map Sl.v).set j (.n (ds.getD j .non))++_
  rw[cZ,h1];rfl
 have e2:(cV N vs).set j (some v0)=cV N vs:=by
  have q:(cV N vs)[j]?=some (some v0):=by
   unfold L2.cV
   have hj:j<vs.length:=by
    by_cases z:j<vs.length
    ·exact z
    ·rw[mM (by lia)]at h2;cases h2
   rw[lW (by rw[aC];exact hj),bI,h2];rfl
  apply List.ext_getElem?
  intro i
  by_cases z:j=i
  ·subst z
   obtain⟨hl,_⟩:=fU.mp q
   rw[sG hl,q]
  ·rw[sH z]
 rw[e1,e2]at F
 exact⟨_,F⟩
theorem CK(X:TextOk K mg T Tx defs):∀n i t,defs[i]?=some t->∀f fd,Fun K t.nm t.nm t.st f fd->FnOk P w K mg base (CXE P w) (n+2) f fd t.ps (iL K T (callF T (defs.map DefT.df) n i) i)
 |0,i,t,hi,f,fd,F=>by
  have no:∀vs H Q E,¬iL K T (callF T (defs.map DefT.df) 0 i) i vs H Q E:=λvs H Q E h=>by
   cases hmv:T.mv i with
   |none=>
    rw[nK hmv]at h
    obtain⟨O,ds,_,_,⟨d,ev,_⟩|⟨c,d,ev,_⟩⟩:=h
    ·cases ev
    ·cases ev
   |some j=>
    rw[B4 hmv]at h
    obtain⟨O,ds,Hb,d0,v0,_,_,_,_,_,_,_,⟨d,ev,_⟩|⟨c,d,ev,_⟩⟩:=h
    ·cases ev
    ·cases ev
  exact⟨λvs H Q E h=>absurd h (no vs H Q E),λA outer s H args us vs Q E _ _ _ _ h=>absurd h (no vs H Q E)⟩
 |n+1,i,t,hi,f,fd,F=>by
  have ih:=CK X n
  cases ht:t.told with
  |some td=>
   rw[nK (X.nmv i t hi (by rw[ht];rfl))]
   exact X.told t (kK hi) td ht P w base n i f fd hi F ih
  |none=>
  have hok:=fF.mp X.ok t (kK hi)
  unfold DefT.okB at hok
  rw[ht,Option.isSome_none,xS,aE]at hok
  have S:=IT hok.1
  have hdf:(defs.map DefT.df)[i]?=some ⟨t.N.length,t.ps.length,t.body,none⟩:=by rw[bI,hi];show some (DefT.df t)=_;unfold DefT.df;rw[ht]
  have lenOf:∀ds r,callF T (defs.map DefT.df) (n+1) i ds=r->r≠.no->ds.length=t.ps.length:=by
   intro ds r ev hr
   rw[tP,hdf]at ev
   by_cases c:(ds.length==t.df.pars)=true
   ·exact(by simpa using c:ds.length=t.df.pars)
   ·have c':(ds.length==t.df.pars)=false:=by simpa using c
    have ev:aB (ds.length==t.df.pars) _=r:=ev
    rw[c']at ev
    exact absurd ev.symm hr
  have open1:∀ds,ds.length=t.ps.length->callF T (defs.map DefT.df) (n+1) i ds=(match exX T (callF T (defs.map DefT.df) n) t.body (dQ (T.mv i) ds++aM (t.N.length-t.ps.length) Sl.no)with
   |some z=>.err z.1 z.2
   |none=>match exS T (callF T (defs.map DefT.df) n) t.body (dQ (T.mv i) ds++aM (t.N.length-t.ps.length) Sl.no)with
    |.ok (.rt x k)=>aB (k||!T.fresh i) (.ok x)
    |.ok (.nx _)=>aB (!T.fresh i) (.ok .non)
    |_=>.no):=by
   intro ds hl
   rw[tP,hdf]
   exact cJ (by simpa using hl) _
  have un:∀ds d,callF T (defs.map DefT.df) (n+1) i ds=.ok d->∃out,exS T (callF T (defs.map DefT.df) n) t.body (dQ (T.mv i) ds++aM (t.N.length-t.ps.length) Sl.no)=.ok out /\
   ((∃k,out=.rt d k/\(k=true\/T.fresh i=false))\/(∃e,out=.nx e/\d=.non/\T.fresh i=false)):=by
   intro ds d ev
   rw[open1 ds (lenOf ds _ ev (λz=>by cases z))]at ev
   cases hx:exX T (callF T (defs.map DefT.df) n) t.body (dQ (T.mv i) ds++aM (t.N.length-t.ps.length) Sl.no)with
   |some z=>rw[hx]at ev;cases ev
   |none=>
    rw[hx]at ev
    cases hs:exS T (callF T (defs.map DefT.df) n) t.body (dQ (T.mv i) ds++aM (t.N.length-t.ps.length) Sl.no)with
    |ok out=>
     rw[hs]at ev
     refine⟨out,rfl,?_⟩
     cases out with
     |nx e=>
      obtain⟨c2,ev⟩:=aU ev
      cases ev
      exact .inr ⟨e,rfl,rfl,by simpa using c2⟩
     |rt x k=>
      obtain⟨c2,ev⟩:=aU ev
      cases ev
      exact .inl ⟨k,rfl,by simpa using c2⟩
     |bk e=>cases ev
     |ct e=>cases ev
    |err _ _=>rw[hs]at ev;cases ev
    |no=>rw[hs]at ev;cases ev
  have unX:∀ds c d,callF T (defs.map DefT.df) (n+1) i ds=.err c d->exX T (callF T (defs.map DefT.df) n) t.body (dQ (T.mv i) ds++aM (t.N.length-t.ps.length) Sl.no)=some (c,d):=by
   intro ds c d ev
   rw[open1 ds (lenOf ds _ ev (λz=>by cases z))]at ev
   cases hx:exX T (callF T (defs.map DefT.df) n) t.body (dQ (T.mv i) ds++aM (t.N.length-t.ps.length) Sl.no)with
   |some z=>rw[hx]at ev;cases ev;rfl
   |none=>
    rw[hx]at ev
    exfalso
    cases hs:exS T (callF T (defs.map DefT.df) n) t.body (dQ (T.mv i) ds++aM (t.N.length-t.ps.length) Sl.no)with
    |ok out=>
     rw[hs]at ev
     cases out with
     |nx e=>have ev:aB (!T.fresh i) (Res.ok D.non)=Res.err c d:=ev;unfold aB at ev;split at ev<;>cases ev
     |rt x k=>have ev:aB (k||!T.fresh i) (Res.ok x)=Res.err c d:=ev;unfold aB at ev;split at ev<;>cases ev
     |bk e=>cases ev
     |ct e=>cases ev
    |err _ _=>rw[hs]at ev;cases ev
    |no=>rw[hs]at ev;cases ev
  have core:∀(cdv:Value)(A:Around)(outer:List Env)(s:Shared)(H Hb:Hp)(O:Addr->Prop)(ds:List D)(vs:List V)(own:Nat->Option Addr)(Q:VK)(E:XK),Room (n+2) (A.deeper (envOfC t.nm (dE t.st) s.heap.objs.size f cdv))->Fm K Hb O H O own (dQ (T.mv i) ds++aM (t.N.length-t.ps.length) Sl.no) (cV t.N vs) ->
   ((∃d,callF T (defs.map DefT.df) (n+1) i ds=.ok d/\∀v H',Same Hb H'->RD K H' O d v->(T.fresh i=true->NewR K Hb H' O d v)->Q v H')\/∃c d,callF T (defs.map DefT.df) (n+1) i ds=.err c d/\∀od H',Same Hb H'->uR d od H'->E (cvK K c) od H') ->
   ∃tt,PSs (fZ (CXE P w) P w K mg base t.N t.nm (dE t.st) f cdv A outer s H E) (gA t.st) tt/\tt {nx:=λ_ H'=>Q .non H',rt:=Q} (cV t.N vs) H:=by
   intro cdv A outer s H Hb O ds vs own Q E hr Fs h
   have okx:=okx_of (P:=P) (w:=w) (base:=base) X.toTextOk0 (cdv:=cdv) (outer:=outer) (H:=H) (E:=E) (f:=f) hr S.nd ih
   have oks:OkS T (callF T (defs.map DefT.df) n) Tx (fZ (CXE P w) P w K mg base t.N t.nm (dE t.st) f cdv A outer s H E).nox:=⟨okx,rfl,λ_=>rfl⟩
   rcases h with⟨d,ev,k⟩|⟨c,d,ev,k⟩
   ·obtain⟨out,e1,e2⟩:=un ds d ev
    refine⟨_,((wholeS t.body).2 _ _ oks hok.2 Hb O).nox,?_⟩
    refine⟨[],_,out,⟨O,own,Fs,λt ht=>by cases ht⟩,e1,?_⟩
    rcases e2 with⟨fr,rfl,hf⟩|⟨e,rfl,rfl,hf⟩
    ·intro v H' s' r nl
     refine k v H' s' r λz=>nl ?_
     rcases hf with q|q
     ·exact q
     ·rw[z]at q;cases q
    ·rintro σ' H' ⟨O',own',F',_⟩
     exact k .non H' F'.same rfl λz=>by rw[z]at hf;cases hf
   ·exact nomatch unX ds c d ev
  cases hmv:T.mv i with
  |none=>
   rw[nK hmv]
   rw[hmv]at core
   refine CI F S (λvs H Q E h=>?_) (λcdv A outer s H vs Q E hr h=>?_)
   ·obtain⟨O,ds,_,rr,⟨d,ev,_⟩|⟨c,d,ev,_⟩⟩:=h
    ·rw[rr.length];exact lenOf ds _ ev (λz=>by cases z)
    ·rw[rr.length];exact lenOf ds _ ev (λz=>by cases z)
   ·obtain⟨O,ds,tr,rr,h⟩:=h
    have hl:ds.length=t.ps.length:=by
     rcases h with⟨d,ev,_⟩|⟨c,d,ev,_⟩
     ·exact lenOf ds _ ev (λz=>by cases z)
     ·exact lenOf ds _ ev (λz=>by cases z)
    exact core cdv A outer s H H O ds vs _ Q E hr (IU (N:=t.N) rr tr (t.N.length-t.ps.length) (by rw[rr.length,hl])) h
  |some j=>
   rw[B4 hmv]
   rw[hmv]at core
   refine CI F S (λvs H Q E h=>?_) (λcdv A outer s H vs Q E hr h=>?_)
   ·obtain⟨O,ds,Hb,d0,v0,_,_,rr,_,_,_,_,⟨d,ev,_⟩|⟨c,d,ev,_⟩⟩:=h
    ·rw[rr.length];exact lenOf ds _ ev (λz=>by cases z)
    ·rw[rr.length];exact lenOf ds _ ev (λz=>by cases z)
   ·obtain⟨O,ds,Hb,d0,v0,sm,tr,rr,g1,g2,g3,g4,h⟩:=h
    have hl:ds.length=t.ps.length:=by
     rcases h with⟨d,ev,_⟩|⟨c,d,ev,_⟩
     ·exact lenOf ds _ ev (λz=>by cases z)
     ·exact lenOf ds _ ev (λz=>by cases z)
    obtain⟨own,Fs⟩:=IV (N:=t.N) sm rr tr (t.N.length-t.ps.length) (by rw[rr.length,hl]) g1 g2 g3 g4
    exact core cdv A outer s H Hb O ds vs own Q E hr Fs h
theorem law_sp{i n:Nat}(hT:∀ns:List Int,ns.length<=63->callF T (defs.map DefT.df) n i [.lst (ns.map D.int)]=.ok (.bl true))(K:PySem.W.Frag)(H:Hp)(a:Addr)(ns:List Int)(hl:ns.length<=63)(hS:SqL K H a (ns.map V.int)) :
 spD K (callF T (defs.map DefT.df) n i) (T.fresh i) [.ref a] H (λv _=>v=.bl true) (λ_ _ _=>False):=by
 refine⟨no,[.lst (ns.map D.int)],λa h=>h.elim,⟨.ref a,[],rfl,⟨a,ns.map V.int,rfl,?_,?_⟩,rfl⟩,.inl ⟨.bl true,hT ns hl,λv H' _ r _=>r⟩⟩
 ·rcases hS with z|z
  ·exact .inl ⟨λq=>q,z⟩
  ·exact .inr z
 ·clear hl hS
  induction ns with
  |nil=>exact rfl
  |cons i r ih=>exact⟨.int i,r.map V.int,rfl,rfl,ih⟩
end
end Tr
namespace Tr
open PySem PySem.Spec PyProof.Rows L2 PySem.W
section
variable{X:Cx}{i:Nat}{x c:Str}{C:Addr}{b:Bool}{p:Expr}
end
noncomputable def isNon:D->Bool
 |.non=>true
 |_=>false
section
variable{T:Tab}{cf:Nat->List D->Res D}
end
section
variable{K:PySem.W.Frag}{mg:Str->Option Value}{T:Tab}{Tx:Txt}{defs:List DefT}
end
section
variable{K:PySem.W.Frag}{mg:Str->Option Value}{T:Tab}{Tx:Txt}{defs:List DefT}
theorem IW(X:TextOk0 K mg T Tx defs)(h:defs.filter (λt=>t.told.isSome)=[]):TextOk K mg T Tx defs:=
 ⟨X,λt ht td e=>by
  have:t∈defs.filter (λt=>t.told.isSome):=fE.mpr ⟨ht,by rw[e];rfl⟩
  rw[h]at this;exact(nomatch this),λi t hi hs=>by
  have:t∈defs.filter (λt=>t.told.isSome):=fE.mpr ⟨kK hi,hs⟩
  rw[h]at this;cases this⟩
end
section
variable{K:PySem.W.Frag}{mg:Str->Option Value}{T:Tab}{Tx:Txt}{defs:List DefT}
end
section
variable{K:PySem.W.Frag}{mg:Str->Option Value}{T:Tab}{Tx:Txt}{defs:List DefT}
end
end Tr
namespace Tr
open PySem PySem.Spec PyProof.Rows L2
theorem iO{P:List Value->Prop}(h:∀a0:Value,P [a0]):∀us:List Value,us.length=1->P us
 |[_],_=>h _
theorem fR{P:List Value->Prop}(h:∀a0 a1:Value,P [a0,a1]):∀us:List Value,us.length=2->P us
 |[_,_],_=>h _ _
theorem fS{P:List Value->Prop}(h:∀a0 a1 a2:Value,P [a0,a1,a2]):∀us:List Value,us.length=3->P us
 |[_,_,_],_=>h _ _ _
theorem kD{P:List Value->Prop}(h:∀a0 a1 a2 a3:Value,P [a0,a1,a2,a3]):∀us:List Value,us.length=4->P us
 |[_,_,_,_],_=>h _ _ _ _
theorem len5{P:List Value->Prop}(h:∀a0 a1 a2 a3 a4:Value,P [a0,a1,a2,a3,a4]):∀us:List Value,us.length=5->P us
 |[_,_,_,_,_],_=>h _ _ _ _ _
theorem len6{P:List Value->Prop}(h:∀a0 a1 a2 a3 a4 a5:Value,P [a0,a1,a2,a3,a4,a5]):∀us:List Value,us.length=6->P us
 |[_,_,_,_,_,_],_=>h _ _ _ _ _ _
theorem aT{K:PySem.W.Frag}{h:Heap}{mg:Str->Option Value}(X:K.In h)(G:h.Ns mainGlobals mg){x:Str}{st:Stmt}{ps:List Str}{f:Addr}{oc:Value}{od an:Option Addr}{osl:Array (Option Value)}{kV doc pm cdv ct:Value}
 (a:PySem.W.nsIn K mainGlobals x=some (some (.ref f))) (l:K.lookup f=some ⟨oc,od,.func (PySem.W.fnOf x x (jU st) (gA st) (dE st) .none kV doc pm an cdv ct),osl⟩)
 (c:PySem.W.codeIn K cdv x=true) (k:PySem.W.keepIn K (.ref f)=true)
 (hb:∀(kV doc pm:Value)(an:Option Addr)(cdv ct:Value)(us:List Value),us.length=ps.length->bindArgs (PySem.W.fnOf x x (jU st) (gA st) (dE st) .none kV doc pm an cdv ct) ⟨us,[]⟩=pure (ps.zip us)) :
 ∃f fd,Fun K x x st f fd/\mg x=some (.ref f)/\Binds K fd ps []:=
 ⟨f,_,zK l c k,PySem.W.mg_of X G a,(zK (st:=st) l c k).binds hb⟩
theorem qG{K:PySem.W.Frag}{h:Heap}{mg:Str->Option Value}(X:K.In h)(G:h.Ns mainGlobals mg){x:Str}{i:Int}{t:Tok}(a:PySem.W.nsIn K mainGlobals x=some (some (.int i t))):CH K mg x (.int i):=
 ⟨.int i,.int i t,PySem.W.mg_of X G a,⟨t,rfl⟩,λ_ _=>rfl⟩
theorem dC{K:PySem.W.Frag}{h:Heap}{mg:Str->Option Value}(X:K.In h)(G:h.Ns mainGlobals mg){x:Str}(a:PySem.W.nsIn K mainGlobals x=some none):mg x=none:=PySem.W.mg_none_of X G a
theorem walkT{l:PySem.W.OpenLaw}{q:Program}{loose:List Str}{XP:(Str->Option Value)->Heap->Prop}{YP:World->Heap->Prop}{d:DefRec}{K:Params->PySem.W.Frag}{T:Tab}{Tx:Txt}{defs:List DefT}{i n:Nat}{tl:DefT}{x:Str}
 (hi:defs[i]?=some tl) (hps:tl.ps=[x]) (hnm:tl.nm=d.name)
 (hn:l.most=some 63) (hdf:d.params.defaults=[]) (hr:Room (n+2) callerA)
 (hT:∀ns:List Int,ns.length<=63->callF T (defs.map DefT.df) n i [.lst (ns.map D.int)]=.ok (.bl true))
 (hY:∀(w:World)(h:Heap),YP w h->(K w.params).In h)
 (hX:∀(w:World)(mg:Str->Option Value)(h:Heap),(K w.params).In h->h.Ns mainGlobals mg->TextOk (K w.params) mg T Tx defs)
 (hb:∀(kV doc pm:Value)(an:Option Addr)(cdv ct:Value)(u:Value),bindArgs (PySem.W.fnOf tl.nm tl.nm (jU tl.st) (gA tl.st) (dE tl.st) .none kV doc pm an cdv ct) ⟨[u],[]⟩=pure [(x,u)]) (hmv:T.mv i=none:=by rfl) :
 PySem.W.WalkO q loose XP YP l.row.toRowW d [] (λf vs=>PySem.call f vs):=by
 refine L2.FA (K:=K) (n:=63) (k:=n+2) (x:=x) (CX:=λw=>CXE l.prog w) (sp:=λw=>spD (K w.params) (callF T (defs.map DefT.df) n i) (T.fresh i)) hn (by decide) hdf hr hY ?_ (λw H a ns hl _ hS=>law_sp hT (K w.params) H a ns hl hS) (λ_ _ _ _ _ h=>by obtain⟨_,_,_,_,_,_,_,_,_,_,_,_,_,_,_,_,_,z⟩:=h;exact z.elim)
 intro w mg fa h KX G hmg
 have tx:=hX w mg h KX G
 obtain⟨f,fd,F,m,_⟩:=tx.funs tl (kK hi)
 rw[hnm,hmg]at m
 cases m
 refine⟨fd,λs u=>?_,λbase kb nb=>?_⟩
 ·obtain⟨oc,od,kV,doc,pm,an,cdv,ct,osl,rfl,lk,hcd⟩:=F.ex
  exact .of_eq (hb kV doc pm an cdv ct u)
 ·have:=CK (P:=l.prog) (w:=w) (base:=base) tx n i tl hi fa fd F
  rw[hps,nK hmv]at this
  exact this
end Tr
namespace Tr
theorem all_cons{α:Type}{p:α->Prop}{a:α}{l:List α}(h:p a)(r:∀x∈l,p x):∀x∈a::l,p x:=List.forall_mem_cons.mpr ⟨h,r⟩
theorem jG{α:Type}{p:α->Prop}:∀x∈([]:List α),p x:=λ_ h=>by cases h
theorem qH{α:Type}{p:Nat->α->Prop}{a:α}{l:List α}(h:p 0 a)(r:∀g n,l[g]?=some n->p (g+1) n):∀g n,(a::l)[g]?=some n->p g n
 |0,n,e=>by simp at e;subst e;exact h
 |g+1,n,e=>r g n (by simpa using e)
theorem gl_nil{α:Type}{p:Nat->α->Prop}:∀g n,([]:List α)[g]?=some n->p g n:=λg n e=>by simp at e
end Tr
namespace Tr
open PySem
section
variable{T:Tab}{cf:Nat->List D->Res D}{e:Nv}
@[simp] theorem IX{i:Nat}:evE T cf (.var i) e=(e.at i).val:=id rfl
@[simp] theorem evE_rd{i:Nat}:evE T cf (.rd i) e=(e.at i).any:=id rfl
@[simp] theorem IY{d:D}:evE T cf (.con d) e=.ok d:=id rfl
@[simp] theorem evE_glob{g:Nat}:evE T cf (.glob g) e=.ok (T.glob g):=id rfl
@[simp] theorem IZ{o:Operator}{a b:E}:evE T cf (.bin o a b) e=(do let x<-evE T cf a e;let y<-evE T cf b e;D.bin o x y):=id rfl
@[simp] theorem evE_cmp{o:CmpOp}{a b:E}:evE T cf (.cmp o a b) e=(do let x<-evE T cf a e;let y<-evE T cf b e;D.cmp o x y):=id rfl
@[simp] theorem evE_and{a b:E}:evE T cf (.and a b) e=(do let x<-evE T cf a e;let k<-x.truth;if k then evE T cf b e else .ok x):=id rfl
@[simp] theorem evE_or{a b:E}:evE T cf (.or a b) e=(do let x<-evE T cf a e;let k<-x.truth;if k then .ok x else evE T cf b e):=id rfl
@[simp] theorem evE_not{a:E}:evE T cf (.not a) e=(do let x<-evE T cf a e;let k<-x.truth;.ok (.bl (!k))):=id rfl
@[simp] theorem evE_ife{c a b:E}:evE T cf (.ife c a b) e=(do let x<-evE T cf c e;let k<-x.truth;if k then evE T cf a e else evE T cf b e):=id rfl
@[simp] theorem evE_ix{a b:E}:evE T cf (.ix a b) e=(do let x<-evE T cf a e;let y<-evE T cf b e;D.ix x y):=id rfl
@[simp] theorem evE_sl{a lo hi:E}:evE T cf (.sl a lo hi) e=(do let x<-evE T cf a e;let l<-evE T cf lo e;let l<-l.part;let h<-evE T cf hi e;let h<-h.part;D.sl x l h):=id rfl
@[simp] theorem evE_omit:evE T cf .omit e=.ok .non:=id rfl
@[simp] theorem evE_tup{a:E}:evE T cf (.tup a) e=(do let xs<-evA T cf a e;.ok (.tup xs)):=id rfl
@[simp] theorem evE_lst{a:E}:evE T cf (.lst a) e=(do let xs<-evA T cf a e;.ok (.lst xs)):=id rfl
@[simp] theorem evE_call{f:Nat}{a:E}:evE T cf (.call f a) e=(do let xs<-evA T cf a e;cf f xs):=id rfl
@[simp] theorem evE_dlit{a b:E}:evE T cf (.dlit a b) e=(do let x<-evE T cf a e;let y<-evE T cf b e;oZ x y):=id rfl
@[simp] theorem evE_trng{a:E}:evE T cf (.trng a) e=(do let x<-evE T cf a e;oW x):=id rfl
@[simp] theorem evE_getV{a b:E}:evE T cf (.getV a b) e=(do let x<-evE T cf a e;let y<-evE T cf b e;oX x y):=id rfl
@[simp] theorem evI_seqD{a:E}:evI T cf (.seqD a) e=(do let x<-evE T cf a e;pA x):=id rfl
@[simp] theorem evE_dcl{a:E}:evE T cf (.dcl a) e=(do let x<-evE T cf a e;pC x):=id rfl
@[simp] theorem evE_bt{b:Bt}{a:E}:evE T cf (.bt b a) e=(do let xs<-evA T cf a e;b.run xs):=id rfl
@[simp] theorem evE_isi{a:E}{t:Ty}:evE T cf (.isi a t) e=(do let x<-evE T cf a e;aB (!x.isDct) (.ok (.bl (x.isTy t)))):=id rfl
@[simp] theorem evE_lset{a:E}:evE T cf (.lset a) e=(do let x<-evE T cf a e;x.setN):=id rfl
noncomputable def negR:D->Res D
 |.int i=>.ok (.int (-i))
 |_=>.no
@[simp] theorem neg_int{i:Int}:negR (.int i)=.ok (.int (-i)):=id rfl
@[simp] theorem evE_neg{a:E}:evE T cf (.neg a) e=(evE T cf a e>>=negR):=by
 rw[zY]
 cases evE T cf a e with
 |ok x=>cases x<;>rfl
 |err _ _=>rfl
 |no=>rfl
noncomputable def compF(T:Tab)(cf:Nat->List D->Res D)(own:Nat)(caps:List Nat)(g:G)(elt cond:E)(e:Nv)(d:D):Res (Option D):=do
 let e1<-g.put d (compEnv own caps e)
 let c<-evE T cf cond e1
 let k<-c.truth
 if k then do let y<-evE T cf elt e1;.ok (some y)else .ok none
@[simp] theorem I_{own:Nat}{caps:List Nat}{g:G}{elt src cond:E}:evE T cf (.comp own caps g elt src cond) e=(do
 let ds<-evI T cf src e
 let ys<-compL (compF T cf own caps g elt cond e) ds
 aB (decide (ds.length<=big)) (.ok (.lst ys))):=id rfl
@[simp] theorem evA_nil:evA T cf .anil e=.ok []:=id rfl
@[simp] theorem evA_cons{a r:E}:evA T cf (.acons a r) e=(do let x<-evE T cf a e;let q<-evA T cf r e;aB (decide (q.length<1000)) (.ok (x::q))):=id rfl
@[simp] theorem evI_seq{a:E}:evI T cf (.seq a) e=(do let x<-evE T cf a e;x.items):=id rfl
noncomputable def nP:D->Res (List D)
 |.int n=>aB (bV n) (.ok (bP 0 n.toNat))
 |_=>.no
noncomputable def qI:D->D->Res (List D)
 |.int n,.int m=>aB (bV n&&bV m) (.ok (bP n (m-n).toNat))
 |_,_=>.no
noncomputable def CL:D->Res (List D)
 |.lst ds=>.ok (cQ 0 ds)
 |_=>.no
@[simp] theorem evI_rng{a:E}:evI T cf (.rng a) e=(do let x<-evE T cf a e;nP x):=by
 rw[AC]
 cases evE T cf a e with
 |ok x=>cases x<;>rfl
 |err _ _=>rfl
 |no=>rfl
@[simp] theorem Ia{a b:E}:evI T cf (.rng2 a b) e=(do let x<-evE T cf a e;match x with | .int _=>do let y<-evE T cf b e;qI x y|_=>.no):=by
 rw[AD]
 cases evE T cf a e with
 |ok x=>
  cases x<;>try rfl
  show(do let y<-evE T cf b e;_)=(do let y<-evE T cf b e;_)
  cases evE T cf b e with
  |ok y=>cases y<;>rfl
  |err _ _=>rfl
  |no=>rfl
 |err _ _=>rfl
 |no=>rfl
@[simp] theorem evI_enum{a:E}:evI T cf (.enum a) e=(do let x<-evE T cf a e;CL x):=by
 rw[AE]
 cases evE T cf a e with
 |ok x=>cases x<;>rfl
 |err _ _=>rfl
 |no=>rfl
theorem vH{n:Nat}(h:n<4611686018427387904):nP (.int n)=.ok (bP 0 n):=by
 show aB (bV n) _=_
 rw[cJ (by unfold bV;rw[decide_eq_true (by lia),decide_eq_true (by lia)];rfl)]
 simp
theorem Ib{n m:Nat}(h:n<4611686018427387904)(h2:m<4611686018427387904):qI (.int n) (.int m)=.ok (bP n (m-n)):=by
 show aB (bV n&&bV m) _=_
 rw[cJ (by unfold bV;rw[decide_eq_true (by lia),decide_eq_true (by lia),decide_eq_true (by lia),decide_eq_true (by lia)];rfl)]
 congr 2
 lia
@[simp] theorem enum_ok{ds:List D}:CL (.lst ds)=.ok (cQ 0 ds):=id rfl
noncomputable def bodyF(T:Tab)(cf:Nat->List D->Res D)(g:G)(b:S)(d:D)(e0:Nv):Res Out:=do let e1<-g.put d e0;exS T cf b e1
noncomputable def qJ(T:Tab)(cf:Nat->List D->Res D)(r:S):Out->Res Out
 |.nx e1=>exS T cf r e1
 |o=>.ok o
@[simp] theorem Ie{r:S}:qJ T cf r (.nx e)=exS T cf r e:=id rfl
@[simp] theorem thenS_rt{r:S}{d:D}{k:Bool}:qJ T cf r (.rt d k)=.ok (.rt d k):=id rfl
@[simp] theorem Ig:exS T cf .nil e=.ok (.nx e):=id rfl
@[simp] theorem Ih{a r:S}:exS T cf (.cons a r) e=(exS T cf a e>>=qJ T cf r):=by
 rw[pH]
 cases exS T cf a e with
 |ok o=>cases o<;>rfl
 |err _ _=>rfl
 |no=>rfl
@[simp] theorem exS_ret{x:E}:exS T cf (.ret x) e=(do let d<-evE T cf x e;.ok (.rt d (bH T x&&!jX d))):=id rfl
@[simp] theorem tupL_lst{a:List D}:jX (.lst a)=false:=id rfl
@[simp] theorem tupL_int{a:Int}:jX (.int a)=false:=id rfl
@[simp] theorem exS_retO{i:Nat}:exS T cf (.retO i) e=(do let a<-(e.at i).ownA;.ok (.rt a (!a.isDct))):=id rfl
@[simp] theorem exS_newD{i:Nat}:exS T cf (.newD i) e=.ok (.nx (e.set i (.o (.dct [])))):=id rfl
@[simp] theorem exS_newT{i:Nat}:exS T cf (.newT i) e=.ok (.nx (e.set i (.o (.tdc [])))):=id rfl
@[simp] theorem exS_dputV{i:Nat}{k x:E}:exS T cf (.dputV i k x) e=(do
 let d<-evE T cf x e
 let a<-(e.at i).ownT
 let y<-evE T cf k e
 let key<-oY y
 aB (decide (a.length<big)) (.ok (.nx (e.set i (.o (.tdc (fM a key d))))))):=id rfl
@[simp] theorem exS_asg{g:G}{x:E}:exS T cf (.asg g x) e=(do let d<-evE T cf x e;let e1<-g.put d e;.ok (.nx e1)):=id rfl
noncomputable def setO(k:Bool)(i:Nat)(e:Nv):D->Res Out
 |.lst a=>aB k (.ok (.nx (e.set i (.o (.lst a)))))
 |.dct a=>aB k (.ok (.nx (e.set i (.o (.dct a)))))
 |.tdc a=>aB k (.ok (.nx (e.set i (.o (.tdc a)))))
 |_=>.no
@[simp] theorem setO_ok{i:Nat}{a:List D}:setO true i e (.lst a)=.ok (.nx (e.set i (.o (.lst a)))):=id rfl
@[simp] theorem exS_asgO{i:Nat}{x:E}:exS T cf (.asgO i x) e=(do let d<-evE T cf x e;setO (bH T x) i e d):=by
 rw[pJ]
 cases evE T cf x e with
 |ok o=>cases o<;>rfl
 |err _ _=>rfl
 |no=>rfl
@[simp] theorem exS_sealed{i:Nat}:exS T cf (.sealed i) e=(do let a<-(e.at i).ownA;.ok (.nx (e.set i (.v a)))):=id rfl
@[simp] theorem exS_ite{c:E}{a b:S}:exS T cf (.ite c a b) e=(do let x<-evE T cf c e;let k<-x.truth;if k then exS T cf a e else exS T cf b e):=id rfl
@[simp] theorem exS_for{g:G}{src:E}{b:S}:exS T cf (.forS g src b) e=(do let ds<-evI T cf src e;forL (bodyF T cf g b) ds e):=id rfl
@[simp] theorem exS_app{i:Nat}{x:E}:exS T cf (.app i x) e=(do
 let d<-evE T cf x e
 let a<-(e.at i).own
 aB (decide (a.length<big)) (.ok (.nx (e.set i (.o (.lst (a++[d]))))))):=id rfl
@[simp] theorem exS_rev{i:Nat}:exS T cf (.rev i) e=(do let a<-(e.at i).own;.ok (.nx (e.set i (.o (.lst a.reverse))))):=id rfl
@[simp] theorem exS_dput{i:Nat}{k x:E}:exS T cf (.dput i k x) e=(do
 let d<-evE T cf x e
 let a<-(e.at i).ownD
 let y<-evE T cf k e
 let key<-Res.of (eT y)
 aB (decide (a.length<big)) (.ok (.nx (e.set i (.o (.dct (gR a key d))))))):=id rfl
noncomputable def extO(k:Bool)(i:Nat)(e:Nv):D->Res Out
 |.lst b=>do
  let a<-(e.at i).own
  aB (k&&decide (a.length+b.length<=big)) (.ok (.nx (e.set i (.o (.lst (a++b))))))
 |_=>.no
@[simp] theorem Ij{k:Bool}{i:Nat}{b:List D}:extO k i e (.lst b)=(do
 let a<-(e.at i).own
 aB (k&&decide (a.length+b.length<=big)) (.ok (.nx (e.set i (.o (.lst (a++b))))))):=id rfl
@[simp] theorem Ik{i:Nat}{x:E}:exS T cf (.ext i x) e=(do let d<-evE T cf x e;extO (bH T x) i e d):=by
 rw[AG]
 cases evE T cf x e with
 |ok o=>cases o<;>rfl
 |err _ _=>rfl
 |no=>rfl
@[simp] theorem exS_popS{i:Nat}{k:E}:exS T cf (.popS i k) e=(do
 let a<-(e.at i).own
 let d<-evE T cf k e
 let j<-jZ a.length k d
 let _<-Res.of a[j]?
 .ok (.nx (e.set i (.o (.lst (a.eraseIdx j)))))):=id rfl
@[simp] theorem exS_lput{i:Nat}{k x:E}:exS T cf (.lput i k x) e=(do
 let d<-evE T cf x e
 let a<-(e.at i).own
 let y<-evE T cf k e
 let j<-jY a.length y
 .ok (.nx (e.set i (.o (.lst (a.set j d)))))):=id rfl
@[simp] theorem fresh_lst{a:E}:bH T (.lst a)=true:=id rfl
@[simp] theorem fresh_sl{a b c:E}:bH T (.sl a b c)=true:=id rfl
@[simp] theorem fresh_add{a b:E}:bH T (.bin .Add a b)=true:=id rfl
@[simp] theorem Il{n:Nat}{c:List Nat}{g:G}{x y z:E}:bH T (.comp n c g x y z)=true:=id rfl
@[simp] theorem fresh_list{a:E}:bH T (.bt .list a)=true:=id rfl
@[simp] theorem fresh_call{f:Nat}{a:E}:bH T (.call f a)=T.fresh f:=id rfl
end
@[simp] theorem when_if{α:Type}{c:Bool}(h:c=true)(r:Res α):aB c r=r:=cJ h r
@[simp] theorem Im{x:Sl}{r:List Sl}:Nv.at (x::r) 0=x:=id rfl
@[simp] theorem Io{x:Sl}{r:List Sl}{i:Nat}:Nv.at (x::r) (i+1)=Nv.at r i:=id rfl
@[simp] theorem val_v{d:D}:(Sl.v d).val=.ok d:=id rfl
@[simp] theorem any_o{d:D}:(Sl.o d).any=.ok d:=id rfl
@[simp] theorem own_o{a:List D}:(Sl.o (.lst a)).own=.ok a:=id rfl
@[simp] theorem ownA_o{d:D}:(Sl.o d).ownA=.ok d:=id rfl
@[simp] theorem ownT_o{a:List (List (Sum Int Str)×D)}:(Sl.o (.tdc a)).ownT=.ok a:=id rfl
@[simp] theorem ownD_o{a:List (Sum Int Str×D)}:(Sl.o (.dct a)).ownD=.ok a:=id rfl
@[simp] theorem vI{i:Int}:Res.of (eT (.int i))=.ok (.inl i):=id rfl
@[simp] theorem isDct_lst{i:List D}:(D.lst i).isDct=false:=id rfl
theorem CM{k:D}{kvs:List (Sum Int Str×D)}:D.cmp .In k (.dct kvs)=(do let q<-Res.of (eT k);.ok (.bl (bF kvs q).isSome)):=by
 show(do let b<-(do let q<-Res.of (eT k);.ok (bF kvs q).isSome:Res Bool);.ok (D.bl b))=_
 cases Res.of (eT k)<;>rfl
theorem ix_dct{k:D}{kvs:List (Sum Int Str×D)}:D.ix (.dct kvs) k=(do let q<-Res.of (eT k);Res.of (bF kvs q)):=by cases k<;>rfl
@[simp] theorem Ip{i:Nat}{d:D}{e:Nv}:G.put (.one i) d e=.ok (e.set i (.v d)):=id rfl
@[simp] theorem put_many{is:List Nat}{ds:List D}{e:Nv}:G.put (.many is) (.tup ds) e=cR is ds e:=id rfl
@[simp] theorem puts_nil{e:Nv}:cR [] [] e=.ok e:=id rfl
@[simp] theorem puts_cons{i:Nat}{is:List Nat}{d:D}{ds:List D}{e:Nv}:cR (i::is) (d::ds) e=cR is ds (e.set i (.v d)):=id rfl
@[simp] theorem truth_bl{b:Bool}:(D.bl b).truth=.ok b:=id rfl
@[simp] theorem Iq{i j:Int}:D.bin .Add (.int i) (.int j)=.ok (.int (i+j)):=id rfl
@[simp] theorem bin_sub{i j:Int}:D.bin .Sub (.int i) (.int j)=.ok (.int (i-j)):=id rfl
@[simp] theorem lF{i j:Int}(h:-(2^64)<i/\i<2^64):D.bin .Mult (.int i) (.int j)=.ok (.int (i*j)):=by
 show aB (iF i||iF j) _=_
 rw[cJ]
 unfold iF
 rw[decide_eq_true h.1,decide_eq_true h.2];rfl
@[simp] theorem bin_mulR{i j:Int}(h:-(2^64)<j/\j<2^64):D.bin .Mult (.int i) (.int j)=.ok (.int (i*j)):=by
 show aB (iF i||iF j) _=_
 rw[cJ]
 unfold iF
 rw[decide_eq_true h.1,decide_eq_true h.2];simp
@[simp] theorem vJ{i j:Int}(h:0<j):D.bin .Mod (.int i) (.int j)=.ok (.int (i%j)):=by
 show aB (decide (0<j)) _=_
 rw[cJ (decide_eq_true h)]
@[simp] theorem CN{i j:Int}(h:0<j/\j<1073741824):D.bin .FloorDiv (.int i) (.int j)=.ok (.int (i/j)):=by
 show aB (decide (0<j)&&decide (j<1073741824)) _=_
 rw[cJ]
 rw[decide_eq_true h.1,decide_eq_true h.2];rfl
theorem Ir{i j:Int}(h:0<=j/\j<=1000000/\i.natAbs<2^64):D.bin .Pow (.int i) (.int j)=.ok (.int (i^j.toNat)):=by
 show aB (decide (0<=j)&&decide (j<=1000000)&&decide (i.natAbs<2^64)) _=_
 rw[cJ]
 rw[decide_eq_true h.1,decide_eq_true h.2.1,decide_eq_true h.2.2];rfl
@[simp] theorem bin_pow9:D.bin .Pow (.int 10) (.int 9)=.ok (.int 1000000000):=Ir ⟨by decide,by decide,by decide⟩
@[simp] theorem cmp_lt{i j:Int}:D.cmp .Lt (.int i) (.int j)=.ok (.bl (decide (i<j))):=id rfl
@[simp] theorem cmp_gt{i j:Int}:D.cmp .Gt (.int i) (.int j)=.ok (.bl (decide (j<i))):=id rfl
@[simp] theorem cmp_ge{i j:Int}:D.cmp .GtE (.int i) (.int j)=.ok (.bl (decide (j<=i))):=id rfl
@[simp] theorem cmp_eqi{i j:Int}:D.cmp .Eq (.int i) (.int j)=.ok (.bl (i==j)):=id rfl
@[simp] theorem cmp_nei{i j:Int}:D.cmp .NotEq (.int i) (.int j)=.ok (.bl (!(i==j))):=id rfl
@[simp] theorem cmp_is{a:D}:D.cmp .Is a .non=.ok (.bl a.isNon):=id rfl
@[simp] theorem cmp_isnot{a:D}:D.cmp .IsNot a .non=.ok (.bl (!a.isNon)):=id rfl
@[simp] theorem isNon_non:D.non.isNon=true:=id rfl
@[simp] theorem isNon_int{i:Int}:(D.int i).isNon=false:=id rfl
@[simp] theorem isNon_tup{i:List D}:(D.tup i).isNon=false:=id rfl
@[simp] theorem run_len_l{a:List D}:Bt.run .len [.lst a]=.ok (.int a.length):=id rfl
@[simp] theorem Iu{a:List D}:Bt.run .len [.tup a]=.ok (.int a.length):=id rfl
@[simp] theorem run_tup_l{a:List D}:Bt.run .tuple [.lst a]=.ok (.tup a):=id rfl
@[simp] theorem run_int_b{b:Bool}:Bt.run .int [.bl b]=.ok (.int (b2z b)):=id rfl
theorem CO:∀ns:List Int,eE (ns.map D.int)=.ok ns
 |[]=>rfl
 |i::r=>by rw[aG,eE,CO r];rfl
@[simp] theorem vK{ns:List Int}:Bt.run .sum [.lst (ns.map D.int)]=.ok (.int ns.sum):=by
 show(do let q<-eE (ns.map D.int);.ok (D.int q.sum))=_
 rw[CO];rfl
@[simp] theorem LQ{α:Type}{f:α->Int}{xs:List α}:Bt.run .sum [.lst (xs.map (D.int∘f))]=.ok (.int (xs.map f).sum):=by rw[<-bU,vK]
@[simp] theorem part_int{i:Int}:(D.int i).part=.ok (some i):=id rfl
@[simp] theorem part_non:D.non.part=.ok none:=id rfl
@[simp] theorem sl_l{a:List D}{lo hi:Option Int}:D.sl (.lst a) lo hi=.ok (.lst (cut a lo hi)):=id rfl
@[simp] theorem sl_t{a:List D}{lo hi:Option Int}:D.sl (.tup a) lo hi=.ok (.tup (cut a lo hi)):=id rfl
@[simp] theorem items_l{a:List D}:(D.lst a).items=.ok a:=id rfl
@[simp] theorem items_t{a:List D}:(D.tup a).items=.ok a:=id rfl
theorem dF{a:List D}{i:Nat}{d:D}(h:a[i]?=some d):D.ix (.lst a) (.int i)=.ok d:=by
 have hi:=(fU.mp h).1
 show Res.of (atI a i)=_
 unfold atI ixN
 rw[if_pos (yC i),if_pos (by lia)]
 simp[h,Res.of]
theorem iP{a:List D}{i:Nat}{d:D}(h:a[i]?=some d):D.ix (.tup a) (.int i)=.ok d:=by
 have hi:=(fU.mp h).1
 show Res.of (atI a i)=_
 unfold atI ixN
 rw[if_pos (yC i),if_pos (by lia)]
 simp[h,Res.of]
theorem aO{T:Tab}{D:List Df}{n f:Nat}{ds:List Tr.D}{d:Df}{x:Tr.D}{k:Bool}(h:D[f]?=some d)(hl:ds.length=d.pars)(hk:(k||!T.fresh f)=true)
 (he:exS T (callF T D n) d.body (ds.map Sl.v++aM (d.names-d.pars) Sl.no)=.ok (.rt x k)) (ht:d.told=none:=by rfl) (hm:T.mv f=none:=by rfl):callF T D (n+1) f ds=.ok x:=by
 rw[tP,h]
 show aB (ds.length==d.pars) _=_
 rw[cJ (by simpa using hl),ht,hm,show dQ none ds=ds.map Sl.v from rfl]
 cases hx:exX T (callF T D n) d.body (ds.map Sl.v++aM (d.names-d.pars) Sl.no)with
 |some z=>exact absurd he (F0 hx _)
 |none=>
  dsimp only
  rw[he]
  show aB (k||!T.fresh f) _=_
  rw[cJ hk]
@[simp] theorem ix_t0{a:D}{r:List D}:D.ix (.tup (a::r)) (.int 0)=.ok a:=iP (i:=0) rfl
@[simp] theorem vO{a b:D}{r:List D}:D.ix (.tup (a::b::r)) (.int 1)=.ok b:=iP (i:=1) rfl
@[simp] theorem CP{a b c:D}{r:List D}:D.ix (.tup (a::b::c::r)) (.int 2)=.ok c:=iP (i:=2) rfl
@[simp] theorem CQ{a b c d:D}{r:List D}:D.ix (.tup (a::b::c::d::r)) (.int 3)=.ok d:=iP (i:=3) rfl
@[simp] theorem ix_l0{a:D}{r:List D}:D.ix (.lst (a::r)) (.int 0)=.ok a:=dF (i:=0) rfl
theorem bT{f:D->Nv->Res Out}{d:D}{r:List D}{e e1:Nv}(h:f d e=.ok (.nx e1)):forL f (d::r) e=forL f r e1:=by rw[forL,h];rfl
theorem CS{f:D->Nv->Res Out}{d:D}{r:List D}{e e1:Nv}(h:f d e=.ok (.ct e1)):forL f (d::r) e=forL f r e1:=by rw[forL,h];rfl
theorem gK{f:D->Nv->Res Out}{d:D}{r:List D}{e:Nv}{x:D}{k:Bool}(h:f d e=.ok (.rt x k)):forL f (d::r) e=.ok (.rt x k):=by rw[forL,h];rfl
theorem qK{f:D->Nv->Res Out}(I:Nat->Nv->Prop):∀(ds:List D)(e:Nv)(j:Nat),I j e->(∀i d e,ds[i]?=some d->I (j+i) e->∃e',(f d e=.ok (.nx e')\/f d e=.ok (.ct e'))/\I (j+i+1) e')->∃e',forL f ds e=.ok (.nx e')/\I (j+ds.length) e'
 |[],e,j,h,_=>⟨e,rfl,h⟩
 |d::r,e,j,h,st=>by
  obtain⟨e1,h1,h2⟩:=st 0 d e rfl h
  obtain⟨e2,h3,h4⟩:=qK I r e1 (j+1) h2 λi d' e' hd hI=>by
   have:=st (i+1) d' e' (by simpa using hd) (by rw[show j+(i+1)=j+1+i by lia];exact hI)
   rw[show j+(i+1)+1=j+1+i+1 by lia]at this
   exact this
  refine⟨e2,?_,by rw[aN,show j+(r.length+1)=j+1+r.length by lia];exact h4⟩
  rcases h1 with h1|h1
  ·rw[bT h1,h3]
  ·rw[CS h1,h3]
theorem lG:∀(lo:Int)(n:Nat),bP lo n=(aA n).map λi=>.int (lo+(i:Int))
 |lo,0=>rfl
 |lo,n+1=>by
  rw[bP,lG (lo+1) n,mF,aG,bU]
  congr 1
  ·simp
  ·apply gP
   intro i _
   simp only[Function.comp]
   congr 1
   push_cast
   lia
theorem Iv{lo:Int}{n i:Nat}{d:D}(h:(bP lo n)[i]?=some d):i<n/\d=.int (lo+i):=by
 rw[lG,bI]at h
 cases e:(aA n)[i]? with
 |none=>rw[e]at h;cases h
 |some j=>
  rw[e]at h
  cases h
  obtain⟨hi,e2⟩:=fU.mp e
  simp at hi e2
  subst e2
  exact⟨hi,rfl⟩
@[simp] theorem LR{lo:Int}{n:Nat}:(bP lo n).length=n:=by rw[lG];simp
theorem CT:∀{k:Int} {ds:List D} {i:Nat} {d:D},(cQ k ds)[i]?=some d->∃x,ds[i]?=some x/\d=.tup [.int (k+i),x]
 |k,[],i,d,h=>by simp[cQ]at h
 |k,x::r,0,d,h=>by simp[cQ]at h;exact⟨x,rfl,by rw[<-h];simp⟩
 |k,x::r,i+1,d,h=>by
  rw[cQ,Dq]at h
  obtain⟨y,h1,h2⟩:=CT h
  refine⟨y,by simpa using h1,?_⟩
  rw[h2]
  congr 3
  push_cast
  lia
@[simp] theorem Iw:∀{k:Int} {ds:List D},(cQ k ds).length=ds.length
 |k,[]=>rfl
 |k,x::r=>by rw[cQ,aN,aN,Iw]
theorem CU{f:D->Res (Option D)}(g:D->Option D):∀{ds:List D},(∀d∈ds,f d=.ok (g d))->compL f ds=.ok (ds.filterMap g)
 |[],_=>rfl
 |d::r,h=>by
  rw[compL,h d aY,Res.ok_bind,CU g (λx hx=>h x (bE _ hx)),Res.ok_bind,hV]
  cases g d<;>rfl
end Tr
set_option maxRecDepth 100000
namespace Tr
open PySem
noncomputable def eW(ns:List Int)(k:Nat):Int:=ns.getD k 0
noncomputable def dD(c k:Int):Int:=(c*48271+k*k*69621+5)%2147483647
theorem qL(c k:Int):0<=dD c k:=by unfold dD;lia
theorem qM(c k:Int):dD c k<2147483647:=by unfold dD;lia
noncomputable def gL(n:Int):Int:=([0,n/5%7,n/5%31,n/5%400,n*n%1000000000]:List Int).getD (n%5).toNat 0
theorem five(m:Int):m%5=0\/m%5=1\/m%5=2\/m%5=3\/m%5=4:=by lia
theorem vQ(n:Int):0<=gL n:=by
 unfold gL
 rcases five n with h|h|h|h|h<;>rw[h]<;>simp<;>lia
set_option genInjectivity false in
structure Part where
 name:Str
 voice:Str
 off:Int
 on:Int
noncomputable def Part.enc(p:Part):D:=.tup [.str p.name,.str p.voice,.int p.off,.int p.on]
structure Scene where
 name:Str
 len:Int
 pause:Int
 who:List Nat
noncomputable def cM(ws:List Nat):List D:=ws.map λ(i:Nat)=>D.int (i:Int)
noncomputable def Scene.enc(s:Scene):D:=.tup [.str s.name,.int s.len,.int s.pause,.tup (cM s.who)]
theorem ix_str{x:Str}{i:Nat}(h:i<x.cps.size)(hb:x.length<=big):∃y:Str,D.ix (.str x) (.int i)=.ok (.str y)/\y.length=1:=by
 refine⟨⟨#[x.cps[i]]⟩,?_,rfl⟩
 show aB (decide (x.length<=big)) (Res.of ((atI x.cps.toList i).map λc=>D.str ⟨#[c]⟩))=_
 rw[cJ (decide_eq_true hb)]
 unfold atI ixN
 rw[if_pos (yC i),if_pos (by simp;lia)]
 simp[h,Res.of]
theorem Iy{x:Str}{i:Int}(h0:0<=i)(h:i.toNat<x.cps.size)(hb:x.length<=big):∃y:Str,D.ix (.str x) (.int i)=.ok (.str y)/\y.length=1:=by
 obtain⟨n,rfl⟩:=Int.eq_ofNat_of_zero_le h0
 exact ix_str (by simpa using h) hb
@[simp] theorem add_str{x y:Str}(h:x.length+y.length<=big):D.bin .Add (.str x) (.str y)=.ok (.str (x++y)):=by
 show aB (decide (x.length+y.length<=big)) _=_
 rw[cJ (decide_eq_true h)]
theorem ix2i{a b:Int}{c:Bool}:D.ix (.lst [.int a,.int b]) (.int (b2z c))=.ok (.int (if c=true then b else a)):=by cases c<;>rfl
theorem CV{l:List Nat}(h:l.Nodup):l.reverse.Nodup:=List.pairwise_reverse.mpr (h.imp λh=>Ne.symm h)
theorem Iz:("abcdefgh" : Str).cps.size=8:=by decide +kernel
theorem JA:("stb" : Str).cps.size=3:=by decide +kernel
theorem JB:("abcdefghijklmnopqrstuvwx" : Str).cps.size=24:=by decide +kernel
theorem bC:(1000:Nat)<big:=by decide
set_option genInjectivity false in
structure GoodScene(many:Nat)(s:Scene):Prop where
 len:0<=s.len
 pause:0<=s.pause
 nd:s.who.Nodup
 lt:∀i∈s.who,i<many
theorem JC(ws:List Nat):(cM ws).length=ws.length:=by unfold cM;simp
theorem vR(i:Nat):∀ws:List Nat,D.mem (.int i) (cM ws)=decide (i∈ws)
 |[]=>rfl
 |w::r=>by
  show(D.eqb (.int w) (.int i)||D.mem (.int i) (cM r))=_
  rw[vR i r]
  have:D.eqb (.int w) (.int i)=decide (i=w):=by
   show((w:Int)==(i:Int))=_
   by_cases h:i=w
   ·subst h;simp
   ·rw[decide_eq_false h];simp;lia
  rw[this]
  by_cases h1:i=w<;>by_cases h2:i∈r<;>simp[h1,h2]
theorem vS(k:Nat):∀ws:List Nat,D.pls (k+1) (cM ws)=true
 |[]=>rfl
 |w::r=>by
  show(D.pl k (.int w)&&D.pls (k+1) (cM r))=true
  rw[vS k r];cases k<;>rfl
@[simp] theorem JD{i:Nat}{ws:List Nat}:D.cmp .In (.int i) (.tup (cM ws))=.ok (.bl (decide (i∈ws))):=by
 show(do let k<-D.inn (.int i) (.tup (cM ws));.ok (D.bl k))=_
 show(do let k<-aB (D.pls 30 (cM ws)&&D.pl 29 (.int i)) (.ok (D.mem (.int i) (cM ws)));.ok (D.bl k))=_
 rw[vS,vR];rfl
theorem gW{α:Type}(f:α->D)(k:Nat)(h:∀a,D.pl k (f a)=true):∀xs:List α,D.pls (k+1) (xs.map f)=true
 |[]=>rfl
 |a::r=>by rw[aG,D.pls,h a,gW f k h r];rfl
@[simp] theorem vT{n:Nat}{a:List D}:D.pl n (.tup a)=D.pls n a:=id rfl
@[simp] theorem nQ{n:Nat}{a:List D}:D.pl n (.lst a)=D.pls n a:=id rfl
theorem JE{a:D}(h:D.pl 30 a=true):D.cmp .Eq a a=.ok (.bl true):=by
 show aB (D.eqOk a a) (.ok (D.bl (D.eqb a a)))=_
 rw[D.eqb_refl 30 a h,cJ (by unfold D.eqOk;rw[h];rfl)]
noncomputable def Scene.both(s:Scene):Int:=s.len+s.pause
noncomputable def dY(ss:List Scene)(s t:Nat):Int:=((ss[s]?).map Scene.pause).getD 0+(((ss.drop (s+1)).take (t-(s+1))).map Scene.both).sum
theorem JF(ss:List Scene)(s:Nat):dY ss s (s+1)=((ss[s]?).map Scene.pause).getD 0:=by unfold dY;simp
theorem take_add_one{α:Type}(l:List α)(n:Nat)(a:α)(h:l[n]?=some a):l.take (n+1)=l.take n++[a]:=by
 rw[List.take_add_one,h];rfl
theorem JG{ss:List Scene}{s t:Nat}{x:Scene}(h:s<t)(hx:ss[t]?=some x):dY ss s (t+1)=dY ss s t+x.both:=by
 unfold dY
 have e:(ss.drop (s+1))[t-(s+1)]?=some x:=by rw[List.getElem?_drop,show s+1+(t-(s+1))=t by lia];exact hx
 rw[show t+1-(s+1)=t-(s+1)+1 by lia,take_add_one _ _ _ e,cE,LD]
 simp
 lia
theorem cut_nn{α:Type}{xs:List α}{a b:Nat}(ha:a<=xs.length)(hb:b<=xs.length):cut xs (some (a:Int)) (some (b:Int))=(xs.drop a).take (b-a):=by
 unfold cut sIx
 simp only[]
 rw[if_neg (by lia),if_neg (by lia),jQ,jQ,oN ha,oN hb]
theorem vU{ss:List Scene}{s:Nat}{x:Scene}(h:ss[s]?=some x):D.ix (.tup (ss.map Scene.enc)) (.int s)=.ok x.enc:=iP (by rw[bI,h];rfl)
theorem lH{ss:List Part}{s:Nat}{x:Part}(h:ss[s]?=some x):D.ix (.tup (ss.map Part.enc)) (.int s)=.ok x.enc:=iP (by rw[bI,h];rfl)
@[simp] theorem enc1{s:Scene}:D.ix s.enc (.int 1)=.ok (.int s.len):=vO
@[simp] theorem enc2{s:Scene}:D.ix s.enc (.int 2)=.ok (.int s.pause):=CP
@[simp] theorem enc3{s:Scene}:D.ix s.enc (.int 3)=.ok (.tup (cM s.who)):=CQ
@[simp] theorem penc2{s:Part}:D.ix s.enc (.int 2)=.ok (.int s.off):=CP
@[simp] theorem penc3{s:Part}:D.ix s.enc (.int 3)=.ok (.int s.on):=CQ
@[simp] theorem jH{α:Type}{f:α->D}{xs:List α}:Bt.run .len [.tup (xs.map f)]=.ok (.int xs.length):=by rw[Iu,aC]
end Tr
set_option maxRecDepth 100000
namespace Tr
open PySem
noncomputable def natI(t:Nat):D:=.int (t:Int)
theorem CW(lo n:Nat):bP (lo:Int) n=(bX lo n).map natI:=by
 rw[lG,List.range'_eq_map_range,bU]
 apply gP
 intro i _
 simp[natI]
theorem eO{n:Nat}(h:n<=1000):nP (.int (n:Int))=.ok ((aA n).map natI):=by
 rw[vH (by lia),lG]
 congr 1
 apply gP
 intro i _
 simp[natI]
theorem CY{s m:Nat}(h:s<=1000)(h2:m<=1000):qI (.int ((s:Int)+1)) (.int (m:Int))=.ok ((bX (s+1) (m-(s+1))).map natI):=by
 have:qI (.int ((s+1:Nat):Int)) (.int (m:Int))=_:=Ib (by lia) (by lia)
 rw[CW]at this
 exact this
theorem JH{f:D->Nv->Res Out}(I:Nv->Prop)(g:Nat->Option (D×Bool))(ts:List Nat)(e:Nv)(h:I e)
 (st:∀t∈ts,∀e,I e->match g t with|some (x,k)=>f (natI t) e=.ok (.rt x k)|none=>∃e',(f (natI t) e=.ok (.nx e')\/f (natI t) e=.ok (.ct e'))/\I e') :
 match ts.findSome? g with|some (x,k)=>forL f (ts.map natI) e=.ok (.rt x k)|none=>∃e',forL f (ts.map natI) e=.ok (.nx e')/\I e':=by
 induction ts generalizing e with
 |nil=>exact⟨e,rfl,h⟩
 |cons t r ih=>
  have h1:=st t aY e h
  rw[yD,aG]
  cases hg:g t with
  |some y=>
   rw[hg]at h1
   exact gK h1
  |none=>
   rw[hg]at h1
   obtain⟨e',h2,h3⟩:=h1
   have eq:forL f (natI t::r.map natI) e=forL f (r.map natI) e':=by
    rcases h2 with h2|h2
    ·exact bT h2
    ·exact CS h2
   rw[eq]
   exact ih e' h3 λd' hd=>st d' (bE _ hd)
theorem CZ{α β γ:Type}(h:α->Option β)(F:β->γ):∀l:List α,l.findSome? (λt=>(h t).map F)=(l.findSome? h).map F
 |[]=>rfl
 |a::r=>by
  rw[yD,yD]
  cases e:h a with
  |none=>simp[CZ h F r]
  |some b=>rfl
inductive Rz where
 |sc (s:Nat)|ch (s t:Nat) (have_ need:Int)
noncomputable def Rz.enc:Rz->D
 |.sc s=>.tup [.str "scene", .int s]
 |.ch s t h n=>.tup [.str "change", .int s,.int t,.int h,.int n]
noncomputable def gX:Option Rz->D
 |none=>.non
 |some r=>r.enc
@[simp] theorem isNon_optR{o:Option Rz}:(gX o).isNon=o.isNone:=by
 cases o with
 |none=>rfl
 |some r=>cases r<;>rfl
noncomputable def bN(ss:List Scene)(t:Nat):List Nat:=((ss[t]?).map Scene.who).getD []
noncomputable def gY(ps:List Part)(i j:Nat):Int:=((ps[i]?).map Part.off).getD 0+((ps[j]?).map Part.on).getD 0
noncomputable def lI(ps:List Part)(ss:List Scene)(s one other t:Nat):Option Rz:=
 if other∈bN ss t/\dY ss s t<gY ps one other then some (.ch s t (dY ss s t) (gY ps one other))else none
noncomputable def iQ(ps:List Part)(ss:List Scene)(s one other:Nat):Option Rz:=(bX (s+1) (ss.length-(s+1))).findSome? (lI ps ss s one other)
noncomputable def eX(ps:List Part)(ss:List Scene)(i j s:Nat):Option Rz:=
 if i∈bN ss s/\j∈bN ss s then some (.sc s)else if i∈bN ss s then iQ ps ss s i j else if j∈bN ss s then iQ ps ss s j i else none
noncomputable def aS(ps:List Part)(ss:List Scene)(i j:Nat):Option Rz:=(aA ss.length).findSome? (eX ps ss i j)
theorem JI(ps:List Part)(ss:List Scene)(i j s:Nat):eX ps ss i j s=eX ps ss j i s:=by
 unfold eX
 by_cases h1:i∈bN ss s<;>by_cases h2:j∈bN ss s<;>simp[h1,h2]
noncomputable def cN(ss:List Scene)(k:Nat):Int:=((ss.take k).map Scene.both).sum
theorem vV{ss:List Scene}{k:Nat}{x:Scene}(h:ss[k]?=some x):cN ss (k+1)=cN ss k+x.both:=by
 unfold cN
 rw[take_add_one _ _ _ h,cE,LD]
 simp
theorem C0{ss:List Scene}{s:Nat}{x:Scene}(hx:ss[s]?=some x):∀{t:Nat},s<t->t<=ss.length->cN ss t-cN ss s-x.len=dY ss s t:=by
 intro t
 induction t with
 |zero=>intro h;lia
 |succ t ih=>
  intro h1 h2
  by_cases hs:s=t
  ·subst hs
   rw[vV hx,JF,hx]
   simp[Scene.both]
   lia
  ·have hy:=aH (l:=ss) (i:=t) (by lia)
   rw[vV hy,JG (by lia) hy,<-ih (by lia) (by lia)]
   lia
theorem vW{ss:List Scene}{s:Nat}(h:s<ss.length):bN ss s=ss[s].who:=by unfold bN;rw[aH h];rfl
theorem vY{ps:List Part}{i j:Nat}(h:i<ps.length)(h2:j<ps.length):gY ps i j=ps[i].off+ps[j].on:=by unfold gY;rw[aH h,aH h2];rfl
noncomputable def Rz.out(r:Rz):D×Bool:=(r.enc,false)
theorem C1{f:D->Nv->Res Out}{I:Nv->Prop}{g:Nat->Option Rz}{ts:List Nat}{e:Nv}(h:I e)
 (st:∀t∈ts,∀e,I e->match g t with|some r=>f (natI t) e=.ok (.rt r.enc false)|none=>∃e',f (natI t) e=.ok (.nx e')/\I e') :
 match ts.findSome? g with|some r=>forL f (ts.map natI) e=.ok (.rt r.enc false)|none=>∃e',forL f (ts.map natI) e=.ok (.nx e')/\I e':=by
 have:=JH (f:=f) I (λt=>(g t).map Rz.out) ts e h (by
  intro t ht e he
  have:=st t ht e he
  cases hg:g t with
  |none=>rw[hg]at this;obtain⟨e',h1,h2⟩:=this;exact⟨e',.inl h1,h2⟩
  |some r=>rw[hg]at this;exact this)
 rw[CZ]at this
 cases hg:ts.findSome? g with
 |none=>rw[hg]at this;exact this
 |some r=>rw[hg]at this;exact this
end Tr
set_option maxRecDepth 100000
namespace Tr
open PySem
theorem C2(k j:Sum Int Str)(y:D):∀kvs:List (Sum Int Str×D),bF (kvs.map λkv=>if kv.1=k then(kv.1,y)else kv) j=(bF kvs j).map λx=>if j=k then y else x
 |[]=>rfl
 |(k',d)::r=>by
  have ih:=C2 k j y r
  rw[aG]
  unfold bF at ih⊢
  by_cases h1:k'=k<;>by_cases h2:k'=j
  ·subst h1;subst h2;simp[bO]
  ·rw[if_pos h1]
   simp only[bO,h2,decide_false,ih]
  ·have h3:j≠k:=λz=>h1 (h2.trans z)
   rw[if_neg h1]
   simp[bO,h2,h3]
  ·rw[if_neg h1]
   simp only[bO,h2,decide_false,ih]
theorem C3(k:Sum Int Str):∀kvs:List (Sum Int Str×D),(kvs.any λkv=>decide (kv.1=k))=(bF kvs k).isSome
 |[]=>rfl
 |(k',d)::r=>by
  have ih:=C3 k r
  unfold bF at ih⊢
  by_cases h:k'=k
  ·simp[bO,h]
  ·simp only[fW,bO,h,decide_false,xS,ih]
theorem C4(k j:Sum Int Str)(y:D):∀kvs:List (Sum Int Str×D),bF kvs k=none->bF (kvs++[(k,y)]) j=if j=k then some y else bF kvs j
 |[],_=>by
  by_cases h:k=j
  ·subst h;simp[bF,bO]
  ·have h':¬j=k:=λz=>h z.symm
   simp[bF,bO,h,h']
 |(k',d)::r,hn=>by
  have hk:¬k'=k:=λz=>by subst z;simp[bF,bO]at hn
  have hn':bF r k=none:=by simpa[bF,bO,hk]using hn
  have ih:=C4 k j y r hn'
  unfold bF at ih⊢
  by_cases h:k'=j
  ·have h':¬j=k:=λz=>hk (h.trans z)
   simp[bO,h,h']
  ·simp only[LF,bO,h,decide_false,ih]
theorem JJ(kvs:List (Sum Int Str×D))(k j:Sum Int Str)(y:D):bF (gR kvs k y) j=if j=k then some y else bF kvs j:=by
 unfold gR
 rw[C3]
 cases h:bF kvs k with
 |none=>
  rw[if_neg (by simp)]
  exact C4 k j y kvs h
 |some x=>
  rw[if_pos (by simp),C2]
  by_cases e:j=k
  ·subst e;rw[h];simp
  ·rw[if_neg e]
   cases bF kvs j<;>simp[e]
theorem JK(kvs:List (Sum Int Str×D))(k:Sum Int Str)(y:D):(gR kvs k y).length<=kvs.length+1:=by
 unfold gR
 split
 ·simp
 ·simp
theorem cG{α:Type}{f:D->Res (Option D)}(enc:α->D)(g:α->Option D):∀{xs:List α},(∀a∈xs,f (enc a)=.ok (g a))->compL f (xs.map enc)=.ok (xs.filterMap g)
 |[],_=>rfl
 |a::r,h=>by
  rw[aG,compL,h a aY,Res.ok_bind,cG enc g λx hx=>h x (bE _ hx),Res.ok_bind,hV]
  cases g a<;>rfl
theorem nR{α:Type}{f:D->Res (Option D)}(enc:α->D)(p:α->Bool){xs:List α}(h:∀a∈xs,f (enc a)=.ok (if p a=true then some (enc a)else none)):compL f (xs.map enc)=.ok ((xs.filter p).map enc):=by
 rw[cG enc (λa=>if p a=true then some (enc a)else none) h]
 congr 1
 induction xs with
 |nil=>rfl
 |cons a r ih=>
  rw[hV,iC,ih λx hx=>h x (bE _ hx)]
  cases p a<;>rfl
noncomputable def pairD(p:Nat×Nat):D:=.tup [.int p.1,.int p.2]
noncomputable def iR(many i:Nat):List (Nat×Nat):=(bX (i+1) (many-(i+1))).map λj=>(i,j)
noncomputable def eP(many:Nat):Nat->List (Nat×Nat)
 |0=>[]
 |k+1=>eP many k++iR many k
noncomputable def cI(many:Nat):List (Nat×Nat):=eP many many
theorem JL{many i:Nat}{p:Nat×Nat}(h:p∈iR many i):p.1=i/\i<p.2/\p.2<many:=by
 obtain⟨j,hj,rfl⟩:=bG.mp h
 have:=oO.mp hj
 exact⟨rfl,by lia,by lia⟩
theorem C5{many:Nat}{p:Nat×Nat}:∀{k:Nat},p∈eP many k->p.1<p.2/\p.2<many
 |0,h=>by simp[eP]at h
 |k+1,h=>by
  rcases cU.mp h with q|q
  ·exact C5 q
  ·have:=JL q;lia
theorem C6(many:Nat):∀k,(eP many k).length<=k*many
 |0=>by simp[eP]
 |k+1=>by
  have:=C6 many k
  rw[eP,bL,iR,aC,LG,Nat.succ_mul]
  lia
theorem C7(k:Nat)(p:Nat×Nat):D.pl (k+1) (pairD p)=true:=by
 show D.pls (k+1) [D.int p.1,.int p.2]=true
 cases k<;>rfl
noncomputable def eY(ss:List Scene)(t:Nat):Int:=((ss[t]?).map Scene.len).getD 0
noncomputable def eZ(ss:List Scene)(one:Nat):Nat->Option Int
 |0=>none
 |k+1=>if one∈bN ss k then some (cN ss k+eY ss k)else eZ ss one k
noncomputable def kE(ps:List Part)(ss:List Scene)(one other t:Nat):Bool:=
 decide (other∈bN ss t)&&(match eZ ss one t with|some e=>decide (cN ss t-e<gY ps one other)|none=>false)
noncomputable def hit(ps:List Part)(ss:List Scene)(i j t:Nat):Bool:=(decide (i∈bN ss t)&&decide (j∈bN ss t))||kE ps ss i j t||kE ps ss j i t
theorem C8{ss:List Scene}{one:Nat}{e:Int}:∀{t:Nat},eZ ss one t=some e->∃s,s<t/\one∈bN ss s/\e=cN ss s+eY ss s
 |0,h=>by cases h
 |t+1,h=>by
  rw[eZ]at h
  split at h
  ·rename_i hw
   cases h
   exact⟨t,oK t,hw,rfl⟩
  ·obtain⟨s,h1,h2,h3⟩:=C8 h
   exact⟨s,by lia,h2,h3⟩
theorem JM{ss:List Scene}(g:∀s∈ss,0<=s.len/\0<=s.pause){s t:Nat}(h:s<t)(ht:t<=ss.length):cN ss s+eY ss s<=cN ss t:=by
 have hs:s<ss.length:=by lia
 have hx:=aH hs
 have e:=C0 hx h ht
 have hl:eY ss s=ss[s].len:=by unfold eY;rw[hx];rfl
 have hb:0<=dY ss s t:=by
  unfold dY
  rw[hx]
  have h1:=(g ss[s] (iU hs)).2
  have h2:0<=(((ss.drop (s+1)).take (t-(s+1))).map Scene.both).sum:=by
   have:∀l:List Scene,(∀x∈l,0<=x.len/\0<=x.pause)->0<=(l.map Scene.both).sum:=by
    intro l
    induction l with
    |nil=>intro _;simp
    |cons x r ih=>
     intro h
     have a:=h x aY
     have b:=ih λy hy=>h y (bE _ hy)
     rw[aG,List.sum_cons]
     unfold Scene.both at *
     lia
   exact this _ λx hx=>g x (sO (sQ hx))
  simp only[Option.map_some,Option.getD_some]
  lia
 lia
theorem C9{ss:List Scene}(g:∀s∈ss,0<=s.len/\0<=s.pause){one s:Nat}(hw:one∈bN ss s):∀{t:Nat},s<t->t<=ss.length->∃e,eZ ss one t=some e/\cN ss s+eY ss s<=e
 |0,h,_=>by lia
 |t+1,h,ht=>by
  rw[eZ]
  by_cases c:one∈bN ss t
  ·rw[if_pos c]
   refine⟨_,rfl,?_⟩
   by_cases e:s=t
   ·subst e;exact Int.le_refl _
   ·have:=JM g (s:=s) (t:=t) (by lia) (by lia)
    have hl:0<=eY ss t:=by
     unfold eY
     rw[aH (by lia)]
     exact(g _ (iU _)).1
    lia
  ·rw[if_neg c]
   have:s≠t:=λz=>c (z▸hw)
   exact C9 g hw (by lia) (by lia)
theorem C_{ss:List Scene}{s t:Nat}(h:s<t)(ht:t<=ss.length):dY ss s t=cN ss t-(cN ss s+eY ss s):=by
 have hx:=aH (l:=ss) (i:=s) (by lia)
 have e:=C0 hx h ht
 have hl:eY ss s=(ss[s]'(by lia)).len:=by unfold eY;rw[hx];rfl
 lia
theorem who_lt{ss:List Scene}{i t:Nat}(h:i∈bN ss t):t<ss.length:=by
 by_cases c:t<ss.length
 ·exact c
 ·unfold bN at h
  rw[mM (by lia)]at h
  cases h
theorem Ca{α β:Type}{f:α->Option β}{l:List α}:(l.findSome? f).isSome=l.any λa=>(f a).isSome:=by
 induction l with
 |nil=>rfl
 |cons a r ih=>
  rw[yD,fW]
  cases f a<;>simp[ih]
theorem short_some{ps:List Part}{ss:List Scene}{s i j:Nat}:(iQ ps ss s i j).isSome=true↔∃t,s<t/\t<ss.length/\j∈bN ss t/\dY ss s t<gY ps i j:=by
 unfold iQ
 rw[Ca,sT]
 constructor
 ·rintro⟨t,h1,h2⟩
  have:=oO.mp h1
  unfold lI at h2
  split at h2
  ·rename_i c;exact⟨t,by lia,by lia,c.1,c.2⟩
  ·cases h2
 ·rintro⟨t,h1,h2,h3,h4⟩
  refine⟨t,oO.mpr ⟨by lia,by lia⟩,?_⟩
  unfold lI
  rw[if_pos ⟨h3,h4⟩];rfl
theorem from_some{ps:List Part}{ss:List Scene}{s i j:Nat}:(eX ps ss i j s).isSome=true↔(i∈bN ss s/\j∈bN ss s)\/(i∈bN ss s/\(iQ ps ss s i j).isSome=true/\¬j∈bN ss s)\/(j∈bN ss s/\(iQ ps ss s j i).isSome=true/\¬i∈bN ss s):=by
 unfold eX
 by_cases h1:i∈bN ss s<;>by_cases h2:j∈bN ss s<;>simp[h1,h2]
theorem JN{ps:List Part}{ss:List Scene}{i j:Nat}:(aS ps ss i j).isSome=true↔∃s,s<ss.length/\(eX ps ss i j s).isSome=true:=by
 unfold aS
 rw[Ca,sT]
 constructor
 ·rintro⟨s,h1,h2⟩;exact⟨s,by simpa using h1,h2⟩
 ·rintro⟨s,h1,h2⟩;exact⟨s,by simpa using h1,h2⟩
theorem JO{ps:List Part}{ss:List Scene}(g:∀s∈ss,0<=s.len/\0<=s.pause)(i j:Nat):(aA ss.length).any (hit ps ss i j)=(aS ps ss i j).isSome:=by
 rw[kQ,sT,JN]
 have one:∀i j t,kE ps ss i j t=true->∃s,s<ss.length/\(eX ps ss i j s).isSome=true:=by
  intro i j t h
  unfold kE at h
  rw[aE,decide_eq_true_eq]at h
  cases e:eZ ss i t with
  |none=>rw[e]at h;simp at h
  |some x=>
   rw[e]at h
   obtain⟨s,h1,h2,rfl⟩:=C8 e
   have ht:=who_lt h.1
   refine⟨s,by lia,from_some.mpr ?_⟩
   by_cases c:j∈bN ss s
   ·exact .inl ⟨h2,c⟩
   ·refine .inr (.inl ⟨h2,short_some.mpr ⟨t,h1,ht,h.1,?_⟩,c⟩)
    rw[C_ h1 (by lia)]
    simpa using h.2
 have two:∀i j s,i∈bN ss s->(iQ ps ss s i j).isSome=true->∃t,t<ss.length/\kE ps ss i j t=true:=by
  intro i j s h1 h2
  obtain⟨t,h3,h4,h5,h6⟩:=short_some.mp h2
  obtain⟨e,h7,h8⟩:=C9 g h1 h3 (by lia)
  refine⟨t,h4,?_⟩
  unfold kE
  rw[h7,decide_eq_true h5,eS]
  rw[C_ h3 (by lia)]at h6
  simp only[decide_eq_true_eq]
  lia
 constructor
 ·rintro⟨t,h1,h2⟩
  have ht:t<ss.length:=by simpa using h1
  unfold hit at h2
  rw[eD,eD]at h2
  rcases h2 with(h2|h2)|h2
  ·rw[aE,decide_eq_true_eq,decide_eq_true_eq]at h2
   exact⟨t,ht,from_some.mpr (.inl h2)⟩
  ·exact one i j t h2
  ·obtain⟨s,h3,h4⟩:=one j i t h2
   exact⟨s,h3,by rw[JI];exact h4⟩
 ·rintro⟨s,h1,h2⟩
  rcases from_some.mp h2 with h|⟨h,h',_⟩|⟨h,h',_⟩
  ·refine⟨s,by simpa using h1,?_⟩
   unfold hit
   rw[decide_eq_true h.1,decide_eq_true h.2];rfl
  ·obtain⟨t,ht,q⟩:=two i j s h h'
   refine⟨t,by simpa using ht,?_⟩
   unfold hit
   rw[q];simp
  ·obtain⟨t,ht,q⟩:=two j i s h h'
   refine⟨t,by simpa using ht,?_⟩
   unfold hit
   rw[q];simp
end Tr
set_option maxRecDepth 100000
namespace Tr
open PySem
noncomputable def hasC(g:Str)(c:Nat):Bool:=decide (c∈g.cps.toList)
@[simp] theorem JP(c:Nat)(g:Str):D.cmp .In (.str (mU c)) (.str g)=.ok (.bl (hasC g c)):=id rfl
noncomputable def signs(x:Str):List Nat:=x.cps.toList
@[simp] theorem JQ(xs:List D):Bt.run .all [.lst xs]=(do let q<-fL xs;.ok (.bl (q.all id))):=id rfl
theorem JR(x:Str):x.length=(signs x).length:=by cases x;simp[Str.length,signs]
section
variable{T:Tab}
@[simp] theorem fresh_cmp{o:CmpOp}{a b:E}:bH T (.cmp o a b)=false:=id rfl
@[simp] theorem fresh_and{a b:E}:bH T (.and a b)=false:=id rfl
@[simp] theorem fresh_or{a b:E}:bH T (.or a b)=false:=id rfl
@[simp] theorem fresh_mod{a b:E}:bH T (.bin .Mod a b)=false:=id rfl
@[simp] theorem fresh_all{a:E}:bH T (.bt .all a)=false:=id rfl
@[simp] theorem fresh_con{d:D}:bH T (.con d)=false:=id rfl
@[simp] theorem fresh_var{i:Nat}:bH T (.var i)=false:=id rfl
@[simp] theorem fresh_tup{a:E}:bH T (.tup a)=false:=id rfl
end
theorem Cb{x y:Str}(h:signs x=signs y):x=y:=by
 cases x;cases y
 simp only[signs]at h
 congr 1
 exact Kc.mp h
theorem JS{a b:List D}(h:a.length+b.length<=big):D.bin .Add (.lst a) (.lst b)=.ok (.lst (a++b)):=by
 show aB (decide (a.length+b.length<=big)) (.ok (D.lst (a++b)))=_
 rw[show decide (a.length+b.length<=big)=true by simpa using h]
 rfl
end Tr
set_option maxRecDepth 100000
namespace Tr
open PySem
set_option genInjectivity false in
structure Player where
 name:Str
 voices:Str
 hire:Int
noncomputable def Player.enc(p:Player):D:=.tup [.str p.name,.str p.voices,.int p.hire]
@[simp] theorem qenc1{s:Player}:D.ix s.enc (.int 1)=.ok (.str s.voices):=vO
@[simp] theorem penc1{s:Part}:D.ix s.enc (.int 1)=.ok (.str s.voice):=vO
theorem Cc{ss:List Player}{s:Nat}{x:Player}(h:ss[s]?=some x):D.ix (.tup (ss.map Player.enc)) (.int s)=.ok x.enc:=iP (by rw[bI,h];rfl)
noncomputable def cH:Option Nat->D
 |none=>.non
 |some j=>.int (j:Int)
@[simp] theorem optN_some{j:Nat}:cH (some j)=.int (j:Int):=id rfl
noncomputable def lJ(p:Part)(q:Player):Bool:=match signs p.voice with
 |[c]=>hasC q.voices c
 |_=>false
theorem JT{p:Part}{q:Player}(h:(signs p.voice).length=1):D.cmp .In (.str p.voice) (.str q.voices)=.ok (.bl (lJ p q)):=by
 obtain⟨c,hc⟩:∃c,signs p.voice=[c]:=LH.mp h
 have e:p.voice=mU c:=Cb (by rw[hc];rfl)
 unfold lJ
 rw[hc]
 rw[e]
 exact JP c q.voices
theorem JU{p:Part}{q:Player}(h:(signs p.voice).length=1):D.cmp .NotIn (.str p.voice) (.str q.voices)=.ok (.bl (!lJ p q)):=by
 obtain⟨c,hc⟩:∃c,signs p.voice=[c]:=LH.mp h
 have e:p.voice=mU c:=Cb (by rw[hc];rfl)
 unfold lJ
 rw[hc]
 rw[e]
 rfl
noncomputable def nS(P:List Part)(Q:List Player)(k j:Nat):Bool:=((P[k]?).bind λp=>(Q[j]?).map λq=>lJ p q).getD false
theorem Cd{P:List Part}{Q:List Player}{k j:Nat}(hk:k<P.length)(hj:j<Q.length):nS P Q k j=lJ P[k] Q[j]:=by
 unfold nS;rw[aH hk,aH hj];rfl
theorem qN(k:Nat)(o:Nat):D.pl k (natI o)=true:=by cases k<;>rfl
theorem JV{xs:List D}(h:D.pls 30 xs=true):D.cmp .Eq (.tup xs) (.tup [])=.ok (.bl xs.isEmpty):=by
 show aB (D.eqOk _ _) (.ok (D.bl (D.eqb (.tup xs) (.tup []))))=_
 rw[cJ (by unfold D.eqOk;rw[vT,h];rfl)]
 cases xs<;>rfl
theorem Ce{α:Type}(f:α->D)(x:α):∀(cs:List α)(j:Nat),cQ (j:Int) (cs.map f)=(aA cs.length).map (λk=>D.tup [.int ((j+k:Nat):Int),f (cs.getD k x)])
 |[],_=>rfl
 |c::r,j=>by
  rw[aG,cQ,aN,mF,aG,bU]
  have h:=Ce f x r (j+1)
  rw[show((j+1:Nat):Int)=(j:Int)+1 by push_cast;rfl]at h
  rw[h]
  congr 1
  apply gP
  intro k _
  simp only[Function.comp,List.getD_cons_succ]
  congr 4
  lia
end Tr
set_option maxRecDepth 100000
namespace Tr
open PySem
theorem Cf(k:Nat)(p:Nat×Nat):D.pl (k+1) (pairD p)=true:=by
 show D.pls (k+1) [D.int _,D.int _]=true
 cases k<;>rfl
end Tr
set_option maxRecDepth 100000
namespace Tr
open PySem
theorem Cg{many i j:Nat}:∀{k:Nat},i<k->i<j->j<many->(i,j)∈eP many k
 |0,h,_,_=>by lia
 |k+1,h,h1,h2=>by
  rw[eP,cU]
  by_cases e:i=k
  ·subst e
   exact .inr (bG.mpr ⟨j,oO.mpr (by lia),rfl⟩)
  ·exact .inl (Cg (by lia) h1 h2)
theorem JW{many i j:Nat}(h1:i<j)(h2:j<many):(i,j)∈cI many:=Cg (by lia) h1 h2
theorem JX{many:Nat}{p:Nat×Nat}(h:p∈cI many):p.1<p.2/\p.2<many:=C5 h
theorem Ci(p q:Nat×Nat):D.eqb (pairD p) (pairD q)=decide (p=q):=by
 show D.eqs [D.int _,D.int _] [D.int _,D.int _]=_
 have:D.eqs [D.int (p.1:Int),D.int (p.2:Int)] [D.int (q.1:Int),D.int (q.2:Int)]=(((p.1:Int)==(q.1:Int))&&(((p.2:Int)==(q.2:Int))&&true)):=rfl
 rw[this,kQ]
 simp
 constructor
 ·rintro⟨a,b⟩;exact Prod.ext (by lia) (by lia)
 ·rintro rfl;exact⟨rfl,rfl⟩
theorem Cj(p:Nat×Nat):∀ps:List (Nat×Nat),D.mem (pairD p) (ps.map pairD)=decide (p∈ps)
 |[]=>rfl
 |q::r=>by
  rw[aG,D.mem,Cj p r,Ci]
  by_cases h1:q=p
  ·subst h1;simp
  ·have h2:¬p=q:=λz=>h1 z.symm
   by_cases h3:p∈r<;>simp[h1,h2,h3]
end Tr
set_option maxRecDepth 100000
namespace Tr
open PySem
noncomputable def gZ(ok:Nat->Bool)(ps:List (Nat×Nat))(ts:List (List Nat))(p:Nat):List (List Nat):=
 if ok p=true then ts++(ts.filter λt=>t.all λo=>!decide ((o,p)∈ps)).map (·++[p])else ts
noncomputable def aX(ok:Nat->Bool)(ps:List (Nat×Nat))(left:List Nat):List (List Nat):=left.foldl (gZ ok ps) [[]]
theorem qO(ok:Nat->Bool)(ps:List (Nat×Nat))(l:List Nat)(p:Nat):aX ok ps (l++[p])=gZ ok ps (aX ok ps l) p:=by
 unfold aX
 rw[Dp];rfl
theorem Ck{s l:List Nat}{p:Nat}:s.Sublist (l++[p])↔s.Sublist l\/∃t,s=t++[p]/\t.Sublist l:=by
 rw[List.sublist_append_iff]
 constructor
 ·rintro⟨a,b,rfl,h1,h2⟩
  have h3:b=[]\/b=[p]:=by
   cases h2 with
   |cons _ h=>exact .inl (Ds.mp h)
   |cons_cons _ h=>exact .inr (by rw[Ds.mp h])
  rcases h3 with rfl|rfl
  ·rw[jM];exact .inl h1
  ·exact .inr ⟨a,rfl,h1⟩
 ·rintro(h|⟨t,rfl,h⟩)
  ·exact⟨s,[],(jM _).symm,h,List.nil_sublist _⟩
  ·exact⟨t,[p],rfl,h,List.Sublist.refl _⟩
theorem gM{ok:Nat->Bool}{ps:List (Nat×Nat)}:∀{n:Nat} {l t:List Nat},l.length=n->(t∈aX ok ps l↔t.Sublist l/\(∀p∈t,ok p=true)/\t.Pairwise λa b=>(a,b)∉ps)
 |0,l,t,hl=>by
  have e:l=[]:=D_.mp hl
  subst e
  show t∈[[]]↔_
  rw[bJ,Ds]
  constructor
  ·rintro rfl;exact⟨rfl,(λp h=>nomatch h),oI.nil⟩
  ·exact λh=>h.1
 |n+1,l,t,hl=>by
  obtain⟨l0,p,rfl⟩:∃l0 p,l=l0++[p]:=by
   have h0:l≠[]:=λz=>by rw[z]at hl;cases hl
   exact⟨l.dropLast,l.getLast h0,(sU h0).symm⟩
  have hl0:l0.length=n:=by rw[bL,fV]at hl;lia
  rw[qO]
  unfold gZ
  by_cases c:ok p=true
  ·rw[if_pos c,cU,gM hl0,Ck]
   constructor
   ·rintro(⟨h1,h2,h3⟩|h)
    ·exact⟨.inl h1,h2,h3⟩
    ·obtain⟨t0,h0,rfl⟩:=bG.mp h
     obtain⟨h0,h4⟩:=fE.mp h0
     obtain⟨h1,h2,h3⟩:=(gM hl0).mp h0
     refine⟨.inr ⟨t0,rfl,h1⟩,λq hq=>?_,Dl.mpr ⟨h3,List.pairwise_singleton _ _,λa ha b hb=>?_⟩⟩
     ·rcases cU.mp hq with hq|hq
      ·exact h2 q hq
      ·rw[bJ.mp hq];exact c
     ·rw[bJ.mp hb]
      simpa using fF.mp h4 a ha
   ·rintro⟨h1|⟨t0,rfl,h1⟩,h2,h3⟩
    ·exact .inl ⟨h1,h2,h3⟩
    ·obtain⟨g1,_,g3⟩:=Dl.mp h3
     refine .inr (bG.mpr ⟨t0,fE.mpr ⟨(gM hl0).mpr ⟨h1,λq hq=>h2 q (kJ _ hq),g1⟩,?_⟩,rfl⟩)
     rw[fF]
     intro a ha
     simpa using g3 a ha p (bJ.mpr rfl)
  ·rw[if_neg c,gM hl0,Ck]
   constructor
   ·rintro⟨h1,h2,h3⟩;exact⟨.inl h1,h2,h3⟩
   ·rintro⟨h1|⟨t0,rfl,h1⟩,h2,h3⟩
    ·exact⟨h1,h2,h3⟩
    ·exact absurd (h2 p (eI _ (bJ.mpr rfl))) c
noncomputable abbrev Way:=Int×List (Option Nat)
noncomputable def bB(L:List (List Nat×Way))(k:List Nat):Option Way:=(L.find? λe=>decide (e.1=k)).map (·.2)
noncomputable def hE(L:List (List Nat×Way))(k:List Nat)(v:Way):List (List Nat×Way):=
 if(L.any λe=>decide (e.1=k))=true then L.map (λe=>if e.1=k then(e.1,v)else e)else L++[(k,v)]
noncomputable def fA(L:List (List Nat×Way))(k:List Nat)(v:Way):List (List Nat×Way):=match bB L k with
 |none=>hE L k v
 |some w=>if v.1<w.1 then hE L k v else L
theorem Cm:∀{L:List (List Nat×Way)} {k:List Nat} {v:Way} {k':List Nat},bB (hE L k v) k'=if k'=k then some v else bB L k':=by
 intro L k v k'
 have old:∀L:List (List Nat×Way),k'≠k->bB (L.map (λe=>if e.1=k then(e.1,v)else e)) k'=bB L k':=by
  intro L hne
  induction L with
  |nil=>rfl
  |cons e r ih=>
   unfold bB at ih⊢
   rw[aG,bO,bO]
   by_cases c:e.1=k
   ·rw[if_pos c]
    have:¬e.1=k':=λz=>hne (z.symm.trans c)
    rw[decide_eq_false this];exact ih
   ·rw[if_neg c]
    by_cases c':e.1=k'
    ·rw[decide_eq_true c']
    ·rw[decide_eq_false c'];exact ih
 unfold hE
 by_cases a:(L.any λe=>decide (e.1=k))=true
 ·rw[if_pos a]
  by_cases h:k'=k
  ·subst h
   rw[if_pos rfl]
   clear old
   induction L with
   |nil=>cases a
   |cons e r ih=>
    unfold bB at ih⊢
    rw[aG,bO]
    by_cases c:e.1=k'
    ·rw[if_pos c,decide_eq_true c];rfl
    ·rw[if_neg c,decide_eq_false c]
     rw[fW,decide_eq_false c,xS]at a
     exact ih a
  ·rw[if_neg h,old L h]
 ·rw[if_neg a]
  clear old
  induction L with
  |nil=>
   show((List.find? _ [(k,v)]).map _)=_
   by_cases h:k'=k
   ·rw[if_pos h,bO,decide_eq_true h.symm];rfl
   ·rw[if_neg h,bO,decide_eq_false (λz=>h z.symm)];rfl
  |cons e r ih=>
   rw[fW,eD,not_or]at a
   have ih:=ih a.2
   have ne:¬e.1=k:=by simpa using a.1
   unfold bB at ih⊢
   rw[LF,bO,bO]
   by_cases c:e.1=k'
   ·rw[decide_eq_true c,if_neg (λz=>ne (c.trans z))]
   ·rw[decide_eq_false c];exact ih
theorem JY{L:List (List Nat×Way)}{k:List Nat}{v:Way}{k':List Nat}:bB (fA L k v) k'=if k'=k then(match bB L k with|none=>some v|some w=>if v.1<w.1 then some v else some w)else bB L k':=by
 unfold fA
 cases h:bB L k with
 |none=>exact Cm
 |some w=>
  dsimp only
  by_cases c:v.1<w.1
  ·rw[if_pos c,if_pos c];exact Cm
  ·rw[if_neg c,if_neg c]
   by_cases e:k'=k
   ·rw[if_pos e,e,h]
   ·rw[if_neg e]
noncomputable def eQ(L:List (List Nat×Way))(cs:List (List Nat×Way)):List (List Nat×Way):=cs.foldl (λacc c=>fA acc c.1 c.2) L
theorem Cn:∀{cs L:List (List Nat×Way)} {k:List Nat} {v:Way},bB (eQ L cs) k=some v->bB L k=some v\/(k,v)∈cs
 |[],L,k,v,h=>.inl h
 |c::cs,L,k,v,h=>by
  rcases Cn (cs:=cs) (L:=fA L c.1 c.2) h with h|h
  ·rw[JY]at h
   by_cases e:k=c.1
   ·rw[if_pos e]at h
    cases hv:bB L c.1 with
    |none=>rw[hv]at h;cases h;right;rw[e];exact aY
    |some w=>
     rw[hv]at h
     dsimp only at h
     by_cases lt:c.2.1<w.1
     ·rw[if_pos lt]at h;cases h;right;rw[e];exact aY
     ·rw[if_neg lt]at h;cases h;left;rw[e,hv]
   ·rw[if_neg e]at h;exact .inl h
  ·exact .inr (bE _ h)
theorem JZ{L:List (List Nat×Way)}{k:List Nat}{v:Way}(h:bB L k=some v):(k,v)∈L:=by
 unfold bB at h
 cases q:L.find? λe=>decide (e.1=k)with
 |none=>rw[q]at h;cases h
 |some e=>
  rw[q]at h
  cases h
  have h1:=Dc q
  have h2:=Kq q
  have:e.1=k:=of_decide_eq_true h1
  rw[<-this];exact h2
noncomputable def ptak(h:Int)(lk:Nat->Int)(t:List Nat):Int:=if t=[]then 0 else h+(t.map lk).sum
noncomputable def dO(c:List (Option Nat))(t:List Nat)(pl:Nat):List (Option Nat):=(aA c.length).map λp=>if p∈t then some pl else c.getD p none
noncomputable def behindV(left t:List Nat):List Nat:=left.filter λp=>!decide (p∈t)
noncomputable def kF(ok:Nat->Bool)(ps:List (Nat×Nat))(h:Int)(lk:Nat->Int)(pl:Nat)(left:List Nat)(v:Way):List (List Nat×Way):=(aX ok ps left).map λt=>(behindV left t,(v.1+ptak h lk t,dO v.2 t pl))
noncomputable def vZ(ok:Nat->Bool)(ps:List (Nat×Nat))(h:Int)(lk:Nat->Int)(pl:Nat)(ways:List (List Nat×Way)):List (List Nat×Way):=ways.flatMap λe=>match bB ways e.1 with|some v=>kF ok ps h lk pl e.1 v|none=>[]
noncomputable def qP(ok:Nat->Bool)(ps:List (Nat×Nat))(h:Int)(lk:Nat->Int)(pl:Nat)(ways:List (List Nat×Way)):List (List Nat×Way):=eQ [] (vZ ok ps h lk pl ways)
structure Cst where
 many:Nat
 ok:Nat->Nat->Bool
 ps:List (Nat×Nat)
 hire:Nat->Int
 like:Nat->Nat->Int
noncomputable def aP(B:Cst):Nat->List (List Nat×Way)
 |0=>[(aA B.many,(0,aM B.many none))]
 |k+1=>qP (B.ok k) B.ps (B.hire k) (B.like k) k (aP B k)
noncomputable def atC(c:List (Option Nat))(p:Nat):Option Nat:=c.getD p none
noncomputable def lK(m:Nat)(pl:Nat)(c:List (Option Nat)):List Nat:=(aA m).filter λp=>decide (atC c p=some pl)
noncomputable def nT(m:Nat)(c:List (Option Nat)):List Nat:=(aA m).filter λp=>decide (atC c p=none)
structure Pcs(B:Cst)(k:Nat)(c:List (Option Nat)):Prop where
 len:c.length=B.many
 lt:∀p,p<B.many->∀pl,atC c p=some pl->pl<k
 ok:∀p,p<B.many->∀pl,atC c p=some pl->B.ok pl p=true
 apart:∀p q,p<q->q<B.many->∀pl,atC c p=some pl->atC c q=some pl->(p,q)∉B.ps
noncomputable def jI(B:Cst)(c:List (Option Nat)):Nat->Int
 |0=>0
 |k+1=>jI B c k+ptak (B.hire k) (B.like k) (lK B.many k c)
theorem Co{B:Cst}{c c':List (Option Nat)}:∀{k:Nat},(∀pl,pl<k->lK B.many pl c=lK B.many pl c')->jI B c k=jI B c' k
 |0,_=>rfl
 |k+1,h=>by rw[jI,jI,Co λpl hp=>h pl (by lia),h k (by lia)]
theorem J0{c:List (Option Nat)}{t:List Nat}{pl p:Nat}(h:p<c.length):atC (dO c t pl) p=if p∈t then some pl else atC c p:=by
 unfold atC dO
 rw[cZ,bI,List.getElem?_range h];rfl
theorem J1{l t:List Nat}(nd:l.Nodup)(h:t.Sublist l):l.filter (λp=>decide (p∈t))=t:=by
 induction h with
 |slnil=>rfl
 | @cons l1 l2 a h ih=>
  have nd2:=(dP.mp nd)
  rw[iC,decide_eq_false (λz=>nd2.1 (h.mem z)),if_neg aK]
  exact ih nd2.2
 | @cons_cons l1 l2 a h ih=>
  have nd2:=(dP.mp nd)
  rw[iC,decide_eq_true aY,if_pos rfl]
  congr 1
  rw[<-ih nd2.2]
  refine yE λp hp=>?_
  have:p≠a:=λz=>nd2.1 (z▸hp)
  rw[ih nd2.2]
  by_cases c:p∈l1
  ·rw[decide_eq_true c,decide_eq_true (bE _ c)]
  ·rw[decide_eq_false c,decide_eq_false (λz=>(aZ.mp z).elim this c)]
theorem mem_left{m:Nat}{c:List (Option Nat)}{p:Nat}:p∈nT m c↔p<m/\atC c p=none:=by
 unfold nT
 rw[fE,cO,decide_eq_true_eq]
theorem J2(m:Nat):(aA m).Pairwise (· < ·):=Ks
theorem qQ(B:Cst):∀(k:Nat){key:List Nat}{v:Way},bB (aP B k) key=some v->Pcs B k v.2/\key=nT B.many v.2/\v.1=jI B v.2 k
 |0,key,v,h=>by
  have:=JZ h
  rw[aP,bJ]at this
  cases this
  have at0:∀p,atC (aM B.many none) p=none:=λp=>by
   unfold atC
   rw[cZ,oF]
   split<;>rfl
  refine⟨⟨eB,λp _ pl z=>?_,λp _ pl z=>?_,λp q _ _ pl z=>?_⟩,?_,rfl⟩
  ·rw[at0]at z;cases z
  ·rw[at0]at z;cases z
  ·rw[at0]at z;cases z
  ·unfold nT
   rw[List.filter_eq_self.mpr λp _=>decide_eq_true (at0 p)]
 |k+1,key,v,h=>by
  rw[aP]at h
  rcases Cn h with z|z
  ·cases z
  ·unfold vZ at z
   obtain⟨e,he,z⟩:=List.mem_flatMap.mp z
   cases hv:bB (aP B k) e.1 with
   |none=>rw[hv]at z;cases z
   |some w=>
    rw[hv]at z
    obtain⟨t,ht,z⟩:=bG.mp z
    obtain⟨P,hl,hc⟩:=qQ B k hv
    obtain⟨t1,t2,t3⟩:=(gM rfl).mp ht
    cases z
    have tl:∀p∈t,p<B.many/\atC w.2 p=none:=λp hp=>by
     have:=t1.mem hp
     rw[hl]at this
     exact mem_left.mp this
    have tn:t.Sublist (aA B.many):=by
     refine t1.trans ?_
     rw[hl]
     exact LI
    have aw:∀p,p<B.many->atC (dO w.2 t k) p=if p∈t then some k else atC w.2 p:=λp hp=>J0 (by rw[P.len];exact hp)
    have pk:lK B.many k (dO w.2 t k)=t:=by
     refine Eq.trans ?_ (J1 xV tn)
     unfold lK
     refine yE λp hp=>?_
     rw[aw p (cO.mp hp)]
     by_cases c:p∈t
     ·rw[if_pos c,decide_eq_true rfl,decide_eq_true c]
     ·rw[if_neg c,decide_eq_false c]
      refine decide_eq_false λq=>?_
      have:=P.lt p (cO.mp hp) k q
      lia
    refine⟨⟨?_,λp hp pl q=>?_,λp hp pl q=>?_,λp q hpq hq pl g1 g2=>?_⟩,?_,?_⟩
    ·show(dO w.2 t k).length=_
     unfold dO
     rw[aC,cY,P.len]
    ·rw[aw p hp]at q
     by_cases c:p∈t
     ·rw[if_pos c]at q;cases q;lia
     ·rw[if_neg c]at q
      have:=P.lt p hp pl q;lia
    ·rw[aw p hp]at q
     by_cases c:p∈t
     ·rw[if_pos c]at q;cases q;exact t2 p c
     ·rw[if_neg c]at q;exact P.ok p hp pl q
    ·rw[aw p (by lia)]at g1
     rw[aw q hq]at g2
     by_cases c1:p∈t
     ·rw[if_pos c1]at g1
      cases g1
      by_cases c2:q∈t
      ·have pw:t.Pairwise λa b=>a<b/\(a,b)∉B.ps:=(oI.sublist tn (J2 _)).and t3
       have all:=kN.mp pw
       obtain⟨i,hi,ei⟩:=mK c1
       obtain⟨j,hj,ej⟩:=mK c2
       rcases xW i j with l|l|l
       ·have:=(all i j hi hj l).2
        rw[ei,ej]at this;exact this
       ·subst l;lia
       ·have:=(all j i hj hi l).1
        lia
      ·rw[if_neg c2]at g2
       have:=P.lt q hq k g2;lia
     ·rw[if_neg c1]at g1
      by_cases c2:q∈t
      ·rw[if_pos c2]at g2
       cases g2
       have:=P.lt p (by lia) k g1;lia
      ·rw[if_neg c2]at g2
       exact P.apart p q hpq hq pl g1 g2
    ·unfold behindV
     rw[hl]
     unfold nT
     rw[List.filter_filter]
     refine yE λp hp=>?_
     rw[aw p (cO.mp hp)]
     by_cases c:p∈t
     ·rw[if_pos c,decide_eq_true c];rfl
     ·rw[if_neg c,decide_eq_false c];rfl
    ·show w.1+_=jI B (dO w.2 t k) (k+1)
     rw[jI,pk,hc]
     congr 1
     refine Co λpl hp=>?_
     unfold lK
     refine yE λp hpm=>?_
     rw[aw p (cO.mp hpm)]
     by_cases c:p∈t
     ·rw[if_pos c,(tl p c).2,decide_eq_false (by intro z;cases z),decide_eq_false (by intro z;cases z;lia)]
     ·rw[if_neg c]
end Tr
namespace K43
open PySem Tr
noncomputable def b_are_unlike:S:=
 (.cons (.ret (.cmp .Eq (.lset (.var 0)) (.bt .len (.acons (.var 0) .anil))))
 .nil)
noncomputable def qR:E:=
 (.bin .Add (.ix (.var 0) (.con (.int 1))) (.ix (.var 0) (.con (.int 2))))
noncomputable def b_time_between:S:=
 (.cons (.asg (.one 3) (.ix (.var 0) (.glob 2)))
 (.cons (.ret (.bin .Add (.ix (.ix (.var 3) (.var 1)) (.con (.int 2))) (.bt .sum (.acons (.comp 1 [] (.one 0) qR (.seq (.sl (.var 3) (.bin .Add (.var 1) (.con (.int 1))) (.var 2))) (.con (.bl true))) .anil))))
 .nil))
noncomputable def b_change_time:S:=
 (.cons (.ret (.bin .Add (.ix (.ix (.ix (.var 0) (.glob 0)) (.var 1)) (.con (.int 2))) (.ix (.ix (.ix (.var 0) (.glob 0)) (.var 2)) (.con (.int 3)))))
 .nil)
noncomputable def nU:S:=
 (.cons (.ite (.cmp .In (.var 3) (.ix (.ix (.ix (.var 0) (.glob 2)) (.var 5)) (.con (.int 3))))
 (.cons (.asg (.one 6) (.call 1 (.acons (.var 0) (.acons (.var 1) (.acons (.var 5) .anil)))))
 (.cons (.ite (.cmp .Lt (.var 6) (.var 4))
 (.cons (.ret (.tup (.acons (.con (.str "change")) (.acons (.var 1) (.acons (.var 5) (.acons (.var 6) (.acons (.var 4) .anil)))))))
 .nil)
 .nil)
 .nil))
 .nil)
 .nil)
noncomputable def b_short_change_from:S:=
 (.cons (.asg (.one 4) (.call 2 (.acons (.var 0) (.acons (.var 2) (.acons (.var 3) .anil)))))
 (.cons (.forS (.one 5) (.rng2 (.bin .Add (.var 1) (.con (.int 1))) (.bt .len (.acons (.ix (.var 0) (.glob 2)) .anil))) nU)
 (.cons (.ret (.con .non))
 .nil)))
noncomputable def b_reason_from:S:=
 (.cons (.asg (.one 4) (.ix (.ix (.ix (.var 0) (.glob 2)) (.var 1)) (.con (.int 3))))
 (.cons (.ite (.and (.cmp .In (.var 2) (.var 4)) (.cmp .In (.var 3) (.var 4)))
 (.cons (.ret (.tup (.acons (.con (.str "scene")) (.acons (.var 1) .anil))))
 .nil)
 .nil)
 (.cons (.ite (.cmp .In (.var 2) (.var 4))
 (.cons (.ret (.call 3 (.acons (.var 0) (.acons (.var 1) (.acons (.var 2) (.acons (.var 3) .anil))))))
 .nil)
 .nil)
 (.cons (.ite (.cmp .In (.var 3) (.var 4))
 (.cons (.ret (.call 3 (.acons (.var 0) (.acons (.var 1) (.acons (.var 3) (.acons (.var 2) .anil))))))
 .nil)
 .nil)
 (.cons (.ret (.con .non))
 .nil)))))
noncomputable def qS:S:=
 (.cons (.asg (.one 4) (.call 4 (.acons (.var 0) (.acons (.var 3) (.acons (.var 1) (.acons (.var 2) .anil))))))
 (.cons (.ite (.cmp .IsNot (.var 4) (.con .non))
 (.cons (.ret (.var 4))
 .nil)
 .nil)
 .nil))
noncomputable def b_reason_of:S:=
 (.cons (.forS (.one 3) (.rng (.bt .len (.acons (.ix (.var 0) (.glob 2)) .anil))) qS)
 (.cons (.ret (.con .non))
 .nil))
noncomputable def qT:E:=
 (.cmp .IsNot (.call 5 (.acons (.var 2) (.acons (.var 1) (.acons (.var 0) .anil)))) (.con .non))
noncomputable def qU:E:=
 (.tup (.acons (.var 1) (.acons (.var 0) .anil)))
noncomputable def wA:S:=
 (.cons (.ext 1 (.comp 1 [3,0] (.one 0) qU (.rng2 (.bin .Add (.var 3) (.con (.int 1))) (.var 2)) qT))
 .nil)
noncomputable def b_clashes_of:S:=
 (.cons (.asgO 1 (.lst .anil))
 (.cons (.asg (.one 2) (.bt .len (.acons (.ix (.var 0) (.glob 0)) .anil)))
 (.cons (.forS (.one 3) (.rng (.var 2)) wA)
 (.cons (.retO 1)
 .nil))))
noncomputable def b_fault_of_part:S:=
 (.cons (.ite (.cmp .Is (.var 2) (.con .non))
 (.cons (.ret (.tup (.acons (.con (.str "nobody")) (.acons (.var 1) .anil))))
 .nil)
 .nil)
 (.cons (.ite (.cmp .NotIn (.ix (.ix (.ix (.var 0) (.glob 0)) (.var 1)) (.con (.int 1))) (.ix (.ix (.ix (.var 0) (.glob 1)) (.var 2)) (.con (.int 1))))
 (.cons (.ret (.tup (.acons (.con (.str "voice")) (.acons (.var 1) (.acons (.var 2) .anil)))))
 .nil)
 .nil)
 (.cons (.ret (.con .non))
 .nil)))
noncomputable def wB:E:=
 (.cmp .NotIn (.tup (.acons (.var 0) (.acons (.var 2) .anil))) (.var 1))
noncomputable def b_may_join:S:=
 (.cons (.ret (.bt .all (.acons (.comp 1 [0,2] (.one 0) wB (.seq (.var 1)) (.con (.bl true))) .anil)))
 .nil)
noncomputable def qV:E:=
 (.call 8 (.acons (.var 2) (.acons (.var 0) (.acons (.var 1) .anil))))
noncomputable def qW:E:=
 (.bin .Add (.var 0) (.tup (.acons (.var 1) .anil)))
noncomputable def qX:S:=
 (.cons (.ite (.cmp .Is (.call 7 (.acons (.var 0) (.acons (.var 5) (.acons (.var 2) .anil)))) (.con .non))
 (.cons (.asg (.one 4) (.bin .Add (.var 4) (.comp 1 [5,1] (.one 0) qW (.seq (.var 4)) qV)))
 .nil)
 .nil)
 .nil)
noncomputable def b_takings_of:S:=
 (.cons (.asg (.one 4) (.lst (.acons (.tup .anil) .anil)))
 (.cons (.forS (.one 5) (.seq (.var 3)) qX)
 (.cons (.ret (.var 4))
 .nil)))
noncomputable def wC:E:=
 (.ix (.ix (.var 1) (.var 2)) (.var 0))
noncomputable def b_price_of_taking:S:=
 (.cons (.asg (.many [3,4]) (.var 0))
 (.cons (.ite (.cmp .Eq (.var 2) (.tup .anil))
 (.cons (.ret (.con (.int 0)))
 .nil)
 .nil)
 (.cons (.ret (.bin .Add (.ix (.var 3) (.var 1)) (.bt .sum (.acons (.comp 1 [4,1] (.one 0) wC (.seq (.var 2)) (.con (.bl true))) .anil))))
 .nil)))
noncomputable def qY:E:=
 (.cmp .NotIn (.var 0) (.var 1))
noncomputable def qZ:E:=
 (.var 0)
noncomputable def b_left_behind:S:=
 (.cons (.ret (.bt .tuple (.acons (.comp 1 [1] (.one 0) qZ (.seq (.var 0)) qY) .anil)))
 .nil)
noncomputable def rA:E:=
 (.ife (.cmp .In (.var 0) (.var 3)) (.var 2) (.var 1))
noncomputable def b_with_parts:S:=
 (.cons (.ret (.comp 2 [2,1] (.many [0,1]) rA (.enum (.var 0)) (.con (.bl true))))
 .nil)
noncomputable def b_first_ways:S:=
 (.cons (.asg (.one 1) (.bt .len (.acons (.ix (.var 0) (.glob 0)) .anil)))
 (.cons (.ret (.dlit (.trng (.var 1)) (.tup (.acons (.con (.int 0)) (.acons (.bin .Mult (.lst (.acons (.con .non) .anil)) (.var 1)) .anil)))))
 .nil))
noncomputable def nV:S:=
 (.cons (.asg (.one 10) (.call 11 (.acons (.var 6) (.acons (.var 9) .anil))))
 (.cons (.asg (.one 11) (.bin .Add (.var 7) (.call 10 (.acons (.var 2) (.acons (.var 3) (.acons (.var 9) .anil))))))
 (.cons (.ite (.or (.cmp .NotIn (.var 10) (.rd 5)) (.cmp .Lt (.var 11) (.ix (.ix (.rd 5) (.var 10)) (.con (.int 0)))))
 (.cons (.dputV 5 (.var 10) (.tup (.acons (.var 11) (.acons (.call 12 (.acons (.var 8) (.acons (.var 9) (.acons (.var 3) .anil)))) .anil))))
 .nil)
 .nil)
 .nil)))
noncomputable def wD:S:=
 (.cons (.asg (.many [7,8]) (.ix (.var 4) (.var 6)))
 (.cons (.forS (.one 9) (.seq (.call 9 (.acons (.var 0) (.acons (.var 1) (.acons (.var 3) (.acons (.var 6) .anil)))))) nV)
 .nil))
noncomputable def b_next_ways:S:=
 (.cons (.newT 5)
 (.cons (.forS (.one 6) (.seqD (.var 4)) wD)
 (.cons (.retO 5)
 .nil)))
noncomputable def wF:S:=
 (.cons (.app 3 (.call 14 (.acons (.var 0) (.acons (.var 2) (.acons (.var 1) (.acons (.var 4) (.acons (.ix (.rd 3) (.neg (.con (.int 1)))) .anil)))))))
 .nil)
noncomputable def b_all_ways:S:=
 (.cons (.asg (.one 2) (.call 6 (.acons (.var 0) .anil)))
 (.cons (.asgO 3 (.lst (.acons (.call 13 (.acons (.var 0) .anil)) .anil)))
 (.cons (.forS (.one 4) (.rng (.bt .len (.acons (.ix (.var 0) (.glob 1)) .anil))) wF)
 (.cons (.retO 3)
 .nil))))
noncomputable def b_least_of:S:=
 (.cons (.ret (.getV (.ix (.call 15 (.acons (.var 0) (.acons (.var 1) .anil))) (.neg (.con (.int 1)))) (.tup .anil)))
 .nil)
noncomputable def wG:E:=
 (.tup (.acons (.var 0) (.acons (.ix (.ix (.var 1) (.var 0)) (.con (.int 0))) .anil)))
noncomputable def b_layer_of:S:=
 (.cons (.ret (.comp 1 [0] (.one 0) wG (.seqD (.var 0)) (.con (.bl true))))
 .nil)
noncomputable def wH:E:=
 (.call 17 (.acons (.var 0) .anil))
noncomputable def b_paper_of:S:=
 (.cons (.ret (.comp 1 [] (.one 0) wH (.seq (.call 15 (.acons (.var 0) (.acons (.var 1) .anil)))) (.con (.bl true))))
 .nil)
noncomputable def b_has_its_layers:S:=
 (.cons (.ite (.cmp .NotEq (.bt .len (.acons (.var 1) .anil)) (.bin .Add (.bt .len (.acons (.ix (.var 0) (.glob 1)) .anil)) (.con (.int 1))))
 (.cons (.ret (.con (.bl false)))
 .nil)
 .nil)
 (.cons (.ret (.cmp .Eq (.ix (.var 1) (.con (.int 0))) (.lst (.acons (.tup (.acons (.trng (.bt .len (.acons (.ix (.var 0) (.glob 0)) .anil))) (.acons (.con (.int 0)) .anil))) .anil))))
 .nil))
noncomputable def wI:E:=
 (.var 0)
noncomputable def b_has_each_left_once:S:=
 (.cons (.ret (.call 0 (.acons (.comp 2 [] (.many [0,1]) wI (.seq (.var 0)) (.con (.bl true))) .anil)))
 .nil)
noncomputable def b_holds_behind_1 : S :=
 (.cons (.asg (.one 9) (.call 11 (.acons (.var 6) (.acons (.var 8) .anil))))
 (.cons (.ite (.or (.cmp .NotIn (.var 9) (.var 5)) (.cmp .Gt (.ix (.var 5) (.var 9)) (.bin .Add (.var 7) (.call 10 (.acons (.var 2) (.acons (.var 3) (.acons (.var 8) .anil)))))))
 (.cons (.ret (.con (.bl false)))
 .nil)
 .nil)
 .nil))
noncomputable def b_holds_behind : S :=
 (.cons (.asg (.many [6,7]) (.var 4))
 (.cons (.forS (.one 8) (.seq (.call 9 (.acons (.var 0) (.acons (.var 1) (.acons (.var 3) (.acons (.var 6) .anil)))))) b_holds_behind_1)
 (.cons (.ret (.con (.bl true)))
 .nil)))
noncomputable def e_holds_step_by_step_1 : E :=
 (.call 21 (.acons (.var 1) (.acons (.var 2) (.acons (.var 3) (.acons (.var 4) (.acons (.var 0) (.acons (.var 5) .anil)))))))
noncomputable def b_holds_step_by_step_2 : S :=
 (.cons (.asg (.one 5) (.dcl (.ix (.var 2) (.bin .Add (.var 4) (.con (.int 1))))))
 (.cons (.ite (.not (.bt .all (.acons (.comp 1 [0, 3, 1, 4, 5] (.one 0) e_holds_step_by_step_1 (.seq (.ix (.var 2) (.var 4))) (.con (.bl true))) .anil)))
 (.cons (.ret (.con (.bl false)))
 .nil)
 .nil)
 .nil))
noncomputable def b_holds_step_by_step : S :=
 (.cons (.asg (.one 3) (.call 6 (.acons (.var 0) .anil)))
 (.cons (.forS (.one 4) (.rng (.bt .len (.acons (.ix (.var 0) (.glob 1)) .anil))) b_holds_step_by_step_2)
 (.cons (.ret (.con (.bl true)))
 .nil)))
noncomputable def rC:E:=
 (.cmp .Eq (.var 0) (.tup .anil))
noncomputable def rD:E:=
 (.var 1)
noncomputable def wJ:E:=
 (.cmp .GtE (.var 0) (.var 1))
noncomputable def b_ends_with:S:=
 (.cons (.asg (.one 2) (.comp 2 [] (.many [0,1]) rD (.seq (.var 0)) rC))
 (.cons (.ite (.cmp .Is (.var 1) (.con .non))
 (.cons (.ret (.cmp .Eq (.var 2) (.lst .anil)))
 .nil)
 .nil)
 (.cons (.ret (.bt .all (.acons (.comp 1 [1] (.one 0) wJ (.seq (.var 2)) (.con (.bl true))) .anil)))
 .nil)))
noncomputable def e_holds_1 : E :=
 (.call 20 (.acons (.var 0) .anil))
noncomputable def b_holds : S :=
 (.cons (.ite (.or (.not (.call 19 (.acons (.var 0) (.acons (.var 2) .anil)))) (.not (.bt .all (.acons (.comp 1 [] (.one 0) e_holds_1 (.seq (.var 2)) (.con (.bl true))) .anil))))
 (.cons (.ret (.con (.bl false)))
 .nil)
 .nil)
 (.cons (.ret (.and (.call 23 (.acons (.ix (.var 2) (.neg (.con (.int 1)))) (.acons (.var 3) .anil))) (.call 22 (.acons (.var 0) (.acons (.var 1) (.acons (.var 2) .anil))))))
 .nil))
noncomputable def lL:S:=
 (.cons (.ite (.cmp .Eq (.sl (.var 3) .omit (.con (.int 2))) (.tup (.acons (.var 1) (.acons (.var 2) .anil))))
 (.cons (.ret (.ix (.var 3) (.con (.int 2))))
 .nil)
 .nil)
 .nil)
noncomputable def b_like_of:S:=
 (.cons (.forS (.one 3) (.seq (.ix (.var 0) (.glob 3))) lL)
 (.cons (.ret (.con (.int 0)))
 .nil))
noncomputable def wK:E:=
 (.call 25 (.acons (.var 1) (.acons (.var 2) (.acons (.var 0) .anil))))
noncomputable def b_likes_of:S:=
 (.cons (.ret (.bt .tuple (.acons (.comp 1 [0,1] (.one 0) wK (.rng (.bt .len (.acons (.ix (.var 0) (.glob 0)) .anil))) (.con (.bl true))) .anil)))
 .nil)
noncomputable def wL:E:=
 (.ix (.var 0) (.con (.int 2)))
noncomputable def wM:E:=
 (.call 26 (.acons (.var 1) (.acons (.var 0) .anil)))
noncomputable def b_prices_of:S:=
 (.cons (.asg (.one 1) (.bt .tuple (.acons (.comp 1 [] (.one 0) wL (.seq (.ix (.var 0) (.glob 1))) (.con (.bl true))) .anil)))
 (.cons (.asg (.one 2) (.bt .tuple (.acons (.comp 1 [0] (.one 0) wM (.rng (.bt .len (.acons (.ix (.var 0) (.glob 1)) .anil))) (.con (.bl true))) .anil)))
 (.cons (.ret (.tup (.acons (.var 1) (.acons (.var 2) .anil))))
 .nil)))
noncomputable def b_law_cell_at:S:=
 (.cons (.ite (.cmp .Lt (.var 1) (.bt .len (.acons (.var 0) .anil)))
 (.cons (.ret (.ix (.var 0) (.var 1)))
 .nil)
 .nil)
 (.cons (.ret (.con (.int 0)))
 .nil))
noncomputable def b_law_mixed:S:=
 (.cons (.ret (.bin .Mod (.bin .Add (.bin .Add (.bin .Mult (.var 0) (.con (.int 48271))) (.bin .Mult (.bin .Mult (.var 1) (.var 1)) (.con (.int 69621)))) (.con (.int 5))) (.con (.int 2147483647))))
 .nil)
noncomputable def b_law_minutes:S:=
 (.cons (.ret (.ix (.lst (.acons (.con (.int 0)) (.acons (.bin .Mod (.bin .FloorDiv (.var 0) (.con (.int 5))) (.con (.int 7))) (.acons (.bin .Mod (.bin .FloorDiv (.var 0) (.con (.int 5))) (.con (.int 31))) (.acons (.bin .Mod (.bin .FloorDiv (.var 0) (.con (.int 5))) (.con (.int 400))) (.acons (.bin .Mod (.bin .Mult (.var 0) (.var 0)) (.bin .Pow (.con (.int 10)) (.con (.int 9)))) .anil)))))) (.bin .Mod (.var 0) (.con (.int 5)))))
 .nil)
noncomputable def wN:S:=
 (.cons (.asg (.one 4) (.call 29 (.acons (.var 0) (.acons (.bin .Add (.bin .Mult (.con (.int 3)) (.var 3)) (.con (.int 1))) .anil))))
 (.cons (.asg (.one 5) (.call 30 (.acons (.bin .FloorDiv (.var 4) (.con (.int 7))) .anil)))
 (.cons (.asg (.one 6) (.call 30 (.acons (.bin .FloorDiv (.var 4) (.con (.int 11))) .anil)))
 (.cons (.app 2 (.tup (.acons (.bin .Add (.con (.str "p")) (.ix (.con (.str "abcdefgh")) (.var 3))) (.acons (.ix (.con (.str "stb")) (.bin .Mod (.var 4) (.con (.int 3)))) (.acons (.ix (.lst (.acons (.con (.int 0)) (.acons (.var 5) .anil))) (.bt .int (.acons (.cmp .Gt (.bin .Mod (.var 4) (.con (.int 4))) (.con (.int 0))) .anil))) (.acons (.ix (.lst (.acons (.con (.int 0)) (.acons (.var 6) .anil))) (.bt .int (.acons (.cmp .Gt (.bin .Mod (.bin .FloorDiv (.var 4) (.con (.int 3))) (.con (.int 4))) (.con (.int 0))) .anil))) .anil))))))
 .nil))))
noncomputable def b_law_parts:S:=
 (.cons (.asgO 2 (.lst .anil))
 (.cons (.forS (.one 3) (.rng (.var 1)) wN)
 (.cons (.ret (.bt .tuple (.acons (.rd 2) .anil)))
 .nil)))
noncomputable def rE:E:=
 (.cmp .Eq (.bin .Mod (.bin .FloorDiv (.var 1) (.ix (.lst (.acons (.con (.int 8)) (.acons (.con (.int 16)) (.acons (.con (.int 32)) (.acons (.con (.int 64)) (.acons (.con (.int 128)) (.acons (.con (.int 256)) (.acons (.con (.int 512)) (.acons (.con (.int 1024)) .anil))))))))) (.var 0))) (.con (.int 2))) (.con (.int 1)))
noncomputable def rF:E:=
 (.var 0)
noncomputable def kG:S:=
 (.cons (.asg (.one 5) (.call 29 (.acons (.var 4) (.acons (.var 3) .anil))))
 (.cons (.asgO 6 (.comp 1 [5] (.one 0) rF (.rng (.var 1)) rE))
 (.cons (.ite (.cmp .Gt (.bin .Mod (.var 5) (.con (.int 3))) (.con (.int 0)))
 (.cons (.asgO 6 (.sl (.rd 6) .omit (.bin .Add (.con (.int 1)) (.bin .Mod (.bin .FloorDiv (.var 5) (.con (.int 2048))) (.con (.int 2))))))
 .nil)
 .nil)
 (.cons (.ite (.cmp .Eq (.bin .Mod (.bin .FloorDiv (.var 5) (.con (.int 4096))) (.con (.int 2))) (.con (.int 1)))
 (.cons (.rev 6)
 .nil)
 .nil)
 (.cons (.asg (.one 7) (.bin .Add (.con (.str "s")) (.ix (.con (.str "abcdefghijklmnopqrstuvwx")) (.var 3))))
 (.cons (.app 2 (.tup (.acons (.var 7) (.acons (.call 30 (.acons (.bin .FloorDiv (.var 5) (.con (.int 8192))) .anil)) (.acons (.call 30 (.acons (.bin .FloorDiv (.var 5) (.con (.int 64))) .anil)) (.acons (.bt .tuple (.acons (.rd 6) .anil)) .anil))))))
 .nil))))))
noncomputable def b_law_scenes:S:=
 (.cons (.asgO 2 (.lst .anil))
 (.cons (.forS (.many [3,4]) (.enum (.var 0)) kG)
 (.cons (.ret (.bt .tuple (.acons (.rd 2) .anil)))
 .nil)))
noncomputable def rG:S:=
 (.cons (.asg (.one 4) (.call 29 (.acons (.var 0) (.acons (.bin .Add (.bin .Mult (.con (.int 5)) (.var 3)) (.con (.int 2))) .anil))))
 (.cons (.asg (.one 5) (.ix (.lst (.acons (.con (.str "s")) (.acons (.con (.str "t")) (.acons (.con (.str "st")) (.acons (.con (.str "tb")) (.acons (.con (.str "stb")) (.acons (.con (.str "bts")) (.acons (.con (.str "bs")) (.acons (.con (.str "")) .anil))))))))) (.bin .Mod (.var 4) (.con (.int 8)))))
 (.cons (.asg (.one 6) (.ix (.lst (.acons (.con (.int 0)) (.acons (.bin .Mod (.bin .FloorDiv (.var 4) (.con (.int 8))) (.con (.int 5))) (.acons (.bin .Mod (.bin .FloorDiv (.var 4) (.con (.int 8))) (.con (.int 100))) (.acons (.bin .Mod (.bin .Mult (.var 4) (.var 4)) (.bin .Pow (.con (.int 10)) (.con (.int 9)))) .anil))))) (.bin .Mod (.bin .FloorDiv (.var 4) (.con (.int 3))) (.con (.int 4)))))
 (.cons (.app 2 (.tup (.acons (.bin .Add (.con (.str "x")) (.ix (.con (.str "abcdef")) (.var 3))) (.acons (.var 5) (.acons (.var 6) .anil)))))
 .nil))))
noncomputable def b_law_players:S:=
 (.cons (.asgO 2 (.lst .anil))
 (.cons (.forS (.one 3) (.rng (.var 1)) rG)
 (.cons (.ret (.bt .tuple (.acons (.rd 2) .anil)))
 .nil)))
noncomputable def lM:S:=
 (.cons (.asg (.one 6) (.call 29 (.acons (.var 0) (.acons (.bin .Add (.bin .Mult (.con (.int 8)) (.var 4)) (.var 5)) .anil))))
 (.cons (.ite (.cmp .Eq (.bin .Mod (.var 6) (.con (.int 3))) (.con (.int 1)))
 (.cons (.app 3 (.tup (.acons (.var 4) (.acons (.var 5) (.acons (.ix (.lst (.acons (.bin .Mod (.bin .FloorDiv (.var 6) (.con (.int 3))) (.con (.int 4))) (.acons (.bin .Mod (.bin .FloorDiv (.var 6) (.con (.int 3))) (.con (.int 50))) (.acons (.bin .Mod (.bin .Mult (.var 6) (.var 6)) (.bin .Pow (.con (.int 10)) (.con (.int 9)))) .anil)))) (.bin .Mod (.bin .FloorDiv (.var 6) (.con (.int 5))) (.con (.int 3)))) .anil)))))
 .nil)
 .nil)
 .nil))
noncomputable def rH:S:=
 (.cons (.forS (.one 5) (.rng (.var 2)) lM)
 .nil)
noncomputable def b_law_likes:S:=
 (.cons (.asgO 3 (.lst .anil))
 (.cons (.forS (.one 4) (.rng (.var 1)) rH)
 (.cons (.ret (.bt .tuple (.acons (.rd 3) .anil)))
 .nil)))
noncomputable def b_law_book:S:=
 (.cons (.asg (.one 4) (.call 31 (.acons (.call 28 (.acons (.var 0) (.acons (.con (.int 1)) .anil))) (.acons (.var 1) .anil))))
 (.cons (.asg (.one 5) (.sl (.var 0) (.con (.int 6)) (.bin .Add (.con (.int 6)) (.var 3))))
 (.cons (.asg (.one 6) (.call 33 (.acons (.call 28 (.acons (.var 0) (.acons (.con (.int 2)) .anil))) (.acons (.var 2) .anil))))
 (.cons (.ret (.tup (.acons (.var 4) (.acons (.var 6) (.acons (.call 32 (.acons (.var 5) (.acons (.var 1) .anil))) (.acons (.call 34 (.acons (.call 28 (.acons (.var 0) (.acons (.con (.int 3)) .anil))) (.acons (.var 2) (.acons (.var 1) .anil)))) (.acons (.tup .anil) .anil)))))))
 .nil))))
noncomputable def nW:S:=
 (.cons (.ite (.and (.cmp .In (.var 8) (.ix (.var 6) (.con (.int 3)))) (.and (.cmp .In (.var 7) (.rd 5)) (.cmp .Lt (.bin .Sub (.var 4) (.ix (.rd 5) (.var 7))) (.bin .Add (.ix (.ix (.var 0) (.var 7)) (.con (.int 2))) (.ix (.ix (.var 0) (.var 8)) (.con (.int 3)))))))
 (.cons (.ret (.con (.bl true)))
 .nil)
 .nil)
 .nil)
noncomputable def rJ:S:=
 (.cons (.ite (.cmp .In (.var 7) (.ix (.var 6) (.con (.int 3))))
 (.cons (.dput 5 (.var 7) (.var 4))
 .nil)
 .nil)
 .nil)
noncomputable def hG:S:=
 (.cons (.ite (.and (.cmp .In (.var 2) (.ix (.var 6) (.con (.int 3)))) (.cmp .In (.var 3) (.ix (.var 6) (.con (.int 3)))))
 (.cons (.ret (.con (.bl true)))
 .nil)
 .nil)
 (.cons (.forS (.many [7,8]) (.seq (.lst (.acons (.tup (.acons (.var 2) (.acons (.var 3) .anil))) (.acons (.tup (.acons (.var 3) (.acons (.var 2) .anil))) .anil)))) nW)
 (.cons (.asg (.one 4) (.bin .Add (.var 4) (.ix (.var 6) (.con (.int 1)))))
 (.cons (.forS (.one 7) (.seq (.tup (.acons (.var 2) (.acons (.var 3) .anil)))) rJ)
 (.cons (.asg (.one 4) (.bin .Add (.var 4) (.ix (.var 6) (.con (.int 2)))))
 .nil)))))
noncomputable def b_law_clash:S:=
 (.cons (.asg (.one 4) (.con (.int 0)))
 (.cons (.newD 5)
 (.cons (.forS (.one 6) (.seq (.var 1)) hG)
 (.cons (.ret (.con (.bl false)))
 .nil))))
noncomputable def rK:E:=
 (.call 36 (.acons (.ix (.var 2) (.con (.int 0))) (.acons (.ix (.var 2) (.con (.int 2))) (.acons (.var 0) (.acons (.var 1) .anil)))))
noncomputable def rL:E:=
 (.tup (.acons (.var 0) (.acons (.var 1) .anil)))
noncomputable def wO:S:=
 (.cons (.asg (.one 1) (.bin .Add (.var 1) (.comp 1 [2,0] (.one 0) rL (.rng (.var 2)) rK)))
 .nil)
noncomputable def b_law_clashes:S:=
 (.cons (.asg (.one 1) (.lst .anil))
 (.cons (.forS (.one 2) (.rng (.bt .len (.acons (.ix (.var 0) (.con (.int 0))) .anil))) wO)
 (.cons (.ret (.var 1))
 .nil)))
noncomputable def rM:E:=
 (.cmp .In (.tup (.acons (.var 0) (.acons (.var 2) .anil))) (.var 1))
noncomputable def rN:E:=
 (.var 0)
noncomputable def rO:S:=
 (.cons (.ite (.cmp .Eq (.comp 1 [1,5] (.one 0) rN (.seq (.var 7)) rM) (.lst .anil))
 (.cons (.app 6 (.bin .Add (.var 7) (.tup (.acons (.var 5) .anil))))
 .nil)
 .nil)
 .nil)
noncomputable def rP:S:=
 (.cons (.ite (.cmp .In (.ix (.ix (.ix (.var 0) (.con (.int 0))) (.var 5)) (.con (.int 1))) (.ix (.ix (.ix (.var 0) (.con (.int 1))) (.var 2)) (.con (.int 1))))
 (.cons (.asgO 6 (.lst .anil))
 (.cons (.forS (.one 7) (.seq (.var 4)) rO)
 (.cons (.asg (.one 4) (.bin .Add (.var 4) (.rd 6)))
 (.cons (.sealed 6)
 .nil))))
 .nil)
 .nil)
noncomputable def b_law_takes:S:=
 (.cons (.asg (.one 4) (.lst (.acons (.tup .anil) .anil)))
 (.cons (.forS (.one 5) (.seq (.var 3)) rP)
 (.cons (.ret (.var 4))
 .nil)))
noncomputable def wQ:E:=
 (.ix (.ix (.ix (.var 2) (.con (.int 1))) (.var 1)) (.var 0))
noncomputable def b_law_cost:S:=
 (.cons (.ite (.cmp .Eq (.var 2) (.tup .anil))
 (.cons (.ret (.con (.int 0)))
 .nil)
 .nil)
 (.cons (.ret (.bin .Add (.ix (.ix (.var 0) (.con (.int 0))) (.var 1)) (.bt .sum (.acons (.comp 1 [1,0] (.one 0) wQ (.seq (.var 2)) (.con (.bl true))) .anil))))
 .nil))
noncomputable def c_layer_holds_1 : E :=
 (.cmp .NotIn (.var 0) (.var 1))
noncomputable def e_layer_holds_2 : E :=
 (.var 0)
noncomputable def c_layer_holds_3 : E :=
 (.cmp .Eq (.ix (.var 0) (.con (.int 0))) (.var 1))
noncomputable def e_layer_holds_4 : E :=
 (.ix (.var 0) (.con (.int 1)))
noncomputable def b_layer_holds_5 : S :=
 (.cons (.asg (.one 9) (.bt .tuple (.acons (.comp 1 [8] (.one 0) e_layer_holds_2 (.seq (.var 6)) c_layer_holds_1) .anil)))
 (.cons (.asg (.one 10) (.comp 1 [9] (.one 0) e_layer_holds_4 (.seq (.var 5)) c_layer_holds_3))
 (.cons (.ite (.or (.cmp .Eq (.var 10) (.lst .anil)) (.cmp .Gt (.ix (.var 10) (.con (.int 0))) (.bin .Add (.var 7) (.call 39 (.acons (.var 1) (.acons (.var 3) (.acons (.var 8) .anil)))))))
 (.cons (.ret (.con (.bl false)))
 .nil)
 .nil)
 .nil)))
noncomputable def b_layer_holds_6 : S :=
 (.cons (.forS (.one 8) (.seq (.call 38 (.acons (.var 0) (.acons (.var 2) (.acons (.var 3) (.acons (.var 6) .anil)))))) b_layer_holds_5)
 .nil)
noncomputable def b_law_layer_holds : S :=
 (.cons (.forS (.many [6, 7]) (.seq (.var 4)) b_layer_holds_6)
 (.cons (.ret (.con (.bl true)))
 .nil))
noncomputable def wR:E:=
 (.ix (.var 0) (.con (.int 0)))
noncomputable def rQ:E:=
 (.cmp .In (.ix (.var 1) (.var 0)) (.sl (.var 1) .omit (.var 0)))
noncomputable def rR:E:=
 (.var 0)
noncomputable def lN:S:=
 (.cons (.asg (.one 6) (.comp 1 [] (.one 0) wR (.seq (.var 5)) (.con (.bl true))))
 (.cons (.ite (.cmp .NotEq (.comp 1 [6] (.one 0) rR (.rng (.bt .len (.acons (.var 6) .anil))) rQ) (.lst .anil))
 (.cons (.ret (.con (.bl false)))
 .nil)
 .nil)
 .nil))
noncomputable def lO:S:=
 (.cons (.ite (.not (.call 40 (.acons (.var 0) (.acons (.var 1) (.acons (.var 2) (.acons (.var 7) (.acons (.ix (.var 3) (.var 7)) (.acons (.ix (.var 3) (.bin .Add (.var 7) (.con (.int 1)))) .anil))))))))
 (.cons (.ret (.con (.bl false)))
 .nil)
 .nil)
 .nil)
noncomputable def rS:E:=
 (.cmp .Eq (.ix (.var 0) (.con (.int 0))) (.tup .anil))
noncomputable def rT:E:=
 (.ix (.var 0) (.con (.int 1)))
noncomputable def b_law_due:S:=
 (.cons (.ite (.or (.cmp .NotEq (.bt .len (.acons (.var 3) .anil)) (.bin .Add (.bt .len (.acons (.ix (.var 0) (.con (.int 1))) .anil)) (.con (.int 1)))) (.cmp .NotEq (.ix (.var 3) (.con (.int 0))) (.lst (.acons (.tup (.acons (.trng (.bt .len (.acons (.ix (.var 0) (.con (.int 0))) .anil))) (.acons (.con (.int 0)) .anil))) .anil))))
 (.cons (.ret (.con (.bl false)))
 .nil)
 .nil)
 (.cons (.forS (.one 5) (.seq (.var 3)) lN)
 (.cons (.forS (.one 7) (.rng (.bt .len (.acons (.ix (.var 0) (.con (.int 1))) .anil))) lO)
 (.cons (.asg (.one 8) (.comp 1 [] (.one 0) rT (.seq (.ix (.var 3) (.neg (.con (.int 1))))) rS))
 (.cons (.ret (.or (.cmp .Eq (.var 8) (.lst .anil)) (.and (.cmp .IsNot (.var 4) (.con .non)) (.cmp .GtE (.ix (.var 8) (.con (.int 0))) (.var 4)))))
 .nil)))))
noncomputable def wU:E:=
 (.bt .list (.acons (.var 0) .anil))
noncomputable def rV:E:=
 (.cmp .Eq (.bin .Mod (.bin .FloorDiv (.bin .FloorDiv (.var 1) (.con (.int 420))) (.ix (.lst (.acons (.con (.int 1)) (.acons (.con (.int 2)) (.acons (.con (.int 4)) (.acons (.con (.int 8)) .anil))))) (.var 0))) (.con (.int 2))) (.con (.int 1)))
noncomputable def rW:E:=
 (.var 0)
noncomputable def b_law_spoiled:S:=
 (.cons (.asg (.one 3) (.bin .Mod (.var 1) (.con (.int 6))))
 (.cons (.asg (.one 4) (.bin .Mod (.bin .FloorDiv (.var 1) (.con (.int 6))) (.bt .len (.acons (.var 0) .anil))))
 (.cons (.asgO 5 (.bt .list (.acons (.ix (.var 0) (.var 4)) .anil)))
 (.cons (.ite (.or (.cmp .Eq (.var 3) (.con (.int 0))) (.cmp .Eq (.rd 5) (.lst .anil)))
 (.cons (.ret (.comp 1 [] (.one 0) wU (.seq (.var 0)) (.con (.bl true))))
 .nil)
 .nil)
 (.cons (.asg (.one 6) (.bin .Mod (.bin .FloorDiv (.var 1) (.con (.int 42))) (.bt .len (.acons (.rd 5) .anil))))
 (.cons (.asg (.many [7,8]) (.ix (.rd 5) (.var 6)))
 (.cons (.asg (.one 9) (.bt .tuple (.acons (.comp 1 [1] (.one 0) rW (.rng (.var 2)) rV) .anil)))
 (.cons (.ite (.cmp .Eq (.var 3) (.con (.int 1)))
 (.cons (.lput 5 (.var 6) (.tup (.acons (.var 7) (.acons (.bt .max (.acons (.con (.int 0)) (.acons (.bin .Sub (.bin .Add (.var 8) (.bin .Mod (.bin .FloorDiv (.var 1) (.con (.int 420))) (.con (.int 5)))) (.con (.int 2))) .anil))) .anil))))
 .nil)
 .nil)
 (.cons (.ite (.cmp .Eq (.var 3) (.con (.int 2)))
 (.cons (.popS 5 (.var 6))
 .nil)
 .nil)
 (.cons (.ite (.cmp .Eq (.var 3) (.con (.int 3)))
 (.cons (.app 5 (.ix (.lst (.acons (.tup (.acons (.var 7) (.acons (.var 8) .anil))) (.acons (.tup (.acons (.var 7) (.acons (.bin .Add (.var 8) (.con (.int 1))) .anil))) (.acons (.tup (.acons (.var 9) (.acons (.var 8) .anil))) .anil)))) (.bin .Mod (.bin .FloorDiv (.var 1) (.con (.int 6720))) (.con (.int 3)))))
 .nil)
 .nil)
 (.cons (.ite (.cmp .Eq (.var 3) (.con (.int 4)))
 (.cons (.lput 5 (.var 6) (.tup (.acons (.var 9) (.acons (.var 8) .anil))))
 .nil)
 .nil)
 (.cons (.ite (.cmp .Eq (.var 3) (.con (.int 5)))
 (.cons (.ret (.ix (.lst (.acons (.sl (.var 0) .omit (.neg (.con (.int 1)))) (.acons (.bin .Add (.var 0) (.lst (.acons (.ix (.var 0) (.neg (.con (.int 1)))) .anil))) (.acons (.sl (.var 0) (.con (.int 1)) .omit) .anil)))) (.bin .Mod (.bin .FloorDiv (.var 1) (.con (.int 420))) (.con (.int 3)))))
 .nil)
 .nil)
 (.cons (.sealed 5)
 (.cons (.ret (.bin .Add (.bin .Add (.sl (.var 0) .omit (.var 4)) (.lst (.acons (.var 5) .anil))) (.sl (.var 0) (.bin .Add (.var 4) (.con (.int 1))) .omit)))
 .nil))))))))))))))
noncomputable def wV:E:=
 (.bt .list (.acons (.var 0) .anil))
noncomputable def b_law:S:=
 (.cons (.asg (.one 1) (.bin .Mod (.call 28 (.acons (.var 0) (.acons (.con (.int 0)) .anil))) (.con (.int 5))))
 (.cons (.asg (.one 2) (.bin .Mod (.bin .FloorDiv (.call 28 (.acons (.var 0) (.acons (.con (.int 0)) .anil))) (.con (.int 5))) (.con (.int 4))))
 (.cons (.asg (.one 3) (.call 35 (.acons (.var 0) (.acons (.var 1) (.acons (.var 2) (.acons (.con (.int 8)) .anil))))))
 (.cons (.asg (.one 4) (.call 27 (.acons (.var 3) .anil)))
 (.cons (.asg (.one 5) (.call 28 (.acons (.var 0) (.acons (.con (.int 4)) .anil))))
 (.cons (.asg (.one 6) (.call 16 (.acons (.var 3) (.acons (.var 4) .anil))))
 (.cons (.asg (.one 7) (.con .non))
 (.cons (.ite (.and (.cmp .IsNot (.var 6) (.con .non)) (.cmp .Lt (.bin .Mod (.var 5) (.con (.int 5))) (.con (.int 4))))
 (.cons (.asg (.one 7) (.bin .Add (.ix (.var 6) (.con (.int 0))) (.ix (.lst (.acons (.con (.int 0)) (.acons (.con (.int 0)) (.acons (.con (.int 1)) (.acons (.neg (.con (.int 1))) .anil))))) (.bin .Mod (.var 5) (.con (.int 5))))))
 .nil)
 .nil)
 (.cons (.asg (.one 8) (.call 42 (.acons (.call 18 (.acons (.var 3) (.acons (.var 4) .anil))) (.acons (.call 29 (.acons (.call 28 (.acons (.var 0) (.acons (.con (.int 5)) .anil))) (.acons (.con (.int 6)) .anil))) (.acons (.var 1) .anil)))))
 (.cons (.asg (.one 9) (.comp 1 [] (.one 0) wV (.seq (.var 8)) (.con (.bl true))))
 (.cons (.asg (.one 10) (.call 41 (.acons (.var 3) (.acons (.var 4) (.acons (.call 37 (.acons (.var 3) .anil)) (.acons (.var 8) (.acons (.var 7) .anil)))))))
 (.cons (.asg (.one 11) (.call 24 (.acons (.var 3) (.acons (.var 4) (.acons (.var 9) (.acons (.var 7) .anil))))))
 (.cons (.ret (.and (.isi (.var 11) .bool) (.and (.cmp .Eq (.var 11) (.var 10)) (.cmp .Eq (.var 9) (.var 8)))))
 .nil)))))))))))))
noncomputable def T:Tab:=⟨λg=>match g with|0=>(.int 0)|1=>(.int 1)|2=>(.int 2)|3=>(.int 3)|_=>.non,λf=>f==6||f==12||f==15||f==17||f==18,λf=>none⟩
@[simp] theorem T_glob0:T.glob 0=(.int 0):=id rfl
@[simp] theorem T_glob1:T.glob 1=(.int 1):=id rfl
@[simp] theorem T_glob2:T.glob 2=(.int 2):=id rfl
@[simp] theorem T_glob3:T.glob 3=(.int 3):=id rfl
@[simp] theorem T_fresh0:T.fresh 0=false:=id rfl
@[simp] theorem T_fresh3:T.fresh 3=false:=id rfl
noncomputable def dfs : List Df := [⟨1, 1, b_are_unlike, none⟩, ⟨4, 3, b_time_between, none⟩, ⟨3, 3, b_change_time, none⟩, ⟨7, 4, b_short_change_from, none⟩, ⟨5, 4, b_reason_from, none⟩, ⟨5, 3, b_reason_of, none⟩, ⟨4, 1, b_clashes_of, none⟩, ⟨3, 3, b_fault_of_part, none⟩, ⟨3, 3, b_may_join, none⟩, ⟨6, 4, b_takings_of, none⟩, ⟨5, 3, b_price_of_taking, none⟩, ⟨2, 2, b_left_behind, none⟩, ⟨3, 3, b_with_parts, none⟩, ⟨2, 1, b_first_ways, none⟩, ⟨12, 5, b_next_ways, none⟩, ⟨5, 2, b_all_ways, none⟩, ⟨2, 2, b_least_of, none⟩, ⟨1, 1, b_layer_of, none⟩, ⟨2, 2, b_paper_of, none⟩, ⟨2, 2, b_has_its_layers, none⟩, ⟨1, 1, b_has_each_left_once, none⟩, ⟨10, 6, b_holds_behind, none⟩, ⟨6, 3, b_holds_step_by_step, none⟩, ⟨3, 2, b_ends_with, none⟩, ⟨4, 4, b_holds, none⟩, ⟨4, 3, b_like_of, none⟩, ⟨2, 2, b_likes_of, none⟩, ⟨3, 1, b_prices_of, none⟩, ⟨2, 2, b_law_cell_at, none⟩, ⟨2, 2, b_law_mixed, none⟩, ⟨1, 1, b_law_minutes, none⟩, ⟨7, 2, b_law_parts, none⟩, ⟨8, 2, b_law_scenes, none⟩, ⟨7, 2, b_law_players, none⟩, ⟨7, 3, b_law_likes, none⟩, ⟨7, 4, b_law_book, none⟩, ⟨9, 4, b_law_clash, none⟩, ⟨3, 1, b_law_clashes, none⟩, ⟨8, 4, b_law_takes, none⟩, ⟨3, 3, b_law_cost, none⟩, ⟨11, 6, b_law_layer_holds, none⟩, ⟨9, 5, b_law_due, none⟩, ⟨10, 3, b_law_spoiled, none⟩, ⟨12, 1, b_law, none⟩]
@[simp] theorem fresh_ix{a b:E}:bH T (.ix a b)=false:=id rfl
@[simp] theorem LS{a:E}:bH T (.bt .tuple a)=false:=id rfl
theorem lP(n:Nat)(ns:List Int)(k:Nat):callF T dfs (n+1) 28 [.lst (ns.map D.int),.int k]=.ok (.int (eW ns k)):=by
 unfold eW
 refine aO (k:=false) rfl rfl rfl ?_
 by_cases h:k<ns.length
 ·have hi:(ns.map D.int)[k]?=some (.int (ns.getD k 0)):=by simp[h]
  simp[b_law_cell_at,h,dF hi]
 ·simp[b_law_cell_at,h]
theorem nX(n:Nat)(c k:Int)(hk:-1000<=k/\k<=1000):callF T dfs (n+1) 29 [.int c,.int k]=.ok (.int (dD c k)):=by
 refine aO (k:=false) rfl rfl rfl ?_
 have:=lF (j:=k) (show -(2^64)<k/\k<2^64 by lia)
 simp[b_law_mixed,this,dD]
theorem rX(n:Nat)(m:Int)(hm:-(2^64)<m/\m<2^64):callF T dfs (n+1) 30 [.int m]=.ok (.int (gL m)):=by
 refine aO (k:=false) rfl rfl rfl ?_
 have h:D.ix (.lst [.int 0,.int (m/5%7),.int (m/5%31),.int (m/5%400),.int (m*m%1000000000)]) (.int (m%5))=.ok (.int (gL m)):=by
  unfold gL
  rcases five m with h|h|h|h|h<;>rw[h]<;>rfl
 have:=lF (j:=m) hm
 simp[b_law_minutes,this,h]
theorem parts(n:Nat)(c:Int)(many:Nat)(hm:many<=8):∃ps:List Part,ps.length=many/\(∀p∈ps,(0<=p.off/\0<=p.on)/\(signs p.voice).length=1)/\callF T dfs (n+2) 31 [.int c,.int many]=.ok (.tup (ps.map Part.enc)):=by
 obtain⟨e',h1,ps,s3,s4,s5,s6,rfl,hl,hp⟩:=qK (f:=bodyF T (callF T dfs (n+1)) (.one 3) wN)
  (λi e=>∃(ps:List Part)(s3 s4 s5 s6:Sl),e=[.v (.int c),.v (.int many),.o (.lst (ps.map Part.enc)),s3,s4,s5,s6]/\ps.length=i/\∀p∈ps,(0<=p.off/\0<=p.on)/\(signs p.voice).length=1)
  (bP 0 many) [.v (.int c),.v (.int many),.o (.lst []),.no,.no,.no,.no] 0 ⟨[],.no,.no,.no,.no,rfl,rfl,by simp⟩ (by
   rintro i d e hd ⟨ps,s3,s4,s5,s6,rfl,hl,hp⟩
   obtain⟨hi,rfl⟩:=Iv hd
   have lo:=qL c (3*(i:Int)+1)
   have hiM:=qM c (3*(i:Int)+1)
   obtain⟨y1,ey1,ly1⟩:=ix_str (x:=("abcdefgh" : Str)) (i:=i) (by rw[Iz];lia) (by decide +kernel)
   obtain⟨y2,ey2,ly2⟩:=Iy (x:=("stb" : Str)) (i:=dD c (3*(i:Int)+1)%3) (by lia) (by rw[JA];lia) (by decide +kernel)
   have hb:ps.length<big:=by have:=bC;lia
   have m1:=nX n c (3*(i:Int)+1) (by lia)
   have m2:=rX n (dD c (3*(i:Int)+1)/7) (by lia)
   have m3:=rX n (dD c (3*(i:Int)+1)/11) (by lia)
   have l1:("p" : Str).length+y1.length<=big:=by rw[ly1];decide +kernel
   refine⟨?e,.inl ?h,?i⟩
   case h=>
    simp[bodyF,wN,m1,m2,m3,ey1,ey2,ix2i,hb,add_str l1]
    exact rfl
   case i=>
    refine⟨ps++[⟨("p" : Str)++y1,y2,if 0<dD c (3*(i:Int)+1)%4 then gL (dD c (3*(i:Int)+1)/7)else 0,if 0<dD c (3*(i:Int)+1)/3%4 then gL (dD c (3*(i:Int)+1)/11)else 0⟩],_,_,_,_,(by rw[cE];rfl),by simp[hl],?_⟩
    intro p hq
    rcases cU.mp hq with q|q
    ·exact hp p q
    ·simp at q
     subst q
     refine⟨?_,by dsimp only;rw[<-JR];exact ly2⟩
     refine⟨?_,?_⟩<;>dsimp only<;>split<;>first|exact vQ _|exact Int.le_refl 0)
 refine⟨ps,by simpa using hl,hp,aO (k:=false) rfl rfl rfl ?_⟩
 have hr:nP (.int (many:Int))=.ok (bP 0 many):=vH (by lia)
 simp[b_law_parts,hr,h1]
theorem nums(n:Nat)(m:Int)(many:Nat)(hm:many<=8)(s0 s1 s2 s3 s4 s6 s7:Sl) :
 compL (compF T (callF T dfs n) 1 [5] (.one 0) rF rE [s0,s1,s2,s3,s4,.v (.int m),s6,s7]) (bP 0 many)=.ok (cM ((aA many).filter λk=>m/2^(k+3)%2==1)):=by
 have key:∀k:Nat,k<many->compF T (callF T dfs n) 1 [5] (.one 0) rF rE [s0,s1,s2,s3,s4,.v (.int m),s6,s7] (.int k)=.ok (if m/2^(k+3)%2==1 then some (.int k)else none):=by
  intro k hk
  have h:D.ix (.lst [.int 8,.int 16,.int 32,.int 64,.int 128,.int 256,.int 512,.int 1024]) (.int (k:Int))=.ok (.int (2^(k+3))):=by
   have:k=0\/k=1\/k=2\/k=3\/k=4\/k=5\/k=6\/k=7:=by lia
   rcases this with rfl|rfl|rfl|rfl|rfl|rfl|rfl|rfl<;>rfl
  have hp:(0:Int)<2^(k+3)/\(2:Int)^(k+3)<1073741824:=by
   have:k=0\/k=1\/k=2\/k=3\/k=4\/k=5\/k=6\/k=7:=by lia
   rcases this with rfl|rfl|rfl|rfl|rfl|rfl|rfl|rfl<;>decide
  have hd:=CN (i:=m) hp
  simp[compF,Tr.compEnv,rF,rE,h,hd]
  split<;>rfl
 rw[lG]
 rw[CU (λd=>match d with | .int k=>if m/2^(k.toNat+3)%2==1 then some (.int k)else none|_=>none) (by
  intro d hd
  obtain⟨k,hk,rfl⟩:=bG.mp hd
  rw[Int.zero_add,key k (by simpa using hk)]
  simp)]
 congr 1
 rw[K6]
 unfold cM
 rw[<-List.filterMap_eq_map,List.filterMap_filter]
 congr 1
 funext k
 simp[Function.comp]
theorem scenes(n:Nat)(cells:List Int)(hc:cells.length<=24)(many:Nat)(hm:many<=8):∃ss:List Scene,ss.length=cells.length/\(∀s∈ss,GoodScene many s)/\callF T dfs (n+2) 32 [.lst (cells.map D.int),.int many]=.ok (.tup (ss.map Scene.enc)):=by
 obtain⟨e',h1,ps,s3,s4,s5,s6,s7,rfl,hl,hp⟩:=qK (f:=bodyF T (callF T dfs (n+1)) (.many [3,4]) kG)
  (λi e=>∃(ps:List Scene)(s3 s4 s5 s6 s7:Sl),e=[.v (.lst (cells.map D.int)),.v (.int many),.o (.lst (ps.map Scene.enc)),s3,s4,s5,s6,s7]/\ps.length=i/\∀s∈ps,GoodScene many s)
  (cQ 0 (cells.map D.int)) [.v (.lst (cells.map D.int)),.v (.int many),.o (.lst []),.no,.no,.no,.no,.no] 0 ⟨[],.no,.no,.no,.no,.no,rfl,rfl,by simp⟩ (by
   rintro i d e hd ⟨ps,s3,s4,s5,s6,s7,rfl,hl,hp⟩
   obtain⟨x,hx,rfl⟩:=CT hd
   rw[bI]at hx
   cases hc1:cells[i]? with
   |none=>rw[hc1]at hx;cases hx
   |some c=>
   rw[hc1]at hx
   cases hx
   have hi:i<cells.length:=(fU.mp hc1).1
   have lo:=qL c (i:Int)
   have hiM:=qM c (i:Int)
   obtain⟨y1,ey1,ly1⟩:=ix_str (x:=("abcdefghijklmnopqrstuvwx" : Str)) (i:=i) (by rw[JB];lia) (by decide +kernel)
   have hb:ps.length<big:=by have:=bC;lia
   have m1:=nX n c (i:Int) (by lia)
   have m2:=rX n (dD c (i:Int)/8192) (by lia)
   have m3:=rX n (dD c (i:Int)/64) (by lia)
   have l1:("s" : Str).length+y1.length<=big:=by rw[ly1];decide +kernel
   have hr:nP (.int (many:Int))=.ok (bP 0 many):=vH (by lia)
   have hbm:many<=big:=by have:=bC;lia
   generalize hM:dD c (i:Int)=M at *
   have hcut:∃k:Nat,1+M/2048%2=(k:Int):=⟨(1+M/2048%2).toNat,by lia⟩
   obtain⟨k,hk⟩:=hcut
   have cutN:∀ws:List Nat,cut (cM ws) none (some (k:Int))=cM (ws.take k):=by
    intro ws
    unfold cut sIx
    simp only[]
    rw[if_neg (by lia),JC]
    unfold cM
    simp only[mH,sL,jQ,<-sV]
    by_cases q:k<=ws.length
    ·rw[oN q]
    ·rw[Nat.min_eq_right (by lia),oJ (aF _),oJ (by lia)]
   have revN:∀ws:List Nat,(cM ws).reverse=cM ws.reverse:=λws=>by unfold cM;rw[List.map_reverse]
   have ev:∃(ws:List Nat),ws.Nodup/\(∀j∈ws,j<many)/\∃e',bodyF T (callF T dfs (n+1)) (.many [3,4]) kG (.tup [.int (0+(i:Int)),.int c]) [.v (.lst (cells.map D.int)),.v (.int many),.o (.lst (ps.map Scene.enc)),s3,s4,s5,s6,s7] =
    .ok (.nx e')/\∃t3 t4 t5 t6 t7,e'=[.v (.lst (cells.map D.int)),.v (.int many),.o (.lst (ps.map Scene.enc++[Scene.enc ⟨("s" : Str)++y1,gL (M/8192),gL (M/64),ws⟩])),t3,t4,t5,t6,t7]:=by
    generalize hW:(aA many).filter (λk=>M/2^(k+3)%2==1)=W
    have nd:W.Nodup:=by rw[<-hW];exact xV.filter _
    have lt:∀j∈W,j<many:=λj hj=>by rw[<-hW]at hj;simpa using(fE.mp hj).1
    have hn:=λs0 s1 s2 s3 s4 s6 s7=>nums (n+1) M many hm s0 s1 s2 s3 s4 s6 s7
    rw[hW]at hn
    by_cases c1:0<M%3<;>by_cases c2:M/4096%2=1
    ·refine⟨(W.take k).reverse,CV (nd.sublist (xQ _ _)),λj hj=>lt j (sQ (LJ.mp hj)),?e1,?h1,?i1⟩
     case h1=>
      simp[bodyF,kG,m1,m2,m3,hr,hbm,hn,ey1,add_str l1,hb,c1,c2,hk,cutN,revN]
      exact rfl
     case i1=>exact⟨_,_,_,_,_,rfl⟩
    ·refine⟨W.take k,nd.sublist (xQ _ _),λj hj=>lt j (sQ hj),?e2,?h2,?i2⟩
     case h2=>
      simp[bodyF,kG,m1,m2,m3,hr,hbm,hn,ey1,add_str l1,hb,c1,c2,hk,cutN,revN]
      exact rfl
     case i2=>exact⟨_,_,_,_,_,rfl⟩
    ·refine⟨W.reverse,CV nd,λj hj=>lt j (LJ.mp hj),?e3,?h3,?i3⟩
     case h3=>
      simp[bodyF,kG,m1,m2,m3,hr,hbm,hn,ey1,add_str l1,hb,c1,c2,hk,cutN,revN]
      exact rfl
     case i3=>exact⟨_,_,_,_,_,rfl⟩
    ·refine⟨W,nd,lt,?e4,?h4,?i4⟩
     case h4=>
      simp[bodyF,kG,m1,m2,m3,hr,hbm,hn,ey1,add_str l1,hb,c1,c2,hk,cutN,revN]
      exact rfl
     case i4=>exact⟨_,_,_,_,_,rfl⟩
   obtain⟨ws,nd,lt,e',ev,t3,t4,t5,t6,t7,rfl⟩:=ev
   refine⟨_,.inl ev,ps++[⟨("s" : Str)++y1,gL (M/8192),gL (M/64),ws⟩],_,_,_,_,_,(by rw[cE];rfl),by simp[hl],?_⟩
   intro s hs
   rcases cU.mp hs with q|q
   ·exact hp s q
   ·simp at q
    subst q
    exact⟨vQ _,vQ _,nd,lt⟩)
 refine⟨ps,by simpa using hl,hp,aO (k:=false) rfl rfl rfl ?_⟩
 simp[b_law_scenes,h1]
theorem time_between(n:Nat)(P A B C:D)(ss:List Scene)(hl:ss.length<=24)(s t:Nat)(h:s<t)(ht:t<=ss.length):callF T dfs (n+1) 1 [.tup [P,A,.tup (ss.map Scene.enc),B,C],.int s,.int t]=.ok (.int (dY ss s t)):=by
 refine aO (k:=true) rfl rfl rfl ?_
 have hs:s<ss.length:=by lia
 have e1:=vU (aH hs)
 have e2:cut (ss.map Scene.enc) (some ((s:Int)+1)) (some (t:Int))=((ss.drop (s+1)).take (t-(s+1))).map Scene.enc:=by
  have:=cut_nn (xs:=ss.map Scene.enc) (a:=s+1) (b:=t) (by simp;lia) (by simp;lia)
  rw[sV,Dt,<-this]
  push_cast
  rfl
 have e3:compL (compF T (callF T dfs n) 1 [] (.one 0) qR (.con (.bl true)) [.v (.tup [P,A,.tup (ss.map Scene.enc),B,C]),.v (.int s),.v (.int t),.v (.tup (ss.map Scene.enc))]) (((ss.drop (s+1)).take (t-(s+1))).map Scene.enc)=.ok ((((ss.drop (s+1)).take (t-(s+1))).map Scene.both).map D.int):=by
  rw[bU]
  have:∀xs:List Scene,compL (compF T (callF T dfs n) 1 [] (.one 0) qR (.con (.bl true)) [.v (.tup [P,A,.tup (ss.map Scene.enc),B,C]),.v (.int s),.v (.int t),.v (.tup (ss.map Scene.enc))]) (xs.map Scene.enc)=.ok (xs.map (D.int∘Scene.both)):=by
   intro xs
   induction xs with
   |nil=>rfl
   |cons x r ih=>
    rw[aG,compL,ih]
    simp[compF,Tr.compEnv,qR,Scene.both]
  exact this _
 have e4:((ss.map Scene.enc).length:Nat)<=big:=by have:=bC;simp;lia
 have e5:((((ss.drop (s+1)).take (t-(s+1))).map Scene.enc).length:Nat)<=big:=by have:=bC;simp;lia
 have e6:((ss[s]?).map Scene.pause).getD 0=ss[s].pause:=by simp[hs]
 have e7:dY ss s t=ss[s].pause+(((ss.drop (s+1)).take (t-(s+1))).map Scene.both).sum:=by unfold dY;rw[e6]
 rw[e7]
 clear e7 e4 ht
 generalize (ss.drop (s+1)).take (t-(s+1))=X at *
 simp only[aC]at e5
 simp[b_time_between,e1,e2,e3,e5]
theorem change_time(n:Nat)(A S B C:D)(ps:List Part)(i j:Nat)(hi:i<ps.length)(hj:j<ps.length):callF T dfs (n+1) 2 [.tup [.tup (ps.map Part.enc),A,S,B,C],.int i,.int j]=.ok (.int (gY ps i j)):=by
 refine aO (k:=true) rfl rfl rfl ?_
 simp[b_change_time,lH (aH hi),lH (aH hj),vY hi hj]
theorem Cp(n:Nat)(A B C:D)(ps:List Part)(ss:List Scene)(hl:ss.length<=24)(s i j:Nat)(hs:s<ss.length)(hi:i<ps.length)(hj:j<ps.length) :
 callF T dfs (n+2) 3 [.tup [.tup (ps.map Part.enc),A,.tup (ss.map Scene.enc),B,C],.int s,.int i,.int j]=.ok (gX (iQ ps ss s i j)):=by
 have ct:=change_time n A (.tup (ss.map Scene.enc)) B C ps i j hi hj
 have rg:=CY (s:=s) (m:=ss.length) (by lia) (by lia)
 have loop:=C1 (f:=bodyF T (callF T dfs (n+1)) (.one 5) nU) (g:=lI ps ss s i j) (ts:=bX (s+1) (ss.length-(s+1)))
  (e:=[.v (.tup [.tup (ps.map Part.enc),A,.tup (ss.map Scene.enc),B,C]),.v (.int s),.v (.int i),.v (.int j),.v (.int (gY ps i j)),.no,.no])
  (I:=λe=>∃s5 s6,e=[.v (.tup [.tup (ps.map Part.enc),A,.tup (ss.map Scene.enc),B,C]),.v (.int s),.v (.int i),.v (.int j),.v (.int (gY ps i j)),s5,s6]) ⟨_,_,rfl⟩ (by
   rintro t ht e ⟨s5,s6,rfl⟩
   have ht':s<t/\t<ss.length:=by have:=oO.mp ht;lia
   have e1:=vU (aH ht'.2)
   have e2:=time_between n (.tup (ps.map Part.enc)) A B C ss hl s t ht'.1 (by lia)
   have e3:=vW ht'.2
   unfold lI
   by_cases c1:j∈bN ss t
   ·by_cases c2:dY ss s t<gY ps i j
    ·rw[if_pos ⟨c1,c2⟩]
     rw[e3]at c1
     simp[bodyF,nU,natI,e1,e2,c1,c2,Rz.enc]
    ·rw[if_neg (by simp[c2])]
     rw[e3]at c1
     refine⟨?e1,?h1,?i1⟩
     case h1=>
      simp[bodyF,nU,natI,e1,e2,c1,c2]
      exact rfl
     case i1=>exact⟨_,_,rfl⟩
   ·rw[if_neg (by simp[c1])]
    rw[e3]at c1
    refine⟨?e2,?h2,?i2⟩
    case h2=>
     simp[bodyF,nU,natI,e1,e2,c1]
     exact rfl
    case i2=>exact⟨_,_,rfl⟩)
 refine aO (k:=false) rfl rfl rfl ?_
 unfold iQ
 cases hg:(bX (s+1) (ss.length-(s+1))).findSome? (lI ps ss s i j)with
 |some r=>
  rw[hg]at loop
  simp[b_short_change_from,ct,rg,loop,gX]
 |none=>
  rw[hg]at loop
  obtain⟨e',h1,s5,s6,rfl⟩:=loop
  simp[b_short_change_from,ct,rg,h1,gX]
theorem reason_from(n:Nat)(A B C:D)(ps:List Part)(ss:List Scene)(hl:ss.length<=24)(s i j:Nat)(hs:s<ss.length)(hi:i<ps.length)(hj:j<ps.length) :
 callF T dfs (n+3) 4 [.tup [.tup (ps.map Part.enc),A,.tup (ss.map Scene.enc),B,C],.int s,.int i,.int j]=.ok (gX (eX ps ss i j s)):=by
 have e1:=vU (aH hs)
 have e2:=Cp n A B C ps ss hl s i j hs hi hj
 have e3:=Cp n A B C ps ss hl s j i hs hj hi
 have e4:=vW hs
 refine aO (k:=false) rfl rfl rfl ?_
 unfold eX
 rw[e4]
 by_cases c1:i∈ss[s].who<;>by_cases c2:j∈ss[s].who
 ·simp[b_reason_from,e1,c1,c2,gX,Rz.enc]
 ·simp[b_reason_from,e1,c1,c2,e2]
 ·simp[b_reason_from,e1,c1,c2,e3]
 ·simp[b_reason_from,e1,c1,c2,gX]
theorem reason_of(n:Nat)(A B C:D)(ps:List Part)(ss:List Scene)(hl:ss.length<=24)(i j:Nat)(hi:i<ps.length)(hj:j<ps.length) :
 callF T dfs (n+4) 5 [.tup [.tup (ps.map Part.enc),A,.tup (ss.map Scene.enc),B,C],.int i,.int j]=.ok (gX (aS ps ss i j)):=by
 have rg:=eO (n:=ss.length) (by lia)
 have loop:=C1 (f:=bodyF T (callF T dfs (n+3)) (.one 3) qS) (g:=eX ps ss i j) (ts:=aA ss.length)
  (e:=[.v (.tup [.tup (ps.map Part.enc),A,.tup (ss.map Scene.enc),B,C]),.v (.int i),.v (.int j),.no,.no])
  (I:=λe=>∃s5 s6,e=[.v (.tup [.tup (ps.map Part.enc),A,.tup (ss.map Scene.enc),B,C]),.v (.int i),.v (.int j),s5,s6]) ⟨_,_,rfl⟩ (by
   rintro s ht e ⟨s5,s6,rfl⟩
   have e1:=reason_from n A B C ps ss hl s i j (by simpa using ht) hi hj
   cases hg:eX ps ss i j s with
   |some r=>
    rw[hg]at e1
    simp[bodyF,qS,natI,e1]
    rfl
   |none=>
    rw[hg]at e1
    refine⟨?e1,?h1,?i1⟩
    case h1=>
     simp[bodyF,qS,natI,e1]
     exact rfl
    case i1=>exact⟨_,_,rfl⟩)
 refine aO (k:=false) rfl rfl rfl ?_
 unfold aS
 cases hg:(aA ss.length).findSome? (eX ps ss i j)with
 |some r=>
  rw[hg]at loop
  simp[b_reason_of,rg,loop,gX]
 |none=>
  rw[hg]at loop
  obtain⟨e',h1,s5,s6,rfl⟩:=loop
  simp[b_reason_of,rg,h1,gX]
theorem clashes_of(n:Nat)(A B C:D)(ps:List Part)(ss:List Scene)(hl:ss.length<=24)(hp:ps.length<=8) :
 callF T dfs (n+5) 6 [.tup [.tup (ps.map Part.enc),A,.tup (ss.map Scene.enc),B,C]]=.ok (.lst (((cI ps.length).filter λp=>(aS ps ss p.1 p.2).isSome).map pairD)):=by
 have rg:=eO (n:=ps.length) (by lia)
 obtain⟨e',h1,s3,rfl⟩:=qK (f:=bodyF T (callF T dfs (n+4)) (.one 3) wA)
  (λi e=>∃s3,e=[.v (.tup [.tup (ps.map Part.enc),A,.tup (ss.map Scene.enc),B,C]),.o (.lst (((eP ps.length i).filter λp=>(aS ps ss p.1 p.2).isSome).map pairD)),.v (.int ps.length),s3])
  ((aA ps.length).map natI) [.v (.tup [.tup (ps.map Part.enc),A,.tup (ss.map Scene.enc),B,C]),.o (.lst []),.v (.int ps.length),.no] 0 ⟨_,rfl⟩ (by
   rintro i0 d e hd ⟨s3,rfl⟩
   rw[iB]
   rw[bI]at hd
   cases hx:(aA ps.length)[i0]? with
   |none=>rw[hx]at hd;cases hd
   |some i=>
   rw[hx]at hd
   cases hd
   have hi':=fU.mp hx
   simp at hi'
   obtain⟨hi,rfl⟩:=hi'
   have rg2:=CY (s:=i0) (m:=ps.length) (by lia) (by lia)
   have hc:compL (compF T (callF T dfs (n+4)) 1 [3,0] (.one 0) qU qT [.v (.tup [.tup (ps.map Part.enc),A,.tup (ss.map Scene.enc),B,C]),.o (.lst (((eP ps.length i0).filter λp=>(aS ps ss p.1 p.2).isSome).map pairD)),.v (.int ps.length),.v (.int i0)]) ((bX (i0+1) (ps.length-(i0+1))).map natI) =
    .ok (((iR ps.length i0).filter λp=>(aS ps ss p.1 p.2).isSome).map pairD):=by
    rw[cG natI (λj=>if(aS ps ss i0 j).isSome=true then some (pairD (i0,j))else none) (by
     intro j hj
     have hj':=oO.mp hj
     have e1:=reason_of n A B C ps ss hl i0 j hi (by lia)
     cases hr:aS ps ss i0 j with
     |none=>rw[hr]at e1;simp[compF,Tr.compEnv,natI,qT,qU,e1]
     |some r=>rw[hr]at e1;simp[compF,Tr.compEnv,natI,qT,qU,e1,pairD])]
    refine congrArg Res.ok ?_
    unfold iR
    generalize bX (i0+1) (ps.length-(i0+1))=l
    induction l with
    |nil=>rfl
    |cons j r ih=>
     rw[hV,aG,iC]
     dsimp only
     rw[ih]
     cases (aS ps ss i0 j).isSome<;>rfl
   have b1:(((eP ps.length i0).filter λp=>(aS ps ss p.1 p.2).isSome).map pairD).length+(((iR ps.length i0).filter λp=>(aS ps ss p.1 p.2).isSome).map pairD).length<=big:=by
    have h1:=C6 ps.length i0
    have h2:(iR ps.length i0).length<=8:=by rw[iR,aC,LG];lia
    have h3:=iX (λp:Nat×Nat=>(aS ps ss p.1 p.2).isSome) (eP ps.length i0)
    have h4:=iX (λp:Nat×Nat=>(aS ps ss p.1 p.2).isSome) (iR ps.length i0)
    have h5:i0*ps.length<=8*8:=Du (by lia) hp
    have:=bC
    rw[aC,aC]
    lia
   have b2:((bX (i0+1) (ps.length-(i0+1))).map natI).length<=big:=by have:=bC;simp;lia
   refine⟨?e1,.inl ?h1,?i1⟩
   case h1=>
    rw[bodyF]
    simp only[Ip,natI,Res.ok_bind,wA,Ih,Ik,I_,Ia,IZ,IX,IY,List.set,Io,Im,val_v,Iq,rg2,hc,Il,Ij,own_o,decide_eq_true b1,decide_eq_true b2,zT,Bool.and_self,Ie,Ig]
    exact rfl
   case i1=>exact⟨.v (natI i0),by rw[eP,List.filter_append,cE];rfl⟩)
 refine aO (k:=true) rfl rfl rfl ?_
 have hlen:((aA ps.length).map natI).length=ps.length:=by simp
 rw[hlen,iB]at h1
 simp[b_clashes_of,rg,h1,cI]
noncomputable def iS(s:Scene)(le:Option Int)(now need:Int)(y:Nat):Bool:=decide (y∈s.who)&&(match le with|some e=>decide (now-e<need)|none=>false)
noncomputable def eR(s:Scene)(now:Int)(x:Nat)(kvs:List (Sum Int Str×D)):List (Sum Int Str×D):=if x∈s.who then gR kvs (.inl (x:Int)) (.int now)else kvs
section
variable{cf:Nat->List D->Res D}{A:D}{a1 a2 a3 s6 s7 s8:Sl}{now:Int}{kvs:List (Sum Int Str×D)}{s:Scene}{px py:Part}{le:Option Int}
theorem cl_1{x y:Nat}(hx:D.ix A (.int x)=.ok px.enc)(hy:D.ix A (.int y)=.ok py.enc)(hv:bF kvs (.inl (x:Int))=le.map D.int) :
 bodyF T cf (.many [7,8]) nW (.tup [.int x,.int y]) [.v A,a1,a2,a3,.v (.int now),.o (.dct kvs),.v s.enc,s7,s8]=.ok (if iS s le now (px.off+py.on) y then .rt (.bl true) false else .nx [.v A,a1,a2,a3,.v (.int now),.o (.dct kvs),.v s.enc,.v (.int x),.v (.int y)]):=by
 unfold iS
 by_cases d:y∈s.who
 ·cases le with
  |none=>
   have k1:D.cmp .In (.int (x:Int)) (.dct kvs)=.ok (.bl false):=by rw[CM,vI,Res.ok_bind,hv];rfl
   simp[bodyF,nW,d,k1]
  |some e=>
   have k1:D.cmp .In (.int (x:Int)) (.dct kvs)=.ok (.bl true):=by rw[CM,vI,Res.ok_bind,hv];rfl
   have k2:D.ix (.dct kvs) (.int (x:Int))=.ok (.int e):=by rw[ix_dct,vI,Res.ok_bind,hv];rfl
   by_cases c:now-e<px.off+py.on<;>simp[bodyF,nW,d,k1,k2,hx,hy,c]
 ·simp[bodyF,nW,d]
theorem cl_2{x:Nat}(kb:kvs.length<big):bodyF T cf (.one 7) rJ (.int x) [.v A,a1,a2,a3,.v (.int now),.o (.dct kvs),.v s.enc,s7,s8]=.ok (.nx [.v A,a1,a2,a3,.v (.int now),.o (.dct (eR s now x kvs)),.v s.enc,.v (.int x),s8]):=by
 unfold eR
 by_cases d:x∈s.who<;>simp[bodyF,rJ,d,kb]
theorem wW{x:Nat}:(eR s now x kvs).length<=kvs.length+1:=by
 unfold eR
 split
 ·exact JK _ _ _
 ·lia
theorem cl_3{i j:Nat}{li lj:Option Int}(hx:D.ix A (.int i)=.ok px.enc)(hy:D.ix A (.int j)=.ok py.enc)(hi:bF kvs (.inl (i:Int))=li.map D.int)(hj:bF kvs (.inl (j:Int))=lj.map D.int)(kb:kvs.length+1<big) :
 bodyF T cf (.one 6) hG s.enc [.v A,a1,.v (.int i),.v (.int j),.v (.int now),.o (.dct kvs),s6,s7,s8] =
  .ok (if(decide (i∈s.who)&&decide (j∈s.who))||iS s li now (px.off+py.on) j||iS s lj now (py.off+px.on) i then .rt (.bl true) false else .nx [.v A,a1,.v (.int i),.v (.int j),.v (.int (now+s.len+s.pause)),.o (.dct (eR s (now+s.len) j (eR s (now+s.len) i kvs))),.v s.enc,.v (.int j),.v (.int i)]):=by
 have c1:=cl_1 (cf:=cf) (a1:=a1) (a2:=.v (.int i)) (a3:=.v (.int j)) (s7:=s7) (s8:=s8) (now:=now) (s:=s) hx hy hi
 have c2:=cl_1 (cf:=cf) (a1:=a1) (a2:=.v (.int i)) (a3:=.v (.int j)) (s7:=.v (.int i)) (s8:=.v (.int j)) (now:=now) (s:=s) hy hx hj
 have l2:forL (bodyF T cf (.one 7) rJ) [.int i,.int j] [.v A,a1,.v (.int i),.v (.int j),.v (.int (now+s.len)),.o (.dct kvs),.v s.enc,.v (.int j),.v (.int i)]=.ok (.nx [.v A,a1,.v (.int i),.v (.int j),.v (.int (now+s.len)),.o (.dct (eR s (now+s.len) j (eR s (now+s.len) i kvs))),.v s.enc,.v (.int j),.v (.int i)]):=by
  rw[bT (cl_2 (by lia)),bT (cl_2 (Kb wW kb))];rfl
 generalize eR s (now+s.len) j (eR s (now+s.len) i kvs)=K at *
 by_cases d:i∈s.who/\j∈s.who
 ·simp[bodyF,hG,d.1,d.2]
 ·cases z1:iS s li now (px.off+py.on) j with
  |true=>
   rw[z1,if_pos rfl]at c1
   have l1:=gK (r:=[.tup [.int (j:Int),.int (i:Int)]]) c1
   by_cases d1:i∈s.who
   ·have d2:¬j∈s.who:=λz=>d ⟨d1,z⟩
    simp[bodyF,hG,d1,d2,l1]
   ·simp[bodyF,hG,d1,l1]
  |false=>
   rw[z1,if_neg aK]at c1
   cases z2:iS s lj now (py.off+px.on) i with
   |true=>
    rw[z2,if_pos rfl]at c2
    have l1:=(bT (r:=[.tup [.int (j:Int),.int (i:Int)]]) c1).trans (gK c2)
    by_cases d1:i∈s.who
    ·have d2:¬j∈s.who:=λz=>d ⟨d1,z⟩
     simp[bodyF,hG,d1,d2,l1]
    ·simp[bodyF,hG,d1,l1]
   |false=>
    rw[z2,if_neg aK]at c2
    have l1:=(bT (r:=[.tup [.int (j:Int),.int (i:Int)]]) c1).trans ((bT c2).trans (show forL _ [] _=.ok (.nx _)from rfl))
    by_cases d1:i∈s.who
    ·have d2:¬j∈s.who:=λz=>d ⟨d1,z⟩
     simp[bodyF,hG,d1,d2,l1,l2]
    ·simp[bodyF,hG,d1,l1,l2]
end
theorem clash(n:Nat)(ps:List Part)(ss:List Scene)(hl:ss.length<=24)(g:∀s∈ss,0<=s.len/\0<=s.pause)(i j:Nat)(hi:i<ps.length)(hj:j<ps.length) :
 callF T dfs (n+1) 36 [.tup (ps.map Part.enc),.tup (ss.map Scene.enc),.int i,.int j]=.ok (.bl (aS ps ss i j).isSome):=by
 have pi:=lH (aH hi)
 have pj:=lH (aH hj)
 have nij:=vY hi hj
 have nji:=vY hj hi
 have main:∀(r t:Nat)(kvs:List (Sum Int Str×D))(s6 s7 s8:Sl),t+r=ss.length->bF kvs (.inl i)=(eZ ss i t).map D.int->bF kvs (.inl j)=(eZ ss j t).map D.int->kvs.length<=2*t ->
  ∃out,forL (bodyF T (callF T dfs n) (.one 6) hG) ((ss.drop t).map Scene.enc) [.v (.tup (ps.map Part.enc)),.v (.tup (ss.map Scene.enc)),.v (.int i),.v (.int j),.v (.int (cN ss t)),.o (.dct kvs),s6,s7,s8]=.ok out /\
   (if(bX t r).any (hit ps ss i j)=true then out=.rt (.bl true) false else ∃e,out=.nx e):=by
  intro r
  induction r with
  |zero=>
   intro t kvs s6 s7 s8 hr _ _ _
   rw[List.drop_eq_nil_of_le (by lia)]
   exact⟨_,rfl,by simp⟩
  |succ r ih=>
   intro t kvs s6 s7 s8 hr hki hkj hkl
   have ht:t<ss.length:=by lia
   have wt:=vW ht
   have hx:=aH ht
   have hlt:eY ss t=ss[t].len:=by unfold eY;rw[hx];rfl
   have e1:cN ss t+ss[t].len+ss[t].pause=cN ss (t+1):=by rw[vV hx];unfold Scene.both;lia
   rw[xT ht,aG,iV,fW]
   have hb:=bC
   have c:=cl_3 (cf:=callF T dfs n) (a1:=.v (.tup (ss.map Scene.enc))) (s6:=s6) (s7:=s7) (s8:=s8) (now:=cN ss t) (s:=ss[t]) pi pj hki hkj (by lia)
   have ch:hit ps ss i j t=((decide (i∈ss[t].who)&&decide (j∈ss[t].who))||iS ss[t] (eZ ss i t) (cN ss t) (ps[i].off+ps[j].on) j||iS ss[t] (eZ ss j t) (cN ss t) (ps[j].off+ps[i].on) i):=by
    unfold hit kE iS
    rw[wt,nij,nji]
    try rfl
   rw[<-ch,e1]at c
   cases hh:hit ps ss i j t with
   |true=>
    rw[hh,if_pos rfl]at c
    exact⟨_,gK c,by simp⟩
   |false=>
    rw[hh,if_neg aK]at c
    have put:∀(x y:Nat)(kvs:List (Sum Int Str×D))(v:Int),bF (eR ss[t] v x kvs) (.inl (y:Int))=if x∈ss[t].who/\x=y then some (.int v)else bF kvs (.inl (y:Int)):=by
     intro x y kvs v
     unfold eR
     by_cases d:x∈ss[t].who
     ·rw[if_pos d,JJ]
      by_cases e:x=y
      ·subst e;rw[if_pos rfl,if_pos ⟨d,rfl⟩]
      ·rw[if_neg (λz=>e (by injection z with z;lia)),if_neg λz=>e z.2]
     ·rw[if_neg d,if_neg λz=>d z.1]
    have both:¬(i∈ss[t].who/\j∈ss[t].who):=λz=>by rw[ch]at hh;simp[z.1,z.2]at hh
    obtain⟨out,h5,h6⟩:=ih (t+1) (eR ss[t] (cN ss t+ss[t].len) j (eR ss[t] (cN ss t+ss[t].len) i kvs)) (.v ss[t].enc) (.v (.int j)) (.v (.int i)) (by lia)
     (by
      rw[put,put,hki,eZ,wt,hlt]
      by_cases d:i∈ss[t].who
      ·rw[if_neg (λz=>both ⟨d,z.1⟩),if_pos ⟨d,rfl⟩,if_pos d];rfl
      ·rw[if_neg (show ¬(j∈ss[t].who/\j=i)from λz=>d (z.2▸z.1)),if_neg (λz=>d z.1),if_neg d])
     (by
      rw[put,put,hkj,eZ,wt,hlt]
      by_cases d:j∈ss[t].who
      ·rw[if_pos ⟨d,rfl⟩,if_pos d];rfl
      ·rw[if_neg (λz=>d z.1),if_neg (show ¬(i∈ss[t].who/\i=j)from λz=>d (z.2▸z.1)),if_neg d])
     (aW wW (aW (K8 wW) (show kvs.length+1+1<=2*(t+1) by lia)))
    exact⟨out,by rw[bT c];exact h5,h6⟩
 obtain⟨out,h1,h2⟩:=main ss.length 0 [] .no .no .no (by lia) rfl rfl (by simp)
 rw[mH]at h1
 have eqr:bX 0 ss.length=aA ss.length:=by rw[iW]
 rw[eqr,JO g]at h2
 have hb0:cN ss 0=0:=rfl
 rw[hb0]at h1
 refine aO (k:=false) rfl rfl rfl ?_
 cases hr:(aS ps ss i j).isSome with
 |true=>
  rw[hr,if_pos rfl]at h2
  subst h2
  simp[b_law_clash,h1]
 |false=>
  rw[hr,if_neg (by simp)]at h2
  obtain⟨e,rfl⟩:=h2
  simp[b_law_clash,h1]
theorem J3:("abcdef" : Str).cps.size=6:=by decide +kernel
theorem J4 (m:Int):∃y:Str,D.ix (.lst [.str "s", .str "t", .str "st", .str "tb", .str "stb", .str "bts", .str "bs", .str ""]) (.int (m%8))=.ok (.str y):=by
 have h:m%8=0\/m%8=1\/m%8=2\/m%8=3\/m%8=4\/m%8=5\/m%8=6\/m%8=7:=by lia
 rcases h with h|h|h|h|h|h|h|h<;>rw[h]<;>exact⟨_,rfl⟩
theorem J5(a b c d i:Int):∃v:Int,D.ix (.lst [.int a,.int b,.int c,.int d]) (.int (i%4))=.ok (.int v):=by
 have h:i%4=0\/i%4=1\/i%4=2\/i%4=3:=by lia
 rcases h with h|h|h|h<;>rw[h]<;>exact⟨_,rfl⟩
theorem J6(a b c i:Int):∃v:Int,D.ix (.lst [.int a,.int b,.int c]) (.int (i%3))=.ok (.int v):=by
 have h:i%3=0\/i%3=1\/i%3=2:=by lia
 rcases h with h|h|h<;>rw[h]<;>exact⟨_,rfl⟩
theorem J7(n:Nat)(c:Int)(many:Nat)(hm:many<=6):∃qs:List Player,qs.length=many/\callF T dfs (n+2) 33 [.int c,.int (many:Int)]=.ok (.tup (qs.map Player.enc)):=by
 have hb:=bC
 have loop:∀(m k:Nat)(qs:List Player)(x3 x4 x5 x6:Sl),k+m=many->qs.length=k->∃(qs':List Player)(y3 y4 y5 y6:Sl),qs'.length=many/\forL (bodyF T (callF T dfs (n+1)) (.one 3) rG) ((bX k m).map natI) [.v (.int c),.v (.int (many:Int)),.o (.lst (qs.map Player.enc)),x3,x4,x5,x6]=.ok (.nx [.v (.int c),.v (.int (many:Int)),.o (.lst (qs'.map Player.enc)),y3,y4,y5,y6]):=by
  intro m
  induction m with
  |zero=>intro k qs x3 x4 x5 x6 h1 h2;exact⟨qs,x3,x4,x5,x6,by lia,rfl⟩
  |succ m ih=>
   intro k qs x3 x4 x5 x6 h1 h2
   have m1:=nX n c (5*(k:Int)+2) (by lia)
   have lo:=qL c (5*(k:Int)+2)
   have hi:=qM c (5*(k:Int)+2)
   have b5:D.bin .Mult (.int 5) (.int (k:Int))=.ok (.int (5*(k:Int))):=lF (by decide)
   generalize dD c (5*(k:Int)+2)=w at *
   obtain⟨y,ey⟩:=J4 w
   obtain⟨v,ev⟩:=J5 0 (w/8%5) (w/8%100) (w*w%1000000000) (w/3)
   have b2:D.bin .Mult (.int w) (.int w)=.ok (.int (w*w)):=lF (by lia)
   obtain⟨y1,ey1,ly1⟩:=ix_str (x:=("abcdef" : Str)) (i:=k) (by rw[J3];lia) (by decide +kernel)
   have l1:("x" : Str).length+y1.length<=big:=by rw[ly1];decide +kernel
   have hl:qs.length<big:=by lia
   obtain⟨qs',y3,y4,y5,y6,h3,h4⟩:=ih (k+1) (qs++[(⟨("x" : Str)++y1,y,v⟩:Player)]) (.v (.int (k:Int))) (.v (.int w)) (.v (.str y)) (.v (.int v)) (by lia) (by rw[bL,h2];rfl)
   refine⟨qs',y3,y4,y5,y6,h3,?_⟩
   have e:bodyF T (callF T dfs (n+1)) (.one 3) rG (natI k) [.v (.int c),.v (.int (many:Int)),.o (.lst (qs.map Player.enc)),x3,x4,x5,x6]=.ok (.nx [.v (.int c),.v (.int (many:Int)),.o (.lst ((qs++[(⟨("x" : Str)++y1,y,v⟩:Player)]).map Player.enc)),.v (.int (k:Int)),.v (.int w),.v (.str y),.v (.int v)]):=by
    rw[cE]
    simp[bodyF,rG,natI,b5,m1,ey,ev,b2,ey1,add_str l1,hl,Player.enc]
   rw[iV,aG,bT e,h4]
 obtain⟨qs,y3,y4,y5,y6,h1,h2⟩:=loop many 0 [] .no .no .no .no (by lia) rfl
 have rg:=eO (n:=many) (by lia)
 rw[iW]at rg
 rw[lX]at h2
 refine⟨qs,h1,aO (k:=false) rfl rfl rfl ?_⟩
 simp[b_law_players,rg,h2]
noncomputable abbrev Lk:=(Nat×Nat)×Int
noncomputable def cA(l:Lk):D:=.tup [.int (l.1.1:Int),.int (l.1.2:Int),.int l.2]
noncomputable def lQ(ls:List Lk):List (Nat×Nat):=ls.map (·.1)
structure GoodL(pls many:Nat)(ls:List Lk):Prop where
 lt:∀l∈ls,l.1.1<pls/\l.1.2<many
 nd:(lQ ls).Nodup
 len:ls.length<=pls*many
theorem J8(n:Nat)(c:Int)(x1:Sl)(many p:Nat)(hm:many<=8)(hp:p<6):∀(m k:Nat)(ls:List Lk)(x5 x6:Sl),k+m=many->(lQ ls).Nodup->(∀l∈ls,l.1.1<p\/(l.1.1=p/\l.1.2<k))->(∀l∈ls,l.1.2<many)->ls.length<=p*many+k ->
 ∃(ls':List Lk)(y5 y6:Sl),(lQ ls').Nodup/\(∀l∈ls',l.1.1<p+1)/\(∀l∈ls',l.1.2<many)/\ls'.length<=p*many+many/\forL (bodyF T (callF T dfs (n+1)) (.one 5) lM) ((bX k m).map natI) [.v (.int c),x1,.v (.int (many:Int)),.o (.lst (ls.map cA)),.v (.int (p:Int)),x5,x6]=.ok (.nx [.v (.int c),x1,.v (.int (many:Int)),.o (.lst (ls'.map cA)),.v (.int (p:Int)),y5,y6]):=by
 have hb:=bC
 intro m
 induction m with
 |zero=>
  intro k ls x5 x6 h1 h2 h3 h4 h5
  exact⟨ls,x5,x6,h2,λl hl=>by have:=h3 l hl;lia,h4,by lia,rfl⟩
 |succ m ih=>
  intro k ls x5 x6 h1 h2 h3 h4 h5
  have m1:=nX n c (8*(p:Int)+(k:Int)) (by lia)
  have lo:=qL c (8*(p:Int)+(k:Int))
  have hi:=qM c (8*(p:Int)+(k:Int))
  have b8:D.bin .Mult (.int 8) (.int (p:Int))=.ok (.int (8*(p:Int))):=lF (by decide)
  generalize dD c (8*(p:Int)+(k:Int))=w at *
  obtain⟨v,ev⟩:=J6 (w/3%4) (w/3%50) (w*w%1000000000) (w/5)
  have b2:D.bin .Mult (.int w) (.int w)=.ok (.int (w*w)):=lF (by lia)
  have hpm:p*many<=6*8:=Du (by lia) hm
  have hl:ls.length<big:=by lia
  by_cases q:w%3=1
  ·obtain⟨ls',y5,y6,g1,g2,g3,g4,g5⟩:=ih (k+1) (ls++[((p,k),v)]) (.v (.int (k:Int))) (.v (.int w)) (by lia) (by
    unfold lQ at h2⊢
    rw[cE,sP]
    refine⟨h2,by simp,?_⟩
    intro a ha b hb' e
    subst e
    obtain⟨l,hl1,hl2⟩:=bG.mp ha
    simp at hb'
    have:=h3 l hl1
    rw[hl2,hb']at this
    dsimp only at this
    lia) (by
    intro l hl1
    rcases cU.mp hl1 with hl1|hl1
    ·have:=h3 l hl1;lia
    ·rw[bJ.mp hl1];dsimp only;lia) (by
    intro l hl1
    rcases cU.mp hl1 with hl1|hl1
    ·exact h4 l hl1
    ·rw[bJ.mp hl1];dsimp only;lia) (by rw[bL,fV];lia)
   refine⟨ls',y5,y6,g1,g2,g3,g4,?_⟩
   have e:bodyF T (callF T dfs (n+1)) (.one 5) lM (natI k) [.v (.int c),x1,.v (.int (many:Int)),.o (.lst (ls.map cA)),.v (.int (p:Int)),x5,x6]=.ok (.nx [.v (.int c),x1,.v (.int (many:Int)),.o (.lst ((ls++[((p,k),v)]).map cA)),.v (.int (p:Int)),.v (.int (k:Int)),.v (.int w)]):=by
    rw[cE]
    simp[bodyF,lM,natI,b8,m1,q,ev,b2,hl,cA]
   rw[iV,aG,bT e,g5]
  ·obtain⟨ls',y5,y6,g1,g2,g3,g4,g5⟩:=ih (k+1) ls (.v (.int (k:Int))) (.v (.int w)) (by lia) h2 (λl hl1=>by have:=h3 l hl1;lia) h4 (by lia)
   refine⟨ls',y5,y6,g1,g2,g3,g4,?_⟩
   have e:bodyF T (callF T dfs (n+1)) (.one 5) lM (natI k) [.v (.int c),x1,.v (.int (many:Int)),.o (.lst (ls.map cA)),.v (.int (p:Int)),x5,x6]=.ok (.nx [.v (.int c),x1,.v (.int (many:Int)),.o (.lst (ls.map cA)),.v (.int (p:Int)),.v (.int (k:Int)),.v (.int w)]):=by
    simp[bodyF,lM,natI,b8,m1,q]
   rw[iV,aG,bT e,g5]
theorem likes(n:Nat)(c:Int)(pls many:Nat)(hp:pls<=6)(hm:many<=8):∃ls:List Lk,GoodL pls many ls/\callF T dfs (n+2) 34 [.int c,.int (pls:Int),.int (many:Int)]=.ok (.tup (ls.map cA)):=by
 have hb:=bC
 have rgm:=eO (n:=many) (by lia)
 rw[iW]at rgm
 have loop:∀(m p:Nat)(ls:List Lk)(x4 x5 x6:Sl),p+m=pls->(lQ ls).Nodup->(∀l∈ls,l.1.1<p)->(∀l∈ls,l.1.2<many)->ls.length<=p*many ->
  ∃(ls':List Lk)(y4 y5 y6:Sl),GoodL pls many ls'/\forL (bodyF T (callF T dfs (n+1)) (.one 4) rH) ((bX p m).map natI) [.v (.int c),.v (.int (pls:Int)),.v (.int (many:Int)),.o (.lst (ls.map cA)),x4,x5,x6]=.ok (.nx [.v (.int c),.v (.int (pls:Int)),.v (.int (many:Int)),.o (.lst (ls'.map cA)),y4,y5,y6]):=by
  intro m
  induction m with
  |zero=>
   intro p ls x4 x5 x6 h1 h2 h3 h4 h5
   have:p=pls:=by lia
   subst this
   exact⟨ls,x4,x5,x6,⟨λl hl=>⟨h3 l hl,h4 l hl⟩,h2,h5⟩,rfl⟩
  |succ m ih=>
   intro p ls x4 x5 x6 h1 h2 h3 h4 h5
   obtain⟨l1,y5,y6,g1,g2,g3,g4,g5⟩:=J8 n c (.v (.int (pls:Int))) many p hm (by lia) many 0 ls x5 x6 (by lia) h2 (λl hl=>.inl (h3 l hl)) h4 (by lia)
   obtain⟨ls',z4,z5,z6,f1,f2⟩:=ih (p+1) l1 (.v (.int (p:Int))) y5 y6 (by lia) g1 g2 g3 (by rw[Nat.add_mul];lia)
   refine⟨ls',z4,z5,z6,f1,?_⟩
   have e:bodyF T (callF T dfs (n+1)) (.one 4) rH (natI p) [.v (.int c),.v (.int (pls:Int)),.v (.int (many:Int)),.o (.lst (ls.map cA)),x4,x5,x6]=.ok (.nx [.v (.int c),.v (.int (pls:Int)),.v (.int (many:Int)),.o (.lst (l1.map cA)),.v (.int (p:Int)),y5,y6]):=by
    simp[bodyF,rH,natI,rgm]at g5⊢
    simp[g5]
   rw[iV,aG,bT e,f2]
 obtain⟨ls,y4,y5,y6,h1,h2⟩:=loop pls 0 [] .no .no .no (by lia) (by simp[lQ]) (by simp) (by simp) (by simp)
 have rg:=eO (n:=pls) (by lia)
 rw[iW]at rg
 rw[lX]at h2
 refine⟨ls,h1,aO (k:=false) rfl rfl rfl ?_⟩
 simp[b_law_likes,rg,h2]
noncomputable def dZ(r:List Int):D:=.tup (r.map D.int)
noncomputable def pricesD(h:List Int)(ls:List (List Int)):D:=.tup [dZ h,.tup (ls.map dZ)]
noncomputable def fB(S:D)(P:List Part)(Q:List Player)(ls:List Lk):D:=.tup [.tup (P.map Part.enc),.tup (Q.map Player.enc),S,.tup (ls.map cA),.tup []]
noncomputable def fC(ls:List Lk)(i j:Nat):Int:=((ls.find? λl=>decide (l.1=(i,j))).map (·.2)).getD 0
theorem Cq(a b c:D):cut [a,b,c] none (some 2)=[a,b]:=rfl
theorem J9(a b i j:Nat):D.cmp .Eq (.tup [.int (a:Int),.int (b:Int)]) (.tup [.int (i:Int),.int (j:Int)])=.ok (.bl (decide ((a,b)=(i,j)))):=by
 have h:=Ci (a,b) (i,j)
 show aB (D.pl 30 (pairD (a,b))&&D.pl 30 (pairD (i,j))) (.ok (D.bl (D.eqb (pairD (a,b)) (pairD (i,j)))))=_
 rw[h,C7 29,C7 29];rfl
theorem Cr(n:Nat)(B:D)(i j:Nat):∀(ls:List Lk)(x3:Sl),(match ls.find? (λl=>decide (l.1=(i,j)))with
 |some l=>forL (bodyF T (callF T dfs n) (.one 3) lL) (ls.map cA) [.v B,.v (.int (i:Int)),.v (.int (j:Int)),x3]=.ok (.rt (.int l.2) false)
 |none=>∃x3',forL (bodyF T (callF T dfs n) (.one 3) lL) (ls.map cA) [.v B,.v (.int (i:Int)),.v (.int (j:Int)),x3]=.ok (.nx [.v B,.v (.int (i:Int)),.v (.int (j:Int)),x3']))
 |[],x3=>⟨x3,rfl⟩
 |l::ls,x3=>by
  have g:=J9 l.1.1 l.1.2 i j
  have ih:=Cr n B i j ls
  by_cases q:l.1=(i,j)
  ·rw[List.find?_cons_of_pos (by simpa using q)]
   refine gK ?_
   rw[show(l.1.1,l.1.2)=l.1 from rfl,decide_eq_true q]at g
   simp[bodyF,lL,cA,Cq,g]
  ·rw[List.find?_cons_of_neg (by simpa using q)]
   rw[show(l.1.1,l.1.2)=l.1 from rfl,decide_eq_false q]at g
   have e:bodyF T (callF T dfs n) (.one 3) lL (cA l) [.v B,.v (.int (i:Int)),.v (.int (j:Int)),x3]=.ok (.nx [.v B,.v (.int (i:Int)),.v (.int (j:Int)),.v (cA l)]):=by
    simp[bodyF,lL,cA,Cq,g]
   rw[aG,bT e]
   exact ih _
theorem like_of(n:Nat)(S:D)(P:List Part)(Q:List Player)(ls:List Lk)(i j:Nat):callF T dfs (n+1) 25 [fB S P Q ls,.int (i:Int),.int (j:Int)]=.ok (.int (fC ls i j)):=by
 have l:=Cr n (fB S P Q ls) i j ls .no
 refine aO (k:=false) rfl rfl rfl ?_
 unfold fC
 unfold fB at l⊢
 cases q:ls.find? (λl=>decide (l.1=(i,j)))with
 |some x=>
  rw[q]at l
  dsimp only at l
  simp[b_like_of,l]
 |none=>
  rw[q]at l
  obtain⟨x3,l⟩:=l
  simp[b_like_of,l]
theorem likes_of(n:Nat)(S:D)(P:List Part)(Q:List Player)(ls:List Lk)(i:Nat)(hP:P.length<=8):callF T dfs (n+2) 26 [fB S P Q ls,.int (i:Int)]=.ok (dZ ((aA P.length).map (fC ls i))):=by
 have hb:=bC
 have rg:=eO (n:=P.length) (by lia)
 refine aO (k:=false) rfl rfl rfl ?_
 have c:compL (compF T (callF T dfs (n+1)) 1 [0,1] (.one 0) wK (.con (.bl true)) [.v (fB S P Q ls),.v (.int (i:Int))]) ((aA P.length).map natI)=.ok (((aA P.length).map (fC ls i)).map D.int):=by
  rw[cG natI (λj=>some (D.int (fC ls i j))) (by
   intro j _
   have g:=like_of n S P Q ls i j
   simp[compF,Tr.compEnv,natI,wK,g]),eJ,bU]
  rfl
 have l:(aA P.length).length<=big:=by rw[cY];lia
 unfold dZ
 generalize ((aA P.length).map (fC ls i)).map D.int=R at *
 unfold fB at c⊢
 simp[b_likes_of,rg]at c l⊢
 simp[c,l]
theorem prices_of(n:Nat)(S:D)(P:List Part)(Q:List Player)(ls:List Lk)(hP:P.length<=8)(hQ:Q.length<=6):callF T dfs (n+3) 27 [fB S P Q ls]=.ok (pricesD (Q.map Player.hire) ((aA Q.length).map λi=>(aA P.length).map (fC ls i))):=by
 have hb:=bC
 have rg:=eO (n:=Q.length) (by lia)
 refine aO (k:=false) rfl rfl rfl ?_
 have c1:compL (compF T (callF T dfs (n+2)) 1 [] (.one 0) wL (.con (.bl true)) [.v (fB S P Q ls),.no,.no]) (Q.map Player.enc)=.ok ((Q.map Player.hire).map D.int):=by
  rw[cG Player.enc (λp=>some (D.int p.hire)) (by
   intro p _
   simp[compF,Tr.compEnv,wL,Player.enc]),eJ,bU]
  rfl
 have c2:compL (compF T (callF T dfs (n+2)) 1 [0] (.one 0) wM (.con (.bl true)) [.v (fB S P Q ls),.v (dZ (Q.map Player.hire)),.no]) ((aA Q.length).map natI)=.ok (((aA Q.length).map λi=>(aA P.length).map (fC ls i)).map dZ):=by
  rw[cG natI (λi=>some (dZ ((aA P.length).map (fC ls i)))) (by
   intro i _
   have g:=likes_of n S P Q ls i hP
   simp[compF,Tr.compEnv,natI,wM,g]),eJ,bU]
  rfl
 have l1:Q.length<=big:=by lia
 have l2:((aA Q.length).map natI).length<=big:=by rw[aC,cY];lia
 unfold pricesD
 generalize hR:((aA Q.length).map λi=>(aA P.length).map (fC ls i)).map dZ=R at *
 have e1:dZ (Q.map Player.hire)=.tup ((Q.map Player.hire).map D.int):=rfl
 generalize (Q.map Player.hire).map D.int=HH at *
 rw[e1]at c2⊢
 unfold fB at c1 c2⊢
 generalize (aA Q.length).map natI=RQ at *
 simp[b_prices_of,rg,c1,c2,l1,l2]
noncomputable def okV(P:List Part)(Q:List Player)(j k:Nat):Bool:=nS P Q k j
theorem J_(n:Nat)(P:List Part)(Q:List Player)(X Y Z:D)(hv:∀p∈P,(signs p.voice).length=1)(j k:Nat)(hj:j<Q.length)(hk:k<P.length) :
 ∃d,callF T dfs (n+1) 7 [.tup [.tup (P.map Part.enc),.tup (Q.map Player.enc),X,Y,Z],.int (k:Int),.int (j:Int)]=.ok d/\d.isNon=okV P Q j k:=by
 have e1:=lH (aH hk)
 have e2:=Cc (aH hj)
 have e3:=JU (p:=P[k]) (q:=Q[j]) (hv _ (iU hk))
 rw[<-Cd hk hj]at e3
 unfold okV
 generalize nS P Q k j=c at e3
 cases c with
 |true=>exact⟨.non,aO (k:=false) rfl rfl rfl (by simp[b_fault_of_part,e1,e2,e3]),rfl⟩
 |false=>exact⟨.tup [.str "voice", .int (k:Int),.int (j:Int)],aO (k:=false) rfl rfl rfl (by simp[b_fault_of_part,e1,e2,e3]),rfl⟩
theorem Cs(p:Nat×Nat)(ps:List (Nat×Nat)):D.cmp .NotIn (pairD p) (.lst (ps.map pairD))=.ok (.bl (!decide (p∈ps))):=by
 show(do let k<-aB (D.pls 30 (ps.map pairD)&&D.pl 29 (pairD p)) (.ok (D.mem (pairD p) (ps.map pairD)));.ok (D.bl (!k)))=_
 rw[gW pairD 29 (Cf 28),Cf 28,Cj];rfl
noncomputable def tN(t:List Nat):D:=.tup (t.map natI)
theorem may_join(n:Nat)(ps:List (Nat×Nat))(t:List Nat)(ht:t.length<=100)(p:Nat):callF T dfs (n+1) 8 [.lst (ps.map pairD),tN t,.int (p:Int)]=.ok (.bl (t.all λo=>!decide ((o,p)∈ps))):=by
 have hb:=bC
 have c:compL (compF T (callF T dfs n) 1 [0,2] (.one 0) wB (.con (.bl true)) [.v (.lst (ps.map pairD)),.v (tN t),.v (.int (p:Int))]) (t.map natI)=.ok ((t.map λo=>!decide ((o,p)∈ps)).map D.bl):=by
  rw[cG natI (λo=>some (D.bl (!decide ((o,p)∈ps)))) (by
   intro o _
   have e:D.cmp .NotIn (.tup [.int (o:Int),.int (p:Int)]) (.lst (ps.map pairD))=.ok (.bl (!decide ((o,p)∈ps))):=Cs (o,p) ps
   generalize (!decide ((o,p)∈ps))=b at *
   generalize ps.map pairD=pp at *
   simp[compF,Tr.compEnv,natI,wB,e]),eJ,bU]
  rfl
 have l1:(t.map natI).length<=big:=by rw[aC];lia
 have it:D.items (tN t)=.ok (t.map natI):=rfl
 have bl:fL ((t.map λo=>!decide ((o,p)∈ps)).map D.bl)=.ok (t.map λo=>!decide ((o,p)∈ps)):=by
  generalize (t.map λo=>!decide ((o,p)∈ps))=q
  clear c l1 it ht
  induction q with
  |nil=>rfl
  |cons b r ih=>rw[aG,fL,ih];rfl
 have al:((t.map λo=>!decide ((o,p)∈ps)).all id)=t.all λo=>!decide ((o,p)∈ps):=by
  rw[xU];rfl
 refine aO (k:=false) rfl rfl rfl ?_
 rw[<-al]
 generalize (t.map λo=>!decide ((o,p)∈ps))=q at *
 generalize hq:q.map D.bl=qd at *
 generalize tN t=td at *
 generalize t.map natI=tl at *
 simp[b_may_join,it,c,l1,bl]
theorem Ct(t:List Nat)(p:Nat)(h:t.length<=100):D.bin .Add (tN t) (.tup [.int (p:Int)])=.ok (tN (t++[p])):=by
 have hb:=bC
 unfold tN
 show aB (decide ((t.map natI).length+1<=big)) _=_
 rw[cJ (decide_eq_true (by rw[aC];lia)),cE];rfl
theorem Ja{ok:Nat->Bool}{ps:List (Nat×Nat)}(ts:List (List Nat))(p:Nat):(gZ ok ps ts p).length<=2*ts.length:=by
 unfold gZ
 split
 ·rw[bL,aC]
  have:=iX (λt=>t.all λo=>!decide ((o,p)∈ps)) ts
  lia
 ·lia
theorem nY{ok:Nat->Bool}{ps:List (Nat×Nat)}:∀{n:Nat} {l:List Nat},l.length=n->(aX ok ps l).length<=2^n
 |0,l,h=>by rw[D_.mp h];exact aF 1
 |n+1,l,h=>by
  obtain⟨l0,p,rfl⟩:∃l0 p,l=l0++[p]:=by
   have h0:l≠[]:=λz=>by rw[z]at h;cases h
   exact⟨l.dropLast,l.getLast h0,(sU h0).symm⟩
  have hl0:l0.length=n:=by rw[bL,fV]at h;lia
  rw[qO]
  have h1:=Ja (ok:=ok) (ps:=ps) (aX ok ps l0) p
  have h2:=nY (ok:=ok) (ps:=ps) hl0
  rw[Nat.pow_succ];lia
theorem rY{α β:Type}(p:α->Bool)(f:α->β):∀l:List α,l.filterMap (λs=>if p s=true then some (f s)else none)=(l.filter p).map f
 |[]=>rfl
 |a::l=>by
  rw[hV,iC]
  cases p a with
  |true=>simp only[if_true,aG];rw[rY p f l]
  |false=>exact rY p f l
theorem Cu(n:Nat)(P:List Part)(Q:List Player)(X Y Z:D)(ps:List (Nat×Nat))(hv:∀p∈P,(signs p.voice).length=1)(j:Nat)(hj:j<Q.length)(L:D):∀(rest l0:List Nat)(x5:Sl),(l0++rest).length<=8->(∀p∈rest,p<P.length) ->
 ∃x5',forL (bodyF T (callF T dfs (n+1)) (.one 5) qX) (rest.map natI) [.v (.tup [.tup (P.map Part.enc),.tup (Q.map Player.enc),X,Y,Z]),.v (.lst (ps.map pairD)),.v (.int (j:Int)),.v L,.v (.lst ((aX (okV P Q j) ps l0).map tN)),x5] =
  .ok (.nx [.v (.tup [.tup (P.map Part.enc),.tup (Q.map Player.enc),X,Y,Z]),.v (.lst (ps.map pairD)),.v (.int (j:Int)),.v L,.v (.lst ((aX (okV P Q j) ps (l0++rest)).map tN)),x5'])
 |[],l0,x5,_,_=>⟨x5,by rw[jM];rfl⟩
 |p::rest,l0,x5,hl,hp=>by
  have hb:=bC
  have hl0:l0.length<=7:=by simp at hl;lia
  obtain⟨d,hd,hn⟩:=J_ n P Q X Y Z hv j p hj (hp p (aY ..))
  have tl:(aX (okV P Q j) ps l0).length<=2^7:=aW (nY rfl) (yF (by lia) hl0)
  have tm:∀t∈aX (okV P Q j) ps l0,t.length<=7:=λt ht=>aW ((gM rfl).mp ht).1.length_le hl0
  obtain⟨x5',ih⟩:=Cu n P Q X Y Z ps hv j hj L rest (l0++[p]) (.v (.int (p:Int))) (by simpa using hl) (λq hq=>hp q (bE _ hq))
  refine⟨x5',?_⟩
  rw[oH,List.singleton_append]at ih
  rw[aG,<-ih]
  refine bT ?_
  rw[qO]
  generalize aX (okV P Q j) ps l0=ts at *
  generalize (D.tup [.tup (P.map Part.enc),.tup (Q.map Player.enc),X,Y,Z])=B at *
  have ec:D.cmp .Is d .non=.ok (.bl (okV P Q j p)):=by rw[<-hn];cases d<;>rfl
  unfold gZ
  generalize okV P Q j p=c at *
  cases c with
  |false=>simp[bodyF,qX,natI,hd,hn]
  |true=>
   have cc:compL (compF T (callF T dfs (n+1)) 1 [5,1] (.one 0) qW qV [.v B,.v (.lst (ps.map pairD)),.v (.int (j:Int)),.v L,.v (.lst (ts.map tN)),.v (.int (p:Int))]) (ts.map tN)=.ok (((ts.filter λt=>t.all λo=>!decide ((o,p)∈ps)).map (·++[p])).map tN):=by
    rw[cG tN (λt=>if(t.all λo=>!decide ((o,p)∈ps))=true then some (tN (t++[p]))else none) (by
     intro t ht
     have e1:=may_join n ps t (aW (tm t ht) (by lia)) p
     have e2:=Ct t p (aW (tm t ht) (by lia))
     generalize (t.all λo=>!decide ((o,p)∈ps))=b at *
     cases b with
     |true=>simp[compF,Tr.compEnv,qV,qW,e1,e2]
     |false=>simp[compF,Tr.compEnv,qV,qW,e1]),rY,bU]
    rfl
   rw[if_pos rfl,cE]
   have fl:(((ts.filter λt=>t.all λo=>!decide ((o,p)∈ps)).map (·++[p])).map tN).length<=128:=by
    rw[aC,aC]
    exact aW (iX _ _) tl
   have tl2:(ts.map tN).length<=128:=by rw[aC];exact tl
   generalize ((ts.filter λt=>t.all λo=>!decide ((o,p)∈ps)).map (·++[p])).map tN=more at *
   generalize ts.map tN=td at *
   have e3:D.bin .Add (.lst td) (.lst more)=.ok (.lst (td++more)):=by
    show aB (decide (td.length+more.length<=big)) _=_
    rw[cJ (decide_eq_true (by lia))]
   simp[bodyF,qX,natI,hd,hn,cc,e3,show td.length<=big by lia]
theorem takings_of(n:Nat)(P:List Part)(Q:List Player)(X Y Z:D)(ps:List (Nat×Nat))(hv:∀p∈P,(signs p.voice).length=1)(j:Nat)(hj:j<Q.length)(left:List Nat)(hl:left.length<=8)(hp:∀p∈left,p<P.length) :
 callF T dfs (n+2) 9 [.tup [.tup (P.map Part.enc),.tup (Q.map Player.enc),X,Y,Z],.lst (ps.map pairD),.int (j:Int),tN left]=.ok (.lst ((aX (okV P Q j) ps left).map tN)):=by
 obtain⟨x5',h⟩:=Cu n P Q X Y Z ps hv j hj (tN left) left [] .no (by simpa using hl) hp
 have e:aX (okV P Q j) ps []=[[]]:=rfl
 rw[e,sS]at h
 have it:D.items (tN left)=.ok (left.map natI):=rfl
 have e0:[([]:List Nat)].map tN=[.tup []]:=rfl
 rw[e0]at h
 refine aO (k:=false) rfl rfl rfl ?_
 simp[b_takings_of,it,h]
theorem rZ(t:List Nat):D.cmp .Eq (tN t) (.tup [])=.ok (.bl (decide (t=[]))):=by
 unfold tN
 rw[JV (gW natI 29 (qN 29) t)]
 cases t<;>rfl
theorem tN_in(p:Nat)(t:List Nat):D.cmp .In (.int (p:Int)) (tN t)=.ok (.bl (decide (p∈t))):=JD
theorem Cv(p:Nat)(t:List Nat):D.cmp .NotIn (.int (p:Int)) (tN t)=.ok (.bl (!decide (p∈t))):=by
 show(do let k<-aB (D.pls 30 (cM t)&&D.pl 29 (.int (p:Int))) (.ok (D.mem (.int (p:Int)) (cM t)));.ok (D.bl (!k)))=_
 rw[vS 29,vR];rfl
theorem sA{r:List Int}{i:Nat}(h:i<r.length):D.ix (dZ r) (.int (i:Int))=.ok (.int (r.getD i 0)):=iP (by
 rw[bI,aH h,cZ,aH h];rfl)
theorem Cw{ls:List (List Int)}{i:Nat}(h:i<ls.length):D.ix (.tup (ls.map dZ)) (.int (i:Int))=.ok (dZ (ls.getD i [])):=iP (by
 rw[bI,aH h,cZ,aH h];rfl)
noncomputable def hireP(h:List Int)(j:Nat):Int:=h.getD j 0
noncomputable def likeP(ls:List (List Int))(j p:Nat):Int:=(ls.getD j []).getD p 0
theorem price_of_taking(n:Nat)(h:List Int)(ls:List (List Int))(j:Nat)(t:List Nat)(hj:j<h.length)(hj2:j<ls.length)(ht:∀p∈t,p<(ls.getD j []).length)(hl:t.length<=100) :
 callF T dfs (n+1) 10 [pricesD h ls,.int (j:Int),tN t]=.ok (.int (ptak (hireP h j) (likeP ls j) t)):=by
 have hb:=bC
 have e1:=rZ t
 have e2:=sA hj
 have it:D.items (tN t)=.ok (t.map natI):=rfl
 have c:∀x:Sl,compL (compF T (callF T dfs n) 1 [4,1] (.one 0) wC (.con (.bl true)) [x,.v (.int (j:Int)),.v (tN t),.v (dZ h),.v (.tup (ls.map dZ))]) (t.map natI)=.ok ((t.map (likeP ls j)).map D.int):=by
  intro x
  rw[cG natI (λp=>some (D.int (likeP ls j p))) (by
   intro p hp
   have q1:=Cw hj2
   have q2:=sA (ht p hp)
   unfold likeP
   generalize ls.getD j []=R at *
   simp[compF,Tr.compEnv,natI,wC,q1,q2]),eJ,bU]
  rfl
 have s1:=vK (ns:=t.map (likeP ls j))
 have l1:(t.map natI).length<=big:=by rw[aC];lia
 unfold ptak hireP
 by_cases q:t=[]
 ·rw[if_pos q]
  refine aO (k:=false) rfl rfl rfl ?_
  rw[decide_eq_true q]at e1
  unfold pricesD
  simp[b_price_of_taking,e1]
 ·rw[if_neg q]
  refine aO (k:=true) rfl rfl rfl ?_
  rw[decide_eq_false q]at e1
  generalize t.map (likeP ls j)=A1 at *
  generalize t.map natI=tl at *
  unfold pricesD
  simp[b_price_of_taking,e1,e2,it,c,l1,s1]
theorem left_behind(n:Nat)(left t:List Nat)(hl:left.length<=100):callF T dfs (n+1) 11 [tN left,tN t]=.ok (tN (behindV left t)):=by
 have hb:=bC
 have it:D.items (tN left)=.ok (left.map natI):=rfl
 have l1:(left.map natI).length<=big:=by rw[aC];lia
 have c:compL (compF T (callF T dfs n) 1 [1] (.one 0) qZ qY [.v (tN left),.v (tN t)]) (left.map natI)=.ok ((behindV left t).map natI):=by
  refine nR natI (λp=>!decide (p∈t)) ?_
  intro p _
  have e:=Cv p t
  generalize (!decide (p∈t))=b at *
  cases b with
  |true=>simp[compF,Tr.compEnv,natI,qZ,qY,e]
  |false=>simp[compF,Tr.compEnv,natI,qZ,qY,e]
 refine aO (k:=false) rfl rfl rfl ?_
 show _=Res.ok (Out.rt (D.tup ((behindV left t).map natI)) false)
 generalize left.map natI=ll at *
 simp[b_left_behind,it,c,l1]
theorem with_parts(n:Nat)(cs:List (Option Nat))(t:List Nat)(j:Nat)(hl:cs.length<=100):callF T dfs (n+1) 12 [.lst (cs.map cH),tN t,.int (j:Int)]=.ok (.lst ((dO cs t j).map cH)):=by
 have hb:=bC
 have en:cQ 0 (cs.map cH)=(aA cs.length).map λk:Nat=>D.tup [.int (k:Int),cH (cs.getD k none)]:=by
  have:=Ce cH none cs 0
  rw[show((0:Nat):Int)=0 from rfl]at this
  rw[this]
  apply gP
  intro a _
  rw[iB]
 have c:compL (compF T (callF T dfs n) 2 [2,1] (.many [0,1]) rA (.con (.bl true)) [.v (.lst (cs.map cH)),.v (tN t),.v (.int (j:Int))]) ((aA cs.length).map λk:Nat=>D.tup [.int (k:Int),cH (cs.getD k none)])=.ok ((dO cs t j).map cH):=by
  rw[cG (λk:Nat=>D.tup [.int (k:Int),cH (cs.getD k none)]) (λk=>some (cH (if k∈t then some j else cs.getD k none))) (by
   intro k hk
   have e:=tN_in k t
   by_cases q:k∈t
   ·rw[if_pos q];rw[decide_eq_true q]at e;simp[compF,Tr.compEnv,rA,e]
   ·rw[if_neg q];rw[decide_eq_false q]at e;simp[compF,Tr.compEnv,rA,e]),eJ]
  unfold dO
  rw[bU];rfl
 have l2:((aA cs.length).map λk:Nat=>D.tup [.int (k:Int),cH (cs.getD k none)]).length<=big:=by rw[aC,cY];lia
 refine aO (k:=true) rfl rfl rfl ?_
 generalize ((aA cs.length).map λk:Nat=>D.tup [.int (k:Int),cH (cs.getD k none)])=EE at *
 simp[b_with_parts,en,c,l2]
noncomputable def dG(v:Way):D:=.tup [.int v.1,.lst (v.2.map cH)]
noncomputable def bK(k:List Nat):List (Sum Int Str):=k.map λ(i:Nat)=>Sum.inl (i:Int)
noncomputable def aL(L:List (List Nat×Way)):List (List (Sum Int Str)×D):=L.map λe=>(bK e.1,dG e.2)
theorem sC:∀{a b:List Nat},bK a=bK b->a=b
 |[],[],_=>rfl
 |[],b::s,h=>nomatch h
 |a::r,[],h=>nomatch h
 |a::r,b::s,h=>by
  injection h with h1 h2
  injection h1 with h1
  rw[Int.ofNat.inj h1,sC h2]
theorem wX(a b:List Nat):decide (bK a=bK b)=decide (a=b):=by
 by_cases h:a=b
 ·rw[h,decide_eq_true rfl,decide_eq_true rfl]
 ·rw[decide_eq_false h,decide_eq_false λz=>h (sC z)]
theorem iT:∀k:List Nat,cF (k.map natI)=some (bK k)
 |[]=>rfl
 |i::k=>by
  show(cF (k.map natI)).map _=_
  rw[iT k];rfl
theorem Jb(k:List Nat):(bK k).map iG=k.map natI:=by
 unfold bK
 rw[bU];rfl
theorem wY(L:List (List Nat×Way))(k:List Nat):cB (aL L) (bK k)=(bB L k).map dG:=by
 unfold cB bB aL
 rw[LK,yG,yG]
 have e:((λkv:List (Sum Int Str)×D=>decide (kv.1=bK k))∘λe:List Nat×Way=>(bK e.1,dG e.2))=λe=>decide (e.1=k):=by
  funext e;exact wX e.1 k
 rw[e];rfl
theorem Jc(L:List (List Nat×Way))(k:List Nat)(v:Way):fM (aL L) (bK k) (dG v)=aL (hE L k v):=by
 unfold fM hE aL
 rw[List.any_map]
 have e:((λkv:List (Sum Int Str)×D=>decide (kv.1=bK k))∘λe:List Nat×Way=>(bK e.1,dG e.2))=λe=>decide (e.1=k):=by
  funext e;exact wX e.1 k
 rw[e]
 by_cases q:(L.any λe=>decide (e.1=k))=true
 ·rw[if_pos q,if_pos q,bU,bU]
  apply gP
  intro e _
  show(if bK e.1=bK k then(bK e.1,dG v)else(bK e.1,dG e.2))=_
  by_cases c:e.1=k
  ·rw[if_pos (congrArg bK c)]
   show _=((λe:List Nat×Way=>(bK e.1,dG e.2)) (if e.1=k then(e.1,v)else e))
   rw[if_pos c]
  ·rw[if_neg (λz=>c (sC z))]
   show _=((λe:List Nat×Way=>(bK e.1,dG e.2)) (if e.1=k then(e.1,v)else e))
   rw[if_neg c]
 ·rw[if_neg q,if_neg q,cE];rfl
theorem Jd(L:List (List Nat×Way))(k:List Nat):D.cmp .NotIn (tN k) (.tdc (aL L))=.ok (.bl (bB L k).isNone):=by
 show((Res.of (cF (k.map natI))>>=λq=>Res.ok (cB (aL L) q).isSome)>>=λb=>Res.ok (D.bl (!b)))=_
 rw[iT]
 show Res.ok (D.bl (!(cB (aL L) (bK k)).isSome))=_
 rw[wY]
 cases bB L k<;>rfl
theorem wZ{L:List (List Nat×Way)}{k:List Nat}{w:Way}(h:bB L k=some w):D.ix (.tdc (aL L)) (tN k)=.ok (dG w):=by
 show(Res.of (cF (k.map natI))>>=λq=>Res.of (cB (aL L) q))=_
 rw[iT]
 show Res.of (cB (aL L) (bK k))=_
 rw[wY,h];rfl
theorem Je(L:List (List Nat×Way))(k:List Nat):oX (.tdc (aL L)) (tN k)=.ok (((bB L k).map dG).getD .non):=by
 show(Res.of (cF (k.map natI))>>=λq=>Res.ok ((cB (aL L) q).getD .non))=_
 rw[iT]
 show Res.ok ((cB (aL L) (bK k)).getD .non)=_
 rw[wY]
theorem Jf(k:List Nat):oY (tN k)=.ok (bK k):=by
 show Res.of (cF (k.map natI))=_
 rw[iT];rfl
theorem Cy(L:List (List Nat×Way)):pA (.tdc (aL L))=.ok (L.map λe=>tN e.1):=by
 show Res.ok ((aL L).map _)=_
 unfold aL
 rw[bU]
 refine congrArg Res.ok (gP λe _=>?_)
 show D.tup ((bK e.1).map iG)=_
 rw[Jb];rfl
theorem Cz(L:List (List Nat×Way))(k:List Nat)(v:Way):(fA L k v).length<=L.length+1:=by
 have p:(hE L k v).length<=L.length+1:=by
  unfold hE
  split
  ·rw[aC];lia
  ·rw[bL];exact aF _
 unfold fA
 cases bB L k with
 |none=>exact p
 |some w=>
  dsimp only
  split
  ·exact p
  ·lia
theorem DA:∀(cs L:List (List Nat×Way)),(eQ L cs).length<=L.length+cs.length
 |[],L=>aF _
 |c::cs,L=>by
  have h1:=DA cs (fA L c.1 c.2)
  have h2:=Cz L c.1 c.2
  show(eQ (fA L c.1 c.2) cs).length<=_
  rw[aN];lia
theorem DB(n:Nat)(B C W:D)(h:List Int)(ls:List (List Int))(j:Nat)(hj:j<h.length)(hj2:j<ls.length)(left:List Nat)(hl:left.length<=100)(c:Int)(cs:List (Option Nat))(hc:cs.length<=100):∀(ts:List (List Nat))(acc:List (List Nat×Way))(x9 x10 x11:Sl),
 acc.length+ts.length<=100000->(∀t∈ts,t.length<=100/\∀p∈t,p<(ls.getD j []).length) ->
 ∃x9' x10' x11',forL (bodyF T (callF T dfs (n+1)) (.one 9) nV) (ts.map tN) [.v B,.v C,.v (pricesD h ls),.v (.int (j:Int)),.v W,.o (.tdc (aL acc)),.v (tN left),.v (.int c),.v (.lst (cs.map cH)),x9,x10,x11] =
  .ok (.nx [.v B,.v C,.v (pricesD h ls),.v (.int (j:Int)),.v W,.o (.tdc (aL (eQ acc (ts.map λt=>(behindV left t,(c+ptak (hireP h j) (likeP ls j) t,dO cs t j)))))),.v (tN left),.v (.int c),.v (.lst (cs.map cH)),x9',x10',x11'])
 |[],acc,x9,x10,x11,_,_=>⟨x9,x10,x11,rfl⟩
 |t::ts,acc,x9,x10,x11,ha,ht=>by
  have hbig:(100000:Nat)<big:=by decide
  rw[aN]at ha
  have h0:=ht t (aY ..)
  have e1:=left_behind n left t hl
  have e2:=price_of_taking n h ls j t hj hj2 h0.2 h0.1
  have e3:=with_parts n cs t j hc
  have e4:=Jd acc (behindV left t)
  have e5:=Jf (behindV left t)
  have ul:=Cz acc (behindV left t) (c+ptak (hireP h j) (likeP ls j) t,dO cs t j)
  obtain⟨x9',x10',x11',ih⟩:=DB n B C W h ls j hj hj2 left hl c cs hc ts (fA acc (behindV left t) (c+ptak (hireP h j) (likeP ls j) t,dO cs t j)) (.v (tN t)) (.v (tN (behindV left t))) (.v (.int (c+ptak (hireP h j) (likeP ls j) t))) (by lia) (λq hq=>ht q (bE _ hq))
  refine⟨x9',x10',x11',?_⟩
  rw[aG,aG]
  show _=Res.ok (Out.nx [_,_,_,_,_,.o (.tdc (aL (eQ (fA acc (behindV left t) (c+ptak (hireP h j) (likeP ls j) t,dO cs t j)) _))),_,_,_,_,_,_])
  rw[<-ih]
  refine bT ?_
  have e6:=Jc acc (behindV left t) (c+ptak (hireP h j) (likeP ls j) t,dO cs t j)
  have la:(aL acc).length<big:=by unfold aL;rw[aC];lia
  unfold fA
  clear ih ul ht h0
  unfold dG at e6
  dsimp only at e6
  generalize ptak (hireP h j) (likeP ls j) t=pr at *
  cases hv:bB acc (behindV left t)with
  |none=>
   rw[hv]at e4
   dsimp only
   rw[<-e6]
   simp[bodyF,nV,e1,e2,e3,e4,e5,la]
  |some w=>
   rw[hv]at e4
   have e7:=wZ hv
   have e8:D.ix (dG w) (.int 0)=.ok (.int w.1):=rfl
   dsimp only
   by_cases q:c+pr<w.1
   ·rw[if_pos q,<-e6]
    simp[bodyF,nV,e1,e2,e3,e4,e5,e7,e8,la,q]
   ·rw[if_neg q]
    simp[bodyF,nV,e1,e2,e4,e7,e8,q]
theorem Jg(L a b:List (List Nat×Way)):eQ L (a++b)=eQ (eQ L a) b:=by
 unfold eQ
 rw[Dp]
theorem DC(n:Nat)(P:List Part)(Q:List Player)(X Y Z:D)(ps:List (Nat×Nat))(hv:∀p∈P,(signs p.voice).length=1)(h:List Int)(ls:List (List Int))(j:Nat)(hq:j<Q.length)(hj:j<h.length)(hj2:j<ls.length)(hr:(ls.getD j []).length=P.length)(ways:List (List Nat×Way)):∀(es acc:List (List Nat×Way))(x6 x7 x8 x9 x10 x11:Sl),
 acc.length+es.length*256<=100000->(∀e∈es,(∃v,bB ways e.1=some v/\v.2.length<=100)/\e.1.length<=8/\∀p∈e.1,p<P.length) ->
 ∃x6' x7' x8' x9' x10' x11',forL (bodyF T (callF T dfs (n+2)) (.one 6) wD) (es.map λe=>tN e.1) [.v (.tup [.tup (P.map Part.enc),.tup (Q.map Player.enc),X,Y,Z]),.v (.lst (ps.map pairD)),.v (pricesD h ls),.v (.int (j:Int)),.v (.tdc (aL ways)),.o (.tdc (aL acc)),x6,x7,x8,x9,x10,x11] =
  .ok (.nx [.v (.tup [.tup (P.map Part.enc),.tup (Q.map Player.enc),X,Y,Z]),.v (.lst (ps.map pairD)),.v (pricesD h ls),.v (.int (j:Int)),.v (.tdc (aL ways)),.o (.tdc (aL (eQ acc (es.flatMap λe=>match bB ways e.1 with|some v=>kF (okV P Q j) ps (hireP h j) (likeP ls j) j e.1 v|none=>[])))),x6',x7',x8',x9',x10',x11'])
 |[],acc,x6,x7,x8,x9,x10,x11,_,_=>⟨x6,x7,x8,x9,x10,x11,rfl⟩
 |e::es,acc,x6,x7,x8,x9,x10,x11,ha,he=>by
  rw[aN]at ha
  obtain⟨⟨v,hval,hvl⟩,hel,hep⟩:=he e (aY ..)
  have tl:(aX (okV P Q j) ps e.1).length<=2^8:=aW (nY rfl) (yF (by lia) hel)
  have tm:∀t∈aX (okV P Q j) ps e.1,t.length<=100/\∀p∈t,p<(ls.getD j []).length:=λt ht=>by
   have hs:=((gM rfl).mp ht).1
   exact⟨aW hs.length_le (by lia),λp hp=>by rw[hr];exact hep p (hs.subset hp)⟩
  have t1:=takings_of n P Q X Y Z ps hv j hq e.1 (by lia) hep
  obtain⟨y9,y10,y11,hin⟩:=DB (n+1) (.tup [.tup (P.map Part.enc),.tup (Q.map Player.enc),X,Y,Z]) (.lst (ps.map pairD)) (.tdc (aL ways)) h ls j hj hj2 e.1 (by lia) v.1 v.2 hvl (aX (okV P Q j) ps e.1) acc x9 x10 x11 (by lia) tm
  rw[show((aX (okV P Q j) ps e.1).map λt=>(behindV e.1 t,(v.1+ptak (hireP h j) (likeP ls j) t,dO v.2 t j)))=kF (okV P Q j) ps (hireP h j) (likeP ls j) j e.1 v from rfl]at hin
  have cl:(kF (okV P Q j) ps (hireP h j) (likeP ls j) j e.1 v).length<=256:=by unfold kF;rw[aC];exact tl
  have fl:=DA (kF (okV P Q j) ps (hireP h j) (likeP ls j) j e.1 v) acc
  have ih:=DC n P Q X Y Z ps hv h ls j hq hj hj2 hr ways es (eQ acc (kF (okV P Q j) ps (hireP h j) (likeP ls j) j e.1 v)) (.v (tN e.1)) (.v (.int v.1)) (.v (.lst (v.2.map cH))) y9 y10 y11 (by lia) (λq hq=>he q (bE _ hq))
  obtain⟨x6',x7',x8',x9',x10',x11',ih⟩:=ih
  refine⟨x6',x7',x8',x9',x10',x11',?_⟩
  rw[aG,List.flatMap_cons,Jg,hval]
  dsimp only
  rw[<-ih]
  refine bT ?_
  have e1:=wZ hval
  unfold dG at e1
  simp[bodyF,wD,e1,t1,hin]
theorem next_ways(n:Nat)(P:List Part)(Q:List Player)(X Y Z:D)(ps:List (Nat×Nat))(hv:∀p∈P,(signs p.voice).length=1)(h:List Int)(ls:List (List Int))(j:Nat)(hq:j<Q.length)(hj:j<h.length)(hj2:j<ls.length)(hr:(ls.getD j []).length=P.length)(ways:List (List Nat×Way))
 (hw:ways.length<=256) (he:∀e∈ways,(∃v,bB ways e.1=some v/\v.2.length<=100)/\e.1.length<=8/\∀p∈e.1,p<P.length) :
 callF T dfs (n+3) 14 [.tup [.tup (P.map Part.enc),.tup (Q.map Player.enc),X,Y,Z],.lst (ps.map pairD),pricesD h ls,.int (j:Int),.tdc (aL ways)]=.ok (.tdc (aL (qP (okV P Q j) ps (hireP h j) (likeP ls j) j ways))):=by
 obtain⟨x6,x7,x8,x9,x10,x11,hl⟩:=DC n P Q X Y Z ps hv h ls j hq hj hj2 hr ways ways [] .no .no .no .no .no .no (by simp;lia) he
 have e0:aL []=[]:=rfl
 rw[e0]at hl
 have e1:=Cy ways
 refine aO (k:=false) rfl rfl rfl ?_
 unfold qP vZ
 generalize aL (eQ [] _)=r at *
 have dd:(D.tdc r).isDct=true:=rfl
 simp[b_next_ways,e1,hl,dd]
noncomputable def cD(P:List Part)(Q:List Player)(ps:List (Nat×Nat))(h:List Int)(ls:List (List Int)):Cst:=⟨P.length,okV P Q,ps,hireP h,likeP ls⟩
theorem DD{L:List (List Nat×Way)}{e:List Nat×Way}(h:e∈L):∃v,bB L e.1=some v:=by
 unfold bB
 cases q:L.find? λx=>decide (x.1=e.1)with
 |some x=>exact⟨x.2,rfl⟩
 |none=>
  have:=Dd.mp q e h
  simp at this
theorem DE{B:Cst}{k:Nat}{e:List Nat×Way}(h:e∈aP B k):(∃v,bB (aP B k) e.1=some v/\v.2.length=B.many)/\e.1.length<=B.many/\∀p∈e.1,p<B.many:=by
 obtain⟨v,hv⟩:=DD h
 obtain⟨h1,h2,_⟩:=qQ B k hv
 refine⟨⟨v,hv,h1.len⟩,?_,λp hp=>?_⟩
 ·rw[h2]
  exact aW (iX _ _) (D7 cY)
 ·rw[h2]at hp
  exact(mem_left.mp hp).1
theorem xA:∀{l U:List (List Nat)},l.Nodup->(∀x∈l,x∈U)->l.length<=U.length
 |[],U,_,_=>fX _
 |a::r,U,h,hs=>by
  rw[dP]at h
  have ha:=hs a aY
  have:=xA (l:=r) (U:=U.erase a) h.2 λx hx=>(Ke (λe:x=a=>h.1 (e▸hx))).mpr (hs x (bE _ hx))
  rw[Kf ha]at this
  have:=Kg ha
  rw[aN];lia
theorem upd_nd{L:List (List Nat×Way)}(k:List Nat)(v:Way)(h:(L.map (·.1)).Nodup):((fA L k v).map (·.1)).Nodup:=by
 have p:((hE L k v).map (·.1)).Nodup:=by
  unfold hE
  by_cases q:(L.any λe=>decide (e.1=k))=true
  ·rw[if_pos q,bU,show((λe:List Nat×Way=>e.1)∘λe=>if e.1=k then(e.1,v)else e)=λe=>e.1 from funext λe=>by
    show(if e.1=k then(e.1,v)else e).1=e.1
    split<;>rfl]
   exact h
  ·rw[if_neg q,cE]
   refine sP.mpr ⟨h,dP.mpr ⟨(λz=>nomatch z),sJ⟩,λa ha b hb=>?_⟩
   rw[bJ.mp hb]
   obtain⟨e,he,rfl⟩:=bG.mp ha
   exact λz=>q (sT.mpr ⟨e,he,decide_eq_true z⟩)
 unfold fA
 cases bB L k with
 |none=>exact p
 |some w=>
  dsimp only
  split
  ·exact p
  ·exact h
theorem xB:∀(cs:List (List Nat×Way)){L:List (List Nat×Way)},(L.map (·.1)).Nodup->((eQ L cs).map (·.1)).Nodup
 |[],L,h=>h
 |c::cs,L,h=>xB cs (upd_nd c.1 c.2 h)
theorem DF(B:Cst)(hm:B.many<=8)(k:Nat):(aP B k).length<=256:=by
 have nd:((aP B k).map (·.1)).Nodup:=by
  cases k with
  |zero=>exact dP.mpr ⟨(λz=>nomatch z),sJ⟩
  |succ k=>exact xB _ sJ
 have sub:∀x∈(aP B k).map (·.1),x∈aX (λ_=>true) [] (aA B.many):=λx hx=>by
  obtain⟨e,he,rfl⟩:=bG.mp hx
  obtain⟨v,hv⟩:=DD he
  rw[(qQ B k hv).2.1]
  refine(gM rfl).mpr ⟨LI,(λ_ _=>rfl),?_⟩
  exact List.pairwise_of_forall λ_ _ z=>nomatch z
 have h1:=xA nd sub
 rw[aC]at h1
 exact aW h1 (aW (nY rfl) (by rw[cY];exact yF (n:=2) (j:=8) (by lia) hm))
theorem xC{n:Nat}(h:n<=1000):oW (.int (n:Int))=.ok (tN (aA n)):=by
 show aB (bV (n:Int)&&decide ((n:Int)<=1000)) (Res.ok (D.tup (bP 0 (n:Int).toNat)))=_
 rw[cJ (by unfold bV;simp;lia),jQ,show(0:Int)=((0:Nat):Int)from rfl,CW,iW];rfl
@[simp] theorem fr_dlit{a b:E}:bH T (.dlit a b)=false:=id rfl
theorem first_ways(n:Nat)(P:List Part)(A X Y Z:D)(hP:P.length<=8):callF T dfs (n+1) 13 [.tup [.tup (P.map Part.enc),A,X,Y,Z]]=.ok (.tdc (aL [(aA P.length,((0:Int),aM P.length none))])):=by
 have e1:=xC (n:=P.length) (by lia)
 have e2:D.bin .Mult (.lst [.non]) (.int (P.length:Int))=.ok (.lst ((aM P.length (none:Option Nat)).map cH)):=by
  show aB (decide (1=1)&&decide ((0:Int)<=(P.length:Int))&&decide ((P.length:Int)<=1000)) (Res.ok (D.lst (aM (P.length:Int).toNat [D.non]).flatten))=_
  rw[cJ (by simp;lia),List.map_replicate]
  refine congrArg (λq=>Res.ok (D.lst q)) ?_
  show(aM P.length [D.non]).flatten=aM P.length D.non
  generalize P.length=m
  induction m with
  |zero=>rfl
  |succ m ih=>rw[kL,lY,ih];rfl
 have e3:oZ (tN (aA P.length)) (.tup [.int 0,.lst ((aM P.length (none:Option Nat)).map cH)])=.ok (.tdc (aL [(aA P.length,((0:Int),aM P.length none))])):=by
  show(Res.of (cF ((aA P.length).map natI))>>=λq=>Res.ok (D.tdc [(q,_)]))=_
  rw[iT];rfl
 have ln:=jH (f:=Part.enc) (xs:=P)
 refine aO (k:=false) rfl rfl rfl ?_
 generalize (aM P.length (none:Option Nat)).map cH=cc at *
 simp[b_first_ways,ln,e1,e2,e3]
theorem nZ(a:List D)(x:D):D.ix (.lst (a++[x])) (.int (-1))=.ok x:=by
 show Res.of (atI (a++[x]) (-1))=_
 unfold atI ixN
 rw[if_neg (by lia),bL,fV,if_pos (by lia)]
 have:((-1:Int)+((a.length+1:Nat):Int)).toNat=a.length:=by lia
 rw[this]
 simp[Res.of]
theorem DG(n:Nat)(P:List Part)(Q:List Player)(X Y Z:D)(ps:List (Nat×Nat))(hv:∀p∈P,(signs p.voice).length=1)(h:List Int)(ls:List (List Int))(hP:P.length<=8)(hQ:Q.length<=6)(hh:h.length=Q.length)(hls:ls.length=Q.length)(hr:∀r∈ls,r.length=P.length):∀(m k:Nat)(x4:Sl),k+m=Q.length ->
 ∃x4',forL (bodyF T (callF T dfs (n+3)) (.one 4) wF) ((bX k m).map natI) [.v (.tup [.tup (P.map Part.enc),.tup (Q.map Player.enc),X,Y,Z]),.v (pricesD h ls),.v (.lst (ps.map pairD)),.o (.lst ((aA (k+1)).map λi=>.tdc (aL (aP (cD P Q ps h ls) i)))),x4] =
  .ok (.nx [.v (.tup [.tup (P.map Part.enc),.tup (Q.map Player.enc),X,Y,Z]),.v (pricesD h ls),.v (.lst (ps.map pairD)),.o (.lst ((aA (Q.length+1)).map λi=>.tdc (aL (aP (cD P Q ps h ls) i)))),x4'])
 |0,k,x4,hk=>⟨x4,by rw[<-hk];rfl⟩
 |m+1,k,x4,hk=>by
  have hb:=bC
  obtain⟨x4',ih⟩:=DG n P Q X Y Z ps hv h ls hP hQ hh hls hr m (k+1) (.v (.int (k:Int))) (by lia)
  refine⟨x4',?_⟩
  rw[iV,aG,<-ih]
  refine bT ?_
  have hk2:k<ls.length:=by lia
  have hrow:(ls.getD k []).length=P.length:=by
   rw[cZ,aH hk2]
   exact hr _ (iU hk2)
  have ll:=DF (cD P Q ps h ls) hP k
  have nx:=next_ways n P Q X Y Z ps hv h ls k (by lia) (by lia) hk2 hrow (aP (cD P Q ps h ls) k) ll (λe he=>by
   obtain⟨⟨v,h1,h2⟩,h3,h4⟩:=DE he
   refine⟨⟨v,h1,?_⟩,?_,h4⟩
   ·rw[h2];show P.length<=100;lia
   ·exact aW h3 hP)
  have e1:=nZ ((aA k).map λi=>D.tdc (aL (aP (cD P Q ps h ls) i))) (.tdc (aL (aP (cD P Q ps h ls) k)))
  rw[show qP (okV P Q k) ps (hireP h k) (likeP ls k) k (aP (cD P Q ps h ls) k)=aP (cD P Q ps h ls) (k+1)from rfl]at nx
  have hA:∀k:Nat,(aA (k+1)).map (λi=>D.tdc (aL (aP (cD P Q ps h ls) i)))=(aA k).map (λi=>D.tdc (aL (aP (cD P Q ps h ls) i)))++[D.tdc (aL (aP (cD P Q ps h ls) k))]:=λk=>by rw[Do,cE,xZ]
  rw[<-hA k]at e1
  rw[hA (k+1)]
  have la:((aA (k+1)).map (λi=>D.tdc (aL (aP (cD P Q ps h ls) i)))).length<big:=by rw[aC,cY];lia
  clear hA ih
  generalize (aA (k+1)).map (λi=>D.tdc (aL (aP (cD P Q ps h ls) i)))=A at *
  simp[bodyF,wF,natI,e1,nx,la]
theorem all_ways(n:Nat)(P:List Part)(Q:List Player)(Y Z:D)(ss:List Scene)(hs:ss.length<=24)(hv:∀p∈P,(signs p.voice).length=1)(h:List Int)(ls:List (List Int))(hP:P.length<=8)(hQ:Q.length<=6)(hh:h.length=Q.length)(hls:ls.length=Q.length)(hr:∀r∈ls,r.length=P.length) :
 callF T dfs (n+6) 15 [.tup [.tup (P.map Part.enc),.tup (Q.map Player.enc),.tup (ss.map Scene.enc),Y,Z],pricesD h ls] =
  .ok (.lst ((aA (Q.length+1)).map λi=>.tdc (aL (aP (cD P Q ((cI P.length).filter λp=>(aS P ss p.1 p.2).isSome) h ls) i)))):=by
 have hb:=bC
 have c:=clashes_of n (.tup (Q.map Player.enc)) Y Z P ss hs (by lia)
 have f:=first_ways (n+4) P (.tup (Q.map Player.enc)) (.tup (ss.map Scene.enc)) Y Z (by lia)
 generalize ((cI P.length).filter λp=>(aS P ss p.1 p.2).isSome)=ps at *
 obtain⟨x4,l⟩:=DG (n+2) P Q (.tup (ss.map Scene.enc)) Y Z ps hv h ls hP hQ hh hls hr Q.length 0 .no (by lia)
 rw[show((aA (0+1)).map λi=>D.tdc (aL (aP (cD P Q ps h ls) i)))=[.tdc (aL [(aA P.length,((0:Int),aM P.length none))])]from rfl,<-iW]at l
 have rg:=eO (n:=Q.length) (by lia)
 have ln:=jH (f:=Player.enc) (xs:=Q)
 refine aO (k:=true) rfl rfl rfl ?_
 simp[b_all_ways,c,f,l,rg,ln]
theorem least_of(n:Nat)(P:List Part)(Q:List Player)(Y Z:D)(ss:List Scene)(hs:ss.length<=24)(hv:∀p∈P,(signs p.voice).length=1)(h:List Int)(ls:List (List Int))(hP:P.length<=8)(hQ:Q.length<=6)(hh:h.length=Q.length)(hls:ls.length=Q.length)(hr:∀r∈ls,r.length=P.length) :
 callF T dfs (n+7) 16 [.tup [.tup (P.map Part.enc),.tup (Q.map Player.enc),.tup (ss.map Scene.enc),Y,Z],pricesD h ls] =
  .ok (((bB (aP (cD P Q ((cI P.length).filter λp=>(aS P ss p.1 p.2).isSome) h ls) Q.length) []).map dG).getD .non):=by
 have a:=all_ways n P Q Y Z ss hs hv h ls hP hQ hh hls hr
 have g:=Je (aP (cD P Q ((cI P.length).filter λp=>(aS P ss p.1 p.2).isSome) h ls) Q.length) []
 generalize (cD P Q ((cI P.length).filter λp=>(aS P ss p.1 p.2).isSome) h ls)=C at *
 rw[Do,cE,xZ]at a
 have e1:=nZ ((aA Q.length).map λi=>D.tdc (aL (aP C i))) (.tdc (aL (aP C Q.length)))
 rw[show tN []=.tup []from rfl]at g
 refine aO (k:=false) rfl rfl rfl ?_
 have fr:∀a b,bH T (.getV a b)=false:=λ_ _=>rfl
 simp[b_least_of,a,e1,g,fr]
noncomputable def clL(P:List Part)(ss:List Scene):Nat->List (Nat×Nat)
 |0=>[]
 |m+1=>clL P ss m++((aA m).filter λi=>(aS P ss i m).isSome).map λi=>(i,m)
theorem DH{P:List Part}{ss:List Scene}:∀{m:Nat} {p:Nat×Nat},p∈clL P ss m↔p.1<p.2/\p.2<m/\(aS P ss p.1 p.2).isSome=true
 |0,p=>⟨λh=>(nomatch h),λh=>absurd h.2.1 (by lia)⟩
 |m+1,p=>by
  rw[clL,cU,DH (m:=m),bG]
  constructor
  ·rintro(⟨h1,h2,h3⟩|⟨i,hi,rfl⟩)
   ·exact⟨h1,by lia,h3⟩
   ·obtain⟨h1,h2⟩:=fE.mp hi
    exact⟨cO.mp h1,oK _,h2⟩
  ·rintro⟨h1,h2,h3⟩
   by_cases c:p.2<m
   ·exact .inl ⟨h1,c,h3⟩
   ·have:p.2=m:=by lia
    refine .inr ⟨p.1,fE.mpr ⟨cO.mpr (by lia),by rw[<-this];exact h3⟩,by rw[<-this]⟩
theorem DI(P:List Part)(ss:List Scene):∀m,(clL P ss m).length<=m*m
 |0=>aF _
 |m+1=>by
  have h1:=DI P ss m
  have h2:=iX (λi=>(aS P ss i m).isSome) (aA m)
  rw[cY]at h2
  rw[clL,bL,aC,Nat.mul_add,Nat.add_mul];lia
theorem DJ(n:Nat)(P:List Part)(A Y Z:D)(ss:List Scene)(hs:ss.length<=24)(g:∀s∈ss,0<=s.len/\0<=s.pause)(hP:P.length<=8):∀(m k:Nat)(x2:Sl),k+m=P.length ->
 ∃x2',forL (bodyF T (callF T dfs (n+1)) (.one 2) wO) ((bX k m).map natI) [.v (.tup [.tup (P.map Part.enc),A,.tup (ss.map Scene.enc),Y,Z]),.v (.lst ((clL P ss k).map pairD)),x2] =
  .ok (.nx [.v (.tup [.tup (P.map Part.enc),A,.tup (ss.map Scene.enc),Y,Z]),.v (.lst ((clL P ss P.length).map pairD)),x2'])
 |0,k,x2,h=>⟨x2,by rw[<-h];rfl⟩
 |m+1,k,x2,h=>by
  have hb:=bC
  obtain⟨x2',ih⟩:=DJ n P A Y Z ss hs g hP m (k+1) (.v (.int (k:Int))) (by lia)
  refine⟨x2',?_⟩
  rw[iV,aG,<-ih]
  refine bT ?_
  have rg:=eO (n:=k) (by lia)
  have c:∀x1:Sl,compL (compF T (callF T dfs (n+1)) 1 [2,0] (.one 0) rL rK [.v (.tup [.tup (P.map Part.enc),A,.tup (ss.map Scene.enc),Y,Z]),x1,.v (.int (k:Int))]) ((aA k).map natI)=.ok ((((aA k).filter λi=>(aS P ss i k).isSome).map λi=>(i,k)).map pairD):=by
   intro x1
   rw[cG natI (λi=>if(aS P ss i k).isSome=true then some (pairD (i,k))else none) (by
    intro i hi
    have hik:=cO.mp hi
    have e1:=clash n P ss hs g i k (by lia) (by lia)
    unfold pairD
    dsimp only
    generalize (aS P ss i k).isSome=b at *
    cases b with
    |true=>simp[compF,Tr.compEnv,natI,rK,rL,e1]
    |false=>simp[compF,Tr.compEnv,natI,rK,rL,e1]),rY,bU]
   rfl
  rw[clL,cE]
  have l1:((clL P ss k).map pairD).length<=64:=by rw[aC];exact aW (DI P ss k) (show k*k<=8*8 from Du (by lia) (by lia))
  have l2:((((aA k).filter λi=>(aS P ss i k).isSome).map λi=>(i,k)).map pairD).length<=8:=by
   rw[aC,aC]
   exact aW (iX _ _) (by rw[cY];lia)
  have l3:((aA k).map natI).length<=big:=by rw[aC,cY];lia
  generalize (((aA k).filter λi=>(aS P ss i k).isSome).map λi=>(i,k)).map pairD=more at *
  generalize (clL P ss k).map pairD=old at *
  have ad:=JS (a:=old) (b:=more) (by lia)
  generalize (aA k).map natI=rk at *
  simp[bodyF,wO,natI,rg,c,l3,ad]
theorem Jh(n:Nat)(P:List Part)(A Y Z:D)(ss:List Scene)(hs:ss.length<=24)(g:∀s∈ss,0<=s.len/\0<=s.pause)(hP:P.length<=8) :
 callF T dfs (n+2) 37 [.tup [.tup (P.map Part.enc),A,.tup (ss.map Scene.enc),Y,Z]]=.ok (.lst ((clL P ss P.length).map pairD)):=by
 obtain⟨x2,h⟩:=DJ n P A Y Z ss hs g hP P.length 0 .no (by lia)
 rw[<-iW,show(clL P ss 0).map pairD=[]from rfl]at h
 have rg:=eO (n:=P.length) (by lia)
 have ln:=jH (f:=Part.enc) (xs:=P)
 refine aO (k:=false) rfl rfl rfl ?_
 simp[b_law_clashes,rg,ln,h]
theorem Ji(n:Nat)(ns:List Int)(many pls:Nat)(hm:many<=8)(hp:pls<=6):∃(P:List Part)(Q:List Player)(ss:List Scene)(ls:List Lk),P.length=many/\(∀p∈P,(signs p.voice).length=1)/\Q.length=pls/\ss.length<=8/\(∀s∈ss,GoodScene many s)/\GoodL pls many ls/\callF T dfs (n+3) 35 [.lst (ns.map D.int),.int (many:Int),.int (pls:Int),.int 8]=.ok (fB (.tup (ss.map Scene.enc)) P Q ls):=by
 obtain⟨P,p1,p2,p3⟩:=parts n (eW ns 1) many hm
 obtain⟨Q,q1,q2⟩:=J7 n (eW ns 2) pls hp
 obtain⟨ls,l1,l2⟩:=likes n (eW ns 3) pls many hp hm
 have c1:=lP (n+1) ns 1
 rw[show((1:Nat):Int)=1 from rfl]at c1
 have c2:=lP (n+1) ns 2
 rw[show((2:Nat):Int)=2 from rfl]at c2
 have c3:=lP (n+1) ns 3
 rw[show((3:Nat):Int)=3 from rfl]at c3
 obtain⟨cells,hcells,hlen⟩:∃cells:List Int,cut (ns.map D.int) (some 6) (some 14)=cells.map D.int/\cells.length<=8:=by
  refine⟨cut ns (some 6) (some 14),by unfold cut sIx;simp,by unfold cut sIx;simp;lia⟩
 obtain⟨ss,s1,s2,s3⟩:=scenes n cells (by lia) many hm
 refine⟨P,Q,ss,ls,p1,λp hp=>(p2 p hp).2,q1,by lia,s2,l1,aO (k:=false) rfl rfl rfl ?_⟩
 unfold fB
 simp[b_law_book,c1,p3,c2,q2,c3,l2,hcells,s3]
theorem sD(p:Nat->Bool):∀l:List Nat,l.filter p∈jB l
 |[]=>bJ.mpr rfl
 |a::r=>by
  rw[jB,iC]
  split
  ·exact eI _ (bG.mpr ⟨_,sD p r,rfl⟩)
  ·exact kJ _ (sD p r)
theorem DK:∀m,m<7->((jB (aA m)).all λk=>keyTab.contains k)=true:=by decide +kernel
theorem Jj:∀m,m<7->decide ((jB (aA m)).length<=64)=true:=by decide +kernel
theorem DL:∀k:List Nat,fN (k.map natI)=some k
 |[]=>rfl
 |a::r=>by
  rw[aG]
  show(if decide (0<=(a:Int))then(fN (r.map natI)).bind λq=>some ((a:Int).toNat::q)else none)=_
  rw[if_pos (decide_eq_true (yC a)),DL r];rfl
theorem Jk{k:List Nat}(h:keyTab.contains k=true):pB (tN k)=some k:=by
 show((fN (k.map natI)).bind λk=>if keyTab.contains k then some k else none)=_
 rw[DL]
 show(if keyTab.contains k then some k else none)=_
 rw[if_pos h]
theorem DM:∀{ks:List (List Nat)},(∀k∈ks,keyTab.contains k=true)->gC (ks.map tN)=some ks
 |[],_=>rfl
 |k::r,h=>by
  rw[aG,gC,Jk (h k aY),DM λx hx=>h x (bE _ hx)];rfl
theorem xD:∀(l acc:List (List Nat)),(l.foldl (λacc k=>if acc.contains k then acc else acc++[k]) acc).length<=acc.length+l.length
 |[],acc=>aF _
 |k::r,acc=>by
  rw[lZ,aN]
  split
  ·have:=xD r acc;lia
  ·have:=xD r (acc++[k]);rw[bL,fV]at this;lia
theorem DN:∀(l acc:List (List Nat)),(l.foldl (λacc k=>if acc.contains k then acc else acc++[k]) acc).length=acc.length+l.length↔l.Nodup/\∀x∈l,x∉acc
 |[],acc=>by simp
 |k::r,acc=>by
  rw[lZ,aN]
  by_cases c:acc.contains k=true
  ·rw[if_pos c]
   have h1:=xD r acc
   have hk:=jP.mp c
   constructor
   ·intro h;lia
   ·intro h;exact absurd hk (h.2 k aY)
  ·rw[if_neg c]
   have hk:k∉acc:=λz=>c (jP.mpr z)
   have ih:=DN r (acc++[k])
   rw[bL,fV,show acc.length+1+r.length=acc.length+(r.length+1)from by lia]at ih
   rw[ih,dP]
   constructor
   ·rintro⟨h1,h2⟩
    refine⟨⟨λz=>h2 k z (eI _ (bJ.mpr rfl)),h1⟩,λx hx=>?_⟩
    rcases aZ.mp hx with e|hx
    ·rw[e];exact hk
    ·exact λz=>h2 x hx (kJ _ z)
   ·rintro⟨⟨h1,h2⟩,h3⟩
    refine⟨h2,λx hx z=>?_⟩
    rcases cU.mp z with z|z
    ·exact h3 x (bE _ hx) z
    ·rw[bJ]at z;exact h1 (z▸hx)
theorem met_nd(ks:List (List Nat)):decide (((bS ks).length:Int)=(ks.length:Int))=decide ks.Nodup:=by
 have:=DN ks []
 rw[mC,iB]at this
 refine decide_eq_decide.mpr ⟨λh=>(this.mp (Int.ofNat.inj h)).1,λh=>?_⟩
 have h2:=this.mpr ⟨h,λ_ _ z=>by cases z⟩
 unfold bS;rw[h2]
theorem Jl{ks:List (List Nat)}(h1:∀k∈ks,keyTab.contains k=true)(h3:ks.length<=72):D.setN (.lst (ks.map tN))=.ok (.int ((bS ks).length:Nat)):=by
 have e:=DM h1
 cases ks with
 |nil=>rfl
 |cons k r=>
  show(match gC ((k::r).map tN)with|some ps=>aB (decide (ps.length<=72)) (Res.ok (D.int (bS ps).length))|none=>Res.no)=_
  rw[e]
  show aB (decide ((k::r).length<=72)) _=_
  rw[decide_eq_true h3];rfl
theorem are_unlike(n:Nat){ks:List (List Nat)}(h1:∀k∈ks,keyTab.contains k=true)(h3:ks.length<=72):callF T dfs (n+1) 0 [.lst (ks.map tN)]=.ok (.bl (decide ks.Nodup)):=by
 have e:=Jl h1 h3
 have l:Bt.run .len [.lst (ks.map tN)]=.ok (.int (ks.length:Nat)):=by rw[show Bt.run .len [.lst (ks.map tN)]=.ok (.int ((ks.map tN).length:Nat))from rfl,aC]
 have m:=met_nd ks
 have c:∀a b:Int,D.cmp .Eq (.int a) (.int b)=.ok (.bl (decide (a=b))):=λa b=>by
  show aB true (Res.ok (D.bl (a==b)))=_
  rw[zT]
  exact congrArg (λx=>Res.ok (D.bl x)) (by rw[kQ];simp)
 refine aO (k:=false) rfl rfl rfl ?_
 have c:=c (((bS ks).length:Nat):Int) (ks.length:Nat)
 rw[m]at c
 generalize (((bS ks).length:Nat):Int)=a at *
 generalize ((ks.length:Nat):Int)=b at *
 simp only[b_are_unlike]at *
 simp[e,l,c]
noncomputable def sE(e:List Nat×Way):D:=.tup [tN e.1,.int e.2.1]
noncomputable def jJ(L:List (List Nat×Way)):D:=.lst (L.map sE)
theorem DO{L:List (List Nat×Way)}(nd:(L.map (·.1)).Nodup){e:List Nat×Way}(h:e∈L):bB L e.1=some e.2:=by
 induction L with
 |nil=>cases h
 |cons a r ih=>
  rw[aG,dP]at nd
  unfold bB
  rw[bO]
  rcases aZ.mp h with q|q
  ·subst q
   rw[decide_eq_true rfl];rfl
  ·have:¬a.1=e.1:=λz=>nd.1 (by rw[z];exact bG.mpr ⟨e,q,rfl⟩)
   rw[decide_eq_false this]
   exact ih nd.2 q
theorem xE(B:Cst):∀k,((aP B k).map (·.1)).Nodup
 |0=>by rw[aP];simp
 |k+1=>by rw[aP];exact xB _ (by simp)
theorem DP(B:Cst)(hm:B.many<=6)(k:Nat):(∀q∈(aP B k).map (·.1),keyTab.contains q=true)/\(aP B k).length<=64:=by
 have sub:∀q∈(aP B k).map (·.1),q∈jB (aA B.many):=by
  intro q hq
  obtain⟨e,he,rfl⟩:=bG.mp hq
  obtain⟨_,h2,_⟩:=qQ B k (DO (xE B k) he)
  rw[h2];exact sD _ _
 refine⟨λq hq=>fF.mp (DK B.many (by lia)) q (sub q hq),?_⟩
 have:=xA (xE B k) sub
 rw[aC]at this
 exact aW this (of_decide_eq_true (Jj B.many (by lia)))
theorem layer_of(n:Nat)(L:List (List Nat×Way))(nd:(L.map (·.1)).Nodup)(hl:L.length<=1000):callF T dfs (n+1) 17 [.tdc (aL L)]=.ok (jJ L):=by
 have hb:=bC
 have dk:=Cy L
 have c:compL (compF T (callF T dfs n) 1 [0] (.one 0) wG (.con (.bl true)) [.v (.tdc (aL L))]) (L.map λe=>tN e.1)=.ok (L.map sE):=by
  rw[cG (λe:List Nat×Way=>tN e.1) (λe=>some (sE e)) (by
   intro e he
   have i1:=wZ (DO nd he)
   rw[show dG e.2=.tup [.int e.2.1,.lst (e.2.2.map cH)]from rfl]at i1
   unfold sE
   simp[compF,Tr.compEnv,wG,i1]),eJ]
 have l2:(L.map λe=>tN e.1).length<=big:=by rw[aC];lia
 refine aO (k:=true) rfl rfl rfl ?_
 unfold jJ
 generalize (L.map λe=>tN e.1)=K at *
 simp[b_layer_of,dk,c,l2]
theorem paper_of(n:Nat)(P:List Part)(Q:List Player)(Y Z:D)(ss:List Scene)(hs:ss.length<=24)(hv:∀p∈P,(signs p.voice).length=1)(h:List Int)(ls:List (List Int))(hP:P.length<=8)(hQ:Q.length<=6)(hh:h.length=Q.length)(hls:ls.length=Q.length)(hr:∀r∈ls,r.length=P.length) :
 callF T dfs (n+7) 18 [.tup [.tup (P.map Part.enc),.tup (Q.map Player.enc),.tup (ss.map Scene.enc),Y,Z],pricesD h ls] =
  .ok (.lst ((aA (Q.length+1)).map λi=>jJ (aP (cD P Q ((cI P.length).filter λp=>(aS P ss p.1 p.2).isSome) h ls) i))):=by
 have hb:=bC
 have a:=all_ways n P Q Y Z ss hs hv h ls hP hQ hh hls hr
 have hm:(cD P Q ((cI P.length).filter λp=>(aS P ss p.1 p.2).isSome) h ls).many<=8:=hP
 generalize (cD P Q ((cI P.length).filter λp=>(aS P ss p.1 p.2).isSome) h ls)=C at *
 have c:∀x0 x1:Sl,compL (compF T (callF T dfs (n+6)) 1 [] (.one 0) wH (.con (.bl true)) [x0,x1]) ((aA (Q.length+1)).map λi=>D.tdc (aL (aP C i)))=.ok ((aA (Q.length+1)).map λi=>jJ (aP C i)):=by
  intro x0 x1
  rw[cG (λi:Nat=>D.tdc (aL (aP C i))) (λi=>some (jJ (aP C i))) (by
   intro i _
   have e:=layer_of (n+5) (aP C i) (xE C i) (aW (DF C hm i) (by lia))
   simp[compF,Tr.compEnv,wH,e]),eJ]
 have l2:((aA (Q.length+1)).map λi=>D.tdc (aL (aP C i))).length<=big:=by rw[aC,cY];lia
 refine aO (k:=true) rfl rfl rfl ?_
 generalize ((aA (Q.length+1)).map λi=>D.tdc (aL (aP C i)))=A at *
 simp[b_paper_of,a,c,l2]
noncomputable abbrev Row:=List Nat×Int
noncomputable def rowQ(e:Row):D:=.tup [tN e.1,.int e.2]
noncomputable def layQ(L:List Row):D:=.lst (L.map rowQ)
noncomputable def hJ(L:List Row)(k:List Nat):Option Int:=(L.find? λe=>decide (e.1=k)).map (·.2)
theorem DQ:∀a b:List Nat,D.eqs (a.map natI) (b.map natI)=decide (a=b)
 |[],[]=>by rw[decide_eq_true rfl];rfl
 |[],b::q=>by rw[decide_eq_false (by simp)];rfl
 |a::r,[]=>by rw[decide_eq_false (by simp)];rfl
 |a::r,b::q=>by
  show((a:Int)==(b:Int)&&D.eqs (r.map natI) (q.map natI))=_
  rw[DQ r q,kQ]
  simp
  intro _
  lia
theorem xF(a b:List Nat):D.eqb (tN a) (tN b)=decide (a=b):=DQ a b
theorem Jm(e f:Row):D.eqb (rowQ e) (rowQ f)=decide (e=f):=by
 show(D.eqb (tN e.1) (tN f.1)&&((e.2==f.2)&&true))=_
 rw[xF,kQ]
 obtain⟨a,b⟩:=e
 obtain⟨c,d⟩:=f
 simp
theorem DR:∀L M:List Row,D.eqs (L.map rowQ) (M.map rowQ)=decide (L=M)
 |[],[]=>by rw[decide_eq_true rfl];rfl
 |[],b::q=>by rw[decide_eq_false (by simp)];rfl
 |a::r,[]=>by rw[decide_eq_false (by simp)];rfl
 |a::r,b::q=>by
  show(D.eqb (rowQ a) (rowQ b)&&D.eqs (r.map rowQ) (q.map rowQ))=_
  rw[DR r q,Jm,kQ]
  simp
theorem oA(k:Nat)(b:List Nat):D.pl (k+1) (tN b)=true:=by
 unfold tN
 rw[vT];exact gW natI k (qN k) b
theorem Jn(k:Nat)(e:Row):D.pl (k+2) (rowQ e)=true:=by
 unfold rowQ
 rw[vT]
 show(D.pl (k+1) (tN e.1)&&(D.pl (k+1) (.int e.2)&&D.pls (k+2) []))=true
 rw[oA];rfl
theorem xG(k:Nat)(L:List Row):D.pl (k+3) (layQ L)=true:=by
 unfold layQ
 rw[nQ];exact gW rowQ (k+2) (Jn k) L
theorem xH(L M:List Row):D.cmp .Eq (layQ L) (layQ M)=.ok (.bl (decide (L=M)))/\D.cmp .NotEq (layQ L) (layQ M)=.ok (.bl (!decide (L=M))):=by
 have h:D.eqOk (layQ L) (layQ M)=true:=by unfold D.eqOk;rw[xG 27,xG 27];rfl
 have e:D.eqb (layQ L) (layQ M)=decide (L=M):=DR L M
 constructor
 ·show aB (D.eqOk (layQ L) (layQ M)) (Res.ok (D.bl (D.eqb (layQ L) (layQ M))))=_
  rw[h,e];rfl
 ·show aB (D.eqOk (layQ L) (layQ M)) (Res.ok (D.bl (!D.eqb (layQ L) (layQ M))))=_
  rw[h,e];rfl
theorem cmp_tN(a b:List Nat):D.cmp .Eq (tN a) (tN b)=.ok (.bl (decide (a=b))):=by
 show aB (D.eqOk (tN a) (tN b)) (Res.ok (D.bl (D.eqb (tN a) (tN b))))=_
 rw[show D.eqOk (tN a) (tN b)=true from by unfold D.eqOk;rw[oA 29,oA 29];rfl,xF];rfl
structure Fine(m:Nat)(paper:List (List Row)):Prop where
 tab:∀L∈paper,∀e∈L,keyTab.contains e.1=true
 len:∀L∈paper,L.length<=72
 key:∀L∈paper,∀e∈L,e.1.length<=8/\∀p∈e.1,p<m
 many:paper.length<=100
noncomputable def paperD(paper:List (List Row)):D:=.lst (paper.map layQ)
theorem xI(paper:List (List Row)):Bt.run .len [paperD paper]=.ok (.int (paper.length:Nat)):=by
 show Res.ok (D.int ((paper.map layQ).length:Nat))=_
 rw[aC]
theorem kH{paper:List (List Row)}{i:Nat}(h:i<paper.length):D.ix (paperD paper) (.int (i:Nat))=.ok (layQ (paper.getD i [])):=dF (by
 rw[bI,cZ,aH h];rfl)
theorem Jo(n:Nat)(L:List Row)(x0:Sl):compL (compF T (callF T dfs n) 2 [] (.many [0,1]) wI (.con (.bl true)) [x0]) (L.map rowQ)=.ok ((L.map (·.1)).map tN):=by
 rw[cG rowQ (λe=>some (tN e.1)) (by
  intro e _
  unfold rowQ
  simp[compF,Tr.compEnv,wI]),eJ,bU]
 rfl
noncomputable def onceB(L:List Row):Bool:=decide (L.map (·.1)).Nodup
theorem Jp(n:Nat)(L:List Row)(h1:∀e∈L,keyTab.contains e.1=true)(h3:L.length<=72):callF T dfs (n+2) 20 [layQ L]=.ok (.bl (onceB L)):=by
 have hb:=bC
 have c:=Jo (n+1) L (.v (layQ L))
 have u:=are_unlike n (ks:=L.map (·.1)) (λk hk=>by
  obtain⟨e,he,rfl⟩:=bG.mp hk
  exact h1 e he) (by rw[aC];lia)
 have l2:(L.map rowQ).length<=big:=by rw[aC];lia
 refine aO (k:=false) rfl rfl rfl ?_
 unfold layQ onceB at *
 generalize L.map rowQ=R at *
 generalize (L.map (·.1)).map tN=K at *
 simp[b_has_each_left_once,c,u,l2]
noncomputable def lR(m q:Nat)(paper:List (List Row)):Bool:=decide (paper.length=q+1)&&decide (paper.getD 0 []=[(aA m,0)])
theorem Jq(n:Nat)(P:List Part)(Q:List Player)(X Y Z:D)(paper:List (List Row))(hP:P.length<=8) :
 callF T dfs (n+1) 19 [.tup [.tup (P.map Part.enc),.tup (Q.map Player.enc),X,Y,Z],paperD paper]=.ok (.bl (lR P.length Q.length paper)):=by
 have ln:=jH (f:=Player.enc) (xs:=Q)
 have ln2:=jH (f:=Part.enc) (xs:=P)
 have tr:=xC (n:=P.length) (by lia)
 have l3:=xI paper
 have e1:=(xH (paper.getD 0 []) [(aA P.length,0)]).1
 rw[show layQ [(aA P.length,0)]=.lst [.tup [tN (aA P.length),.int 0]]from rfl]at e1
 refine aO (k:=false) rfl rfl rfl ?_
 unfold lR
 by_cases q:paper.length=Q.length+1
 ·have e0:=kH (paper:=paper) (i:=0) (by lia)
  rw[show((0:Nat):Int)=0 from rfl]at e0
  have q2:(paper.length:Int)=(Q.length:Int)+1:=by lia
  rw[decide_eq_true q,eS]
  generalize layQ (paper.getD 0 [])=l0 at *
  simp[b_has_its_layers,ln,ln2,tr,e0,l3,e1,q2]
 ·have q2:¬(paper.length:Int)=(Q.length:Int)+1:=by lia
  rw[decide_eq_false q,hZ]
  simp[b_has_its_layers,ln,ln2,tr,l3,e1,q2]
noncomputable def encQ(L:List Row):List (List (Sum Int Str)×D):=L.map λe=>(bK e.1,D.int e.2)
theorem DS(L:List Row)(k:List Nat):cB (encQ L) (bK k)=(hJ L k).map D.int:=by
 unfold cB hJ encQ
 rw[LK,yG,yG]
 have e:((λkv:List (Sum Int Str)×D=>decide (kv.1=bK k))∘λe:Row=>(bK e.1,D.int e.2))=λe=>decide (e.1=k):=by
  funext e;exact wX e.1 k
 rw[e];rfl
theorem Jr(L:List Row)(k:List Nat):D.cmp .NotIn (tN k) (.tdc (encQ L))=.ok (.bl (hJ L k).isNone):=by
 show((Res.of (cF (k.map natI))>>=λq=>Res.ok (cB (encQ L) q).isSome)>>=λb=>Res.ok (D.bl (!b)))=_
 rw[iT]
 show Res.ok (D.bl (!(cB (encQ L) (bK k)).isSome))=_
 rw[DS]
 cases hJ L k<;>rfl
theorem DT{L:List Row}{k:List Nat}{w:Int}(h:hJ L k=some w):D.ix (.tdc (encQ L)) (tN k)=.ok (.int w):=by
 show(Res.of (cF (k.map natI))>>=λq=>Res.of (cB (encQ L) q))=_
 rw[iT]
 show Res.of (cB (encQ L) (bK k))=_
 rw[DS,h];rfl
theorem DU:∀L:List Row,iH (L.map rowQ)=.ok (encQ L)
 |[]=>rfl
 |e::r=>by
  rw[aG]
  show(Res.of (cF (e.1.map natI))>>=λk=>iH (r.map rowQ)>>=λq=>Res.ok ((k,D.int e.2)::q))=_
  rw[iT,DU r];rfl
theorem DV:∀(qs kvs:List (List (Sum Int Str)×D)),((kvs++qs).map (·.1)).Nodup->jW qs kvs=kvs++qs
 |[],kvs,_=>by rw[jM];rfl
 |q::r,kvs,h=>by
  have h':((kvs++[q]++r).map (·.1)).Nodup:=by rw[oH];exact h
  have e:fM kvs q.1 q.2=kvs++[q]:=by
   unfold fM
   rw[if_neg]
   intro z
   obtain⟨x,hx,hz⟩:=sT.mp z
   have hz:=of_decide_eq_true hz
   rw[cE,sP]at h
   exact h.2.2 x.1 (bG.mpr ⟨x,hx,rfl⟩) q.1 (bG.mpr ⟨q,aY,rfl⟩) hz
  show jW r (fM kvs q.1 q.2)=_
  rw[e,DV r _ h',oH];rfl
theorem DW:∀{l:List (List Nat)},l.Nodup->(l.map bK).Nodup
 |[],_=>.nil
 |a::r,h=>by
  obtain⟨h1,h2⟩:=dP.mp h
  refine dP.mpr ⟨λz=>?_,DW h2⟩
  obtain⟨b,hb,e⟩:=bG.mp z
  exact h1 (sC e▸hb)
theorem Js{L:List Row}(nd:onceB L=true):pC (layQ L)=.ok (.tdc (encQ L)):=by
 have nd:=of_decide_eq_true nd
 show(iH (L.map rowQ)>>=λqs=>Res.ok (D.tdc (jW qs [])))=_
 rw[DU]
 show Res.ok (D.tdc (jW (encQ L) []))=_
 rw[DV _ _ (by
  rw[sS]
  unfold encQ
  rw[bU]
  have:=DW nd
  rw[bU]at this
  exact this)]
 rfl
noncomputable def okT(L:List Row)(left:List Nat)(c:Int)(pt:List Nat->Int)(t:List Nat):Bool:=match hJ L (behindV left t)with
 |none=>false
 |some w=>decide (w<=c+pt t)
theorem DX(n:Nat)(B cd:D)(h:List Int)(ls:List (List Int))(j:Nat)(hj:j<h.length)(hj2:j<ls.length)(left:List Nat)(hl:left.length<=100)(c:Int)(L:List Row)(en:D):∀(ts:List (List Nat))(x8 x9:Sl),
 (∀t∈ts,t.length<=100/\(∀p∈t,p<(ls.getD j []).length)) ->
 (ts.all (okT L left c (ptak (hireP h j) (likeP ls j))) = true ∧ ∃ y8 y9, forL (bodyF T (callF T dfs (n + 1)) (.one 8) b_holds_behind_1) (ts.map tN) [.v B, .v cd, .v (pricesD h ls), .v (.int (j : Int)), .v en, .v (.tdc (encQ L)), .v (tN left), .v (.int c), x8, x9] =
  .ok (.nx [.v B,.v cd,.v (pricesD h ls),.v (.int (j:Int)),.v en,.v (.tdc (encQ L)),.v (tN left),.v (.int c),y8,y9])) \/
 (ts.all (okT L left c (ptak (hireP h j) (likeP ls j))) = false ∧ forL (bodyF T (callF T dfs (n + 1)) (.one 8) b_holds_behind_1) (ts.map tN) [.v B, .v cd, .v (pricesD h ls), .v (.int (j : Int)), .v en, .v (.tdc (encQ L)), .v (tN left), .v (.int c), x8, x9] = .ok (.rt (.bl false) false))
 |[],x8,x9,_=>.inl ⟨rfl,x8,x9,rfl⟩
 |t::ts,x8,x9,ht=>by
  obtain⟨h1,h2⟩:=ht t aY
  have e1:=left_behind n left t hl
  have e2:=price_of_taking n h ls j t hj hj2 h2 h1
  have e3:=Jr L (behindV left t)
  have bad : okT L left c (ptak (hireP h j) (likeP ls j)) t = false → bodyF T (callF T dfs (n + 1)) (.one 8) b_holds_behind_1 (tN t) [.v B, .v cd, .v (pricesD h ls), .v (.int (j : Int)), .v en, .v (.tdc (encQ L)), .v (tN left), .v (.int c), x8, x9] = .ok (.rt (.bl false) false) := by
   intro ho
   unfold okT at ho
   cases hk:hJ L (behindV left t)with
   |none=>
    rw[hk]at e3
    rw[show(none:Option Int).isNone=true from rfl]at e3
    simp [bodyF, b_holds_behind_1, e1, e3]
   |some w=>
    have e4:=DT hk
    rw[hk]at e3 ho
    rw[show(some w).isNone=false from rfl]at e3
    have e5:=of_decide_eq_false ho
    have e5:c+ptak (hireP h j) (likeP ls j) t<w:=by lia
    simp [bodyF, b_holds_behind_1, e1, e2, e3, e4, e5]
  have good : okT L left c (ptak (hireP h j) (likeP ls j)) t = true → bodyF T (callF T dfs (n + 1)) (.one 8) b_holds_behind_1 (tN t) [.v B, .v cd, .v (pricesD h ls), .v (.int (j : Int)), .v en, .v (.tdc (encQ L)), .v (tN left), .v (.int c), x8, x9] = .ok (.nx [.v B, .v cd, .v (pricesD h ls), .v (.int (j : Int)), .v en, .v (.tdc (encQ L)), .v (tN left), .v (.int c), .v (tN t), .v (tN (behindV left t))]) := by
   intro ho
   unfold okT at ho
   cases hk:hJ L (behindV left t)with
   |none=>rw[hk]at ho;cases ho
   |some w=>
    have e4:=DT hk
    rw[hk]at e3 ho
    rw[show(some w).isNone=false from rfl]at e3
    have e5:=of_decide_eq_true ho
    have e5:¬c+ptak (hireP h j) (likeP ls j) t<w:=by lia
    simp [bodyF, b_holds_behind_1, e1, e2, e3, e4, e5]
  rw[fG,aG]
  cases ho:okT L left c (ptak (hireP h j) (likeP ls j)) t with
  |false=>exact .inr ⟨rfl,gK (bad ho)⟩
  |true=>
   rw[eS,bT (good ho)]
   exact DX n B cd h ls j hj hj2 left hl c L en ts _ _ λq hq=>ht q (bE _ hq)
noncomputable def rowB(P:List Part)(Q:List Player)(ps:List (Nat×Nat))(h:List Int)(ls:List (List Int))(j:Nat)(L:List Row)(e:Row):Bool:=(aX (okV P Q j) ps e.1).all (okT L e.1 e.2 (ptak (hireP h j) (likeP ls j)))
theorem holds_behind(n:Nat)(P:List Part)(Q:List Player)(X Y Z:D)(ps:List (Nat×Nat))(hv:∀p∈P,(signs p.voice).length=1)(h:List Int)(ls:List (List Int))(j:Nat)(hq:j<Q.length)(hj:j<h.length)(hj2:j<ls.length)(hr:(ls.getD j []).length=P.length)(e:Row)(he:e.1.length<=8)(hp:∀p∈e.1,p<P.length)(L:List Row) :
 callF T dfs (n+3) 21 [.tup [.tup (P.map Part.enc),.tup (Q.map Player.enc),X,Y,Z],.lst (ps.map pairD),pricesD h ls,.int (j:Int),rowQ e,.tdc (encQ L)]=.ok (.bl (rowB P Q ps h ls j L e)):=by
 have t1:=takings_of n P Q X Y Z ps hv j hq e.1 he hp
 have l:=DX (n+1) (.tup [.tup (P.map Part.enc),.tup (Q.map Player.enc),X,Y,Z]) (.lst (ps.map pairD)) h ls j hj hj2 e.1 (by lia) e.2 L (rowQ e) (aX (okV P Q j) ps e.1) .no .no (λt ht=>by
  have hs:=((gM rfl).mp ht).1
  exact⟨aW hs.length_le (by lia),λp hp'=>by rw[hr];exact hp p (hs.subset hp')⟩)
 refine aO (k:=false) rfl rfl rfl ?_
 unfold rowB
 unfold rowQ at *
 generalize (aX (okV P Q j) ps e.1).all _=b at *
 rcases l with⟨rfl,y8,y9,l⟩|⟨rfl,l⟩
 · simp [b_holds_behind, t1, l]
 · simp [b_holds_behind, t1, l]
theorem DY{α:Type}(f:α->Bool):∀L:List α,fL (L.map λa=>D.bl (f a))=.ok (L.map f)
 |[]=>rfl
 |a::r=>by
  rw[aG]
  show(fL (r.map λa=>D.bl (f a))>>=λq=>Res.ok (f a::q))=_
  rw[DY f r];rfl
theorem xJ{α:Type}(f:α->Bool)(L:List α):Bt.run .all [.lst (L.map λa=>D.bl (f a))]=.ok (.bl (L.all f)):=by
 rw[JQ,DY]
 show Res.ok (D.bl ((L.map f).all id))=_
 rw[xU];rfl
noncomputable def stepB(P:List Part)(Q:List Player)(ps:List (Nat×Nat))(h:List Int)(ls:List (List Int))(paper:List (List Row))(k:Nat):Bool:=(paper.getD k []).all (rowB P Q ps h ls k (paper.getD (k+1) []))
theorem jK{α:Type}{l:List α}{i:Nat}{d:α}(h:i<l.length):l.getD i d∈l:=by
 rw[cZ,aH h];exact iU h
theorem DZ(n:Nat)(P:List Part)(Q:List Player)(X Y Z:D)(ps:List (Nat×Nat))(hv:∀p∈P,(signs p.voice).length=1)(h:List Int)(ls:List (List Int))(hP:P.length<=8)(hQ:Q.length<=6)(hh:h.length=Q.length)(hls:ls.length=Q.length)(hr:∀r∈ls,r.length=P.length)(paper:List (List Row))(hf:Fine P.length paper)(hl:paper.length=Q.length+1)(ho:∀L∈paper,onceB L=true):∀(m k:Nat)(x4 x5:Sl),k+m=Q.length ->
 ((List.range' k m).all (stepB P Q ps h ls paper) = true ∧ ∃ y4 y5, forL (bodyF T (callF T dfs (n + 3)) (.one 4) b_holds_step_by_step_2) ((List.range' k m).map natI) [.v (.tup [.tup (P.map Part.enc), .tup (Q.map Player.enc), X, Y, Z]), .v (pricesD h ls), .v (paperD paper), .v (.lst (ps.map pairD)), x4, x5] =
   .ok (.nx [.v (.tup [.tup (P.map Part.enc),.tup (Q.map Player.enc),X,Y,Z]),.v (pricesD h ls),.v (paperD paper),.v (.lst (ps.map pairD)),y4,y5])) \/
 ((List.range' k m).all (stepB P Q ps h ls paper) = false ∧ forL (bodyF T (callF T dfs (n + 3)) (.one 4) b_holds_step_by_step_2) ((List.range' k m).map natI) [.v (.tup [.tup (P.map Part.enc), .tup (Q.map Player.enc), X, Y, Z]), .v (pricesD h ls), .v (paperD paper), .v (.lst (ps.map pairD)), x4, x5] = .ok (.rt (.bl false) false))
 |0,k,x4,x5,hk=>.inl ⟨rfl,x4,x5,rfl⟩
 |m+1,k,x4,x5,hk=>by
  have hb:=bC
  have hk2:k<ls.length:=by lia
  have hrow:(ls.getD k []).length=P.length:=by
   rw[cZ,aH hk2]
   exact hr _ (iU hk2)
  have a1:=kH (paper:=paper) (i:=k) (by lia)
  have a2:=kH (paper:=paper) (i:=k+1) (by lia)
  rw[show(((k+1:Nat)):Int)=(k:Int)+1 from rfl]at a2
  have m1:paper.getD k []∈paper:=jK (by lia)
  have m2:paper.getD (k+1) []∈paper:=jK (by lia)
  have dc:=Js (ho _ m2)
  have c : ∀ x3 : Sl, compL (compF T (callF T dfs (n + 3)) 1 [0, 3, 1, 4, 5] (.one 0) e_holds_step_by_step_1 (.con (.bl true)) [.v (.tup [.tup (P.map Part.enc), .tup (Q.map Player.enc), X, Y, Z]), .v (pricesD h ls), x3, .v (.lst (ps.map pairD)), .v (.int (k : Int)), .v (.tdc (encQ (paper.getD (k + 1) [])))]) ((paper.getD k []).map rowQ) = .ok ((paper.getD k []).map fun e => D.bl (rowB P Q ps h ls k (paper.getD (k + 1) []) e)) := by
   intro x3
   rw[cG rowQ (λe=>some (D.bl (rowB P Q ps h ls k (paper.getD (k+1) []) e))) (by
    intro e he
    obtain⟨h3,h4⟩:=hf.key _ m1 e he
    have q:=holds_behind n P Q X Y Z ps hv h ls k (by lia) (by lia) hk2 hrow e h3 h4 (paper.getD (k+1) [])
    generalize encQ (paper.getD (k+1) [])=el at *
    simp [compF, Tr.compEnv, e_holds_step_by_step_1, q]), List.filterMap_eq_map']
  have al:=xJ (rowB P Q ps h ls k (paper.getD (k+1) [])) (paper.getD k [])
  have l2:((paper.getD k []).map rowQ).length<=big:=by have:=hf.len _ m1;rw[aC];lia
  have body : bodyF T (callF T dfs (n + 3)) (.one 4) b_holds_step_by_step_2 (natI k) [.v (.tup [.tup (P.map Part.enc), .tup (Q.map Player.enc), X, Y, Z]), .v (pricesD h ls), .v (paperD paper), .v (.lst (ps.map pairD)), x4, x5] =
   if stepB P Q ps h ls paper k=true then .ok (.nx [.v (.tup [.tup (P.map Part.enc),.tup (Q.map Player.enc),X,Y,Z]),.v (pricesD h ls),.v (paperD paper),.v (.lst (ps.map pairD)),.v (.int (k:Int)),.v (.tdc (encQ (paper.getD (k+1) [])))])else .ok (.rt (.bl false) false):=by
   rw[show layQ (paper.getD k [])=.lst ((paper.getD k []).map rowQ)from rfl]at a1
   rw[show(paper.getD k []).all (rowB P Q ps h ls k (paper.getD (k+1) []))=stepB P Q ps h ls paper k from rfl]at al
   generalize stepB P Q ps h ls paper k=b at *
   generalize layQ (paper.getD (k+1) [])=l1 at *
   generalize ((paper.getD k []).map λe=>D.bl (rowB P Q ps h ls k (paper.getD (k+1) []) e))=tt at *
   generalize encQ (paper.getD (k+1) [])=el at *
   generalize (paper.getD k []).map rowQ=l0 at *
   cases b with
   | true => simp [bodyF, b_holds_step_by_step_2, natI, a1, a2, dc, c, al, l2]
   | false => simp [bodyF, b_holds_step_by_step_2, natI, a1, a2, dc, c, al, l2]
  rw[iV,aG,fG]
  cases hs:stepB P Q ps h ls paper k with
  |false=>
   rw[hs,if_neg aK]at body
   exact .inr ⟨rfl,gK body⟩
  |true=>
   rw[hs,if_pos rfl]at body
   rw[eS,bT body]
   exact DZ n P Q X Y Z ps hv h ls hP hQ hh hls hr paper hf hl ho m (k+1) _ _ (by lia)
theorem Jt(n:Nat)(P:List Part)(Q:List Player)(Y Z:D)(ss:List Scene)(hs:ss.length<=24)(hv:∀p∈P,(signs p.voice).length=1)(h:List Int)(ls:List (List Int))(hP:P.length<=8)(hQ:Q.length<=6)(hh:h.length=Q.length)(hls:ls.length=Q.length)(hr:∀r∈ls,r.length=P.length)(paper:List (List Row))(hf:Fine P.length paper)(hl:paper.length=Q.length+1)(ho:∀L∈paper,onceB L=true) :
 callF T dfs (n+6) 22 [.tup [.tup (P.map Part.enc),.tup (Q.map Player.enc),.tup (ss.map Scene.enc),Y,Z],pricesD h ls,paperD paper]=.ok (.bl ((aA Q.length).all (stepB P Q ((cI P.length).filter λp=>(aS P ss p.1 p.2).isSome) h ls paper))):=by
 have hb:=bC
 have c:=clashes_of n (.tup (Q.map Player.enc)) Y Z P ss hs (by lia)
 generalize ((cI P.length).filter λp=>(aS P ss p.1 p.2).isSome)=ps at *
 have l:=DZ (n+2) P Q (.tup (ss.map Scene.enc)) Y Z ps hv h ls hP hQ hh hls hr paper hf hl ho Q.length 0 .no .no (by lia)
 rw[<-iW]at l
 have rg:=eO (n:=Q.length) (by lia)
 have ln:=jH (f:=Player.enc) (xs:=Q)
 refine aO (k:=false) rfl rfl rfl ?_
 generalize (aA Q.length).all (stepB P Q ps h ls paper)=b at *
 rcases l with⟨rfl,x4,x5,l⟩|⟨rfl,l⟩
 · simp [b_holds_step_by_step, c, l, rg, ln]
 · simp [b_holds_step_by_step, c, l, rg, ln]
noncomputable def fD:Option Int->D
 |none=>.non
 |some p=>.int p
noncomputable def cT(L:List Row):List Int:=(L.filter λe=>decide (e.1=[])).map (·.2)
noncomputable def gN(L:List Row):Option Int->Bool
 |none=>decide (cT L=[])
 |some p=>(cT L).all λc=>decide (p<=c)
theorem D0(L:List Row):L.filterMap (λe=>if decide (e.1=[])=true then some (D.int e.2)else none)=(cT L).map D.int:=by
 unfold cT
 induction L with
 |nil=>rfl
 |cons a r ih=>
  rw[hV,iC]
  by_cases q:decide (a.1=[])=true
  ·rw[if_pos q,if_pos q,ih];rfl
  ·rw[if_neg q,if_neg q,ih]
theorem xK(l:List Int):D.cmp .Eq (.lst (l.map D.int)) (.lst [])=.ok (.bl (decide (l=[]))):=by
 have h:D.pl 30 (.lst (l.map D.int))=true:=by rw[nQ];exact gW D.int 29 (λ_=>rfl) l
 show aB (D.eqOk (.lst (l.map D.int)) (.lst [])) (Res.ok (D.bl (D.eqb (.lst (l.map D.int)) (.lst []))))=_
 rw[show D.eqOk (.lst (l.map D.int)) (.lst [])=true from by unfold D.eqOk;rw[h];rfl]
 cases l with
 |nil=>rfl
 |cons a r=>rw[decide_eq_false (by simp)];rfl
theorem ends_with(n:Nat)(L:List Row)(hl:L.length<=1000)(pr:Option Int):callF T dfs (n+1) 23 [layQ L,fD pr]=.ok (.bl (gN L pr)):=by
 have hb:=bC
 have c:∀x0 x1 x2:Sl,compL (compF T (callF T dfs n) 2 [] (.many [0,1]) rD rC [x0,x1,x2]) (L.map rowQ)=.ok ((cT L).map D.int):=by
  intro x0 x1 x2
  rw[cG rowQ (λe=>if decide (e.1=[])=true then some (D.int e.2)else none) (by
   intro e _
   have e1:=rZ e.1
   unfold rowQ
   by_cases q:e.1=[]
   ·rw[decide_eq_true q]at e1;rw[if_pos (decide_eq_true q)];simp[compF,Tr.compEnv,rD,rC,e1]
   ·rw[decide_eq_false q]at e1;rw[if_neg (by rw[decide_eq_false q];exact aK)];simp[compF,Tr.compEnv,rD,rC,e1]),D0 L]
 have l2:(L.map rowQ).length<=big:=by rw[aC];lia
 have el:(cT L).length<=L.length:=by unfold cT;rw[aC];exact iX _ _
 have l3:((cT L).map D.int).length<=big:=by rw[aC];lia
 have n1:=xK (cT L)
 refine aO (k:=false) rfl rfl rfl ?_
 unfold layQ
 generalize L.map rowQ=R at *
 cases pr with
 |none=>
  show _=Res.ok (Out.rt (D.bl (decide (cT L=[]))) false)
  simp[b_ends_with,fD,c,l2,n1]
 |some p=>
  have c2:∀x0 x2:Sl,compL (compF T (callF T dfs n) 1 [1] (.one 0) wJ (.con (.bl true)) [x0,.v (.int p),x2]) ((cT L).map D.int)=.ok ((cT L).map λc=>D.bl (decide (p<=c))):=λx0 x2=>by
   rw[cG D.int (λc=>some (D.bl (decide (p<=c)))) (by
    intro c _
    simp[compF,Tr.compEnv,wJ]),eJ]
  have al:=xJ (λc=>decide (p<=c)) (cT L)
  show _=Res.ok (Out.rt (D.bl ((cT L).all λc=>decide (p<=c))) false)
  generalize (cT L).map D.int=E at *
  simp[b_ends_with,fD,c,l2,al,c2,l3]
noncomputable def oB(P:List Part)(Q:List Player)(ps:List (Nat×Nat))(h:List Int)(ls:List (List Int))(paper:List (List Row))(pr:Option Int):Bool:=(lR P.length Q.length paper&&paper.all onceB)&&(gN (paper.getD Q.length []) pr&&(aA Q.length).all (stepB P Q ps h ls paper))
theorem Ju(n:Nat)(P:List Part)(Q:List Player)(Y Z:D)(ss:List Scene)(hs:ss.length<=24)(hv:∀p∈P,(signs p.voice).length=1)(h:List Int)(ls:List (List Int))(hP:P.length<=6)(hQ:Q.length<=6)(hh:h.length=Q.length)(hls:ls.length=Q.length)(hr:∀r∈ls,r.length=P.length)(paper:List (List Row))(hf:Fine P.length paper)(pr:Option Int) :
 callF T dfs (n+7) 24 [.tup [.tup (P.map Part.enc),.tup (Q.map Player.enc),.tup (ss.map Scene.enc),Y,Z],pricesD h ls,paperD paper,fD pr]=.ok (.bl (oB P Q ((cI P.length).filter λp=>(aS P ss p.1 p.2).isSome) h ls paper pr)):=by
 have hb:=bC
 have s1:=Jt n P Q Y Z ss hs hv h ls (by lia) hQ hh hls hr paper hf
 have s2:=Jq (n+5) P Q (.tup (ss.map Scene.enc)) Y Z paper (by lia)
 have c : ∀ x0 x1 x2 x3 : Sl, compL (compF T (callF T dfs (n + 6)) 1 [] (.one 0) e_holds_1 (.con (.bl true)) [x0, x1, x2, x3]) (paper.map layQ) = .ok (paper.map fun L => D.bl (onceB L)) := by
  intro x0 x1 x2 x3
  rw[cG layQ (λL=>some (D.bl (onceB L))) (by
   intro L hL
   have e:=Jp (n+4) L (hf.tab L hL) (hf.len L hL)
   simp [compF, Tr.compEnv, e_holds_1, e]), List.filterMap_eq_map']
 have al:=xJ onceB paper
 have l2:(paper.map layQ).length<=big:=by have:=hf.many;rw[aC];lia
 refine aO (k:=false) rfl rfl rfl ?_
 unfold oB
 cases q:lR P.length Q.length paper&&paper.all onceB with
 |false=>
  rw[hZ]
  cases q1:lR P.length Q.length paper with
  |false=>
   rw[q1]at s2
   simp [b_holds, s2]
  |true=>
   rw[q1,eS]at q
   rw[q]at al
   rw[q1]at s2
   unfold paperD at *
   generalize paper.map layQ=A at *
   simp [b_holds, s2, c, al, l2]
 |true=>
  obtain⟨q1,q2⟩:=(aE _ _).mp q
  have hl:paper.length=Q.length+1:=of_decide_eq_true ((aE _ _).mp q1).1
  have s1:=s1 hl (fF.mp q2)
  have hm:paper.getD Q.length []∈paper:=jK (by lia)
  have s3:=ends_with (n+5) (paper.getD Q.length []) (by have:=hf.len _ hm;lia) pr
  have e1:D.ix (paperD paper) (.int (-1))=.ok (layQ (paper.getD Q.length [])):=by
   have hne:paper.map layQ≠[]:=by
    intro z
    have:=congrArg oE z
    rw[aC,mC]at this
    lia
   have:=nZ (paper.map layQ).dropLast ((paper.map layQ).getLast hne)
   rw[sU]at this
   rw[show paperD paper=.lst (paper.map layQ)from rfl,this,LL]
   refine congrArg Res.ok ?_
   rw[yA]
   refine congrArg layQ ?_
   rw[cZ,aH (show Q.length<paper.length by lia)]
   simp[hl]
  rw[eS]
  rw[q2]at al
  rw[q1]at s2
  generalize gN (paper.getD Q.length []) pr=b2 at *
  generalize layQ (paper.getD Q.length [])=lq at *
  unfold paperD at *
  generalize paper.map layQ=A at *
  cases b2 with
  | true => simp [b_holds, s1, s2, s3, c, al, l2, e1]
  | false => simp [b_holds, s1, s2, s3, c, al, l2, e1]
theorem inPr3(p:Nat×Nat)(ps:List (Nat×Nat)):D.cmp .In (pairD p) (.lst (ps.map pairD))=.ok (.bl (decide (p∈ps))):=by
 have h:=Cs p ps
 have:D.cmp .NotIn (pairD p) (.lst (ps.map pairD))=(D.cmp .In (pairD p) (.lst (ps.map pairD))>>=λd=>match d with | .bl b=>Res.ok (D.bl (!b))|_=>Res.no):=by
  show((D.inn (pairD p) (.lst (ps.map pairD)))>>=λb=>Res.ok (D.bl (!b)))=(((D.inn (pairD p) (.lst (ps.map pairD)))>>=λb=>Res.ok (D.bl b))>>=_)
  cases D.inn (pairD p) (.lst (ps.map pairD))<;>rfl
 rw[this]at h
 cases e:D.cmp .In (pairD p) (.lst (ps.map pairD))with
 |ok d=>
  rw[e]at h
  cases d with
  |bl b=>
   have h:Res.ok (D.bl (!b))=Res.ok (D.bl (!decide (p∈ps))):=h
   injection h with h
   injection h with h
   rw[Bool.not_inj_iff.mp h]
  |_=>cases h
 |err c d=>rw[e]at h;cases h
 |no=>rw[e]at h;cases h
theorem Jv(n:Nat)(cl:List (Nat×Nat))(t:List Nat)(p:Nat)(x0 x2 x3 x4 x6 x7:Sl):compL (compF T (callF T dfs n) 1 [1,5] (.one 0) rN rM [x0,.v (.lst (cl.map pairD)),x2,x3,x4,.v (.int (p:Int)),x6,x7]) (t.map natI)=.ok ((t.filter λo=>decide ((o,p)∈cl)).map natI):=by
 rw[nR natI (λo=>decide ((o,p)∈cl)) (by
  intro o _
  have e:=inPr3 (o,p) cl
  rw[show pairD (o,p)=.tup [.int (o:Int),.int (p:Int)]from rfl]at e
  by_cases q:(o,p)∈cl
  ·rw[if_pos (decide_eq_true q)];rw[decide_eq_true q]at e;simp[compF,Tr.compEnv,natI,rN,rM,e]
  ·rw[if_neg (by rw[decide_eq_false q];exact aK)];rw[decide_eq_false q]at e;simp[compF,Tr.compEnv,natI,rN,rM,e])]
theorem Jw(l:List Nat):D.cmp .Eq (.lst (l.map natI)) (.lst [])=.ok (.bl (decide (l=[]))):=by
 have h:D.pl 30 (.lst (l.map natI))=true:=by rw[nQ];exact gW natI 29 (qN 29) l
 show aB (D.eqOk (.lst (l.map natI)) (.lst [])) (Res.ok (D.bl (D.eqb (.lst (l.map natI)) (.lst []))))=_
 rw[show D.eqOk (.lst (l.map natI)) (.lst [])=true from by unfold D.eqOk;rw[h];rfl]
 cases l with
 |nil=>rfl
 |cons a r=>rw[decide_eq_false (by simp)];rfl
theorem xM(n:Nat)(cl:List (Nat×Nat))(p:Nat)(x0 x2 x3 x4:Sl):∀(ts:List (List Nat))(acc:List D)(x7:Sl),(∀t∈ts,t.length<=100)->acc.length+ts.length<=1000 ->
 ∃x7',forL (bodyF T (callF T dfs n) (.one 7) rO) (ts.map tN) [x0,.v (.lst (cl.map pairD)),x2,x3,x4,.v (.int (p:Int)),.o (.lst acc),x7] =
  .ok (.nx [x0,.v (.lst (cl.map pairD)),x2,x3,x4,.v (.int (p:Int)),.o (.lst (acc++((ts.filter λt=>t.all λo=>!decide ((o,p)∈cl)).map (·++[p])).map tN)),x7'])
 |[],acc,x7,_,_=>⟨x7,by simp[forL]⟩
 |t::ts,acc,x7,ht,ha=>by
  have hb:=bC
  rw[aN]at ha
  have c:=λx7=>Jv n cl t p x0 x2 x3 x4 (.o (.lst acc)) x7
  have it:D.items (tN t)=.ok (t.map natI):=rfl
  have e2:=Ct t p (ht t aY)
  have nn:=Jw (t.filter λo=>decide ((o,p)∈cl))
  have l1:(t.map natI).length<=big:=by have:=ht t aY;rw[aC];lia
  have l2:acc.length<big:=by lia
  have key:(t.all λo=>!decide ((o,p)∈cl))=decide ((t.filter λo=>decide ((o,p)∈cl))=[]):=by
   rw[kQ,fF,decide_eq_true_iff,LM]
   simp
  rw[aG]
  by_cases q:(t.all λo=>!decide ((o,p)∈cl))=true
  ·obtain⟨x7',ih⟩:=xM n cl p x0 x2 x3 x4 ts (acc++[tN (t++[p])]) (.v (tN t)) (λq hq=>ht q (bE _ hq)) (by rw[bL,fV];lia)
   refine⟨x7',?_⟩
   rw[iC,if_pos q,aG,aG,show ∀r:List D,acc++tN (t++[p])::r=(acc++[tN (t++[p])])++r from λr=>by rw[oH];rfl,<-ih]
   refine bT ?_
   rw[<-key,q]at nn
   generalize t.map natI=tl at *
   simp[bodyF,rO,it,c,nn,e2,l1,l2]
  ·obtain⟨x7',ih⟩:=xM n cl p x0 x2 x3 x4 ts acc (.v (tN t)) (λq hq=>ht q (bE _ hq)) (by lia)
   refine⟨x7',?_⟩
   rw[iC,if_neg q,<-ih]
   refine bT ?_
   rw[<-key,(LN _).mp q]at nn
   generalize t.map natI=tl at *
   simp[bodyF,rO,it,c,nn,l1]
theorem xN(n:Nat)(P:List Part)(Q:List Player)(X Y Z:D)(cl:List (Nat×Nat))(hv:∀p∈P,(signs p.voice).length=1)(j:Nat)(hj:j<Q.length)(L:D):∀(rest l0:List Nat)(x5 x6 x7:Sl),(l0++rest).length<=8->(∀p∈rest,p<P.length) ->
 ∃x5' x6' x7',forL (bodyF T (callF T dfs n) (.one 5) rP) (rest.map natI) [.v (.tup [.tup (P.map Part.enc),.tup (Q.map Player.enc),X,Y,Z]),.v (.lst (cl.map pairD)),.v (.int (j:Int)),.v L,.v (.lst ((aX (okV P Q j) cl l0).map tN)),x5,x6,x7] =
  .ok (.nx [.v (.tup [.tup (P.map Part.enc),.tup (Q.map Player.enc),X,Y,Z]),.v (.lst (cl.map pairD)),.v (.int (j:Int)),.v L,.v (.lst ((aX (okV P Q j) cl (l0++rest)).map tN)),x5',x6',x7'])
 |[],l0,x5,x6,x7,_,_=>⟨x5,x6,x7,by rw[jM];rfl⟩
 |p::rest,l0,x5,x6,x7,hl,hp=>by
  have hb:=bC
  have hl0:l0.length<=7:=by simp at hl;lia
  have hkP:=hp p aY
  have e1:=lH (aH hkP)
  have e2:=Cc (aH hj)
  have e3:=JT (p:=P[p]) (q:=Q[j]) (hv _ (iU hkP))
  rw[<-Cd hkP hj,show nS P Q p j=okV P Q j p from rfl]at e3
  have tl:(aX (okV P Q j) cl l0).length<=2^7:=aW (nY rfl) (yF (by lia) hl0)
  have tm:∀t∈aX (okV P Q j) cl l0,t.length<=100:=λt ht=>aW ((gM rfl).mp ht).1.length_le (by lia)
  rw[aG]
  rw[show l0++p::rest=(l0++[p])++rest from by rw[oH];rfl]
  have hl':(l0++[p]++rest).length<=8:=by simpa using hl
  have hp':∀q∈rest,q<P.length:=λq hq=>hp q (bE _ hq)
  have tA:=qO (okV P Q j) cl l0 p
  unfold gZ at tA
  cases hc:okV P Q j p with
  |false=>
   rw[hc]at e3
   rw[hc,if_neg aK]at tA
   obtain⟨x5',x6',x7',ih⟩:=xN n P Q X Y Z cl hv j hj L rest (l0++[p]) (.v (.int (p:Int))) x6 x7 hl' hp'
   refine⟨x5',x6',x7',?_⟩
   rw[<-ih,tA]
   clear ih tA
   refine bT ?_
   simp[bodyF,rP,natI,e1,e2,e3]
  |true=>
   rw[hc]at e3
   rw[hc,if_pos rfl]at tA
   obtain⟨y7,lp⟩:=xM n cl p (.v (.tup [.tup (P.map Part.enc),.tup (Q.map Player.enc),X,Y,Z])) (.v (.int (j:Int))) (.v L) (.v (.lst ((aX (okV P Q j) cl l0).map tN))) (aX (okV P Q j) cl l0) [] x7 tm (by rw[mC];lia)
   rw[sS]at lp
   obtain⟨x5',x6',x7',ih⟩:=xN n P Q X Y Z cl hv j hj L rest (l0++[p]) (.v (.int (p:Int))) (.v (.lst (((aX (okV P Q j) cl l0).filter λt=>t.all λo=>!decide ((o,p)∈cl)).map (·++[p]) |>.map tN))) y7 hl' hp'
   refine⟨x5',x6',x7',?_⟩
   rw[<-ih,tA,cE]
   clear ih tA
   refine bT ?_
   have fl:((((aX (okV P Q j) cl l0).filter λt=>t.all λo=>!decide ((o,p)∈cl)).map (·++[p])).map tN).length<=128:=by
    rw[aC,aC]
    exact aW (iX _ _) tl
   have tl2:((aX (okV P Q j) cl l0).map tN).length<=128:=by rw[aC];exact tl
   generalize (((aX (okV P Q j) cl l0).filter λt=>t.all λo=>!decide ((o,p)∈cl)).map (·++[p])).map tN=more at *
   generalize (aX (okV P Q j) cl l0).map tN=td at *
   have e4:D.bin .Add (.lst td) (.lst more)=.ok (.lst (td++more)):=by
    show aB (decide (td.length+more.length<=big)) _=_
    rw[cJ (decide_eq_true (by lia))]
   simp[bodyF,rP,natI,e1,e2,e3,lp,e4]
theorem Jx(n:Nat)(P:List Part)(Q:List Player)(X Y Z:D)(cl:List (Nat×Nat))(hv:∀p∈P,(signs p.voice).length=1)(j:Nat)(hj:j<Q.length)(left:List Nat)(hl:left.length<=8)(hp:∀p∈left,p<P.length) :
 callF T dfs (n+1) 38 [.tup [.tup (P.map Part.enc),.tup (Q.map Player.enc),X,Y,Z],.lst (cl.map pairD),.int (j:Int),tN left]=.ok (.lst ((aX (okV P Q j) cl left).map tN)):=by
 obtain⟨x5',x6',x7',h⟩:=xN n P Q X Y Z cl hv j hj (tN left) left [] .no .no .no (by simpa using hl) hp
 have e:aX (okV P Q j) cl []=[[]]:=rfl
 rw[e,sS]at h
 have it:D.items (tN left)=.ok (left.map natI):=rfl
 have e0:[([]:List Nat)].map tN=[.tup []]:=rfl
 rw[e0]at h
 refine aO (k:=false) rfl rfl rfl ?_
 simp[b_law_takes,it,h]
theorem Jy(n:Nat)(h:List Int)(ls:List (List Int))(j:Nat)(t:List Nat)(hj:j<h.length)(hj2:j<ls.length)(ht:∀p∈t,p<(ls.getD j []).length)(hl:t.length<=100) :
 callF T dfs (n+1) 39 [pricesD h ls,.int (j:Int),tN t]=.ok (.int (ptak (hireP h j) (likeP ls j) t)):=by
 have hb:=bC
 have e1:=rZ t
 have e2:=sA hj
 have it:D.items (tN t)=.ok (t.map natI):=rfl
 have c:compL (compF T (callF T dfs n) 1 [1,0] (.one 0) wQ (.con (.bl true)) [.v (.tup [dZ h,.tup (ls.map dZ)]),.v (.int (j:Int)),.v (tN t)]) (t.map natI)=.ok ((t.map (likeP ls j)).map D.int):=by
  rw[cG natI (λp=>some (D.int (likeP ls j p))) (by
   intro p hp
   have q1:=Cw hj2
   have q2:=sA (ht p hp)
   unfold likeP
   generalize ls.getD j []=R at *
   simp[compF,Tr.compEnv,natI,wQ,q1,q2]),eJ,bU]
  rfl
 have s1:=vK (ns:=t.map (likeP ls j))
 have l1:(t.map natI).length<=big:=by rw[aC];lia
 unfold ptak hireP
 by_cases q:t=[]
 ·rw[if_pos q]
  refine aO (k:=false) rfl rfl rfl ?_
  rw[decide_eq_true q]at e1
  unfold pricesD
  simp[b_law_cost,e1]
 ·rw[if_neg q]
  refine aO (k:=true) rfl rfl rfl ?_
  rw[decide_eq_false q]at e1
  generalize t.map natI=tl at *
  unfold pricesD
  simp[b_law_cost,e1,e2,it,c,l1,s1]
theorem behind_comp (n : Nat) (left t : List Nat) (x0 x1 x2 x3 x4 x5 x7 x9 x10 : Sl) : compL (compF T (callF T dfs n) 1 [8] (.one 0) e_layer_holds_2 c_layer_holds_1 [x0, x1, x2, x3, x4, x5, .v (tN left), x7, .v (tN t), x9, x10]) (left.map natI) = .ok ((behindV left t).map natI) := by
 unfold behindV
 rw[nR natI (λp=>!decide (p∈t)) (by
  intro o _
  have e:=Cv o t
  by_cases q:o∈t
  · rw [if_neg (by rw [decide_eq_true q]; exact Bool.false_ne_true)]; rw [decide_eq_true q] at e; simp [compF, Tr.compEnv, natI, e_layer_holds_2, c_layer_holds_1, e]
  · rw [if_pos (by rw [decide_eq_false q]; rfl)]; rw [decide_eq_false q] at e; simp [compF, Tr.compEnv, natI, e_layer_holds_2, c_layer_holds_1, e])]
noncomputable def dueL(L:List Row)(k:List Nat):List Int:=(L.filter λe=>decide (e.1=k)).map (·.2)
theorem due_fm(L:List Row)(k:List Nat):L.filterMap (λe=>if decide (e.1=k)=true then some (D.int e.2)else none)=(dueL L k).map D.int:=by
 unfold dueL
 induction L with
 |nil=>rfl
 |cons a r ih=>
  rw[hV,iC]
  by_cases q:decide (a.1=k)=true
  ·rw[if_pos q,if_pos q,ih];rfl
  ·rw[if_neg q,if_neg q,ih]
theorem due_comp (n : Nat) (L : List Row) (k : List Nat) (x0 x1 x2 x3 x4 x5 x6 x7 x8 x10 : Sl) : compL (compF T (callF T dfs n) 1 [9] (.one 0) e_layer_holds_4 c_layer_holds_3 [x0, x1, x2, x3, x4, x5, x6, x7, x8, .v (tN k), x10]) (L.map rowQ) = .ok ((dueL L k).map D.int) := by
 rw[cG rowQ (λe=>if decide (e.1=k)=true then some (D.int e.2)else none) (by
  intro e _
  have e1:=cmp_tN e.1 k
  unfold rowQ
  by_cases q:e.1=k
  · rw [decide_eq_true q] at e1; rw [if_pos (decide_eq_true q)]; simp [compF, Tr.compEnv, e_layer_holds_4, c_layer_holds_3, e1]
  · rw [decide_eq_false q] at e1; rw [if_neg (by rw [decide_eq_false q]; exact Bool.false_ne_true)]; simp [compF, Tr.compEnv, e_layer_holds_4, c_layer_holds_3, e1]), due_fm L k]
theorem Jz(L:List Row)(k:List Nat):hJ L k=(dueL L k).head?:=by
 unfold hJ dueL
 induction L with
 |nil=>rfl
 |cons a r ih=>
  rw[bO,iC]
  by_cases q:decide (a.1=k)=true
  ·rw[q,if_pos rfl];rfl
  ·rw[(LN _).mp q,if_neg aK];exact ih
theorem D1(n:Nat)(B cd Ld:D)(h:List Int)(ls:List (List Int))(j:Nat)(hj:j<h.length)(hj2:j<ls.length)(left:List Nat)(hl:left.length<=100)(c:Int)(L:List Row)(hL:L.length<=1000):∀(ts:List (List Nat))(x8 x9 x10:Sl),
 (∀t∈ts,t.length<=100/\(∀p∈t,p<(ls.getD j []).length)) ->
 (ts.all (okT L left c (ptak (hireP h j) (likeP ls j))) = true ∧ ∃ y8 y9 y10, forL (bodyF T (callF T dfs (n + 1)) (.one 8) b_layer_holds_5) (ts.map tN) [.v B, .v (pricesD h ls), .v cd, .v (.int (j : Int)), .v Ld, .v (layQ L), .v (tN left), .v (.int c), x8, x9, x10] =
  .ok (.nx [.v B,.v (pricesD h ls),.v cd,.v (.int (j:Int)),.v Ld,.v (layQ L),.v (tN left),.v (.int c),y8,y9,y10])) \/
 (ts.all (okT L left c (ptak (hireP h j) (likeP ls j))) = false ∧ forL (bodyF T (callF T dfs (n + 1)) (.one 8) b_layer_holds_5) (ts.map tN) [.v B, .v (pricesD h ls), .v cd, .v (.int (j : Int)), .v Ld, .v (layQ L), .v (tN left), .v (.int c), x8, x9, x10] = .ok (.rt (.bl false) false))
 |[],x8,x9,x10,_=>.inl ⟨rfl,x8,x9,x10,rfl⟩
 |t::ts,x8,x9,x10,ht=>by
  have hb:=bC
  obtain⟨h1,h2⟩:=ht t aY
  have e0:=λx9 x10=>behind_comp (n+1) left t (.v B) (.v (pricesD h ls)) (.v cd) (.v (.int (j:Int))) (.v Ld) (.v (layQ L)) (.v (.int c)) x9 x10
  have e1:=λx10=>due_comp (n+1) L (behindV left t) (.v B) (.v (pricesD h ls)) (.v cd) (.v (.int (j:Int))) (.v Ld) (.v (layQ L)) (.v (tN left)) (.v (.int c)) (.v (tN t)) x10
  have e2:=Jy n h ls j t hj hj2 h2 h1
  have e3:=xK (dueL L (behindV left t))
  have it:D.items (tN left)=.ok (left.map natI):=rfl
  have it2:D.items (layQ L)=.ok (L.map rowQ):=rfl
  have l1:(left.map natI).length<=big:=by rw[aC];lia
  have l2:(L.map rowQ).length<=big:=by rw[aC];lia
  have tb:Bt.run .tuple [.lst ((behindV left t).map natI)]=.ok (tN (behindV left t)):=rfl
  have body : bodyF T (callF T dfs (n + 1)) (.one 8) b_layer_holds_5 (tN t) [.v B, .v (pricesD h ls), .v cd, .v (.int (j : Int)), .v Ld, .v (layQ L), .v (tN left), .v (.int c), x8, x9, x10] =
   if okT L left c (ptak (hireP h j) (likeP ls j)) t=true then .ok (.nx [.v B,.v (pricesD h ls),.v cd,.v (.int (j:Int)),.v Ld,.v (layQ L),.v (tN left),.v (.int c),.v (tN t),.v (tN (behindV left t)),.v (.lst ((dueL L (behindV left t)).map D.int))])else .ok (.rt (.bl false) false):=by
   unfold okT
   rw[Jz]
   generalize L.map rowQ=lr at *
   generalize left.map natI=ll at *
   generalize ptak (hireP h j) (likeP ls j) t=pt at *
   cases hd:dueL L (behindV left t)with
   |nil=>
    rw[hd]at e1 e3
    rw[decide_eq_true rfl]at e3
    rw[lX]at e1 e3
    simp [bodyF, b_layer_holds_5, it, it2, e0, e1, e3, l1, l2, tb]
   |cons w r=>
    rw[hd]at e1 e3
    rw[decide_eq_false (by simp)]at e3
    rw[aG]at e1 e3⊢
    have i0:D.ix (.lst (.int w::r.map D.int)) (.int 0)=.ok (.int w):=dF (i:=0) rfl
    by_cases q:w<=c+pt
    ·have q':¬c+pt<w:=by lia
     rw[LO]
     simp only[decide_eq_true q,if_true]
     simp [bodyF, b_layer_holds_5, it, it2, e0, e1, e2, e3, l1, l2, tb, i0, q']
    ·have q':c+pt<w:=by lia
     rw[LO]
     simp only[decide_eq_false q,eC,if_false]
     simp [bodyF, b_layer_holds_5, it, it2, e0, e1, e2, e3, l1, l2, tb, i0, q']
  rw[fG,aG]
  cases ho:okT L left c (ptak (hireP h j) (likeP ls j)) t with
  |false=>
   rw[ho,if_neg aK]at body
   exact .inr ⟨rfl,gK body⟩
  |true=>
   rw[ho,if_pos rfl]at body
   rw[eS,bT body]
   exact D1 n B cd Ld h ls j hj hj2 left hl c L hL ts _ _ _ λq hq=>ht q (bE _ hq)
theorem D2(n:Nat)(P:List Part)(Q:List Player)(X Y Z Ld:D)(cl:List (Nat×Nat))(hv:∀p∈P,(signs p.voice).length=1)(h:List Int)(ls:List (List Int))(j:Nat)(hq:j<Q.length)(hj:j<h.length)(hj2:j<ls.length)(hr:(ls.getD j []).length=P.length)(L:List Row)(hL:L.length<=1000):∀(es:List Row)(x6 x7 x8 x9 x10:Sl),(∀e∈es,e.1.length<=8/\∀p∈e.1,p<P.length) ->
 (es.all (rowB P Q cl h ls j L) = true ∧ ∃ y6 y7 y8 y9 y10, forL (bodyF T (callF T dfs (n + 1)) (.many [6, 7]) b_layer_holds_6) (es.map rowQ) [.v (.tup [.tup (P.map Part.enc), .tup (Q.map Player.enc), X, Y, Z]), .v (pricesD h ls), .v (.lst (cl.map pairD)), .v (.int (j : Int)), .v Ld, .v (layQ L), x6, x7, x8, x9, x10] =
  .ok (.nx [.v (.tup [.tup (P.map Part.enc),.tup (Q.map Player.enc),X,Y,Z]),.v (pricesD h ls),.v (.lst (cl.map pairD)),.v (.int (j:Int)),.v Ld,.v (layQ L),y6,y7,y8,y9,y10])) \/
 (es.all (rowB P Q cl h ls j L) = false ∧ forL (bodyF T (callF T dfs (n + 1)) (.many [6, 7]) b_layer_holds_6) (es.map rowQ) [.v (.tup [.tup (P.map Part.enc), .tup (Q.map Player.enc), X, Y, Z]), .v (pricesD h ls), .v (.lst (cl.map pairD)), .v (.int (j : Int)), .v Ld, .v (layQ L), x6, x7, x8, x9, x10] = .ok (.rt (.bl false) false))
 |[],x6,x7,x8,x9,x10,_=>.inl ⟨rfl,x6,x7,x8,x9,x10,rfl⟩
 |e::es,x6,x7,x8,x9,x10,he=>by
  obtain⟨h3,h4⟩:=he e aY
  have t1:=Jx n P Q X Y Z cl hv j hq e.1 h3 h4
  have l:=D1 n (.tup [.tup (P.map Part.enc),.tup (Q.map Player.enc),X,Y,Z]) (.lst (cl.map pairD)) Ld h ls j hj hj2 e.1 (by lia) e.2 L hL (aX (okV P Q j) cl e.1) x8 x9 x10 (λt ht=>by
   have hs:=((gM rfl).mp ht).1
   exact⟨aW hs.length_le (by lia),λp hp'=>by rw[hr];exact h4 p (hs.subset hp')⟩)
  rw[show(aX (okV P Q j) cl e.1).all (okT L e.1 e.2 (ptak (hireP h j) (likeP ls j)))=rowB P Q cl h ls j L e from rfl]at l
  rw[fG,aG]
  have ih:=λy6 y7 y8 y9 y10=>D2 n P Q X Y Z Ld cl hv h ls j hq hj hj2 hr L hL es y6 y7 y8 y9 y10 λq hq=>he q (bE _ hq)
  rw[show rowQ e=.tup [tN e.1,.int e.2]from rfl]
  rcases l with⟨l0,y8,y9,y10,l⟩|⟨l0,l⟩
  ·rw[l0,eS]
   have body : bodyF T (callF T dfs (n + 1)) (.many [6, 7]) b_layer_holds_6 (.tup [tN e.1, .int e.2]) [.v (.tup [.tup (P.map Part.enc), .tup (Q.map Player.enc), X, Y, Z]), .v (pricesD h ls), .v (.lst (cl.map pairD)), .v (.int (j : Int)), .v Ld, .v (layQ L), x6, x7, x8, x9, x10] = .ok (.nx [.v (.tup [.tup (P.map Part.enc), .tup (Q.map Player.enc), X, Y, Z]), .v (pricesD h ls), .v (.lst (cl.map pairD)), .v (.int (j : Int)), .v Ld, .v (layQ L), .v (tN e.1), .v (.int e.2), y8, y9, y10]) := by
    clear ih l0
    simp [bodyF, b_layer_holds_6, t1, l]
   rw[bT body]
   exact ih _ _ _ _ _
  ·rw[l0,hZ]
   refine .inr ⟨rfl,gK ?_⟩
   clear ih l0
   simp [bodyF, b_layer_holds_6, t1, l]
theorem layer_holds (n : Nat) (P : List Part) (Q : List Player) (X Y Z : D) (cl : List (Nat × Nat)) (hv : ∀ p ∈ P, (signs p.voice).length = 1) (h : List Int) (ls : List (List Int)) (j : Nat) (hq : j < Q.length) (hj : j < h.length) (hj2 : j < ls.length) (hr : (ls.getD j []).length = P.length) (L0 L : List Row) (hL : L.length ≤ 1000) (h0 : ∀ e ∈ L0, e.1.length ≤ 8 ∧ ∀ p ∈ e.1, p < P.length) :
 callF T dfs (n+2) 40 [.tup [.tup (P.map Part.enc),.tup (Q.map Player.enc),X,Y,Z],pricesD h ls,.lst (cl.map pairD),.int (j:Int),layQ L0,layQ L]=.ok (.bl (L0.all (rowB P Q cl h ls j L))):=by
 have l:=D2 n P Q X Y Z (layQ L0) cl hv h ls j hq hj hj2 hr L hL L0 .no .no .no .no .no h0
 have it:D.items (layQ L0)=.ok (L0.map rowQ):=rfl
 refine aO (k:=false) rfl rfl rfl ?_
 generalize L0.all (rowB P Q cl h ls j L)=b at *
 rcases l with⟨rfl,y6,y7,y8,y9,y10,l⟩|⟨rfl,l⟩
 · simp [b_law_layer_holds, it, l]
 · simp [b_law_layer_holds, it, l]
theorem KA{ok:Nat->Bool}{ps cl:List (Nat×Nat)}(h:∀p,p∈ps↔p∈cl)(left:List Nat):aX ok ps left=aX ok cl left:=by
 have e:gZ ok ps=gZ ok cl:=by
  funext ts p
  unfold gZ
  have:(λt:List Nat=>t.all λo=>!decide ((o,p)∈ps))=λt=>t.all λo=>!decide ((o,p)∈cl):=by
   funext t
   congr 1
   funext o
   rw[decide_eq_decide.mpr (h (o,p))]
  rw[this]
 unfold aX
 rw[e]
theorem KB{P:List Part}{Q:List Player}{ps cl:List (Nat×Nat)}(h0:∀p,p∈ps↔p∈cl)(h:List Int)(ls:List (List Int))(paper:List (List Row))(k:Nat):stepB P Q ps h ls paper k=(paper.getD k []).all (rowB P Q cl h ls k (paper.getD (k+1) [])):=by
 unfold stepB
 congr 1
 funext e
 unfold rowB
 rw[KA h0]
theorem KC(P:List Part)(ss:List Scene)(p:Nat×Nat):p∈((cI P.length).filter λp=>(aS P ss p.1 p.2).isSome)↔p∈clL P ss P.length:=by
 rw[DH,fE]
 constructor
 ·rintro⟨h1,h2⟩
  obtain⟨h3,h4⟩:=JX h1
  exact⟨h3,h4,h2⟩
 ·rintro⟨h1,h2,h3⟩
  exact⟨JW h1 h2,h3⟩
theorem KD(n:Nat)(L:List Row)(x0 x1 x2 x3 x4 x5 x6 x7 x8:Sl):compL (compF T (callF T dfs n) 1 [] (.one 0) wR (.con (.bl true)) [x0,x1,x2,x3,x4,x5,x6,x7,x8]) (L.map rowQ)=.ok ((L.map (·.1)).map tN):=by
 rw[cG rowQ (λe=>some (tN e.1)) (by
  intro e _
  unfold rowQ
  simp[compF,Tr.compEnv,wR]),eJ,bU]
 rfl
theorem D3(k:List Nat):∀l:List (List Nat),D.mem (tN k) (l.map tN)=decide (k∈l)
 |[]=>by rw[decide_eq_false (by simp)];rfl
 |a::r=>by
  have h:D.mem (tN k) ((a::r).map tN)=(D.eqb (tN a) (tN k)||D.mem (tN k) (r.map tN)):=by
   rw[aG]
   first|rfl|(unfold D.mem;rfl)
  rw[h,D3 k r,xF,kQ,eD,decide_eq_true_iff,decide_eq_true_iff,decide_eq_true_iff,aZ]
  exact⟨λz=>z.imp Eq.symm id,λz=>z.imp Eq.symm id⟩
theorem in_tN(k:List Nat)(l:List (List Nat)):D.cmp .In (tN k) (.lst (l.map tN))=.ok (.bl (decide (k∈l))):=by
 have hp:D.pls 30 (l.map tN)=true:=gW tN 29 (oA 28) l
 show((aB (D.pls 30 (l.map tN)&&D.pl 29 (tN k)) (Res.ok (D.mem (tN k) (l.map tN))))>>=λb=>Res.ok (D.bl b))=_
 rw[hp,oA 28,D3];rfl
theorem KE(n:Nat)(l:List (List Nat))(x0 x1 x2 x3 x4 x5 x7 x8:Sl):compL (compF T (callF T dfs n) 1 [6] (.one 0) rR rQ [x0,x1,x2,x3,x4,x5,.v (.lst (l.map tN)),x7,x8]) ((aA l.length).map natI)=.ok (((aA l.length).filter λk=>decide (l.getD k []∈l.take k)).map natI):=by
 rw[nR natI (λk=>decide (l.getD k []∈l.take k)) (by
  intro k hk
  have hk:=cO.mp hk
  have e1:D.ix (.lst (l.map tN)) (.int (k:Nat))=.ok (tN (l.getD k [])):=dF (by
   rw[bI,cZ,aH hk];rfl)
  have e2:D.sl (.lst (l.map tN)) none (some (k:Int))=.ok (.lst ((l.take k).map tN)):=by
   show Res.ok (D.lst (cut (l.map tN) none (some (k:Int))))=_
   have:cut (l.map tN) none (some (k:Int))=(l.take k).map tN:=by
    show((l.map tN).drop 0).take ((if(k:Int)<0 then((k:Int)+((l.map tN).length:Int)).toNat else min (k:Int).toNat (l.map tN).length)-0)=_
    rw[if_neg (by lia),mH,sV,aC,jQ,oN (by lia),sL]
   rw[this]
  have e3:=in_tN (l.getD k []) (l.take k)
  generalize (l.take k).map tN=tk at *
  generalize tN (l.getD k [])=kd at *
  by_cases q:l.getD k []∈l.take k
  ·rw[if_pos (decide_eq_true q)];rw[decide_eq_true q]at e3;simp[compF,Tr.compEnv,natI,rR,rQ,e1,e2,e3]
  ·rw[if_neg (by rw[decide_eq_false q];exact aK)];rw[decide_eq_false q]at e3;simp[compF,Tr.compEnv,natI,rR,rQ,e1,e2,e3])]
theorem KF(l:List (List Nat)):((aA l.length).filter λk=>decide (l.getD k []∈l.take k))=[]↔l.Nodup:=by
 rw[LM]
 constructor
 ·intro h
  refine kN.mpr λi j hi hj hij z=>?_
  have:=h j (cO.mpr hj)
  rw[decide_eq_true_iff,cZ,aH hj]at this
  refine this ?_
  show l[j]∈l.take j
  rw[<-z]
  refine LP.mpr ⟨i,by rw[lV];lia,by rw[Dm]⟩
 ·intro h k hk
  have hk:=cO.mp hk
  rw[decide_eq_true_iff,cZ,aH hk]
  intro z
  have z:l[k]∈l.take k:=z
  obtain⟨i,hi,e⟩:=LP.mp z
  rw[lV]at hi
  rw[Dm]at e
  exact kN.mp h i k (by lia) hk (by lia) e
theorem KG(l:List Nat):D.cmp .NotEq (.lst (l.map natI)) (.lst [])=.ok (.bl (!decide (l=[]))):=by
 have h:D.pl 30 (.lst (l.map natI))=true:=by rw[nQ];exact gW natI 29 (qN 29) l
 show aB (D.eqOk (.lst (l.map natI)) (.lst [])) (Res.ok (D.bl (!D.eqb (.lst (l.map natI)) (.lst []))))=_
 rw[show D.eqOk (.lst (l.map natI)) (.lst [])=true from by unfold D.eqOk;rw[h];rfl]
 cases l with
 |nil=>rfl
 |cons a r=>rw[decide_eq_false (by simp)];rfl
theorem D4(n:Nat)(x0 x1 x2 x3 x4 x7 x8:Sl):∀(Ls:List (List Row))(x5 x6:Sl),(∀L∈Ls,L.length<=900) ->
 (Ls.all onceB=true/\∃y5 y6,forL (bodyF T (callF T dfs n) (.one 5) lN) (Ls.map layQ) [x0,x1,x2,x3,x4,x5,x6,x7,x8]=.ok (.nx [x0,x1,x2,x3,x4,y5,y6,x7,x8])) \/
 (Ls.all onceB=false/\forL (bodyF T (callF T dfs n) (.one 5) lN) (Ls.map layQ) [x0,x1,x2,x3,x4,x5,x6,x7,x8]=.ok (.rt (.bl false) false))
 |[],x5,x6,_=>.inl ⟨rfl,x5,x6,rfl⟩
 |L::Ls,x5,x6,hL=>by
  have hb:=bC
  have hl:=hL L aY
  have c1:=KD n L x0 x1 x2 x3 x4 (.v (layQ L)) x6 x7 x8
  have c2:=KE n (L.map (·.1)) x0 x1 x2 x3 x4 (.v (layQ L)) x7 x8
  have ne:=KG ((aA (L.map (·.1)).length).filter λk=>decide ((L.map (·.1)).getD k []∈(L.map (·.1)).take k))
  have nd:=KF (L.map (·.1))
  rw[decide_eq_decide.mpr nd,show decide (L.map (·.1)).Nodup=onceB L from rfl]at ne
  have it:D.items (layQ L)=.ok (L.map rowQ):=rfl
  have l1:(L.map rowQ).length<=big:=by rw[aC];lia
  have l2:((aA (L.map (·.1)).length).map natI).length<=big:=by rw[aC,cY,aC];lia
  have ln:Bt.run .len [.lst ((L.map (·.1)).map tN)]=.ok (.int ((L.map (·.1)).length:Nat)):=by
   show Res.ok (D.int (((L.map (·.1)).map tN).length:Nat))=_
   rw[aC]
  have rg:=eO (n:=(L.map (·.1)).length) (by rw[aC];lia)
  rw[fG,aG]
  generalize ((aA (L.map (·.1)).length).filter λk=>decide ((L.map (·.1)).getD k []∈(L.map (·.1)).take k)).map natI=tw at *
  generalize (aA (L.map (·.1)).length).map natI=rr at *
  generalize (((L.map (·.1)).length:Nat):Int)=len at *
  generalize (L.map (·.1)).map tN=lf at *
  generalize L.map rowQ=lr at *
  generalize layQ L=lq at *
  cases ho:onceB L with
  |false=>
   rw[ho]at ne
   refine .inr ⟨rfl,gK ?_⟩
   simp[bodyF,lN,it,c1,c2,ne,l1,l2,ln,rg]
  |true=>
   rw[ho]at ne
   rw[eS]
   have body:bodyF T (callF T dfs n) (.one 5) lN lq [x0,x1,x2,x3,x4,x5,x6,x7,x8]=.ok (.nx [x0,x1,x2,x3,x4,.v lq,.v (.lst lf),x7,x8]):=by
    simp[bodyF,lN,it,c1,c2,ne,l1,l2,ln,rg]
   rw[bT body]
   exact D4 n x0 x1 x2 x3 x4 x7 x8 Ls _ _ λq hq=>hL q (bE _ hq)
theorem D5(n:Nat)(P:List Part)(Q:List Player)(X Y Z:D)(cl:List (Nat×Nat))(hv:∀p∈P,(signs p.voice).length=1)(h:List Int)(ls:List (List Int))(hh:h.length=Q.length)(hls:ls.length=Q.length)(hr:∀r∈ls,r.length=P.length)(paper:List (List Row))(hf:Fine P.length paper)(hl:paper.length=Q.length+1)(x4 x5 x6 x8:Sl):∀(m k:Nat)(x7:Sl),k+m=Q.length ->
 (((bX k m).all λk=>(paper.getD k []).all (rowB P Q cl h ls k (paper.getD (k+1) [])))=true/\∃y7,forL (bodyF T (callF T dfs (n+2)) (.one 7) lO) ((bX k m).map natI) [.v (.tup [.tup (P.map Part.enc),.tup (Q.map Player.enc),X,Y,Z]),.v (pricesD h ls),.v (.lst (cl.map pairD)),.v (paperD paper),x4,x5,x6,x7,x8] =
  .ok (.nx [.v (.tup [.tup (P.map Part.enc),.tup (Q.map Player.enc),X,Y,Z]),.v (pricesD h ls),.v (.lst (cl.map pairD)),.v (paperD paper),x4,x5,x6,y7,x8])) \/
 (((bX k m).all λk=>(paper.getD k []).all (rowB P Q cl h ls k (paper.getD (k+1) [])))=false/\forL (bodyF T (callF T dfs (n+2)) (.one 7) lO) ((bX k m).map natI) [.v (.tup [.tup (P.map Part.enc),.tup (Q.map Player.enc),X,Y,Z]),.v (pricesD h ls),.v (.lst (cl.map pairD)),.v (paperD paper),x4,x5,x6,x7,x8]=.ok (.rt (.bl false) false))
 |0,k,x7,hk=>.inl ⟨rfl,x7,rfl⟩
 |m+1,k,x7,hk=>by
  have hk2:k<ls.length:=by lia
  have hrow:(ls.getD k []).length=P.length:=by
   rw[cZ,aH hk2]
   exact hr _ (iU hk2)
  have a1:=kH (paper:=paper) (i:=k) (by lia)
  have a2:=kH (paper:=paper) (i:=k+1) (by lia)
  rw[show(((k+1:Nat)):Int)=(k:Int)+1 from rfl]at a2
  have m1:paper.getD k []∈paper:=jK (by lia)
  have m2:paper.getD (k+1) []∈paper:=jK (by lia)
  have q := layer_holds n P Q X Y Z cl hv h ls k (by lia) (by lia) hk2 hrow (paper.getD k []) (paper.getD (k + 1) []) (by have := hf.len _ m2; lia) (hf.key _ m1)
  rw[iV,aG,fG]
  have ih:=D5 n P Q X Y Z cl hv h ls hh hls hr paper hf hl x4 x5 x6 x8 m (k+1) (.v (.int (k:Int))) (by lia)
  have body:∀b,(paper.getD k []).all (rowB P Q cl h ls k (paper.getD (k+1) []))=b->bodyF T (callF T dfs (n+2)) (.one 7) lO (natI k) [.v (.tup [.tup (P.map Part.enc),.tup (Q.map Player.enc),X,Y,Z]),.v (pricesD h ls),.v (.lst (cl.map pairD)),.v (paperD paper),x4,x5,x6,x7,x8] =
   if b=true then .ok (.nx [.v (.tup [.tup (P.map Part.enc),.tup (Q.map Player.enc),X,Y,Z]),.v (pricesD h ls),.v (.lst (cl.map pairD)),.v (paperD paper),x4,x5,x6,.v (.int (k:Int)),x8])else .ok (.rt (.bl false) false):=by
   intro b hbq
   rw[hbq]at q
   clear ih hbq
   generalize layQ (paper.getD k [])=l0 at *
   generalize layQ (paper.getD (k+1) [])=l1 at *
   cases b with
   |true=>simp[bodyF,lO,natI,a1,a2,q]
   |false=>simp[bodyF,lO,natI,a1,a2,q]
  cases hs:(paper.getD k []).all (rowB P Q cl h ls k (paper.getD (k+1) []))with
  |false=>
   have body:=body false hs
   rw[if_neg aK]at body
   exact .inr ⟨rfl,gK body⟩
  |true=>
   have body:=body true hs
   rw[if_pos rfl]at body
   rw[eS,bT body]
   exact ih
theorem KH(n:Nat)(L:List Row)(x0 x1 x2 x3 x4 x5 x6 x7 x8:Sl):compL (compF T (callF T dfs n) 1 [] (.one 0) rT rS [x0,x1,x2,x3,x4,x5,x6,x7,x8]) (L.map rowQ)=.ok ((cT L).map D.int):=by
 rw[cG rowQ (λe=>if decide (e.1=[])=true then some (D.int e.2)else none) (by
  intro e _
  have e1:=rZ e.1
  unfold rowQ
  by_cases q:e.1=[]
  ·rw[decide_eq_true q]at e1;rw[if_pos (decide_eq_true q)];simp[compF,Tr.compEnv,rT,rS,e1]
  ·rw[decide_eq_false q]at e1;rw[if_neg (by rw[decide_eq_false q];exact aK)];simp[compF,Tr.compEnv,rT,rS,e1]),D0 L]
theorem KI{L:List Row}(h:onceB L=true):(cT L).length<=1:=by
 have h:=of_decide_eq_true h
 have e:(cT L).length=((L.map (·.1)).filter λk=>decide (k=[])).length:=by
  unfold cT
  rw[aC,List.filter_map,aC]
  rfl
 rw[e]
 have hn:=h.filter (λk=>decide (k=[]))
 have ha:∀x∈(L.map (·.1)).filter (λk=>decide (k=[])),x=[]:=λx hx=>of_decide_eq_true (fE.mp hx).2
 generalize (L.map (·.1)).filter (λk=>decide (k=[]))=l at *
 match l,hn,ha with
 |[],_,_=>exact fX _
 |[_],_,_=>exact aF _
 |a::b::r,hn,ha=>
  have h1:=ha a aY
  have h2:=ha b (bE _ aY)
  exact absurd (h1.trans h2.symm) (λz=>(dP.mp hn).1 (by rw[z];exact aY))
theorem KJ(n:Nat)(P:List Part)(Q:List Player)(Y Z:D)(ss:List Scene)(hv:∀p∈P,(signs p.voice).length=1)(h:List Int)(ls:List (List Int))(hP:P.length<=6)(hQ:Q.length<=6)(hh:h.length=Q.length)(hls:ls.length=Q.length)(hr:∀r∈ls,r.length=P.length)(paper:List (List Row))(hf:Fine P.length paper)(pr:Option Int) :
 callF T dfs (n+3) 41 [.tup [.tup (P.map Part.enc),.tup (Q.map Player.enc),.tup (ss.map Scene.enc),Y,Z],pricesD h ls,.lst ((clL P ss P.length).map pairD),paperD paper,fD pr]=.ok (.bl (oB P Q ((cI P.length).filter λp=>(aS P ss p.1 p.2).isSome) h ls paper pr)):=by
 have hb:=bC
 have ln:=jH (f:=Player.enc) (xs:=Q)
 have ln2:=jH (f:=Part.enc) (xs:=P)
 have tr:=xC (n:=P.length) (by lia)
 have l3:=xI paper
 have e1:=(xH (paper.getD 0 []) [(aA P.length,0)]).2
 rw[show layQ [(aA P.length,0)]=.lst [.tup [tN (aA P.length),.int 0]]from rfl]at e1
 have rg:=eO (n:=Q.length) (by lia)
 have it:D.items (paperD paper)=.ok (paper.map layQ):=rfl
 refine aO (k:=false) rfl rfl rfl ?_
 unfold oB lR
 by_cases q:paper.length=Q.length+1
 ·have e0:=kH (paper:=paper) (i:=0) (by lia)
  rw[show((0:Nat):Int)=0 from rfl]at e0
  have q2:(paper.length:Int)=(Q.length:Int)+1:=by lia
  rw[decide_eq_true q,eS]
  by_cases q3:paper.getD 0 []=[(aA P.length,0)]
  ·rw[decide_eq_true q3]at e1⊢
   rw[eS]
   have o:=D4 (n+2) (.v (.tup [.tup (P.map Part.enc),.tup (Q.map Player.enc),.tup (ss.map Scene.enc),Y,Z])) (.v (pricesD h ls)) (.v (.lst ((clL P ss P.length).map pairD))) (.v (paperD paper)) (.v (fD pr)) .no .no paper .no .no (λL hL=>by have:=hf.len L hL;lia)
   rcases o with⟨o1,y5,y6,o2⟩|⟨o1,o2⟩
   ·rw[o1,eS]
    have dl:=D5 n P Q (.tup (ss.map Scene.enc)) Y Z (clL P ss P.length) hv h ls hh hls hr paper hf q (.v (fD pr)) y5 y6 .no Q.length 0 .no (by lia)
    rw[<-iW]at dl
    have same:(aA Q.length).all (stepB P Q ((cI P.length).filter λp=>(aS P ss p.1 p.2).isSome) h ls paper)=(aA Q.length).all λk=>(paper.getD k []).all (rowB P Q (clL P ss P.length) h ls k (paper.getD (k+1) [])):=by
     exact congrArg (λg=>(aA Q.length).all g) (funext λk=>KB (KC P ss) h ls paper k)
    rw[same]
    clear same
    have hm:paper.getD Q.length []∈paper:=jK (by lia)
    have ho:=KI (fF.mp o1 _ hm)
    have lc:=λx5 x6 x7 x8=>KH (n+2) (paper.getD Q.length []) (.v (.tup [.tup (P.map Part.enc),.tup (Q.map Player.enc),.tup (ss.map Scene.enc),Y,Z])) (.v (pricesD h ls)) (.v (.lst ((clL P ss P.length).map pairD))) (.v (paperD paper)) (.v (fD pr)) x5 x6 x7 x8
    have li:D.ix (paperD paper) (.int (-1))=.ok (.lst ((paper.getD Q.length []).map rowQ)):=by
     have hne:paper.map layQ≠[]:=by
      intro z
      have:=congrArg oE z
      rw[aC,mC]at this
      lia
     have:=nZ (paper.map layQ).dropLast ((paper.map layQ).getLast hne)
     rw[sU]at this
     rw[show paperD paper=.lst (paper.map layQ)from rfl,this,LL]
     refine congrArg Res.ok ?_
     rw[yA]
     refine congrArg layQ ?_
     rw[cZ,aH (show Q.length<paper.length by lia)]
     simp[q]
    have l4:((paper.getD Q.length []).map rowQ).length<=big:=by have:=hf.len _ hm;rw[aC];lia
    have en:∀(b:Bool),(gN (paper.getD Q.length []) pr&&b)=(b&&gN (paper.getD Q.length []) pr):=λb=>Bool.and_comm _ _
    rw[en]
    clear en
    generalize ((aA Q.length).all λk=>(paper.getD k []).all (rowB P Q (clL P ss P.length) h ls k (paper.getD (k+1) [])))=b at *
    generalize layQ (paper.getD 0 [])=l0 at *
    generalize (paper.getD Q.length []).map rowQ=lr at *
    rcases dl with⟨rfl,y7,dl⟩|⟨rfl,dl⟩
    ·rw[eS]
     have n1:=xK (cT (paper.getD Q.length []))
     match he:cT (paper.getD Q.length []),ho with
     |[],_=>
      rw[he]at lc n1
      rw[decide_eq_true rfl]at n1
      have eb:gN (paper.getD Q.length []) pr=true:=by
       unfold gN
       rw[he]
       cases pr<;>rfl
      rw[eb]
      rw[lX]at lc n1
      simp[b_law_due,ln,ln2,tr,l3,e0,e1,rg,it,q2,o2,dl,lc,li,l4,n1]
     |[w],_=>
      rw[he]at lc n1
      rw[decide_eq_false (by simp)]at n1
      rw[xZ]at lc n1
      have i0:D.ix (.lst [.int w]) (.int 0)=.ok (.int w):=dF (i:=0) rfl
      cases pr with
      |none=>
       have eb:gN (paper.getD Q.length []) none=false:=by unfold gN;rw[he];rfl
       rw[eb]
       rw[show fD none=.non from rfl]at *
       simp[b_law_due,ln,ln2,tr,l3,e0,e1,rg,it,q2,o2,dl,lc,li,l4,n1]
      |some p=>
       have eb:gN (paper.getD Q.length []) (some p)=decide (p<=w):=by unfold gN;rw[he];simp
       rw[eb]
       rw[show fD (some p)=.int p from rfl]at *
       simp[b_law_due,ln,ln2,tr,l3,e0,e1,rg,it,q2,o2,dl,lc,li,l4,n1,i0]
    ·rw[hZ]
     simp[b_law_due,ln,ln2,tr,l3,e0,e1,rg,it,q2,o2,dl]
   ·rw[o1,hZ]
    generalize layQ (paper.getD 0 [])=l0 at *
    simp[b_law_due,ln,ln2,tr,l3,e0,e1,it,q2,o2]
  ·rw[decide_eq_false q3]at e1⊢
   rw[hZ,hZ]
   generalize layQ (paper.getD 0 [])=l0 at *
   simp[b_law_due,ln,ln2,tr,l3,e0,e1,q2]
 ·have q2:¬(paper.length:Int)=(Q.length:Int)+1:=by lia
  rw[decide_eq_false q,hZ,hZ,hZ]
  simp[b_law_due,ln,l3,q2]
theorem KL{n a:Nat}(h:a<n)(hn:n<1000):jY n (.int (a:Int))=.ok a:=by
 show aB (bV (a:Int)) (Res.of (ixN n (a:Int)))=_
 unfold ixN bV
 rw[cJ (by simp;lia),if_pos (by lia),if_pos (by lia)];rfl
theorem sF(a:Int){b:Nat}(h:0<b):∃k:Nat,k<b/\D.bin .Mod (.int a) (.int (b:Int))=.ok (.int (k:Int)):=by
 have hz:(0:Int)<(b:Int):=by lia
 have h1:=Int.emod_nonneg a (Int.ne_of_gt hz)
 have h2:=Int.emod_lt_of_pos a hz
 refine⟨(a%(b:Int)).toNat,by lia,?_⟩
 rw[vJ hz,Kz h1]
theorem KM(L:List Row):D.cmp .Eq (.lst (L.map rowQ)) (.lst [])=.ok (.bl (decide (L=[]))):=(xH L []).1
theorem KN{L:List Row}{k:Nat}(h:k<L.length):D.ix (.lst (L.map rowQ)) (.int (k:Nat))=.ok (.tup [tN (L.getD k ([],0)).1,.int (L.getD k ([],0)).2]):=dF (by
 rw[bI,cZ,aH h];rfl)
theorem KO(n:Nat)(paper:List (List Row))(e:Nv):compL (compF T (callF T dfs n) 1 [] (.one 0) wU (.con (.bl true)) e) (paper.map layQ)=.ok (paper.map layQ):=by
 rw[cG layQ (λL=>some (layQ L)) (by
  intro L _
  have b:Bt.run .list [layQ L]=.ok (layQ L):=rfl
  simp[compF,Tr.compEnv,wU,b]),eJ]
noncomputable def lS(N:Int)(m:Nat):List Nat:=(aA m).filter λp=>decide (N/420/(([1,2,4,8]:List Int).getD p 1)%2=1)
theorem KP(n:Nat)(N:Int)(m:Nat)(hm:m<=4)(x0 x2 x3 x4 x5 x6 x7 x8 x9:Sl):compL (compF T (callF T dfs n) 1 [1] (.one 0) rW rV [x0,.v (.int N),x2,x3,x4,x5,x6,x7,x8,x9]) ((aA m).map natI)=.ok ((lS N m).map natI):=by
 unfold lS
 rw[nR natI (λp=>decide (N/420/(([1,2,4,8]:List Int).getD p 1)%2=1)) (by
  intro p hp
  have hp:=cO.mp hp
  have i0:∀(k:Nat)(w:Int),([1,2,4,8]:List Int)[k]?=some w->D.ix (.lst [.int 1,.int 2,.int 4,.int 8]) (.int (k:Nat))=.ok (.int w):=λk w hk=>dF (by
   rw[show [D.int 1,.int 2,.int 4,.int 8]=([1,2,4,8]:List Int).map D.int from rfl,bI,hk];rfl)
  have fd:∀w:Int,0<w/\w<1073741824->D.bin .FloorDiv (.int (N/420)) (.int w)=.ok (.int (N/420/w)):=λw hw=>CN hw
  obtain⟨w,hw,hb⟩:∃w,([1,2,4,8]:List Int)[p]?=some w/\0<w/\w<1073741824:=by
   match p,hp with
   |0,_=>exact⟨1,rfl,by lia,by lia⟩
   |1,_=>exact⟨2,rfl,by lia,by lia⟩
   |2,_=>exact⟨4,rfl,by lia,by lia⟩
   |3,_=>exact⟨8,rfl,by lia,by lia⟩
   |k+4,hk=>lia
  have e1:=i0 p w hw
  have e2:=fd w hb
  rw[cZ,hw]
  show _=Res.ok (if decide (N/420/w%2=1)=true then some (natI p)else none)
  generalize N/420/w=z at *
  by_cases q:z%2=1
  ·rw[if_pos (decide_eq_true q)];simp[compF,Tr.compEnv,natI,rW,rV,e1,e2,q]
  ·rw[if_neg (by rw[decide_eq_false q];exact aK)];simp[compF,Tr.compEnv,natI,rW,rV,e1,e2,q])]
theorem cutTo3{α:Type}(l:List α)(k:Nat)(h:k<=l.length):cut l none (some (k:Int))=l.take k:=by
 show(l.drop 0).take ((if(k:Int)<0 then((k:Int)+(l.length:Int)).toNat else min (k:Int).toNat l.length)-0)=_
 rw[if_neg (by lia),mH,jQ,oN h,sL]
theorem cutFr3{α:Type}(l:List α)(k:Nat)(h:k<=l.length):cut l (some (k:Int)) none=l.drop k:=by
 show(l.drop (if(k:Int)<0 then((k:Int)+(l.length:Int)).toNat else min (k:Int).toNat l.length)).take (l.length-(if(k:Int)<0 then((k:Int)+(l.length:Int)).toNat else min (k:Int).toNat l.length))=_
 rw[if_neg (by lia),jQ,oN h,oJ (by rw[oG];lia)]
theorem KQ{α:Type}(l:List α):cut l none (some (-1))=l.dropLast:=by
 show(l.drop 0).take ((if(-1:Int)<0 then(-1+(l.length:Int)).toNat else min (-1:Int).toNat l.length)-0)=_
 rw[if_pos (by lia),mH,LB]
 congr 1
 lia
noncomputable def jL(m:Nat)(e:Row):Prop:=keyTab.contains e.1=true/\e.1.length<=8/\∀p∈e.1,p<m
structure Fair(m:Nat)(paper:List (List Row)):Prop where
 row:∀L∈paper,∀e∈L,jL m e
 len:∀L∈paper,L.length<=64
 many:paper.length<=20
theorem Fair.fine{m:Nat}{paper:List (List Row)}(h:Fair m paper):Fine m paper:=⟨λL hL e he=>(h.row L hL e he).1,λL hL=>aW (h.len L hL) (by lia),λL hL e he=>(h.row L hL e he).2,aW h.many (by lia)⟩
theorem othOk3(N:Int){m:Nat}(hm:m<=4)(c:Int):jL m (lS N m,c):=by
 refine⟨fF.mp (DK m (by lia)) _ (sD _ _),?_,λp hp=>cO.mp (fE.mp hp).1⟩
 have:=iX (λp=>decide (N/420/(([1,2,4,8]:List Int).getD p 1)%2=1)) (aA m)
 rw[cY]at this
 exact aW this (by lia)
theorem KR{m:Nat}{paper:List (List Row)}(h:Fair m paper)(a:Nat){L:List Row}(hl:L.length<=72)(hr:∀e∈L,jL m e):Fine m (paper.take a++[L]++paper.drop (a+1)):=by
 have mem:∀M∈paper.take a++[L]++paper.drop (a+1),M∈paper\/M=L:=λM hM=>by
  rcases cU.mp hM with hM|hM
  ·rcases cU.mp hM with hM|hM
   ·exact .inl (sQ hM)
   ·exact .inr (bJ.mp hM)
  ·exact .inl (sO hM)
 have row:∀M∈paper.take a++[L]++paper.drop (a+1),∀e∈M,jL m e:=λM hM e he=>by
  rcases mem M hM with z|z
  ·exact h.row M z e he
  ·rw[z]at he;exact hr e he
 refine⟨λM hM e he=>(row M hM e he).1,λM hM=>?_,λM hM e he=>(row M hM e he).2,?_⟩
 ·rcases mem M hM with z|z
  ·exact aW (h.len M z) (by lia)
  ·rw[z];exact hl
 ·have:=h.many
  rw[bL,bL,fV,lV,oG];lia
theorem KS(paper:List (List Row))(k:Nat)(h:k<=paper.length):D.sl (paperD paper) none (some (k:Int))=.ok (.lst ((paper.take k).map layQ)):=by
 show Res.ok (D.lst (cut (paper.map layQ) none (some (k:Int))))=_
 rw[cutTo3 _ k (by rw[aC];exact h),sV]
theorem D6(paper:List (List Row))(k:Nat)(h:k<=paper.length):D.sl (paperD paper) (some (k:Int)) none=.ok (.lst ((paper.drop k).map layQ)):=by
 show Res.ok (D.lst (cut (paper.map layQ) (some (k:Int)) none))=_
 rw[cutFr3 _ k (by rw[aC];exact h),Dt]
theorem xO{a b:List D}(h:a.length+b.length<=1000):D.bin .Add (.lst a) (.lst b)=.ok (.lst (a++b)):=by
 have hb:=bC
 show aB (decide (a.length+b.length<=big)) _=_
 rw[cJ (decide_eq_true (by lia))]
noncomputable def tl1:S->S
 |.cons _ r=>r
 |s=>s
noncomputable def hdS:S->S
 |.cons a _=>a
 |s=>s
noncomputable def spT:S:=tl1 (tl1 (tl1 (tl1 (tl1 (tl1 (tl1 b_law_spoiled))))))
noncomputable def spZ:S:=tl1 (tl1 (tl1 (tl1 (tl1 spT))))
theorem sp_all:b_law_spoiled=.cons (hdS b_law_spoiled) (.cons (hdS (tl1 b_law_spoiled)) (.cons (hdS (tl1 (tl1 b_law_spoiled))) (.cons (hdS (tl1 (tl1 (tl1 b_law_spoiled)))) (.cons (hdS (tl1 (tl1 (tl1 (tl1 b_law_spoiled))))) (.cons (hdS (tl1 (tl1 (tl1 (tl1 (tl1 b_law_spoiled)))))) (.cons (hdS (tl1 (tl1 (tl1 (tl1 (tl1 (tl1 b_law_spoiled))))))) spT)))))):=rfl
noncomputable def hU:S->S
 |.ite _ a _=>a
 |s=>s
theorem cX{cf:Nat->List D->Res D}{e:Nv}{w k:Int}{a r:S}(h:e.at 3=.v (.int w))(hk:¬w=k):exS T cf (.cons (.ite (.cmp .Eq (.var 3) (.con (.int k))) a .nil) r) e=exS T cf r e:=by simp[h,hk]
theorem oC{cf:Nat->List D->Res D}{e:Nv}{k:Int}{a r:S}{o:Out}(h:e.at 3=.v (.int k))(ha:exS T cf a e=.ok o):exS T cf (.cons (.ite (.cmp .Eq (.var 3) (.con (.int k))) a .nil) r) e=qJ T cf r o:=by simp[h,ha]
abbrev spE(A:D)(N m w a:Int)(lr:List D)(k:Int)(ed:D)(p:Int)(od:D):Nv:=[.v A,.v (.int N),.v (.int m),.v (.int w),.v (.int a),.o (.lst lr),.v (.int k),.v ed,.v (.int p),.v od]
theorem KU(n:Nat)(N:Int)(m:Nat)(hm:m<=4)(paper:List (List Row))(hf:Fair m paper)(h0:0<paper.length):∃paper',Fine m paper'/\callF T dfs (n+1) 42 [paperD paper,.int N,.int (m:Int)]=.ok (paperD paper'):=by
 have hb:=bC
 have hpl:=hf.many
 obtain⟨a,ha,e1⟩:=sF (N/6) h0
 have el:=xI paper
 have e2:=kH ha
 have mL:paper.getD a []∈paper:=jK ha
 generalize hL:paper.getD a []=L at *
 have hll:=hf.len L mL
 have hrow:=hf.row L mL
 have bl:Bt.run .list [layQ L]=.ok (.lst (L.map rowQ)):=rfl
 have rn:=KM L
 have it:D.items (paperD paper)=.ok (paper.map layQ):=rfl
 have cc:=λe=>KO n paper e
 have lp:(paper.map layQ).length<=big:=by rw[aC];lia
 have fin:∀L':List Row,L'.length<=72->(∀e∈L',jL m e)->Fine m (paper.take a++[L']++paper.drop (a+1)):=λL' h1 h2=>KR hf a h1 h2
 by_cases c0:N%6=0\/L=[]
 ·refine⟨paper,hf.fine,aO (k:=true) rfl rfl rfl ?_⟩
  unfold paperD at *
  generalize paper.map layQ=A at *
  by_cases q1:N%6=0
  ·simp[b_law_spoiled,el,e1,e2,bl,it,cc,lp,q1]
  ·rw[decide_eq_true (c0.resolve_left q1)]at rn
   dsimp only[b_law_spoiled]
   simp[el,e1,e2,bl,it,cc,lp,q1,rn]
 ·obtain⟨w0,q0⟩:=not_or.mp c0
  rw[decide_eq_false q0]at rn
  have hl0:0<L.length:=List.length_pos_iff.mpr q0
  obtain⟨k,hk,e3⟩:=sF (N/42) hl0
  have ll:Bt.run .len [.lst (L.map rowQ)]=.ok (.int (L.length:Nat)):=by
   show Res.ok (D.int ((L.map rowQ).length:Nat))=_
   rw[aC]
  have e4:=KN hk
  have hk':jL m (L.getD k ([],0)):=hrow _ (jK hk)
  have rg:=eO (n:=m) (by lia)
  have co:=λx0 x2 x3 x4 x5 x6 x7 x8 x9=>KP n N m hm x0 x2 x3 x4 x5 x6 x7 x8 x9
  have lo:((aA m).map natI).length<=big:=by rw[aC,cY];lia
  have tb:Bt.run .tuple [.lst ((lS N m).map natI)]=.ok (tN (lS N m)):=rfl
  have px:=KL (n:=(L.map rowQ).length) (a:=k) (by rw[aC];exact hk) (by rw[aC];lia)
  have s1:=KS paper a (by lia)
  have s2:=D6 paper (a+1) (by lia)
  rw[show(((a+1:Nat)):Int)=(a:Int)+1 from rfl]at s2
  have ad:∀L':List Row,D.bin .Add (.lst ((paper.take a).map layQ)) (.lst [.lst (L'.map rowQ)])=.ok (.lst ((paper.take a++[L']).map layQ)):=λL'=>by
   rw[xO (by simp;lia),cE];rfl
  have ad2:∀L':List Row,D.bin .Add (.lst ((paper.take a++[L']).map layQ)) (.lst ((paper.drop (a+1)).map layQ))=.ok (paperD (paper.take a++[L']++paper.drop (a+1))):=λL'=>by
   unfold paperD
   rw[xO (by simp;lia),cE (l₁:=paper.take a++[L'])]
  have oo:=λc=>othOk3 N hm c
  generalize hoth:lS N m=oth at co tb oo
  generalize hee:L.getD k ([],0)=e at e4 hk'
  have put:∀e':Row,jL m e'->Fine m (paper.take a++[L.set k e']++paper.drop (a+1)):=λe' he'=>fin _ (by rw[dI];lia) λx hx=>by
   rcases List.mem_or_eq_of_mem_set hx with z|z
   ·exact hrow x z
   ·rw[z];exact he'
  have sm:∀e':Row,(L.map rowQ).set k (.tup [tN e'.1,.int e'.2])=(L.set k e').map rowQ:=λe'=>by rw[List.map_set];rfl
  have pre:∀d q,exS T (callF T dfs n) spT (spE (paperD paper) N m (N%6) a (L.map rowQ) k (tN e.1) e.2 (tN oth))=.ok (.rt d q)->callF T dfs (n+1) 42 [paperD paper,.int N,.int (m:Int)]=.ok d:=by
   intro d q h
   refine aO (k:=q) rfl rfl (by cases q<;>rfl) ?_
   show exS T _ b_law_spoiled _=_
   rw[sp_all]
   clear ad ad2 cc it lp fin s1 s2
   generalize spT=R at h⊢
   generalize L.map rowQ=lr at bl rn ll e4 h
   generalize (aA m).map natI=rm at rg co lo
   dsimp only[hdS,tl1,b_law_spoiled,spE]at h⊢
   simp[el,e1,e2,bl,rn,ll,e3,e4,rg,co,lo,tb,w0,h]
  obtain⟨R,hR⟩:∃R:List Row->D,∀L',R L'=paperD (paper.take a++[L']++paper.drop (a+1)):=⟨_,λ_=>rfl⟩
  have last:∀L':List Row,exS T (callF T dfs n) spZ (spE (paperD paper) N m (N%6) a (L'.map rowQ) k (tN e.1) e.2 (tN oth))=.ok (.rt (R L') true):=λL'=>by
   have ad1:=ad L'
   have ad3:=ad2 L'
   rw[<-hR]at ad3
   have tl:jX (R L')=false:=by rw[hR];rfl
   generalize (paper.take a++[L']).map layQ=R1 at ad1 ad3
   generalize (paper.take a).map layQ=R3 at s1 ad1
   generalize (paper.drop (a+1)).map layQ=R4 at s2 ad3
   dsimp only[spZ,spT,tl1,b_law_spoiled,spE]
   simp[s1,s2,ad1,ad3,tl]
  clear ad ad2 cc it lp s1 s2 el e1 e2 e3 e4
  generalize callF T dfs n=cf at last pre
  rcases(by lia:N%6=1\/N%6=2\/N%6=3\/N%6=4\/N%6=5)with w|w|w|w|w<;>rw[w]at pre last
  ·have mx:∀z:Int,Bt.run .max [.int 0,.int z]=.ok (.int (if z>0 then z else 0)):=λ_=>rfl
   have z:=last (L.set k (e.1,if 2<e.2+N/420%5 then e.2+N/420%5-2 else 0))
   refine⟨_,put (e.1,if 2<e.2+N/420%5 then e.2+N/420%5-2 else 0) hk',(pre _ true ?_).trans (congrArg _ (hR _))⟩
   rw[<-sm]at z
   have y:exS T cf (hU (hdS (spT))) (spE (paperD paper) N m 1 a (L.map rowQ) k (tN e.1) e.2 (tN oth))=.ok (.nx (spE (paperD paper) N m 1 a ((L.map rowQ).set k (.tup [tN e.1,.int (if 2<e.2+N/420%5 then e.2+N/420%5-2 else 0)])) k (tN e.1) e.2 (tN oth))):=by
    generalize L.map rowQ=lr at px⊢
    dsimp only[hU,hdS,tl1,spT,b_law_spoiled,spE]
    simp[mx,px]
   refine Eq.trans (oC rfl y) ?_
   refine Eq.trans (cX (k:=2) rfl (by decide)) ?_
   refine Eq.trans (cX (k:=3) rfl (by decide)) ?_
   refine Eq.trans (cX (k:=4) rfl (by decide)) ?_
   refine Eq.trans (cX (k:=5) rfl (by decide)) ?_
   exact z
  ·have hg:(L.map rowQ)[k]?=some (rowQ e):=by rw[<-hee,bI,cZ,aH hk];rfl
   have sm1:(L.eraseIdx k).map rowQ=(L.map rowQ).eraseIdx k:=by rw[Dr,Dr,cE,sV,Dt]
   have z:=last (L.eraseIdx k)
   refine⟨_,fin (L.eraseIdx k) (by rw[List.length_eraseIdx];split<;>lia) (λx hx=>hrow x (List.mem_of_mem_eraseIdx hx)),(pre _ true ?_).trans (congrArg _ (hR _))⟩
   rw[sm1]at z
   have px2:jZ (L.map rowQ).length (.var 6) (.int (k:Int))=.ok k:=px
   have y:exS T cf (hU (hdS (tl1 (spT)))) (spE (paperD paper) N m 2 a (L.map rowQ) k (tN e.1) e.2 (tN oth))=.ok (.nx (spE (paperD paper) N m 2 a ((L.map rowQ).eraseIdx k) k (tN e.1) e.2 (tN oth))):=by
    generalize L.map rowQ=lr at px2 hg⊢
    dsimp only[hU,hdS,tl1,spT,b_law_spoiled,spE]
    simp[px2,hg,Res.of]
   refine Eq.trans (cX (k:=1) rfl (by decide)) ?_
   refine Eq.trans (oC rfl y) ?_
   refine Eq.trans (cX (k:=3) rfl (by decide)) ?_
   refine Eq.trans (cX (k:=4) rfl (by decide)) ?_
   refine Eq.trans (cX (k:=5) rfl (by decide)) ?_
   exact z
  ·obtain⟨i3,hi3,m3⟩:=sF (N/6720) (b:=3) (by lia)
   rw[show((3:Nat):Int)=3 from rfl,vJ (by lia)]at m3
   injection m3 with m3
   injection m3 with m3
   have app:∀e':Row,jL m e'->D.ix (.lst [.tup [tN e.1,.int e.2],.tup [tN e.1,.int (e.2+1)],.tup [tN oth,.int e.2]]) (.int (i3:Int))=.ok (.tup [tN e'.1,.int e'.2])->∃paper',Fine m paper'/\callF T dfs (n+1) 42 [paperD paper,.int N,.int (m:Int)]=.ok (paperD paper'):=by
    intro e' he' hix
    have z:=last (L++[e'])
    refine⟨_,fin (L++[e']) (by rw[bL,fV];lia) (λx hx=>by
     rcases cU.mp hx with z|z
     ·exact hrow x z
     ·rw[bJ.mp z];exact he'),(pre _ true ?_).trans (congrArg _ (hR _))⟩
    rw[show(L++[e']).map rowQ=L.map rowQ++[.tup [tN e'.1,.int e'.2]] by rw[cE];rfl]at z
    have lb:(L.map rowQ).length<big:=by rw[aC];lia
    have y:exS T cf (hU (hdS (tl1 (tl1 (spT))))) (spE (paperD paper) N m 3 a (L.map rowQ) k (tN e.1) e.2 (tN oth))=.ok (.nx (spE (paperD paper) N m 3 a (L.map rowQ++[.tup [tN e'.1,.int e'.2]]) k (tN e.1) e.2 (tN oth))):=by
     generalize L.map rowQ=lr at lb⊢
     dsimp only[hU,hdS,tl1,spT,b_law_spoiled,spE]
     simp[m3,hix,lb]
    refine Eq.trans (cX (k:=1) rfl (by decide)) ?_
    refine Eq.trans (cX (k:=2) rfl (by decide)) ?_
    refine Eq.trans (oC rfl y) ?_
    refine Eq.trans (cX (k:=4) rfl (by decide)) ?_
    refine Eq.trans (cX (k:=5) rfl (by decide)) ?_
    exact z
   match i3,hi3 with
   |0,_=>exact app (e.1,e.2) hk' (dF (i:=0) rfl)
   |1,_=>exact app (e.1,e.2+1) hk' (dF (i:=1) rfl)
   |2,_=>exact app (oth,e.2) (oo e.2) (dF (i:=2) rfl)
   |j+3,hj=>lia
  ·have z:=last (L.set k (oth,e.2))
   refine⟨_,put (oth,e.2) (oo e.2),(pre _ true ?_).trans (congrArg _ (hR _))⟩
   rw[<-sm]at z
   have y:exS T cf (hU (hdS (tl1 (tl1 (tl1 (spT)))))) (spE (paperD paper) N m 4 a (L.map rowQ) k (tN e.1) e.2 (tN oth))=.ok (.nx (spE (paperD paper) N m 4 a ((L.map rowQ).set k (.tup [tN oth,.int e.2])) k (tN e.1) e.2 (tN oth))):=by
    generalize L.map rowQ=lr at px⊢
    dsimp only[hU,hdS,tl1,spT,b_law_spoiled,spE]
    simp[px]
   refine Eq.trans (cX (k:=1) rfl (by decide)) ?_
   refine Eq.trans (cX (k:=2) rfl (by decide)) ?_
   refine Eq.trans (cX (k:=3) rfl (by decide)) ?_
   refine Eq.trans (oC rfl y) ?_
   refine Eq.trans (cX (k:=5) rfl (by decide)) ?_
   exact z
  ·obtain⟨i3,hi3,m3⟩:=sF (N/420) (b:=3) (by lia)
   rw[show((3:Nat):Int)=3 from rfl,vJ (by lia)]at m3
   injection m3 with m3
   injection m3 with m3
   have hne:paper≠[]:=λz=>by rw[z]at h0;cases h0
   have f1:∀p':List (List Row),(∀M∈p',M∈paper)->p'.length<=21->Fine m p':=λp' hp hl=>⟨λM hM e he=>(hf.row M (hp M hM) e he).1,λM hM=>aW (hf.len M (hp M hM)) (by lia),λM hM e he=>(hf.row M (hp M hM) e he).2,by lia⟩
   have g1:D.sl (paperD paper) none (some (-1))=.ok (paperD paper.dropLast):=by
    show Res.ok (D.lst (cut (paper.map layQ) none (some (-1))))=_
    rw[KQ,<-List.map_dropLast];rfl
   have g2:D.ix (paperD paper) (.int (-1))=.ok (layQ (paper.getLast hne)):=by
    have hne2:paper.map layQ≠[]:=by simpa using hne
    have:=nZ (paper.map layQ).dropLast ((paper.map layQ).getLast hne2)
    rw[sU]at this
    rw[show paperD paper=.lst (paper.map layQ)from rfl,this,List.getLast_map]
   have g3:D.bin .Add (paperD paper) (.lst [layQ (paper.getLast hne)])=.ok (paperD (paper++[paper.getLast hne])):=by
    unfold paperD
    rw[xO (by simp;lia),cE];rfl
   have g4:D.sl (paperD paper) (some 1) none=.ok (paperD (paper.drop 1)):=D6 paper 1 (by lia)
   have done_:∀p':List (List Row),Fine m p'->D.ix (.lst [paperD paper.dropLast,paperD (paper++[paper.getLast hne]),paperD (paper.drop 1)]) (.int (i3:Int))=.ok (paperD p')->∃paper',Fine m paper'/\callF T dfs (n+1) 42 [paperD paper,.int N,.int (m:Int)]=.ok (paperD paper'):=by
    intro p' hp' hix
    refine⟨p',hp',pre _ false ?_⟩
    clear last fin put hf hrow
    have y:exS T cf (hU (hdS (tl1 (tl1 (tl1 (tl1 spT)))))) (spE (paperD paper) N m 5 a (L.map rowQ) k (tN e.1) e.2 (tN oth))=.ok (.rt (paperD p') false):=by
     generalize paperD p'=R at hix⊢
     generalize paperD (paper++[paper.getLast hne])=R1 at g3 hix
     generalize paperD (paper.drop 1)=R2 at g4 hix
     generalize paperD paper.dropLast=R3 at g1 hix
     dsimp only[hU,hdS,tl1,spT,b_law_spoiled,spE]
     simp[m3,g1,g2,g3,g4,hix]
    refine Eq.trans (cX (k:=1) rfl (by decide)) ?_
    refine Eq.trans (cX (k:=2) rfl (by decide)) ?_
    refine Eq.trans (cX (k:=3) rfl (by decide)) ?_
    refine Eq.trans (cX (k:=4) rfl (by decide)) ?_
    exact oC rfl y
   match i3,hi3 with
   |0,_=>exact done_ paper.dropLast (f1 _ (λM hM=>List.dropLast_subset _ hM) (by rw[Ka];lia)) (dF (i:=0) rfl)
   |1,_=>exact done_ (paper++[paper.getLast hne]) (f1 _ (λM hM=>by
    rcases cU.mp hM with z|z
    ·exact z
    ·rw[bJ.mp z];exact List.getLast_mem hne) (by rw[bL,fV];lia)) (dF (i:=1) rfl)
   |2,_=>exact done_ (paper.drop 1) (f1 _ (λM hM=>sO hM) (by rw[oG];lia)) (dF (i:=2) rfl)
   |j+3,hj=>lia
noncomputable def lT(C:Cst)(q:Nat):List (List Row):=(aA (q+1)).map λi=>(aP C i).map λe=>(e.1,e.2.1)
theorem KW(C:Cst)(q:Nat):D.lst ((aA (q+1)).map λi=>jJ (aP C i))=paperD (lT C q):=by
 unfold paperD lT
 rw[bU]
 refine congrArg D.lst (gP λi _=>?_)
 show jJ (aP C i)=layQ ((aP C i).map λe=>(e.1,e.2.1))
 unfold jJ layQ
 rw[bU];rfl
theorem KY(C:Cst){q:Nat}(hq:q<=6)(hm:C.many<=4):Fair C.many (lT C q):=by
 refine⟨λL hL e he=>?_,λL hL=>?_,?_⟩
 ·obtain⟨i,_,rfl⟩:=bG.mp hL
  obtain⟨e',he',rfl⟩:=bG.mp he
  obtain⟨t1,_⟩:=DP C (by lia) i
  obtain⟨_,k1,k2⟩:=DE he'
  exact⟨t1 e'.1 (bG.mpr ⟨e',he',rfl⟩),aW k1 (by lia),k2⟩
 ·obtain⟨i,_,rfl⟩:=bG.mp hL
  rw[aC];exact(DP C (by lia) i).2
 ·unfold lT;rw[aC,cY];lia
theorem KZ(n:Nat)(paper:List (List Row))(e:Nv):compL (compF T (callF T dfs n) 1 [] (.one 0) wV (.con (.bl true)) e) (paper.map layQ)=.ok (paper.map layQ):=by
 rw[cG layQ (λL=>some (layQ L)) (by
  intro L _
  have b:Bt.run .list [layQ L]=.ok (layQ L):=rfl
  simp[compF,Tr.compEnv,wV,b]),eJ]
theorem K0(paper:List (List Row)):D.cmp .Eq (.lst (paper.map layQ)) (.lst (paper.map layQ))=.ok (.bl true):=JE (by rw[nQ];exact gW layQ 29 (xG 26) paper)
noncomputable def lwT:S:=tl1 (tl1 (tl1 (tl1 (tl1 (tl1 (tl1 (tl1 b_law)))))))
theorem lw_all:b_law=.cons (hdS b_law) (.cons (hdS (tl1 b_law)) (.cons (hdS (tl1 (tl1 b_law))) (.cons (hdS (tl1 (tl1 (tl1 b_law)))) (.cons (hdS (tl1 (tl1 (tl1 (tl1 b_law))))) (.cons (hdS (tl1 (tl1 (tl1 (tl1 (tl1 b_law)))))) (.cons (hdS (tl1 (tl1 (tl1 (tl1 (tl1 (tl1 b_law))))))) (.cons (hdS (tl1 (tl1 (tl1 (tl1 (tl1 (tl1 (tl1 b_law)))))))) lwT))))))):=rfl
theorem K1(ns:List Int)(hn:ns.length<=63):callF T dfs 40 43 [.lst (ns.map D.int)]=.ok (.bl true):=by
 have hb:=bC
 have e1:=lP 38 ns 0
 rw[show((0:Nat):Int)=0 from rfl]at e1
 have e4:=lP 38 ns 4
 rw[show((4:Nat):Int)=4 from rfl]at e4
 have e5:=lP 38 ns 5
 rw[show((5:Nat):Int)=5 from rfl]at e5
 have e6:=nX 38 (eW ns 5) 6 ⟨by lia,by lia⟩
 obtain⟨many,hm⟩:∃many:Nat,eW ns 0%5=many:=⟨(eW ns 0%5).toNat,by lia⟩
 obtain⟨pls,hp⟩:∃pls:Nat,eW ns 0/5%4=pls:=⟨(eW ns 0/5%4).toNat,by lia⟩
 have hm4:many<=4:=by lia
 have hp3:pls<=3:=by lia
 obtain⟨P,Q,ss,ls,hP,hv,hQ,hss,good,gl,e2⟩:=Ji 36 ns many pls (by lia) (by lia)
 have g:∀s∈ss,0<=s.len/\0<=s.pause:=λs hs=>⟨(good s hs).len,(good s hs).pause⟩
 have e3:=prices_of 36 (.tup (ss.map Scene.enc)) P Q ls (by lia) (by lia)
 subst hP
 subst hQ
 have hh:(Q.map Player.hire).length=Q.length:=aC ..
 have hls:((aA Q.length).map λi=>(aA P.length).map (fC ls i)).length=Q.length:=by rw[aC,cY]
 have hr:∀r∈(aA Q.length).map λi=>(aA P.length).map (fC ls i),r.length=P.length:=λr hr=>by
  obtain⟨p,_,rfl⟩:=bG.mp hr
  rw[aC,cY]
 rw[show fB (.tup (ss.map Scene.enc)) P Q ls=.tup [.tup (P.map Part.enc),.tup (Q.map Player.enc),.tup (ss.map Scene.enc),.tup (ls.map cA),.tup []]from rfl]at e2 e3
 generalize (Q.map Player.hire)=h at *
 generalize ((aA Q.length).map λi=>(aA P.length).map (fC ls i))=l2 at *
 have a1:=least_of 32 P Q (.tup (ls.map cA)) (.tup []) ss (by lia) hv h l2 (by lia) (by lia) hh hls hr
 have a2:=paper_of 32 P Q (.tup (ls.map cA)) (.tup []) ss (by lia) hv h l2 (by lia) (by lia) hh hls hr
 rw[KW]at a2
 have hC:(cD P Q ((cI P.length).filter λp=>(aS P ss p.1 p.2).isSome) h l2).many=P.length:=rfl
 have fair:=KY (cD P Q ((cI P.length).filter λp=>(aS P ss p.1 p.2).isSome) h l2) (q:=Q.length) (by lia) (by lia)
 rw[hC]at fair
 obtain⟨pp,fine,a3⟩:=KU 38 (dD (eW ns 5) 6) P.length hm4 (lT (cD P Q ((cI P.length).filter λp=>(aS P ss p.1 p.2).isSome) h l2) Q.length) fair (by unfold lT;rw[aC,cY];lia)
 have a4:=Jh 37 P (.tup (Q.map Player.enc)) (.tup (ls.map cA)) (.tup []) ss (by lia) g (by lia)
 have a5:=λpr=>KJ 36 P Q (.tup (ls.map cA)) (.tup []) ss hv h l2 (by lia) (by lia) hh hls hr pp fine pr
 have a6:=λpr=>Ju 32 P Q (.tup (ls.map cA)) (.tup []) ss (by lia) hv h l2 (by lia) (by lia) hh hls hr pp fine pr
 generalize (cD P Q ((cI P.length).filter λp=>(aS P ss p.1 p.2).isSome) h l2)=C at *
 generalize hbb:oB P Q ((cI P.length).filter λp=>(aS P ss p.1 p.2).isSome) h l2 pp=hB at *
 have it:D.items (paperD pp)=.ok (pp.map layQ):=rfl
 have hc:=λe=>KZ 39 pp e
 have ps:=K0 pp
 have lp:(pp.map layQ).length<=big:=by have:=fine.many;rw[aC];lia
 have i1:∀b:Bool,D.cmp .Eq (.bl b) (.bl b)=.ok (.bl true):=λb=>by cases b<;>rfl
 have ty:∀b:Bool,(D.bl b).isTy .bool=true:=λ_=>rfl
 have nd:∀b:Bool,(D.bl b).isDct=false:=λ_=>rfl
 refine aO (k:=false) rfl rfl rfl ?_
 unfold paperD at *
 generalize (clL P ss P.length).map pairD=cd at *
 generalize (pp.map layQ)=PP at *
 generalize pricesD h l2=pd at *
 generalize (D.tup [.tup (P.map Part.enc),.tup (Q.map Player.enc),.tup (ss.map Scene.enc),.tup (ls.map cA),.tup []])=BK at *
 generalize eW ns 4=c at *
 generalize eW ns 5=c5 at *
 have rest:∀lo pr b,callF T dfs 39 41 [BK,pd,.lst cd,.lst PP,pr]=.ok (.bl b)->callF T dfs 39 24 [BK,pd,.lst PP,pr]=.ok (.bl b)->exS T (callF T dfs 39) lwT [.v (.lst (ns.map D.int)),.v (.int (P.length:Int)),.v (.int (Q.length:Int)),.v BK,.v pd,.v (.int c),.v lo,.v pr,.no,.no,.no,.no]=.ok (.rt (.bl true) false):=by
  intro lo pr b h1 h2
  dsimp only[lwT,tl1,b_law]
  simp[e5,e6,a2,a3,a4,h1,h2,it,hc,ps,lp,i1,ty,nd]
 show exS T _ b_law _=_
 rw[lw_all]
 cases hval:bB (aP C Q.length) []with
 |none=>
  rw[hval]at a1
  rw[show((none:Option Way).map dG).getD D.non=.non from rfl]at a1
  have a5:=a5 none
  have a6:=a6 none
  rw[show fD none=.non from rfl]at a5 a6
  have z:=rest .non .non _ a5 a6
  generalize lwT=R at z⊢
  dsimp only[hdS,tl1,b_law]
  simp[e1,hm,hp,e2,e3,e4,a1,z]
 |some v=>
  rw[hval]at a1
  rw[show((some v).map dG).getD D.non=.tup [.int v.1,.lst (v.2.map cH)]from rfl]at a1
  by_cases q:c%5<4
  ·obtain⟨w,hw⟩:∃w:Int,D.ix (.lst [.int 0,.int 0,.int 1,.int (-1)]) (.int (c%5))=.ok (.int w):=by
    rcases(by lia:c%5=0\/c%5=1\/c%5=2\/c%5=3)with z|z|z|z<;>rw[z]
    ·exact⟨0,dF (i:=0) rfl⟩
    ·exact⟨0,dF (i:=1) rfl⟩
    ·exact⟨1,dF (i:=2) rfl⟩
    ·exact⟨-1,dF (i:=3) rfl⟩
   have a5:=a5 (some (v.1+w))
   have a6:=a6 (some (v.1+w))
   rw[show ∀z,fD (some z)=.int z from λ_=>rfl]at a5 a6
   have z:=rest (.tup [.int v.1,.lst (v.2.map cH)]) _ _ a5 a6
   generalize lwT=R at z⊢
   dsimp only[hdS,tl1,b_law]
   simp[e1,hm,hp,e2,e3,e4,a1,z,q,hw]
  ·have a5:=a5 none
   have a6:=a6 none
   rw[show fD none=.non from rfl]at a5 a6
   have z:=rest (.tup [.int v.1,.lst (v.2.map cH)]) .non _ a5 a6
   generalize lwT=R at z⊢
   dsimp only[hdS,tl1,b_law]
   simp[e1,hm,hp,e2,e3,e4,a1,z,q]
end K43
namespace K43
open PySem L2 Tr
noncomputable def top(i:Nat):Stmt:=PySem.Challenge.pw_troupe_k43_papers_looked_at.main.body.getD i (.Pass ⟨0,0,0,0⟩)
noncomputable abbrev d_are_unlike:DefT:=⟨"are_unlike", top 5,["things"],["things"],b_are_unlike,none⟩
noncomputable abbrev d_time_between:DefT:=⟨"time_between", top 7,["book", "s", "t", "scenes"],["book", "s", "t"],b_time_between,none⟩
noncomputable abbrev d_change_time:DefT:=⟨"change_time", top 8,["book", "one", "other"],["book", "one", "other"],b_change_time,none⟩
noncomputable abbrev d_short_change_from:DefT:=⟨"short_change_from", top 9,["book", "s", "one", "other", "need", "t", "have"],["book", "s", "one", "other"],b_short_change_from,none⟩
noncomputable abbrev d_reason_from:DefT:=⟨"reason_from", top 10,["book", "s", "i", "j", "numbers"],["book", "s", "i", "j"],b_reason_from,none⟩
noncomputable abbrev d_reason_of:DefT:=⟨"reason_of", top 11,["book", "i", "j", "s", "reason"],["book", "i", "j"],b_reason_of,none⟩
noncomputable abbrev d_clashes_of:DefT:=⟨"clashes_of", top 12,["book", "pairs", "many", "i"],["book"],b_clashes_of,none⟩
noncomputable abbrev d_fault_of_part:DefT:=⟨"fault_of_part", top 14,["book", "i", "player"],["book", "i", "player"],b_fault_of_part,none⟩
noncomputable abbrev d_may_join:DefT:=⟨"may_join", top 16,["clashes", "taken", "part"],["clashes", "taken", "part"],b_may_join,none⟩
noncomputable abbrev d_takings_of:DefT:=⟨"takings_of", top 17,["book", "clashes", "player", "left", "takings", "part"],["book", "clashes", "player", "left"],b_takings_of,none⟩
noncomputable abbrev d_price_of_taking:DefT:=⟨"price_of_taking", top 18,["prices", "player", "taken", "hires", "likes"],["prices", "player", "taken"],b_price_of_taking,none⟩
noncomputable abbrev d_left_behind:DefT:=⟨"left_behind", top 19,["left", "taken"],["left", "taken"],b_left_behind,none⟩
noncomputable abbrev d_with_parts:DefT:=⟨"with_parts", top 20,["casting", "taken", "player"],["casting", "taken", "player"],b_with_parts,none⟩
noncomputable abbrev d_first_ways:DefT:=⟨"first_ways", top 21,["book", "many"],["book"],b_first_ways,none⟩
noncomputable abbrev d_next_ways:DefT:=⟨"next_ways", top 22,["book", "clashes", "prices", "player", "ways", "found", "left", "price", "casting", "taken", "behind", "cost"],["book", "clashes", "prices", "player", "ways"],b_next_ways,none⟩
noncomputable abbrev d_all_ways:DefT:=⟨"all_ways", top 23,["book", "prices", "clashes", "layers", "player"],["book", "prices"],b_all_ways,none⟩
noncomputable abbrev d_least_of:DefT:=⟨"least_of", top 24,["book", "prices"],["book", "prices"],b_least_of,none⟩
noncomputable abbrev d_layer_of:DefT:=⟨"layer_of", top 26,["ways"],["ways"],b_layer_of,none⟩
noncomputable abbrev d_paper_of:DefT:=⟨"paper_of", top 27,["book", "prices"],["book", "prices"],b_paper_of,none⟩
noncomputable abbrev d_has_its_layers:DefT:=⟨"has_its_layers", top 28,["book", "paper"],["book", "paper"],b_has_its_layers,none⟩
noncomputable abbrev d_has_each_left_once:DefT:=⟨"has_each_left_once", top 29,["layer"],["layer"],b_has_each_left_once,none⟩
noncomputable abbrev d_holds_behind : DefT := ⟨"holds_behind", top 30, ["book", "clashes", "prices", "player", "entry", "following", "left", "price", "taken", "behind"], ["book", "clashes", "prices", "player", "entry", "following"], b_holds_behind, none⟩
noncomputable abbrev d_holds_step_by_step : DefT := ⟨"holds_step_by_step", top 31, ["book", "prices", "paper", "clashes", "player", "following"], ["book", "prices", "paper"], b_holds_step_by_step, none⟩
noncomputable abbrev d_ends_with:DefT:=⟨"ends_with", top 32,["layer", "price", "ends"],["layer", "price"],b_ends_with,none⟩
noncomputable abbrev d_holds : DefT := ⟨"holds", top 33, ["book", "prices", "paper", "price"], ["book", "prices", "paper", "price"], b_holds, none⟩
noncomputable abbrev d_like_of:DefT:=⟨"like_of", top 35,["book", "player", "part", "like"],["book", "player", "part"],b_like_of,none⟩
noncomputable abbrev d_likes_of:DefT:=⟨"likes_of", top 36,["book", "player"],["book", "player"],b_likes_of,none⟩
noncomputable abbrev d_prices_of:DefT:=⟨"prices_of", top 37,["book", "hires", "likes"],["book"],b_prices_of,none⟩
noncomputable abbrev d_law_cell_at:DefT:=⟨"_law_cell_at", top 39,["_law_script", "_law_k"],["_law_script", "_law_k"],b_law_cell_at,none⟩
noncomputable abbrev d_law_mixed:DefT:=⟨"_law_mixed", top 40,["_law_cell", "_law_k"],["_law_cell", "_law_k"],b_law_mixed,none⟩
noncomputable abbrev d_law_minutes:DefT:=⟨"_law_minutes", top 41,["_law_n"],["_law_n"],b_law_minutes,none⟩
noncomputable abbrev d_law_parts:DefT:=⟨"_law_parts", top 42,["_law_n", "_law_many", "_law_found", "_law_k", "_law_m", "_law_off", "_law_put_on"],["_law_n", "_law_many"],b_law_parts,none⟩
noncomputable abbrev d_law_scenes:DefT:=⟨"_law_scenes", top 43,["_law_cells", "_law_many", "_law_found", "_law_k", "_law_cell", "_law_m", "_law_numbers", "_law_name"],["_law_cells", "_law_many"],b_law_scenes,none⟩
noncomputable abbrev d_law_players:DefT:=⟨"_law_players", top 44,["_law_n", "_law_many", "_law_found", "_law_k", "_law_m", "_law_voices", "_law_hire"],["_law_n", "_law_many"],b_law_players,none⟩
noncomputable abbrev d_law_likes:DefT:=⟨"_law_likes", top 45,["_law_n", "_law_players_here", "_law_many", "_law_found", "_law_player", "_law_part", "_law_m"],["_law_n", "_law_players_here", "_law_many"],b_law_likes,none⟩
noncomputable abbrev d_law_book:DefT:=⟨"_law_book", top 46,["_law_script", "_law_parts_here", "_law_players_here", "_law_scenes_here", "_law_told", "_law_cells", "_law_team"],["_law_script", "_law_parts_here", "_law_players_here", "_law_scenes_here"],b_law_book,none⟩
noncomputable abbrev d_law_clash:DefT:=⟨"_law_clash", top 47,["_law_parts_here", "_law_scenes_here", "_law_i", "_law_j", "_law_now", "_law_last", "_law_scene", "_law_one", "_law_other"],["_law_parts_here", "_law_scenes_here", "_law_i", "_law_j"],b_law_clash,none⟩
noncomputable abbrev d_law_clashes:DefT:=⟨"_law_clashes", top 48,["_law_book_here", "_law_found", "_law_j"],["_law_book_here"],b_law_clashes,none⟩
noncomputable abbrev d_law_takes:DefT:=⟨"_law_takes", top 51,["_law_book_here", "_law_clashes_here", "_law_player", "_law_left", "_law_found", "_law_part", "_law_more", "_law_taken"],["_law_book_here", "_law_clashes_here", "_law_player", "_law_left"],b_law_takes,none⟩
noncomputable abbrev d_law_cost:DefT:=⟨"_law_cost", top 52,["_law_prices", "_law_player", "_law_taken"],["_law_prices", "_law_player", "_law_taken"],b_law_cost,none⟩
noncomputable abbrev d_law_layer_holds : DefT := ⟨"_law_layer_holds", top 53, ["_law_book_here", "_law_prices", "_law_clashes_here", "_law_player", "_law_layer", "_law_after", "_law_left", "_law_price_here", "_law_taken", "_law_behind", "_law_due_here"], ["_law_book_here", "_law_prices", "_law_clashes_here", "_law_player", "_law_layer", "_law_after"], b_law_layer_holds, none⟩
noncomputable abbrev d_law_due:DefT:=⟨"_law_due", top 54,["_law_book_here", "_law_prices", "_law_clashes_here", "_law_paper", "_law_price_here", "_law_layer", "_law_lefts", "_law_player", "_law_ends"],["_law_book_here", "_law_prices", "_law_clashes_here", "_law_paper", "_law_price_here"],b_law_due,none⟩
noncomputable abbrev d_law_spoiled:DefT:=⟨"_law_spoiled", top 55,["_law_paper", "_law_n", "_law_parts_here", "_law_way", "_law_at", "_law_layer", "_law_k", "_law_left", "_law_price_here", "_law_other"],["_law_paper", "_law_n", "_law_parts_here"],b_law_spoiled,none⟩
noncomputable abbrev d_law:DefT:=⟨"law", top 56,["_law_script", "_law_parts_here", "_law_players_here", "_law_book_here", "_law_prices", "_law_n", "_law_least", "_law_price_here", "_law_paper", "_law_handed", "_law_due_here", "_law_found"],["_law_script"],b_law,none⟩
noncomputable def defs : List DefT := [d_are_unlike, d_time_between, d_change_time, d_short_change_from, d_reason_from, d_reason_of, d_clashes_of, d_fault_of_part, d_may_join, d_takings_of, d_price_of_taking, d_left_behind, d_with_parts, d_first_ways, d_next_ways, d_all_ways, d_least_of, d_layer_of, d_paper_of, d_has_its_layers, d_has_each_left_once, d_holds_behind, d_holds_step_by_step, d_ends_with, d_holds, d_like_of, d_likes_of, d_prices_of, d_law_cell_at, d_law_mixed, d_law_minutes, d_law_parts, d_law_scenes, d_law_players, d_law_likes, d_law_book, d_law_clash, d_law_clashes, d_law_takes, d_law_cost, d_law_layer_holds, d_law_due, d_law_spoiled, d_law]
noncomputable def Tx : Txt := ⟨["PARTS", "PLAYERS", "SCENES", "LIKES"], [("are_unlike":Str), ("time_between":Str), ("change_time":Str), ("short_change_from":Str), ("reason_from":Str), ("reason_of":Str), ("clashes_of":Str), ("fault_of_part":Str), ("may_join":Str), ("takings_of":Str), ("price_of_taking":Str), ("left_behind":Str), ("with_parts":Str), ("first_ways":Str), ("next_ways":Str), ("all_ways":Str), ("least_of":Str), ("layer_of":Str), ("paper_of":Str), ("has_its_layers":Str), ("has_each_left_once":Str), ("holds_behind":Str), ("holds_step_by_step":Str), ("ends_with":Str), ("holds":Str), ("like_of":Str), ("likes_of":Str), ("prices_of":Str), ("_law_cell_at":Str), ("_law_mixed":Str), ("_law_minutes":Str), ("_law_parts":Str), ("_law_scenes":Str), ("_law_players":Str), ("_law_likes":Str), ("_law_book":Str), ("_law_clash":Str), ("_law_clashes":Str), ("_law_takes":Str), ("_law_cost":Str), ("_law_layer_holds":Str), ("_law_due":Str), ("_law_spoiled":Str), ("law":Str)], [], [], [], [], []⟩
theorem okB:defs.all (·.okB Tx)=true:=by decide +kernel
end K43
open PySem PySem.W PyProof.Rows
set_option maxRecDepth 100000 in
set_option maxHeartbeats 0 in
theorem PySem.Challenge.cw_troupe_k43_papers_looked_at_holds : PySem.Challenge.rw_troupe_k43_papers_looked_at.Holds := by
 refine K43.hd ?_
 k_fill
 refine Tr.walkT (l:=PySem.Challenge.rw_troupe_k43_papers_looked_at) (T:=K43.T) (Tx:=K43.Tx) (defs:=K43.defs) (i:=43) (n:=40) rfl rfl rfl rfl rfl ⟨rfl,by decide,by decide⟩ K43.K1 (λw h Y=>PySem.W.kIn_of Y) ?X (λ_ _ _ _ _ _ _=>rfl)
 case X=>
  intro w mg h KX G
  refine' Tr.IW ⟨Tr.dn_of rfl rfl,K43.okB,(Tr.all_cons (Tr.aT KX G ?a0 ?l0 ?c0 ?k0 ?b0) (Tr.all_cons (Tr.aT KX G ?a1 ?l1 ?c1 ?k1 ?b1) (Tr.all_cons (Tr.aT KX G ?a2 ?l2 ?c2 ?k2 ?b2) (Tr.all_cons (Tr.aT KX G ?a3 ?l3 ?c3 ?k3 ?b3) (Tr.all_cons (Tr.aT KX G ?a4 ?l4 ?c4 ?k4 ?b4) (Tr.all_cons (Tr.aT KX G ?a5 ?l5 ?c5 ?k5 ?b5) (Tr.all_cons (Tr.aT KX G ?a6 ?l6 ?c6 ?k6 ?b6) (Tr.all_cons (Tr.aT KX G ?a7 ?l7 ?c7 ?k7 ?b7) (Tr.all_cons (Tr.aT KX G ?a8 ?l8 ?c8 ?k8 ?b8) (Tr.all_cons (Tr.aT KX G ?a9 ?l9 ?c9 ?k9 ?b9) (Tr.all_cons (Tr.aT KX G ?a10 ?l10 ?c10 ?k10 ?b10) (Tr.all_cons (Tr.aT KX G ?a11 ?l11 ?c11 ?k11 ?b11) (Tr.all_cons (Tr.aT KX G ?a12 ?l12 ?c12 ?k12 ?b12) (Tr.all_cons (Tr.aT KX G ?a13 ?l13 ?c13 ?k13 ?b13) (Tr.all_cons (Tr.aT KX G ?a14 ?l14 ?c14 ?k14 ?b14) (Tr.all_cons (Tr.aT KX G ?a15 ?l15 ?c15 ?k15 ?b15) (Tr.all_cons (Tr.aT KX G ?a16 ?l16 ?c16 ?k16 ?b16) (Tr.all_cons (Tr.aT KX G ?a17 ?l17 ?c17 ?k17 ?b17) (Tr.all_cons (Tr.aT KX G ?a18 ?l18 ?c18 ?k18 ?b18) (Tr.all_cons (Tr.aT KX G ?a19 ?l19 ?c19 ?k19 ?b19) (Tr.all_cons (Tr.aT KX G ?a20 ?l20 ?c20 ?k20 ?b20) (Tr.all_cons (Tr.aT KX G ?a21 ?l21 ?c21 ?k21 ?b21) (Tr.all_cons (Tr.aT KX G ?a22 ?l22 ?c22 ?k22 ?b22) (Tr.all_cons (Tr.aT KX G ?a23 ?l23 ?c23 ?k23 ?b23) (Tr.all_cons (Tr.aT KX G ?a24 ?l24 ?c24 ?k24 ?b24) (Tr.all_cons (Tr.aT KX G ?a25 ?l25 ?c25 ?k25 ?b25) (Tr.all_cons (Tr.aT KX G ?a26 ?l26 ?c26 ?k26 ?b26) (Tr.all_cons (Tr.aT KX G ?a27 ?l27 ?c27 ?k27 ?b27) (Tr.all_cons (Tr.aT KX G ?a28 ?l28 ?c28 ?k28 ?b28) (Tr.all_cons (Tr.aT KX G ?a29 ?l29 ?c29 ?k29 ?b29) (Tr.all_cons (Tr.aT KX G ?a30 ?l30 ?c30 ?k30 ?b30) (Tr.all_cons (Tr.aT KX G ?a31 ?l31 ?c31 ?k31 ?b31) (Tr.all_cons (Tr.aT KX G ?a32 ?l32 ?c32 ?k32 ?b32) (Tr.all_cons (Tr.aT KX G ?a33 ?l33 ?c33 ?k33 ?b33) (Tr.all_cons (Tr.aT KX G ?a34 ?l34 ?c34 ?k34 ?b34) (Tr.all_cons (Tr.aT KX G ?a35 ?l35 ?c35 ?k35 ?b35) (Tr.all_cons (Tr.aT KX G ?a36 ?l36 ?c36 ?k36 ?b36) (Tr.all_cons (Tr.aT KX G ?a37 ?l37 ?c37 ?k37 ?b37) (Tr.all_cons (Tr.aT KX G ?a38 ?l38 ?c38 ?k38 ?b38) (Tr.all_cons (Tr.aT KX G ?a39 ?l39 ?c39 ?k39 ?b39) (Tr.all_cons (Tr.aT KX G ?a40 ?l40 ?c40 ?k40 ?b40) (Tr.all_cons (Tr.aT KX G ?a41 ?l41 ?c41 ?k41 ?b41) (Tr.all_cons (Tr.aT KX G ?a42 ?l42 ?c42 ?k42 ?b42) (Tr.all_cons (Tr.aT KX G ?a43 ?l43 ?c43 ?k43 ?b43) Tr.jG)))))))))))))))))))))))))))))))))))))))))))),(Tr.qH (Tr.qG KX G ?gg0) (Tr.qH (Tr.qG KX G ?gg1) (Tr.qH (Tr.qG KX G ?gg2) (Tr.qH (Tr.qG KX G ?gg3) Tr.gl_nil)))),(Tr.all_cons (Tr.dC KX G ?z0) (Tr.all_cons (Tr.dC KX G ?z1) (Tr.all_cons (Tr.dC KX G ?z2) (Tr.all_cons (Tr.dC KX G ?z3) (Tr.all_cons (Tr.dC KX G ?z4) (Tr.all_cons (Tr.dC KX G ?z5) (Tr.all_cons (Tr.dC KX G ?z6) (Tr.all_cons (Tr.dC KX G ?z7) (Tr.all_cons (Tr.dC KX G ?z8) (Tr.all_cons (Tr.dC KX G ?z9) (Tr.all_cons (Tr.dC KX G ?z10) (Tr.all_cons (Tr.dC KX G ?z11) (Tr.all_cons (Tr.dC KX G ?z12) (Tr.all_cons (Tr.dC KX G ?z13) (Tr.all_cons (Tr.dC KX G ?z14) (Tr.all_cons (Tr.dC KX G ?z15) (Tr.all_cons (Tr.dC KX G ?z16) (Tr.all_cons (Tr.dC KX G ?z17) (Tr.all_cons (Tr.dC KX G ?z18) Tr.jG))))))))))))))))))),Tr.jG,Tr.jG,Tr.jG,Tr.jG,Tr.jG,Tr.jG⟩ rfl
  (case a0=>k_is);(case l0=>k_is);(case c0=>k_is);(case k0=>k_is)
  (case b0=>exact λ_ _ _ _ _ _=>Tr.iO (λ_=>rfl))
  (case a1=>k_is);(case l1=>k_is);(case c1=>k_is);(case k1=>k_is)
  (case b1=>exact λ_ _ _ _ _ _=>Tr.fS (λ_ _ _=>rfl))
  (case a2=>k_is);(case l2=>k_is);(case c2=>k_is);(case k2=>k_is)
  (case b2=>exact λ_ _ _ _ _ _=>Tr.fS (λ_ _ _=>rfl))
  (case a3=>k_is);(case l3=>k_is);(case c3=>k_is);(case k3=>k_is)
  (case b3=>exact λ_ _ _ _ _ _=>Tr.kD (λ_ _ _ _=>rfl))
  (case a4=>k_is);(case l4=>k_is);(case c4=>k_is);(case k4=>k_is)
  (case b4=>exact λ_ _ _ _ _ _=>Tr.kD (λ_ _ _ _=>rfl))
  (case a5=>k_is);(case l5=>k_is);(case c5=>k_is);(case k5=>k_is)
  (case b5=>exact λ_ _ _ _ _ _=>Tr.fS (λ_ _ _=>rfl))
  (case a6=>k_is);(case l6=>k_is);(case c6=>k_is);(case k6=>k_is)
  (case b6=>exact λ_ _ _ _ _ _=>Tr.iO (λ_=>rfl))
  (case a7=>k_is);(case l7=>k_is);(case c7=>k_is);(case k7=>k_is)
  (case b7=>exact λ_ _ _ _ _ _=>Tr.fS (λ_ _ _=>rfl))
  (case a8=>k_is);(case l8=>k_is);(case c8=>k_is);(case k8=>k_is)
  (case b8=>exact λ_ _ _ _ _ _=>Tr.fS (λ_ _ _=>rfl))
  (case a9=>k_is);(case l9=>k_is);(case c9=>k_is);(case k9=>k_is)
  (case b9=>exact λ_ _ _ _ _ _=>Tr.kD (λ_ _ _ _=>rfl))
  (case a10=>k_is);(case l10=>k_is);(case c10=>k_is);(case k10=>k_is)
  (case b10=>exact λ_ _ _ _ _ _=>Tr.fS (λ_ _ _=>rfl))
  (case a11=>k_is);(case l11=>k_is);(case c11=>k_is);(case k11=>k_is)
  (case b11=>exact λ_ _ _ _ _ _=>Tr.fR (λ_ _=>rfl))
  (case a12=>k_is);(case l12=>k_is);(case c12=>k_is);(case k12=>k_is)
  (case b12=>exact λ_ _ _ _ _ _=>Tr.fS (λ_ _ _=>rfl))
  (case a13=>k_is);(case l13=>k_is);(case c13=>k_is);(case k13=>k_is)
  (case b13=>exact λ_ _ _ _ _ _=>Tr.iO (λ_=>rfl))
  (case a14=>k_is);(case l14=>k_is);(case c14=>k_is);(case k14=>k_is)
  (case b14=>exact λ_ _ _ _ _ _=>Tr.len5 (λ_ _ _ _ _=>rfl))
  (case a15=>k_is);(case l15=>k_is);(case c15=>k_is);(case k15=>k_is)
  (case b15=>exact λ_ _ _ _ _ _=>Tr.fR (λ_ _=>rfl))
  (case a16=>k_is);(case l16=>k_is);(case c16=>k_is);(case k16=>k_is)
  (case b16=>exact λ_ _ _ _ _ _=>Tr.fR (λ_ _=>rfl))
  (case a17=>k_is);(case l17=>k_is);(case c17=>k_is);(case k17=>k_is)
  (case b17=>exact λ_ _ _ _ _ _=>Tr.iO (λ_=>rfl))
  (case a18=>k_is);(case l18=>k_is);(case c18=>k_is);(case k18=>k_is)
  (case b18=>exact λ_ _ _ _ _ _=>Tr.fR (λ_ _=>rfl))
  (case a19=>k_is);(case l19=>k_is);(case c19=>k_is);(case k19=>k_is)
  (case b19=>exact λ_ _ _ _ _ _=>Tr.fR (λ_ _=>rfl))
  (case a20=>k_is);(case l20=>k_is);(case c20=>k_is);(case k20=>k_is)
  (case b20=>exact λ_ _ _ _ _ _=>Tr.iO (λ_=>rfl))
  (case a21=>k_is);(case l21=>k_is);(case c21=>k_is);(case k21=>k_is)
  (case b21=>exact λ_ _ _ _ _ _=>Tr.len6 (λ_ _ _ _ _ _=>rfl))
  (case a22=>k_is);(case l22=>k_is);(case c22=>k_is);(case k22=>k_is)
  (case b22=>exact λ_ _ _ _ _ _=>Tr.fS (λ_ _ _=>rfl))
  (case a23=>k_is);(case l23=>k_is);(case c23=>k_is);(case k23=>k_is)
  (case b23=>exact λ_ _ _ _ _ _=>Tr.fR (λ_ _=>rfl))
  (case a24=>k_is);(case l24=>k_is);(case c24=>k_is);(case k24=>k_is)
  (case b24=>exact λ_ _ _ _ _ _=>Tr.kD (λ_ _ _ _=>rfl))
  (case a25=>k_is);(case l25=>k_is);(case c25=>k_is);(case k25=>k_is)
  (case b25=>exact λ_ _ _ _ _ _=>Tr.fS (λ_ _ _=>rfl))
  (case a26=>k_is);(case l26=>k_is);(case c26=>k_is);(case k26=>k_is)
  (case b26=>exact λ_ _ _ _ _ _=>Tr.fR (λ_ _=>rfl))
  (case a27=>k_is);(case l27=>k_is);(case c27=>k_is);(case k27=>k_is)
  (case b27=>exact λ_ _ _ _ _ _=>Tr.iO (λ_=>rfl))
  (case a28=>k_is);(case l28=>k_is);(case c28=>k_is);(case k28=>k_is)
  (case b28=>exact λ_ _ _ _ _ _=>Tr.fR (λ_ _=>rfl))
  (case a29=>k_is);(case l29=>k_is);(case c29=>k_is);(case k29=>k_is)
  (case b29=>exact λ_ _ _ _ _ _=>Tr.fR (λ_ _=>rfl))
  (case a30=>k_is);(case l30=>k_is);(case c30=>k_is);(case k30=>k_is)
  (case b30=>exact λ_ _ _ _ _ _=>Tr.iO (λ_=>rfl))
  (case a31=>k_is);(case l31=>k_is);(case c31=>k_is);(case k31=>k_is)
  (case b31=>exact λ_ _ _ _ _ _=>Tr.fR (λ_ _=>rfl))
  (case a32=>k_is);(case l32=>k_is);(case c32=>k_is);(case k32=>k_is)
  (case b32=>exact λ_ _ _ _ _ _=>Tr.fR (λ_ _=>rfl))
  (case a33=>k_is);(case l33=>k_is);(case c33=>k_is);(case k33=>k_is)
  (case b33=>exact λ_ _ _ _ _ _=>Tr.fR (λ_ _=>rfl))
  (case a34=>k_is);(case l34=>k_is);(case c34=>k_is);(case k34=>k_is)
  (case b34=>exact λ_ _ _ _ _ _=>Tr.fS (λ_ _ _=>rfl))
  (case a35=>k_is);(case l35=>k_is);(case c35=>k_is);(case k35=>k_is)
  (case b35=>exact λ_ _ _ _ _ _=>Tr.kD (λ_ _ _ _=>rfl))
  (case a36=>k_is);(case l36=>k_is);(case c36=>k_is);(case k36=>k_is)
  (case b36=>exact λ_ _ _ _ _ _=>Tr.kD (λ_ _ _ _=>rfl))
  (case a37=>k_is);(case l37=>k_is);(case c37=>k_is);(case k37=>k_is)
  (case b37=>exact λ_ _ _ _ _ _=>Tr.iO (λ_=>rfl))
  (case a38=>k_is);(case l38=>k_is);(case c38=>k_is);(case k38=>k_is)
  (case b38=>exact λ_ _ _ _ _ _=>Tr.kD (λ_ _ _ _=>rfl))
  (case a39=>k_is);(case l39=>k_is);(case c39=>k_is);(case k39=>k_is)
  (case b39=>exact λ_ _ _ _ _ _=>Tr.fS (λ_ _ _=>rfl))
  (case a40=>k_is);(case l40=>k_is);(case c40=>k_is);(case k40=>k_is)
  (case b40=>exact λ_ _ _ _ _ _=>Tr.len6 (λ_ _ _ _ _ _=>rfl))
  (case a41=>k_is);(case l41=>k_is);(case c41=>k_is);(case k41=>k_is)
  (case b41=>exact λ_ _ _ _ _ _=>Tr.len5 (λ_ _ _ _ _=>rfl))
  (case a42=>k_is);(case l42=>k_is);(case c42=>k_is);(case k42=>k_is)
  (case b42=>exact λ_ _ _ _ _ _=>Tr.fS (λ_ _ _=>rfl))
  (case a43=>k_is);(case l43=>k_is);(case c43=>k_is);(case k43=>k_is)
  (case b43=>exact λ_ _ _ _ _ _=>Tr.iO (λ_=>rfl))
  (case gg0=>k_is)
  (case gg1=>k_is)
  (case gg2=>k_is)
  (case gg3=>k_is)
  (case z0=>k_is)
  (case z1=>k_is)
  (case z2=>k_is)
  (case z3=>k_is)
  (case z4=>k_is)
  (case z5=>k_is)
  (case z6=>k_is)
  (case z7=>k_is)
  (case z8=>k_is)
  (case z9=>k_is)
  (case z10=>k_is)
  (case z11=>k_is)
  (case z12=>k_is)
  (case z13=>k_is)
  (case z14=>k_is)
  (case z15=>k_is)
  (case z16=>k_is)
  (case z17=>k_is)
  (case z18=>k_is)
