import PyProof.Rows.All
import Wide.All
import OpenK.AllK
import Wide.FinOn
import Lean
import PyProof.EqAt
import PyProof.EqKinds
import PyProof.TupleCall
import PySem.Challenge.RW_troupe_k62_no_casting
set_option Elab.async false
set_option genSizeOf false
set_option bootstrap.genMatcherCode false
set_option compiler.extract_closed false
set_option genSizeOfSpec false
set_option linter.all false
set_option maxRecDepth 100000
open Array renaming length_toList->uK,append_assoc->LN,toList_inj->LX,getElem?_toList->LY
open Bool renaming and_eq_true->aD,false_ne_true->aP,not_eq_true'->bV,or_eq_true->fE,false_or->AB,false_eq_true->AE,or_true->AF,true_and->Eo,and_true->Ex,and_eq_true_iff->LM,and_false->LV
open Int renaming toNat_natCast->lB,emod_nonneg->pT,emod_lt_of_pos->AL,natCast_nonneg->Ew,toNat_of_nonneg->Ey
open List renaming length_map->aE,range->aF,map_cons->aK,replicate->aO,length_cons->aX,mem_cons->aY,getElem?_eq_getElem->bD,mem_cons_of_mem->bG,size_toArray->bK,getElem?_map->bO,mem_cons_self->bR,mem_map->bS,map_map->bY,length_append->cE,length_set->cI,find?_cons->cJ,length_range->cN,mem_singleton->cS,mem_range->dC,length_replicate->dY,getElem?_eq_some_iff->eT,getElem_mem->fF,mem_filter->fP,mem_append->fQ,mem_append_right->fR,length_take->fS,range'->fT,getElem?_append_right->gL,getD_eq_getElem?_getD->gM,filterMap_cons->iF,nodup_cons->iG,map_append->iH,getElem?_set_self->iZ,mem_of_getElem?->jA,length_singleton->jB,map_congr_left->jC,filter_cons->jD,filterMap_eq_map'->jE,mem_filterMap->jU,any_cons->jV,nodup_nil->jX,length_filter_le->jY,getElem?_set_ne->kZ,all_cons->lC,lookup_cons->lD,append_nil->mM,getElem?_replicate->mO,getElem?_append_left->mP,replicate_succ->mQ,take_of_length_le->mR,all_eq_true->mT,mem_append_left->pI,length_drop->pJ,map_nil->pK,flatten_cons->pL,append_assoc->pM,getElem?_eq_none->pO,not_mem_nil->pP,mem_range'_1->pQ,any_eq_true->pR,map_take->pS,length_nil->uL,drop_zero->uM,pairwise_cons->uO,map_drop->uP,nodup_append->uQ,range_succ_eq_map->AC,drop_eq_getElem_cons->AD,findSome?_cons->AJ,mem_of_mem_take->AK,length_pos_iff->AM,of_mem_zip->Em,eq_nil_of_length_eq_zero->Ep,nil_append->Er,drop_length->Es,contains_iff_mem->Eu,getElem_inj->LO,getElem?_take_of_lt->LQ,filterMap_map->LR,foldl_cons->LU,getElem?_cons_succ->L1,sum_append->L5,cons_append->L6,length_range'->L7,mem_of_mem_drop->L8,take_append_drop->L9,filter_append->L_,filter_cons_of_pos->La,filter_cons_of_neg->Lb,drop_of_length_le->Ld
open Nat renaming le_refl->aQ,ne_of_lt->bM,le_trans->cD,lt_of_lt_of_le->cR,lt_irrefl->jS,le_of_lt->jT,zero_le->jW,lt_trans->lA,ne_of_gt->mL,min_eq_left->mU,sub_zero->pN,le_succ->uN,mul_le_mul->uR,not_lt_zero->AG,lt_succ_of_lt->AH,zero_add->AI,le_add_right->Et,lt_of_succ_lt_succ->L0,lt_succ_self->L3,succ_ne_self->L4,min_eq_right->Lc
open Option renaming some->eM,isSome_map->En,isSome_iff_exists->LP,getD_none->LS,map_eq_some_iff->LW,bind_eq_some_iff->LZ,map_map->Le
namespace K62
theorem both1{a b:Bool}(h:(a&&b)=true):a=true:=(LM.mp h).1
theorem both2{a b:Bool}(h:(a&&b)=true):b=true:=(LM.mp h).2
noncomputable def vw:PySem.Program:=PySem.W.view PySem.Challenge.pw_troupe_k62_no_casting [1,2,3,4,5,6,7,8,9,10,12,13,14,15,16,17,19,20,21,22,24,25,26,27,28,29,30,31,32,33,34,36,37,38,39,40,41,42,43,44,45,46,47,48,49,50]
end K62
section
open PySem PySem.W PyProof.Rows
set_option maxHeartbeats 0
local macro_rules
  | `(tactic| o_head $H)=>`(tactic| (
    apply holds_open (N:=4100) (q:=K62.vw) (loose:=[])
      (Yf:=($H).obs) (Ya:=($H).val) (YP:=($H).says)
      (XP:=XL K62.vw []) (Xt:=fun s=>xlAt K62.vw [] s&&recOk (PySem.Challenge.rw_troupe_k62_no_casting.row.toRowW).records s)
      (by intro w;kernel_rfl) ($H).of ($H).keeps
      (fun s e=>xl_of s (K62.both1 e)) XL.keeps
      rfl rfl rfl
      (fun s e=>recFacts_of (K62.both2 e))
      rfl (by assumption) (by decide +kernel)
      (by refine⟨rfl,rfl,rfl,rfl,rfl,?_⟩;decide +kernel)))
open_top K62.hd for PySem.Challenge.rw_troupe_k62_no_casting
end
set_option Elab.async false
set_option linter.all false
set_option maxRecDepth 100000
namespace L2
open PySem PySem.Spec PyProof.Rows
noncomputable abbrev Key:=Sum Int Str
noncomputable def gN:Key->Value->Bool
 |.inl k,v=>Value.isInt k v
 |.inr x,v=>Value.isStrOf x v
noncomputable def keyH(w:World):Key->Int
 |.inl k=>hashInt k
 |.inr x=>hashStr w x
theorem gO:∀{k:Key} {v:Value},gN k v=true->(∃i t,k=Sum.inl i/\v=Value.int i t)\/(∃x t,k=Sum.inr x/\v=Value.str x t)
 |.inl i,v,h=>by
  obtain⟨t,e⟩:=Value.isInt_shape (k:=i) (v:=v) h
  exact .inl ⟨i,t,rfl,e⟩
 |.inr x,v,h=>by
  obtain⟨t,e⟩:=Value.isStrOf_shape (x:=x) (v:=v) h
  exact .inr ⟨x,t,rfl,e⟩
theorem AN(i:Int)(t:Tok):gN (.inl i) (.int i t)=true:=by simp[gN,Value.isInt]
theorem AO(x:Str)(t:Tok):gN (.inr x) (.str x t)=true:=by simp[gN,Value.isStrOf]
theorem key_ll(a b:Int):decide ((Sum.inl a:Key)=Sum.inl b)=(a==b):=by
 by_cases e:a=b
 ·subst e;simp
 ·have h:¬(Sum.inl a:Key)=Sum.inl b:=λq=>e (Sum.inl.inj q)
  rw[decide_eq_false h]
  exact(beq_eq_false_iff_ne.mpr e).symm
theorem key_rr(a b:Str):decide ((Sum.inr a:Key)=Sum.inr b)=decide (a=b):=by
 by_cases e:a=b
 ·subst e;simp
 ·have h:¬(Sum.inr a:Key)=Sum.inr b:=λq=>e (Sum.inr.inj q)
  rw[decide_eq_false h,decide_eq_false e]
theorem key_lr(a:Int)(b:Str):decide ((Sum.inl a:Key)=Sum.inr b)=false:=decide_eq_false (λq=>nomatch q)
theorem key_rl(a:Str)(b:Int):decide ((Sum.inr a:Key)=Sum.inl b)=false:=decide_eq_false (λq=>nomatch q)
noncomputable def bP(prog:Program)(w:World):PySem.KeyKind prog w Key where
 is:=gN
 hash:=keyH w
 inj:=λv a b ha hb=>by
  rcases gO ha with⟨i,t,rfl,rfl⟩|⟨x,t,rfl,rfl⟩
  ·rcases gO hb with⟨j,u,rfl,e⟩|⟨y,u,rfl,e⟩
   ·injection e with e1 _;rw[e1]
   ·exact nomatch e
  ·rcases gO hb with⟨j,u,rfl,e⟩|⟨y,u,rfl,e⟩
   ·exact nomatch e
   ·injection e with e1 _;rw[e1]
 byValue:=λk v h=>by
  rcases gO h with⟨i,t,rfl,rfl⟩|⟨x,t,rfl,rfl⟩<;>rfl
 pyHash:=λhv h=>by
  rcases gO hv with⟨i,t,rfl,rfl⟩|⟨x,t,rfl,rfl⟩
  ·exact wpAny_pyHash_int h
  ·exact wpAny_pyHash_str h
 eqBool:=λhu hv h=>by
  rcases gO hu with⟨i,t,rfl,rfl⟩|⟨x,t,rfl,rfl⟩
  ·rcases gO hv with⟨j,u,rfl,rfl⟩|⟨y,u,rfl,rfl⟩
   ·rw[key_ll]at h;exact wpAny_eqBool_int h
   ·rw[key_lr]at h;exact SeqAt.EqAt.int_str i t y u _ _ _ _ h
  ·rcases gO hv with⟨j,u,rfl,rfl⟩|⟨y,u,rfl,rfl⟩
   ·rw[key_rl]at h;exact SeqAt.EqAt.str_int x t j u _ _ _ _ h
   ·rw[key_rr]at h;exact wpAny_eqBool_str h
 «strs»:=λk x t v h=>by
  rcases gO h with⟨i,u,rfl,e⟩|⟨y,u,rfl,e⟩
  ·exact nomatch e
  ·injection e with e1 _
   subst e1
   cases v<;>rfl
theorem Ez(prog:Program)(w:World)(i:Int)(t:Tok):(bP prog w).is (.inl i) (.int i t)=true:=AN i t
theorem FA(prog:Program)(w:World)(x:Str)(t:Tok):(bP prog w).is (.inr x) (.str x t)=true:=AO x t
inductive V where
 |non|bl (b:Bool)|int (i:Int)|str (x:Str)|byt (b:Array UInt8)|flt (b:UInt64)|ref (a:Addr)|ty (n:String)
 deriving DecidableEq
noncomputable def RelV:V->Value->Prop
 |.non,u=>u=Value.none
 |.bl b,u=>u=Value.bool b
 |.int i,u=>∃t,u=Value.int i t
 |.str x,u=>∃t,u=Value.str x t
 |.byt b,u=>∃t,u=Value.bytes b t
 |.flt b,u=>∃t,u=Value.float b t
 |.ref a,u=>u=Value.ref a
 |.ty n,u=>u=Value.type n
noncomputable abbrev Vals:List V->List Value->Prop:=Paired RelV
theorem Vals.length{xs:List V}{us:List Value}(r:Vals xs us):xs.length=us.length:=Paired.length r
theorem Vals.get:∀{xs:List V} {us:List Value} {i:Nat} {x:V},Vals xs us->xs[i]?=some x->∃u,us[i]?=some u/\RelV x u
 |_,_,_,_,.nil,e=>by simp at e
 |_,_,0,_,.cons r _,e=>by simp at e;subst e;exact⟨_,rfl,r⟩
 |_,_,i+1,x,.cons _ t,e=>by
  obtain⟨u,h1,h2⟩:=Vals.get (i:=i) (x:=x) t (by simpa using e)
  exact⟨u,by simpa using h1,h2⟩
theorem Vals.set{x:V}{u:Value}(r:RelV x u):∀{xs:List V} {us:List Value} (i:Nat),Vals xs us->Vals (xs.set i x) (us.set i u)
 |_,_,_,.nil=>.nil
 |_,_,0,.cons _ t=>.cons r t
 |_,_,i+1,.cons q t=>.cons q (Vals.set r i t)
theorem Vals.append:∀{xs ys:List V} {us ws:List Value},Vals xs us->Vals ys ws->Vals (xs++ys) (us++ws)
 |_,_,_,_,.nil,s=>s
 |_,_,_,_,.cons r t,s=>.cons r (Vals.append t s)
theorem Vals.take:∀{xs:List V} {us:List Value} (n:Nat),Vals xs us->Vals (xs.take n) (us.take n)
 |_,_,0,_=>.nil
 |_,_,_+1,.nil=>.nil
 |_,_,n+1,.cons r t=>.cons r (Vals.take n t)
theorem Vals.drop:∀{xs:List V} {us:List Value} (n:Nat),Vals xs us->Vals (xs.drop n) (us.drop n)
 |_,_,0,r=>r
 |_,_,_+1,.nil=>.nil
 |_,_,n+1,.cons _ t=>Vals.drop n t
noncomputable def RelO:Option V->Option Value->Prop
 |some v,some u=>RelV v u
 |none,none=>True
 |_,_=>False
noncomputable def KV{κ:Type}:List (κ×V)->List (κ×Value)->Prop:=Paired λ(p:κ×V) (q:κ×Value)=>p.1=q.1/\RelV p.2 q.2
noncomputable def kV:Key->V
 |.inl i=>.int i
 |.inr x=>.str x
inductive HO where
 |lst (xs:List V)
 |tup (xs:List V)
 |dK (kvs:List (Key×V))|dT (kvs:List (List Key×V))
 |set (S:Int->Bool) (n:Nat)
 |ins (C dx:Addr) (fs:List (Str×V))
 |own (x:Addr)
 |xd (fs:List (Str×V))
 |met (f x:Addr)
 |rng (lo hi:Int)
 |frz (o:Obj) (u:HO)
 |tbl (ps:Array Value)
 |ext (φ:Heap->Prop)
noncomputable abbrev Hp:=Addr->Option HO
noncomputable def upd(H:Hp)(a:Addr)(o:HO):Hp:=λb=>if b=a then some o else H b
theorem bQ{H:Hp}{a:Addr}{o:HO}:upd H a o a=some o:=by unfold upd;rw[if_pos rfl]
theorem aG{H:Hp}{a b:Addr}{o:HO}(h:b≠a):upd H a o b=H b:=by unfold upd;rw[if_neg h]
theorem FB{H:Hp}{a:Addr}{o u:HO}:upd (upd H a o) a u=upd H a u:=by
 funext b;unfold upd;split<;>rfl
theorem pU{H:Hp}{a b:Addr}{o u:HO}(h:H a=some o)(h':H b=some u)(d:o≠u):a≠b:=by
 intro e;subst e;rw[h]at h';exact d (eM.inj h')
theorem eF{H:Hp}{a b:Addr}{o:HO}(h:H a=some o)(h':H b=none):a≠b:=by
 intro e;subst e;rw[h]at h';cases h'
section
variable(P:Program)(w:World)
noncomputable def ObjOk(H:Hp)(h:Heap)(a:Addr):HO->Prop
 |.lst xs=>xs.length<=sizeLine/\∃(its:List Value) (n:Nat),Vals xs its/\h.get? a=some {cls:=.type "list", data:=.seq its.toArray n}
 |.tup xs=>xs.length<=sizeLine/\∃its:List Value,Vals xs its/\IsTup h a its.toArray
 |.dK kvs=>kvs.length<=sizeLine/\(a==sysModules)=false/\∃vs,KV kvs vs/\h.DictOf (bP P w) a vs
 |.dT kvs=>kvs.length<=sizeLine/\(a==sysModules)=false/\∃xs:List (List Key×Addr×Value),
  Paired (λ(p:List Key×V) (q:List Key×Addr×Value)=>p.1=q.1/\H q.2.1=some (.tup (p.1.map kV))/\RelV p.2 q.2.2) kvs xs /\
  ∃o es ep,h.get? a=some o/\o.ExactDict/\o.data=.dict es ep/\es.toList=xs.map (entryOfKey (tupleKind (bP P w)))/\(xs.map (·.1)).Nodup
 |.set S n=>h.SetOf (intKind P w) a S n
 |.ins C dx fs=>H dx=some (.own a)/\fs.length<=1000/\dx≠a/\h.get? a=some (PySem.W.instObj C dx) /\
  ∃mA,h.Ns1 dx mA/\(∀f,RelO (fs.lookup f) (mA f))/\PySem.Within mA (fs.map (·.1))
 |.own _=>∃o,h.get? a=some o
 |.xd fs=>∃mA,h.Ns1 a mA/\∀f,RelO (fs.lookup f) (mA f)
 |.rng lo hi=>∃t u v,h.get? a=some {cls:=.type "range", data:=.fields #[.int lo t,.int hi u,.int 1 v] }
 |.frz o u=>h.get? a=some o/\ObjOk H h a u
 |.tbl ps=>h.get? a=some {cls:=.none,data:=.fields ps}
 |.met f x=>h.get? a=some (PySem.W.methodObj (.ref f) (.ref x))
 |.ext φ=>φ h/\(∃o,h.get? a=some o)/\∀h1 h2:Heap,φ h1->(∀o,h1.get? a=some o->h2.get? a=some o)->φ h2
noncomputable def HOk(H:Hp)(h:Heap):Prop:=∀a o,H a=some o->ObjOk P w H h a o
end
section
variable{P:Program}{w:World}{H H':Hp}{h h':Heap}{a:Addr}{o:HO}
theorem ObjOk.lt(x:ObjOk P w H h a o):a<h.objs.size:=by
 cases o with
 |lst xs=>obtain⟨_,_,_,_,e⟩:=x;exact Heap.lt_size e
 |tup xs=>obtain⟨_,_,_,p⟩:=x;exact p.lt
 |dK kvs=>obtain⟨_,_,_,_,o,_,_,e,_⟩:=x;exact Heap.lt_size e
 |dT kvs=>obtain⟨_,_,_,_,o,_,_,e,_⟩:=x;exact Heap.lt_size e
 |set S n=>obtain⟨o,_,_,_,e,_⟩:=x;exact Heap.lt_size e
 |ins C dx fs=>obtain⟨_,_,_,e,_⟩:=x;exact Heap.lt_size e
 |own y=>obtain⟨_,e⟩:=x;exact Heap.lt_size e
 |xd fs=>obtain⟨_,⟨_,_,_,e,_⟩,_⟩:=x;exact Heap.lt_size e
 |rng lo hi=>obtain⟨_,_,_,e⟩:=x;exact Heap.lt_size e
 |frz ob u=>obtain⟨e,_⟩:=x;exact Heap.lt_size e
 |tbl ps=>exact Heap.lt_size (show h.get? a=some _ from x)
 |met f y=>exact Heap.lt_size (show h.get? a=some _ from x)
 |ext φ=>obtain⟨_,⟨_,e⟩,_⟩:=x;exact Heap.lt_size e
theorem Paired.mapP{α β:Type}{F G:α->β->Prop}:∀{l₁:List α} {l₂:List β},Paired F l₁ l₂->(∀a b,F a b->G a b)->Paired G l₁ l₂
 |_,_,.nil,_=>.nil
 |_,_,.cons r t,f=>.cons (f _ _ r) (Paired.mapP t f)
theorem ObjOk.stay(x:ObjOk P w H h a o)(k:∀b u,(b=a\/H b=some (.own a))->h.get? b=some u->h'.get? b=some u)
 (ho:∀b,H b=some (.own a)->H' b=some (.own a)) (ht:∀b xs,H b=some (.tup xs)->H' b=some (.tup xs)):ObjOk P w H' h' a o:=by
 induction o with
 |lst xs=>obtain⟨z,its,n,r,e⟩:=x;exact⟨z,its,n,r,k _ _ (.inl rfl) e⟩
 |tup xs=>obtain⟨z,its,r,ob,e,c⟩:=x;exact⟨z,its,r,ob,k _ _ (.inl rfl) e,c⟩
 |dK kvs=>obtain⟨z,y,vs,r,ob,es,ep,e,c⟩:=x;exact⟨z,y,vs,r,ob,es,ep,k _ _ (.inl rfl) e,c⟩
 |dT kvs=>
  obtain⟨z,y,xs,r,ob,es,ep,e,c⟩:=x
  exact⟨z,y,xs,Paired.mapP r λp q z=>⟨z.1,ht _ _ z.2.1,z.2.2⟩,ob,es,ep,k _ _ (.inl rfl) e,c⟩
 |set S n=>obtain⟨ob,es,ep,t,e,c⟩:=x;exact⟨ob,es,ep,t,k _ _ (.inl rfl) e,c⟩
 |ins C dx fs=>
  obtain⟨d,z,ne,e,mA,⟨od,es,ep,e2,c⟩,r⟩:=x
  exact⟨ho _ d,z,ne,k _ _ (.inl rfl) e,mA,⟨od,es,ep,k _ _ (.inr d) e2,c⟩,r⟩
 |own y=>obtain⟨ob,e⟩:=x;exact⟨ob,k _ _ (.inl rfl) e⟩
 |xd fs=>obtain⟨mA,⟨od,es,ep,e,c⟩,r⟩:=x;exact⟨mA,⟨od,es,ep,k _ _ (.inl rfl) e,c⟩,r⟩
 |rng lo hi=>obtain⟨t,u,v,e⟩:=x;exact⟨t,u,v,k _ _ (.inl rfl) e⟩
 |frz ob u ih=>obtain⟨e,q⟩:=x;exact⟨k _ _ (.inl rfl) e,ih q⟩
 |tbl ps=>
  have e:h.get? a=some {cls:=.none,data:=.fields ps}:=x
  show h'.get? a=some {cls:=.none,data:=.fields ps}
  exact k a _ (.inl rfl) e
 |met f y=>
  have e:h.get? a=some (PySem.W.methodObj (.ref f) (.ref y)):=x
  show h'.get? a=some (PySem.W.methodObj (.ref f) (.ref y))
  exact k a _ (.inl rfl) e
 |ext φ=>obtain⟨p,⟨o,e⟩,st⟩:=x;exact⟨st _ _ p λo q=>k _ _ (.inl rfl) q,⟨o,k _ _ (.inl rfl) e⟩,st⟩
theorem HOk.lt(x:HOk P w H h)(e:H a=some o):a<h.objs.size:=(x a o e).lt
theorem HOk.fresh(x:HOk P w H h)(e:h.objs.size<=a):H a=none:=by
 cases q:H a with
 |none=>rfl
 |some u=>exact absurd (cR (x.lt q) e) (jS _)
theorem HOk.kept(x:HOk P w H h)(k:∀b u,h.get? b=some u->h'.get? b=some u):HOk P w H h':=λa o e=>
 (x a o e).stay (λb u _ q=>k b u q) (λ_ q=>q) λ_ _ q=>q
theorem HOk.laid(x:HOk P w H h)(k:∀b u,h.get? b=some u->h'.get? b=some u)(hp:h.objs.size<=a)(new:ObjOk P w (upd H a o) h' a o):HOk P w (upd H a o) h':=λb u e=>by
 have hn:=x.fresh hp
 by_cases hb:b=a
 ·subst hb;rw[bQ]at e;cases e;exact new
 ·rw[aG hb]at e
  exact(x b u e).stay (λc v _ q=>k c v q) (λc q=>by rw[aG (eF q hn)];exact q) λc xs q=>by rw[aG (eF q hn)];exact q
end
noncomputable def Rd(H:Hp)(a:Addr)(u:HO):Prop:=H a=some u\/∃o,H a=some (.frz o u)
theorem Rd.ok{P:Program}{w:World}{H:Hp}{h:Heap}{a:Addr}{u:HO}(r:Rd H a u)(x:HOk P w H h):ObjOk P w H h a u:=by
 rcases r with r|⟨o,r⟩
 ·exact x a u r
 ·obtain⟨_,q⟩:=x a _ r
  exact q
noncomputable def Mut:Option HO->Prop
 |some (.lst _)=>True
 |some (.dK _)=>True
 |some (.dT _)=>True
 |some (.set _ _)=>True
 |some (.ins _ _ _)=>True
 |some (.ext _)=>True
 |_=>False
section
variable{P:Program}{w:World}{H:Hp}{h h':Heap}{x e:Addr}{o':HO}
theorem HOk.write(ok:HOk P w H h)(mu:Mut (H x))(he:e=x\/H e=some (.own x))(k:∀b u,b≠e->h.get? b=some u->h'.get? b=some u)(heo:∃u,h'.get? e=some u)
 (new:ObjOk P w (upd H x o') h' x o'):HOk P w (upd H x o') h':=λb u q=>by
 have nown:∀c y,H c=some (.own y)->c≠x:=λc y r z=>by subst z;rw[r]at mu;exact mu
 have ntup:∀c xs,H c=some (.tup xs)->c≠x:=λc xs r z=>by subst z;rw[r]at mu;exact mu
 by_cases hb:b=x
 ·subst hb;rw[bQ]at q;cases q;exact new
 ·rw[aG hb]at q
  by_cases hbe:b=e
  ·have q':H b=some (.own x):=by
    rcases he with z|z
    ·exact absurd (hbe.trans z) hb
    ·rw[hbe];exact z
   rw[q]at q';cases q'
   obtain⟨v,hv⟩:=heo
   exact⟨v,by rw[hbe];exact hv⟩
  ·refine(ok b u q).stay (λc v hc r=>k c v ?_ r) (λc r=>by rw[aG (nown c b r)];exact r) λc xs r=>by rw[aG (ntup c xs r)];exact r
   rcases hc with rfl|hc
   ·exact hbe
   ·rintro rfl
    rcases he with z|z
    ·exact nown c b hc z
    ·rw[hc]at z;cases z;exact hb rfl
end
set_option genInjectivity false in
structure Un(fs ex:List Addr)(H H':Hp)(h h':Heap):Prop where
 keep:∀b o,h.get? b=some o->H b=none->b∉fs->b∉ex->h'.get? b=some o
 slot:∀b o,h.get? b=some o->H b=none->b∈fs->b∉ex->∃sl,h'.get? b=some {o with slots:=sl}
 free:∀b o,h.get? b=some o->H b=none->b∉ex->H' b=none
 there:∀b o,h.get? b=some o->b∉ex->∃o',h'.get? b=some o'
 tups:∀b xs,H b=some (.tup xs)->H' b=some (.tup xs)
 frzs:∀b o u,H b=some (.frz o u)->H' b=some (.frz o u)
 tbls:∀b ps,H b=some (.tbl ps)->∃more,H' b=some (.tbl (ps++more))
section
variable{fs fs' ex ex':List Addr}{H H1 H2:Hp}{h h1 h2 h':Heap}{a x e:Addr}{o:HO}
theorem Un.any(u:Un fs ex H H1 h h1){b:Addr}{ob:Obj}(q:h.get? b=some ob)(n:H b=none)(hx:b∉ex):∃sl,h1.get? b=some {ob with slots:=sl}:=by
 by_cases hb:b∈fs
 ·exact u.slot b ob q n hb hx
 ·exact⟨ob.slots,u.keep b ob q n hb hx⟩
theorem Un.kept(k:∀b u,h.get? b=some u->h'.get? b=some u):Un fs ex H H h h':=
 ⟨λb ob q _ _ _=>k b ob q,λb ob q _ _ _=>⟨ob.slots,k b ob q⟩,λ_ _ _ n _=>n,λb ob q _=>⟨ob,k b ob q⟩,λ_ _ q=>q,λ_ _ _ q=>q,λ_ ps q=>⟨#[],by rw[q];simp⟩⟩
theorem Un.refl:Un fs ex H H h h:=Un.kept λ_ _ q=>q
theorem Un.laid(k:∀b u,h.get? b=some u->h'.get? b=some u)(hp:h.objs.size<=a)(hn:H a=none):Un fs ex H (upd H a o) h h' where
 keep:=λb u q _ _ _=>k b u q
 slot:=λb u q _ _ _=>⟨u.slots,k b u q⟩
 free:=λb u q n _=>by rw[aG (bM (cR (Heap.lt_size q) hp))];exact n
 there:=λb u q _=>⟨u,k b u q⟩
 tups:=λb xs q=>by rw[aG (eF q hn)];exact q
 frzs:=λb u xs q=>by rw[aG (eF q hn)];exact q
 tbls:=λb ps q=>⟨#[],by rw[aG (eF q hn),q];simp⟩
theorem Un.write(mu:Mut (H x))(he:e=x\/H e=some (.own x))(k:∀b u,b≠e->h.get? b=some u->h'.get? b=some u)(heo:∃u,h'.get? e=some u):Un fs ex H (upd H x o) h h':=by
 have hx:∀b,H b=none->b≠x:=λb n z=>by subst z;rw[n]at mu;exact mu
 have hb:∀b,H b=none->b≠e:=λb n z=>by
  subst z
  rcases he with r|r
  ·exact hx b n r
  ·rw[n]at r;cases r
 have hm:∀b u,H b=some u->¬Mut (some u)->b≠x:=λb u q nm z=>by subst z;rw[q]at mu;exact nm mu
 refine⟨λb u q n _ _=>k b u (hb b n) q,λb u q n _ _=>⟨u.slots,k b u (hb b n) q⟩,λb u q n _=>by rw[aG (hx b n)];exact n,λb u q _=>?_,
  λb xs q=>by rw[aG (hm b _ q λz=>z)];exact q,λb u xs q=>by rw[aG (hm b _ q λz=>z)];exact q,λb ps q=>⟨#[],by rw[aG (hm b _ q λz=>z),q];simp⟩⟩
 by_cases hbe:b=e
 ·subst hbe;exact heo
 ·exact⟨u,k b u hbe q⟩
end
noncomputable def trk(h:Heap)(H:Hp):List Addr:=(aF h.objs.size).filter λa=>(H a).isSome
noncomputable def iI(h:Heap)(H:Hp):Heap:=PySem.W.hideAll h (trk h H)
theorem FC(h:Heap)(H:Hp):(iI h H).objs.size=h.objs.size:=PySem.W.hideAll_size _ _
theorem FD{h:Heap}{H:Hp}{b:Addr}{o:Obj}(e:h.get? b=some o)(n:H b=none):(iI h H).get? b=some o:=
 PySem.W.hideAll_get _ e λhm=>by
  have q:(H b).isSome=true:=(fP.mp hm).2
  rw[n]at q;simp at q
theorem FE{h:Heap}{H:Hp}{b:Addr}{o:Obj}(e:(iI h H).get? b=some o):h.get? b=some o/\H b=none:=by
 have e':h.get? b=some o:=PySem.W.of_hideAll (trk h H) e
 refine⟨e',?_⟩
 cases q:H b with
 |none=>rfl
 |some x=>
  have hm:b∈trk h H:=fP.mpr ⟨dC.mpr (Heap.lt_size e'),by simp[q]⟩
  have z:(iI h H).get? b=none:=PySem.W.hideAll_none (trk h H) hm
  rw[z]at e;cases e
set_option genInjectivity false in
structure Mod(K:PySem.W.Frag)(mg:Str->Option Value)(base:Heap):Prop where
 kin:K.In base
 glob:base.Ns mainGlobals mg
 blt:∃mb,base.Ns builtinsNs mb/\∀x:Str,x ≠ "__name__" -> mb x=bootBuiltins x
 nolimit:base.NoLimit
set_option genInjectivity false in
structure Cx where
 prog:Program
 w:World
 K:PySem.W.Frag
 mg:Str->Option Value
 base:Heap
 A:Around
 N:List Str
 s₀:Shared
 H₀:Hp
 env:Env
 outer:List Env
 stack:List Env
 ex:List Addr
 fn:Str->Bool
 calm:Bool
 pn:List (Addr×Obj)
 xe:Value->Shared->Prop
noncomputable def frs(l:List Env):List Addr:=l.filterMap (·.frame)
noncomputable abbrev Cx.fs(X:Cx):List Addr:=frs X.outer
noncomputable def Vis(sc:Scope)(x:Str):Prop:=sc.names.lookup x=some .local\/sc.names.lookup x=some .cell\/sc.names.lookup x=some .free
noncomputable def Loc(sc:Scope)(x:Str):Prop:=sc.names.lookup x=some .local\/sc.names.lookup x=some .cell
noncomputable def Look(env:Env)(h:Heap)(m:Str->Option Value)(x:Str)(u:Value):Prop:=
 (env.kindOf x=some .local/\m x=some u)\/((env.kindOf x=some .cell\/env.kindOf x=some .free)/\∃c,env.cells.lookup x=some c/\h.IsCell c (some u))
set_option genInjectivity false in
structure Cx.Ok(X:Cx):Prop where
 mod:Mod X.K X.mg X.base
 kind:X.env.scope.kind=.function
 glob:X.env.globals=mainGlobals
 blt:X.env.builtins=builtinsNs
 above:X.s₀.heap.objs.size<=X.env.locals
 inj:∀x y c,X.env.cells.lookup x=some c->X.env.cells.lookup y=some c->x=y
 has:∀x,(X.env.kindOf x=some .cell\/X.env.kindOf x=some .free)->∃c,X.env.cells.lookup x=some c
 cab:∀x c,X.fn x=true->X.env.cells.lookup x=some c->X.s₀.heap.objs.size<=c
 hd:X.calm=true->X.A.handled=none
 frames:X.A.frames=some X.stack
 stk:X.stack=X.outer\/(X.stack=X.env::X.outer/\X.env.frame=some X.env.locals)
 exf:∀b∈X.ex,b≠X.env.locals/\∀x c,X.env.cells.lookup x=some c->c≠b
 bs:∀b o,X.base.get? b=some o->X.s₀.heap.get? b=some o/\X.H₀ b=none
 bsz:X.base.objs.size<=X.s₀.heap.objs.size
 noex:∀b o,X.base.get? b=some o->b∉X.ex
 exfs:∀b∈X.ex,b∉X.fs
 funs:X.s₀.heap.FunFrames X.base X.outer
 frf:∀b∈X.fs,X.H₀ b=none
set_option genInjectivity false in
structure Inv(X:Cx)(pins:List (Addr×Obj))(σ:List (Option V))(H:Hp)(s:Shared):Prop where
 ok:X.Ok
 os:s.os=X.s₀.os
 bare:AllBare s.gens
 base:Un X.fs X.ex X.H₀ H X.s₀.heap s.heap
 loc:∃m,s.heap.Ns X.env.locals m/\∀(i:Nat)(x:Str)(v:V),X.N[i]?=some x->σ[i]?=some (some v)->Vis X.env.scope x->∃u,RelV v u/\Look X.env s.heap m x u
 cell:∀x c,X.env.cells.lookup x=some c->∃v,s.heap.IsCell c v
 free:H X.env.locals=none
 freeC:∀x c,X.env.cells.lookup x=some c->H c=none
 pin:∀p∈X.pn++pins,s.heap.get? p.1=some p.2/\H p.1=none/\p.1≠X.env.locals/\p.1∉X.fs/\∀v,p.2.data≠.cell v
 hok:HOk X.prog X.w H s.heap
 len:σ.length=X.N.length
section
variable{X:Cx}{pins:List (Addr×Obj)}{σ:List (Option V)}{H H':Hp}{s:Shared}{h':Heap}
theorem Cx.Ok.nofr(ok:X.Ok){b:Addr}{o:Obj}(e:X.base.get? b=some o):b∉X.fs:=λhb=>by
 have:=(ok.funs.mem hb).1
 rw[e]at this;cases this
theorem Inv.bs(I:Inv X pins σ H s):∀b o,X.base.get? b=some o->s.heap.get? b=some o/\H b=none:=λb o e=>
 ⟨I.base.keep b o (I.ok.bs b o e).1 (I.ok.bs b o e).2 (I.ok.nofr e) (I.ok.noex b o e),I.base.free b o (I.ok.bs b o e).1 (I.ok.bs b o e).2 (I.ok.noex b o e)⟩
theorem Inv.bk(I:Inv X pins σ H s):∀b o,X.base.get? b=some o->s.heap.get? b=some o:=λb o e=>(I.bs b o e).1
theorem Inv.mod(I:Inv X pins σ H s):Mod X.K X.mg X.base:=I.ok.mod
theorem Inv.kIn(I:Inv X pins σ H s):X.K.In s.heap:=I.ok.mod.kin.keeps I.bk
theorem Inv.lt(I:Inv X pins σ H s):X.env.locals<s.heap.objs.size:=let ⟨_,hn,_⟩:=I.loc;hn.lt
theorem Inv.sz(I:Inv X pins σ H s):X.s₀.heap.objs.size<=s.heap.objs.size:=cD I.ok.above (jT I.lt)
theorem Inv.nofs(I:Inv X pins σ H s){a:Addr}(h:s.heap.objs.size<=a):a∉X.fs:=λhb=>by
 obtain⟨_,o,ho,_⟩:=I.ok.funs.mem hb
 exact absurd (cR (Heap.lt_size ho) (cD I.sz h)) (jS _)
theorem Inv.cne(I:Inv X pins σ H s):∀x c,X.env.cells.lookup x=some c->c≠X.env.locals:=λx c e z=>by
 obtain⟨v,o,ho,hd⟩:=I.cell x c e
 obtain⟨m,⟨o',es,ep,ho',hd',_⟩,_⟩:=I.loc
 rw[z,ho']at ho;cases ho;rw[hd']at hd;cases hd
theorem Inv.funs(I:Inv X pins σ H s):s.heap.FunFrames X.base X.outer:=by
 have all:∀(l:List Env),(∀b∈frs l,b∈X.fs)->X.s₀.heap.FunFrames X.base l->s.heap.FunFrames X.base l:=by
  intro l
  induction l with
  |nil=>intro _ _;trivial
  |cons env r ih=>
   intro hs hl
   obtain⟨hk,⟨L,o,hf,hn,ho,hd⟩,hr⟩:=hl
   have hL:L∈X.fs:=hs L (by unfold frs;rw[iF,hf];exact bR)
   obtain⟨sl,e⟩:=I.base.slot L o ho (I.ok.frf L hL) hL λz=>I.ok.exfs L z hL
   exact⟨hk,⟨L,_,hf,hn,e,hd⟩,ih (λb hb=>hs b (by unfold frs;rw[iF,hf];exact bG _ hb)) hr⟩
 exact all X.outer (λ_ hb=>hb) I.ok.funs
theorem Inv.stack(I:Inv X pins σ H s):s.heap.FunFrames X.base X.stack:=by
 rcases I.ok.stk with e|⟨e,hf⟩
 ·rw[e];exact I.funs
 ·rw[e]
  obtain⟨m,hn,_⟩:=I.loc
  refine .cons (by rw[I.ok.kind];decide) hf hn ?_ I.funs
  exact Heap.get?_none_of_le (cD I.ok.bsz I.ok.above)
theorem Inv.stkSub(I:Inv X pins σ H s):∀b∈frs X.stack,b∈X.env.locals::X.fs:=λb hb=>by
 rcases I.ok.stk with e|⟨e,hf⟩
 ·rw[e]at hb;exact bG _ hb
 ·rw[e]at hb
  unfold frs at hb
  rw[iF,hf]at hb
  exact hb
theorem Inv.stkFree(I:Inv X pins σ H s):∀b∈frs X.stack,H b=none:=λb hb=>by
 rcases aY.mp (I.stkSub b hb)with e|hb
 ·rw[e];exact I.free
 ·obtain⟨_,o,ho,_⟩:=I.ok.funs.mem hb
  exact I.base.free b o ho (I.ok.frf b hb) λz=>I.ok.exfs b z hb
theorem Inv.step{g':Array GenState}{t':Nat}{d':Drawn}{ch:List Addr}(I:Inv X pins σ H s)
 (hch:∀b∈ch,(b∈X.ex\/X.s₀.heap.objs.size<=b)/\b≠X.env.locals/\(∀x c,X.env.cells.lookup x=some c->c≠b)/\∀p∈X.pn++pins,p.1≠b)
 (keep:∀b o,b≠X.env.locals->b∉X.fs->b∉ch->s.heap.get? b=some o->H b=none->h'.get? b=some o)
 (slot:∀b o,b≠X.env.locals->b∈X.fs->b∉ch->s.heap.get? b=some o->H b=none->∃sl,h'.get? b=some {o with slots:=sl}) (free:∀b o,b∉ch->s.heap.get? b=some o->H b=none->H' b=none)
 (there:∀b o,b∉ch->s.heap.get? b=some o->∃o',h'.get? b=some o')
 (tups:∀b xs,H b=some (.tup xs)->H' b=some (.tup xs)) (frzs:∀b o u,H b=some (.frz o u)->H' b=some (.frz o u)) (tbls:∀b ps,H b=some (.tbl ps)->∃more,H' b=some (.tbl (ps++more)))
 (ns:∀m,s.heap.Ns X.env.locals m->h'.Ns X.env.locals m) (hok:HOk X.prog X.w H' h') (hg:AllBare g') :
 Inv X pins σ H' {s with heap:=h',gens:=g',drawn:=d',toks:=t' }:=by
 have neL:∀b o,X.s₀.heap.get? b=some o->b≠X.env.locals:=λb o e=>bM (cR (Heap.lt_size e) I.ok.above)
 have neC:∀b o,X.s₀.heap.get? b=some o->b∉X.ex->b∉ch:=λb o e hx hb=>by
  rcases(hch b hb).1 with z|z
  ·exact hx z
  ·exact absurd (cR (Heap.lt_size e) z) (jS _)
 have cellK:∀x c,X.env.cells.lookup x=some c->∀v,s.heap.IsCell c v->h'.IsCell c v:=λx c e v ⟨o,ho,hd⟩=>by
  have nch:c∉ch:=λz=>(hch c z).2.2.1 x c e rfl
  by_cases hc:c∈X.fs
  ·obtain⟨sl,q⟩:=slot c o (I.cne x c e) hc nch ho (I.freeC x c e)
   exact⟨_,q,hd⟩
  ·exact⟨o,keep c o (I.cne x c e) hc nch ho (I.freeC x c e),hd⟩
 refine⟨I.ok,I.os,hg,⟨λb o e n hb hx=>?_,λb o e n hb hx=>?_,λb o e n hx=>?_,λb o e hx=>?_,λb xs e=>tups b xs (I.base.tups b xs e),λb o xs e=>frzs b o xs (I.base.frzs b o xs e),λb ps e=>?_⟩,?_,λx c e=>?_,?_,λx c e=>?_,λp hp=>?_,hok,I.len⟩
 ·exact keep b o (neL b o e) hb (neC b o e hx) (I.base.keep b o e n hb hx) (I.base.free b o e n hx)
 ·obtain⟨sl,e1⟩:=I.base.slot b o e n hb hx
  obtain⟨sl',e2⟩:=slot b _ (neL b o e) hb (neC b o e hx) e1 (I.base.free b o e n hx)
  exact⟨sl',e2⟩
 ·obtain⟨o',e1⟩:=I.base.there b o e hx
  exact free b o' (neC b o e hx) e1 (I.base.free b o e n hx)
 ·obtain⟨o',e1⟩:=I.base.there b o e hx
  exact there b o' (neC b o e hx) e1
 ·obtain⟨m1,e1⟩:=I.base.tbls b ps e
  obtain⟨m2,e2⟩:=tbls b _ e1
  exact⟨m1++m2,by rw[e2,LN]⟩
 ·obtain⟨m,hn,hl⟩:=I.loc
  refine⟨m,ns m hn,λi x v e1 e2 e3=>?_⟩
  obtain⟨u,r,l⟩:=hl i x v e1 e2 e3
  refine⟨u,r,?_⟩
  rcases l with l|⟨k,c,e,z⟩
  ·exact .inl l
  ·exact .inr ⟨k,c,e,cellK x c e _ z⟩
 ·obtain⟨v,z⟩:=I.cell x c e
  exact⟨v,cellK x c e v z⟩
 ·obtain⟨m,⟨o,_,_,ho,_⟩,_⟩:=I.loc
  exact free _ o (λz=>(hch _ z).2.1 rfl) ho I.free
 ·obtain⟨v,o,ho,hd⟩:=I.cell x c e
  exact free c o (λz=>(hch c z).2.2.1 x c e rfl) ho (I.freeC x c e)
 ·obtain⟨e,n,ne,nf,d⟩:=I.pin p hp
  have nch:p.1∉ch:=λz=>(hch p.1 z).2.2.2 p hp rfl
  exact⟨keep p.1 p.2 ne nf nch e n,free p.1 p.2 nch e n,ne,nf,d⟩
theorem Inv.un{t':Nat}(I:Inv X pins σ H s)(u:Un X.fs [] H H' s.heap h')(hok:HOk X.prog X.w H' h'):Inv X pins σ H' {s with heap:=h',toks:=t' }:=by
 obtain⟨m,⟨o,es,ep,ho,r⟩,_⟩:=id I.loc
 obtain⟨sl,hL⟩:=u.any ho I.free (by simp)
 exact I.step (g':=s.gens) (d':=s.drawn) (ch:=[]) (λ_ z=>nomatch z) (λb o _ hb _ e n=>u.keep b o e n hb (by simp)) (λb o _ hb _ e n=>u.slot b o e n hb (by simp)) (λb o _ e n=>u.free b o e n (by simp)) (λb o _ e=>u.there b o e (by simp)) u.tups u.frzs u.tbls (λm' hm=>by
  obtain⟨o',es',ep',ho',r'⟩:=hm
  rw[ho]at ho';cases ho'
  exact⟨_,es',ep',hL,r'⟩) hok I.bare
theorem Inv.call{g':Array GenState}{t':Nat}{d':Drawn}{ch:List Addr}(I:Inv X pins σ H s)(u:Un (frs X.stack) ch H H' s.heap h')(hok:HOk X.prog X.w H' h')(hg:AllBare g')
 (hch:∀b∈ch,(b∈X.ex\/X.s₀.heap.objs.size<=b)/\b≠X.env.locals/\(∀x c,X.env.cells.lookup x=some c->c≠b)/\∀p∈X.pn++pins,p.1≠b) :
 Inv X pins σ H' {s with heap:=h',gens:=g',drawn:=d',toks:=t' }:=by
 obtain⟨m,⟨o,es,ep,ho,r⟩,_⟩:=id I.loc
 obtain⟨sl,hL⟩:=u.any ho I.free λz=>(hch _ z).2.1 rfl
 exact I.step (ch:=ch) hch (λb o hL hb hc e n=>u.keep b o e n (λz=>(aY.mp (I.stkSub b z)).elim hL hb) hc) (λb o _ _ hc e n=>u.any e n hc) (λb o hc e n=>u.free b o e n hc) (λb o hc e=>u.there b o e hc) u.tups u.frzs u.tbls (λm' hm=>by
  obtain⟨o',es',ep',ho',r'⟩:=hm
  rw[ho]at ho';cases ho'
  exact⟨_,es',ep',hL,r'⟩) hok hg
theorem Inv.turned{t':Nat}{it:Addr}(I:Inv X pins σ H s)(k:∀b o,b≠it->s.heap.get? b=some o->h'.get? b=some o)(hn:H it=none)(hL:it≠X.env.locals)
 (h1:it∈X.ex\/X.s₀.heap.objs.size<=it) (h2:∀x c,X.env.cells.lookup x=some c->c≠it) (h3:∀p∈X.pn++pins,p.1≠it):Inv X pins σ H {s with heap:=h',toks:=t' }:=by
 have nit:∀b u,H b=some u->b≠it:=λb u e z=>by rw[z,hn]at e;cases e
 refine I.step (g':=s.gens) (d':=s.drawn) (ch:=[it]) (λb hb=>?_) (λb o _ _ hc e _=>k b o (λz=>hc (by simp[z])) e) (λb o _ _ hc e _=>⟨o.slots,k b o (λz=>hc (by simp[z])) e⟩) (λ_ _ _ _ n=>n)
  (λb o hc e=>⟨o,k b o (λz=>hc (by simp[z])) e⟩) (λ_ _ e=>e) (λ_ _ _ e=>e) (λb ps e=>⟨#[],by rw[e];simp⟩) (λm hm=>?_) (λb u e=>?_) I.bare
 ·have e:b=it:=by simpa using hb
  subst e
  exact⟨h1,hL,h2,h3⟩
 ·obtain⟨o,es,ep,ho,r⟩:=hm
  exact⟨o,es,ep,k _ o (Ne.symm hL) ho,r⟩
 ·refine(I.hok b u e).stay (λc v hc q=>k c v ?_ q) (λ_ q=>q) λ_ _ q=>q
  rcases hc with z|z
  ·rw[z];exact nit b u e
  ·exact nit c _ z
theorem Inv.tok(I:Inv X pins σ H s)(t:Nat):Inv X pins σ H {s with toks:=t}:=I.un (h':=s.heap) (t':=t) Un.refl I.hok
theorem Inv.kept{t':Nat}(I:Inv X pins σ H s)(k:∀b u,s.heap.get? b=some u->h'.get? b=some u):Inv X pins σ H {s with heap:=h',toks:=t' }:=I.un (Un.kept k) (I.hok.kept k)
theorem Inv.laid{a:Addr}{o:HO}{t':Nat}(I:Inv X pins σ H s)(k:∀b u,s.heap.get? b=some u->h'.get? b=some u)(hp:s.heap.objs.size<=a)(new:ObjOk X.prog X.w (upd H a o) h' a o) :
 Inv X pins σ (upd H a o) {s with heap:=h',toks:=t' }:=I.un (Un.laid k hp (I.hok.fresh hp)) (I.hok.laid k hp new)
theorem Inv.write{x e:Addr}{o:HO}{t':Nat}(I:Inv X pins σ H s)(mu:Mut (H x))(he:e=x\/H e=some (.own x))(k:∀b u,b≠e->s.heap.get? b=some u->h'.get? b=some u)(heo:∃u,h'.get? e=some u)
 (new:ObjOk X.prog X.w (upd H x o) h' x o):Inv X pins σ (upd H x o) {s with heap:=h',toks:=t' }:=I.un (Un.write mu he k heo) (I.hok.write mu he k heo new)
theorem Inv.pins_of{pins':List (Addr×Obj)}(I:Inv X pins σ H s)(h:∀p∈pins',s.heap.get? p.1=some p.2/\H p.1=none/\p.1≠X.env.locals/\p.1∉X.fs/\∀v,p.2.data≠.cell v):Inv X pins' σ H s:=
 ⟨I.ok,I.os,I.bare,I.base,I.loc,I.cell,I.free,I.freeC,λp hp=>(fQ.mp hp).elim (λz=>I.pin p (pI _ z)) (h p),I.hok,I.len⟩
theorem uS{N:List Str}(hN:N.Nodup){i j:Nat}{x:Str}(a:N[i]?=some x)(b:N[j]?=some x):i=j:=by
 obtain⟨h1,e1⟩:=eT.mp a
 obtain⟨h2,e2⟩:=eT.mp b
 exact(LO hN).mp (e1.trans e2.symm)
theorem AQ{M:Model}{A:Around}{E:Value->Shared->Prop}{i:Nat}{x:Str}{v:V}{u:Value}{Q:Unit->Shared->Prop}(I:Inv X pins σ H s)(hN:X.N.Nodup)(hi:X.N[i]?=some x)(hx:Loc X.env.scope x)(r:RelV v u)
 (h:∀s',Inv X pins (σ.set i (some v)) H s'->(∃a,Heap.SameBut a s.heap s'.heap/\(a=X.env.locals\/X.env.cells.lookup x=some a))->Q () s') (hf:X.fn x=true\/X.env.scope.names.lookup x=some .local:=by first|exact .inl rfl|exact .inr rfl|assumption):wpAny M A (storeName X.env x u) Q E s:=by
 obtain⟨m,hn,hl⟩:=id I.loc
 have hcls:(X.env.scope.kind==.class||(X.env.scope.kind==.module&&X.env.locals != X.env.globals))=false:=by rw[I.ok.kind];rfl
 have hiσ:i<σ.length:=by rw[I.len];exact(eT.mp hi).1
 have cne:=I.cne
 have tracked:∀{a:Addr} {h':Heap},(∃o,s.heap.get? a=some o/\H a=none)->Heap.SameBut a s.heap h'->HOk X.prog X.w H h':=λ{a h'} ha hs b ob e=>by
  obtain⟨_,_,hfree⟩:=ha
  refine(I.hok b ob e).stay (λc w' hc q=>(hs.2 c ?_).trans q) (λ_ q=>q) λ_ _ q=>q
  rintro rfl
  rcases hc with rfl|hc
  ·rw[hfree]at e;cases e
  ·rw[hfree]at hc;cases hc
 rcases hx with hk|hk
 ·refine wpAny_storeName_local hk hn (λh' hn' hs=>?_) hcls
  obtain⟨oL,_,_,hoL,_⟩:=id hn
  refine h _ ⟨I.ok,I.os,I.bare,⟨λb o e n hb hx=>?_,λb o e n hb hx=>?_,I.base.free,λb o e hx=>?_,I.base.tups,I.base.frzs,I.base.tbls⟩,⟨_,hn',λj y v' e1 e2 e3=>?_⟩,λy c e=>?_,I.free,I.freeC,λp hp=>?_,tracked ⟨oL,hoL,I.free⟩ hs,by simpa using I.len⟩ ⟨_,hs,.inl rfl⟩
  ·exact(hs.2 b (bM (cR (Heap.lt_size e) I.ok.above))).trans (I.base.keep b o e n hb hx)
  ·obtain⟨sl,e1⟩:=I.base.slot b o e n hb hx
   exact⟨sl,(hs.2 b (bM (cR (Heap.lt_size e) I.ok.above))).trans e1⟩
  ·obtain⟨o',e1⟩:=I.base.there b o e hx
   exact⟨o',(hs.2 b (bM (cR (Heap.lt_size e) I.ok.above))).trans e1⟩
  ·by_cases hj:j=i
   ·subst hj
    rw[hi]at e1;cases e1
    rw[iZ hiσ]at e2
    cases e2
    exact⟨u,r,.inl ⟨hk,by simp⟩⟩
   ·rw[kZ (Ne.symm hj)]at e2
    obtain⟨u',r',q⟩:=hl j y v' e1 e2 e3
    refine⟨u',r',?_⟩
    rcases q with⟨k,e⟩|⟨k,c,e,z⟩
    ·refine .inl ⟨k,?_⟩
     have:y≠x:=λe=>hj (uS hN e1 (e▸hi))
     simp[this,e]
    ·exact .inr ⟨k,c,e,z.sameBut hs (cne y c e)⟩
  ·obtain⟨w',z⟩:=I.cell y c e
   exact⟨w',z.sameBut hs (cne y c e)⟩
  ·obtain⟨e,n,ne,nf,d⟩:=I.pin p hp
   exact⟨(hs.2 p.1 ne).trans e,n,ne,nf,d⟩
 ·have hfn:X.fn x=true:=by
   rcases hf with z|z
   ·exact z
   ·rw[z]at hk;cases hk
  obtain⟨c,hc⟩:=I.ok.has x (.inl hk)
  obtain⟨w',z⟩:=I.cell x c hc
  refine wpAny_storeName_cell I.ok.kind hk hc z (λh' hc' hs=>?_)
  obtain⟨oc,hoc,hocd⟩:=id z
  refine h {s with heap:=h' } ⟨I.ok,I.os,I.bare,⟨λb o e n hb hx=>?_,λb o e n hb hx=>?_,I.base.free,λb o e hx=>?_,I.base.tups,I.base.frzs,I.base.tbls⟩,⟨m,hn.sameBut hs (Ne.symm (cne x c hc)),λj y v' e1 e2 e3=>?_⟩,λy c' e=>?_,I.free,I.freeC,λp hp=>?_,tracked ⟨oc,hoc,I.freeC x c hc⟩ hs,by simpa using I.len⟩ ⟨c,hs,.inr hc⟩
  ·exact(hs.2 b (bM (cR (Heap.lt_size e) (I.ok.cab x c hfn hc)))).trans (I.base.keep b o e n hb hx)
  ·obtain⟨sl,e1⟩:=I.base.slot b o e n hb hx
   exact⟨sl,(hs.2 b (bM (cR (Heap.lt_size e) (I.ok.cab x c hfn hc)))).trans e1⟩
  ·obtain⟨o',e1⟩:=I.base.there b o e hx
   exact⟨o',(hs.2 b (bM (cR (Heap.lt_size e) (I.ok.cab x c hfn hc)))).trans e1⟩
  ·by_cases hj:j=i
   ·subst hj
    rw[hi]at e1;cases e1
    rw[iZ hiσ]at e2
    cases e2
    exact⟨u,r,.inr ⟨.inl hk,c,hc,hc'⟩⟩
   ·rw[kZ (Ne.symm hj)]at e2
    obtain⟨u',r',q⟩:=hl j y v' e1 e2 e3
    refine⟨u',r',?_⟩
    rcases q with q|⟨k,c',e,z'⟩
    ·exact .inl q
    ·refine .inr ⟨k,c',e,z'.sameBut hs ?_⟩
     rintro rfl
     exact hj (uS hN e1 (I.ok.inj _ _ _ e hc▸hi))
  ·by_cases hcc:c'=c
   ·subst hcc;exact⟨_,hc'⟩
   ·obtain⟨w2,z2⟩:=I.cell y c' e
    exact⟨w2,z2.sameBut hs hcc⟩
  ·obtain⟨e,n,ne,nf,d⟩:=I.pin p hp
   refine⟨(hs.2 p.1 ?_).trans e,n,ne,nf,d⟩
   intro q
   rw[q,hoc]at e
   have q':oc=p.2:=eM.inj e
   exact d w' (by rw[<-q'];exact hocd)
theorem uT{M:Model}{A:Around}{E:Value->Shared->Prop}{i:Nat}{x:Str}{v:V}{u:Value}{Q:Unit->Shared->Prop}(I:Inv X pins σ H s)(hN:X.N.Nodup)(hi:X.N[i]?=some x)(hx:Loc X.env.scope x)(r:RelV v u)
 (h:∀s',Inv X pins (σ.set i (some v)) H s'->Q () s') (hf:X.fn x=true\/X.env.scope.names.lookup x=some .local:=by first|exact .inl rfl|exact .inr rfl|assumption):wpAny M A (storeName X.env x u) Q E s:=
 AQ I hN hi hx r (λs' I' _=>h s' I') hf
theorem Inv.call'{s':Shared}{ch:List Addr}(I:Inv X pins σ H s)(ho:s'.os=s.os)(u:Un (frs X.stack) ch H H' s.heap s'.heap)(hok:HOk X.prog X.w H' s'.heap)(hg:AllBare s'.gens)
 (hch:∀b∈ch,(b∈X.ex\/X.s₀.heap.objs.size<=b)/\b≠X.env.locals/\(∀x c,X.env.cells.lookup x=some c->c≠b)/\∀p∈X.pn++pins,p.1≠b):Inv X pins σ H' s':=by
 obtain⟨h',g',d',t',o'⟩:=s'
 have e:o'=s.os:=ho
 subst e
 exact I.call (g':=g') (t':=t') (d':=d') u hok hg hch
end
noncomputable abbrev XK:=Value->Option Addr->Hp->Prop
noncomputable abbrev St:=List (Option V)
noncomputable abbrev VK:=V->Hp->Prop
noncomputable abbrev TE:=St->Hp->VK->Prop
noncomputable abbrev TT:=St->Hp->(Bool->Hp->Prop)->Prop
noncomputable abbrev TA:=St->Hp->(List V->Hp->Prop)->Prop
set_option genInjectivity false in
structure Ends where
 nx:St->Hp->Prop
 rt:VK
 bk:St->Hp->Prop:=λ_ _=>False
 ct:St->Hp->Prop:=λ_ _=>False
noncomputable abbrev TS:=Ends->St->Hp->Prop
noncomputable def EP(X:Cx)(pins:List (Addr×Obj))(σ:St)(Q:VK)(u:Value)(s':Shared):Prop:=∃v H',Inv X pins σ H' s'/\RelV v u/\Q v H'
noncomputable def TP(X:Cx)(pins:List (Addr×Obj))(σ:St)(Q:Bool->Hp->Prop)(b:Bool)(s':Shared):Prop:=∃H',Inv X pins σ H' s'/\Q b H'
noncomputable def AP(X:Cx)(pins:List (Addr×Obj))(σ:St)(Q:List V->Hp->Prop)(us:List Value)(s':Shared):Prop:=∃vs H',Inv X pins σ H' s'/\Vals vs us/\Q vs H'
noncomputable def SP(X:Cx)(pins:List (Addr×Obj))(D:Ends)(f:Flow)(s':Shared):Prop:=
 match f with
 |.next=>∃σ' H',Inv X pins σ' H' s'/\D.nx σ' H'
 |.brk=>∃σ' H',Inv X pins σ' H' s'/\D.bk σ' H'
 |.cont=>∃σ' H',Inv X pins σ' H' s'/\D.ct σ' H'
 |.ret u=>∃v σ' H',Inv X pins σ' H' s'/\RelV v u/\D.rt v H'
noncomputable def PE(X:Cx)(e:Expr)(t:TE):Prop:=
 ∀(pins:List (Addr×Obj))(s:Shared)(σ:St)(H:Hp)(Q:VK),Inv X pins σ H s->t σ H Q->wpAny (model X.prog X.w) X.A (eval e X.env) (EP X pins σ Q) X.xe s
noncomputable def PT(X:Cx)(e:Expr)(t:TT):Prop:=
 ∀(pins:List (Addr×Obj))(s:Shared)(σ:St)(H:Hp)(Q:Bool->Hp->Prop),Inv X pins σ H s->t σ H Q->wpAny (model X.prog X.w) X.A (isTrue e X.env (eval e X.env)) (TP X pins σ Q) X.xe s
noncomputable def PW(X:Cx)(e:Expr)(t:TT):Prop:=
 ∀(whole:Sem Value)(pins:List (Addr×Obj))(s:Shared)(σ:St)(H:Hp)(Q:Bool->Hp->Prop),Inv X pins σ H s->t σ H Q->wpAny (model X.prog X.w) X.A (isTrue e X.env whole) (TP X pins σ Q) X.xe s
theorem PW.pt{X:Cx}{e:Expr}{t:TT}(h:PW X e t):PT X e t:=h _
noncomputable def PA(X:Cx)(es:List Expr)(t:TA):Prop:=
 ∀(pos:Pos)(pins:List (Addr×Obj))(s:Shared)(σ:St)(H:Hp)(Q:List V->Hp->Prop),Inv X pins σ H s->t σ H Q->wpAny (model X.prog X.w) X.A (spliced (backTo pos (starEach es X.env))) (AP X pins σ Q) X.xe s
noncomputable def PS(X:Cx)(st:Stmt)(t:TS):Prop:=
 ∀(pins:List (Addr×Obj))(s:Shared)(σ:St)(H:Hp)(D:Ends),Inv X pins σ H s->t D σ H->wpAny (model X.prog X.w) X.A (exec st X.env) (SP X pins D) X.xe s
noncomputable def PSs(X:Cx)(st:List Stmt)(t:TS):Prop:=
 ∀(pins:List (Addr×Obj))(s:Shared)(σ:St)(H:Hp)(D:Ends),Inv X pins σ H s->t D σ H->wpAny (model X.prog X.w) X.A (execs st X.env) (SP X pins D) X.xe s
theorem thn{α:Type}{t:Sem α}{Q Q':α->Shared->Prop}{M:Model}{A:Around}{E:Value->Shared->Prop}{s:Shared}(h:wpAny M A t Q E s)(hQ:∀a s,Q a s->Q' a s):wpAny M A t Q' E s:=wpAny_mono h hQ λ_ _ x=>x
section
variable{X:Cx}
theorem bin{a b:Expr}{ta tb:TE}(ha:PE X a ta)(hb:PE X b tb){pins:List (Addr×Obj)}{s:Shared}{σ:St}{H:Hp}{R:V->V->Hp->Prop}(I:Inv X pins σ H s)(h:ta σ H λx H1=>tb σ H1 λy H2=>R x y H2)
 {α:Type} {Q:α->Shared->Prop} {f:Value->Value->Sem α}
 (hf:∀v u s2 x y H2,Inv X pins σ H2 s2->RelV x v->RelV y u->R x y H2->wpAny (model X.prog X.w) X.A (f v u) Q X.xe s2) :
 wpAny (model X.prog X.w) X.A (eval a X.env) (λv s₁=>wpAny (model X.prog X.w) X.A (eval b X.env) (λu s₂=>wpAny (model X.prog X.w) X.A (f v u) Q X.xe s₂) X.xe s₁) X.xe s:=by
 refine thn (ha pins s σ H _ I h) λv s1 ⟨x,H1,I1,r1,q1⟩=>?_
 refine thn (hb pins s1 σ H1 _ I1 q1) λu s2 ⟨y,H2,I2,r2,q2⟩=>?_
 exact hf v u s2 x y H2 I2 r1 r2 q2
noncomputable def pV(i:Nat):TE:=λσ H Q=>∃v,σ[i]?=some (some v)/\Q v H
noncomputable def tC(v:V):TE:=λ_ H Q=>Q v H
theorem dZ {i:Nat} {x:Str} {pos:Pos} (hN:X.N[i]?=some x) (hv:Vis X.env.scope x) (hd:(x==("__debug__" : Str))=false:=by decide) (hcd:(x==("__classdict__" : Str))=false:=by decide):PE X (.Name x pos) (pV i):=by
 intro pins s σ H Q I h
 obtain⟨v,e,h⟩:=h
 obtain⟨m,hn,hl⟩:=I.loc
 obtain⟨u,r,l⟩:=hl i x v hN e hv
 have fin:EP X pins σ Q u s:=⟨v,H,I,r,h⟩
 rcases l with⟨hk,hm⟩|⟨hk,c,hc,hcell⟩
 ·exact wpAny_Name (wpAny_loadName_local I.ok.kind hk hn hm fin) hd
 ·rcases hk with hk|hk
  ·exact wpAny_Name (wpAny_loadName_cell I.ok.kind hk hc hcell fin) hd
  ·exact wpAny_Name (wpAny_loadName_free I.ok.kind hk hc hcell fin hcd) hd
theorem pe_int{i j pos}:PE X (.Constant (.int i) j pos) (tC (.int i)):=λ_ _ _ H _ I h=>wpAny_Constant_int ⟨.int i,H,I.tok _,⟨_,rfl⟩,h⟩
theorem pe_bl{b j pos}:PE X (.Constant (.bool b) j pos) (tC (.bl b)):=λ_ _ _ H _ I h=>Constant_bool ⟨.bl b,H,I,rfl,h⟩
theorem pe_non{j pos}:PE X (.Constant .none j pos) (tC .non):=λ_ _ _ H _ I h=>Constant_none ⟨.non,H,I,rfl,h⟩
theorem uU{x j pos}:PE X (.Constant (.str x) j pos) (tC (.str x)):=λ_ _ _ H _ I h=>Calls.Constant_str ⟨.str x,H,I.tok _,⟨_,rfl⟩,h⟩
noncomputable def Gl(X:Cx)(x:Str):Prop:=X.env.kindOf x=some .globalImplicit
theorem pW{E:Value->Shared->Prop}{pins:List (Addr×Obj)}{s:Shared}{σ:St}{H:Hp}{x:Str}{u:Value}{pos:Pos}{Q:Value->Shared->Prop}(I:Inv X pins σ H s)(hg:Gl X x)(hm:X.mg x=some u)(h:Q u s)
 (hd:(x==("__debug__" : Str))=false:=by decide):wpAny (model X.prog X.w) X.A (eval (.Name x pos) X.env) Q E s:=
 Calls.Name_function_global I.ok.kind hg (Calls.loadGlobal_global (by rw[I.ok.glob];exact I.mod.glob.keeps I.bk) hm h) hd
theorem jZ{E:Value->Shared->Prop}{pins:List (Addr×Obj)}{s:Shared}{σ:St}{H:Hp}{x:Str}{u:Value}{pos:Pos}{Q:Value->Shared->Prop}(I:Inv X pins σ H s)(hg:Gl X x)(hm:X.mg x=none)(hv:bootBuiltins x=some u)(h:Q u s)
 (hn:x ≠ "__name__" := by decide) (hd:(x==("__debug__" : Str))=false:=by decide):wpAny (model X.prog X.w) X.A (eval (.Name x pos) X.env) Q E s:=by
 obtain⟨mb,h1,h2⟩:=I.mod.blt
 exact Calls.Name_function_global I.ok.kind hg (Calls.loadGlobal_builtin (by rw[I.ok.glob];exact I.mod.glob.keeps I.bk) hm (by rw[I.ok.blt];exact h1.keeps I.bk) ((h2 x hn).trans hv) h) hd
theorem AR {x:Str} {v:V} {u:Value} {pos:Pos} (hg:Gl X x) (hm:X.mg x=some u) (r:RelV v u) (hd:(x==("__debug__" : Str))=false:=by decide):PE X (.Name x pos) (tC v):=
 λ_ _ _ H _ I h=>pW I hg hm ⟨v,H,I,r,h⟩ hd
theorem FF {x:Str} {v:V} {u:Value} {pos:Pos} (hg:Gl X x) (hm:X.mg x=none) (hv:bootBuiltins x=some u) (r:RelV v u) (hn:x ≠ "__name__" := by decide) (hd:(x==("__debug__" : Str))=false:=by decide):PE X (.Name x pos) (tC v):=
 λ_ _ _ H _ I h=>jZ I hg hm hv ⟨v,H,I,r,h⟩ hn hd
variable{a b:Expr}{ta tb:TE}{pos:Pos}
noncomputable def PC(X:Cx)(op:CmpOp)(a b:Expr)(t:TE):Prop:=
 ∀(pins:List (Addr×Obj))(s:Shared)(σ:St)(H:Hp)(Q:VK),Inv X pins σ H s->t σ H Q ->
  wpAny (model X.prog X.w) X.A (eval a X.env) (λv s₁=>wpAny (model X.prog X.w) X.A (eval b X.env) (λu s₂=>wpAny (model X.prog X.w) X.A (compareOp op v u) (EP X pins σ Q) X.xe s₂) X.xe s₁) X.xe s
theorem FG(b:Expr){op:CmpOp}(h:op≠.In)(h2:op≠.NotIn):behindInMarks op b=false:=by
 have e1:(op==CmpOp.In)=false:=by cases op<;>first|rfl|exact absurd rfl h
 have e2:(op==CmpOp.NotIn)=false:=by cases op<;>first|rfl|exact absurd rfl h2
 cases b<;>simp[behindInMarks,e1,e2]
noncomputable def tIsN(ta:TE):TE:=λσ H Q=>ta σ H λx H1=>Q (.bl (decide (x=.non))) H1
theorem RelV.none_iff{x:V}{v:Value}(r:RelV x v):(v==Value.none)=decide (x=.non):=by
 cases x with
 |non=>cases r;rfl
 |bl _=>cases r;rfl
 |int _=>obtain⟨t,rfl⟩:=r;rfl
 |str _=>obtain⟨t,rfl⟩:=r;rfl
 |byt _=>obtain⟨t,rfl⟩:=r;rfl
 |flt _=>obtain⟨t,rfl⟩:=r;rfl
 |ref _=>cases r;rfl
 |ty _=>cases r;rfl
theorem AS{j pos'}(ha:PE X a ta):PC X .Is a (.Constant .none j pos') (tIsN ta):=by
 intro pins s σ H Q I h
 refine thn (ha pins s σ H _ I h) λv s1 ⟨x,H1,I1,r1,q1⟩=>?_
 exact Constant_none (is_none_gen ⟨.bl _,H1,I1,by rw[r1.none_iff];rfl,q1⟩)
noncomputable def tB(t:TE):TT:=λσ H Q=>t σ H λx H1=>∃c,x=.bl c/\Q c H1
theorem AU{op:CmpOp}{t:TE}(h:PC X op a b t)(h1:behindInMarks op b=false:=by first|exact FG _ (by decide) (by decide)|rfl):PT X (.Compare a [op] [b] pos) (tB t):=by
 intro pins s σ H Q I hw
 refine wpAny_isTrue_Compare1 (thn (h pins s σ H _ I hw) λv s1 h1=>thn h1 λu s2 h2=>thn h2 λc s3 ⟨x,H1,I1,r1,q1⟩=>?_) h1
 obtain⟨d,rfl,q⟩:=q1
 cases r1
 exact wpAny_truthy_bool ⟨H1,I1,q⟩
theorem uV{e:Expr}{t:TE}(h:PE X e t)(he:∀whole,isTrue e X.env whole=(do let v<-whole;standAt e.pos;holding [v] (truthy v)):=by intro _;rfl):PT X e (tB t):=by
 intro pins s σ H Q I hw
 refine isTrue_plain (thn (h pins s σ H _ I hw) λv s1 ⟨x,H1,I1,r1,q1⟩=>?_) (he _)
 obtain⟨d,rfl,q⟩:=q1
 cases r1
 exact wpAny_truthy_bool ⟨H1,I1,q⟩
variable{tA tB':TT}{rest:List Expr}
noncomputable def tAnd(t u:TT):TT:=λσ H Q=>t σ H λc H1=>if c=true then u σ H1 Q else Q false H1
noncomputable def tOr(t u:TT):TT:=λσ H Q=>t σ H λc H1=>if c=true then Q true H1 else u σ H1 Q
noncomputable def tNot(t:TT):TT:=λσ H Q=>t σ H λc H1=>Q (!c) H1
theorem AV(ha:PT X a tA):PW X (.BoolOp .And [a] pos) tA:=by
 intro wh pins s σ H Q I h
 refine isTrue_and (thn (ha pins s σ H Q I h) λc s1 e=>?_)
 cases c with
 |true=>exact isTrue_and_nil e
 |false=>exact e
theorem AW(ha:PT X a tA):PW X (.BoolOp .Or [a] pos) tA:=by
 intro wh pins s σ H Q I h
 refine isTrue_or (thn (ha pins s σ H Q I h) λc s1 e=>?_)
 cases c with
 |false=>exact isTrue_or_nil e
 |true=>exact e
theorem uW(ha:PT X a tA)(hb:PW X (.BoolOp .And (b::rest) pos) tB'):PW X (.BoolOp .And (a::b::rest) pos) (tAnd tA tB'):=by
 intro wh pins s σ H Q I h
 refine isTrue_and (thn (ha pins s σ H _ I h) λc s1 ⟨H1,I1,q1⟩=>?_)
 cases c with
 |true=>exact hb wh pins s1 σ H1 Q I1 q1
 |false=>exact⟨H1,I1,q1⟩
theorem AX(ha:PT X a tA)(hb:PW X (.BoolOp .Or (b::rest) pos) tB'):PW X (.BoolOp .Or (a::b::rest) pos) (tOr tA tB'):=by
 intro wh pins s σ H Q I h
 refine isTrue_or (thn (ha pins s σ H _ I h) λc s1 ⟨H1,I1,q1⟩=>?_)
 cases c with
 |true=>exact⟨H1,I1,q1⟩
 |false=>exact hb wh pins s1 σ H1 Q I1 q1
theorem AY(ha:PT X a tA):PT X (.UnaryOp .Not a pos) (tNot tA):=by
 intro pins s σ H Q I h
 exact isTrue_not (ha pins s σ H (λc H1=>Q (!c) H1) I h)
noncomputable def tOrV(ta tb:TE):TE:=λσ H Q=>ta σ H λx H1=>∃c,x=.bl c/\if c=true then Q (.bl true) H1 else tb σ H1 Q
theorem AZ{op}{t:TE}(h:PE X a t):PE X (.BoolOp op [a] pos) t:=λpins s σ H Q I hw=>BoolOp_one (h pins s σ H Q I hw)
theorem pe_or(ha:PE X a ta)(hb:PE X (.BoolOp .Or (b::rest) pos) tb):PE X (.BoolOp .Or (a::b::rest) pos) (tOrV ta tb):=by
 intro pins s σ H Q I h
 refine BoolOp_or (thn (ha pins s σ H _ I h) λv s1 ⟨x,H1,I1,r1,q1⟩=>?_)
 obtain⟨c,rfl,q1⟩:=q1
 cases r1
 refine wpAny_truthy_bool ?_
 cases c with
 |false=>exact hb pins s1 σ H1 Q I1 q1
 |true=>exact⟨.bl true,H1,I1,rfl,q1⟩
noncomputable def tIf(t:TT)(ta tb:TE):TE:=λσ H Q=>t σ H λc H1=>if c=true then ta σ H1 Q else tb σ H1 Q
theorem FH{c:Expr}(hc:PT X c tA)(ha:PE X a ta)(hb:PE X b tb):PE X (.IfExp c a b pos) (tIf tA ta tb):=by
 intro pins s σ H Q I h
 refine wpAny_IfExp (thn (hc pins s σ H _ I h) λd s1 ⟨H1,I1,q1⟩=>?_)
 cases d with
 |true=>exact ha pins s1 σ H1 Q I1 q1
 |false=>exact hb pins s1 σ H1 Q I1 q1
end
noncomputable def SqL(K:PySem.W.Frag)(H:Hp)(a:Addr)(xs:List V):Prop:=
 Rd H a (.lst xs) \/
  ∃(o:Obj) (its:Array Value) (n:Nat),K.lookup a=some o/\o.cls=.type "list" /\ o.dict=none/\o.data=.seq its n/\its.size<=sizeLine/\Vals xs its.toList
noncomputable def SqT(K:PySem.W.Frag)(H:Hp)(a:Addr)(xs:List V):Prop:=
 Rd H a (.tup xs) \/
  ∃(o:Obj) (its:Array Value) (n:Nat),K.lookup a=some o/\o.cls=.type "tuple" /\ o.data=.seq its n/\its.size<=sizeLine/\Vals xs its.toList
noncomputable def absV:Value->Option V
 |.none=>some .non
 |.bool b=>some (.bl b)
 |.int i _=>some (.int i)
 |.str x _=>some (.str x)
 |.bytes b _=>some (.byt b)
 |.float b _=>some (.flt b)
 |.ref a=>some (.ref a)
 |.type n=>some (.ty n)
 |_=>none
theorem RelV.abs{x:V}{u:Value}(r:RelV x u):absV u=some x:=by
 cases x with
 |non=>cases r;rfl
 |bl _=>cases r;rfl
 |int _=>obtain⟨t,rfl⟩:=r;rfl
 |str _=>obtain⟨t,rfl⟩:=r;rfl
 |byt _=>obtain⟨t,rfl⟩:=r;rfl
 |flt _=>obtain⟨t,rfl⟩:=r;rfl
 |ref _=>cases r;rfl
 |ty _=>cases r;rfl
theorem RelV.inj{x y:V}{u:Value}(r:RelV x u)(q:RelV y u):x=y:=eM.inj (r.abs.symm.trans q.abs)
theorem Vals.inj:∀{xs ys:List V} {us:List Value},Vals xs us->Vals ys us->xs=ys
 |_,_,_,.nil,.nil=>rfl
 |_,_,_,.cons r t,.cons r' t'=>by rw[r.inj r',Vals.inj t t']
section
variable{X:Cx}{pins:List (Addr×Obj)}{σ:St}{H:Hp}{s:Shared}{a:Addr}{xs ys:List V}
theorem SqL.of{K:PySem.W.Frag}(h:H a=some (.lst xs)):SqL K H a xs:=.inl (.inl h)
theorem Inv.list(I:Inv X pins σ H s)(h:SqL X.K H a xs):∃its:List Value,Vals xs its/\PlainL s.heap a its.toArray/\xs.length<=sizeLine:=by
 rcases h with h|⟨o,its,n,hk,hc,hd,hs,hz,r⟩
 ·obtain⟨z,its,n,r,e⟩:=h.ok I.hok
  exact⟨its,r,⟨_,n,e,rfl,rfl,rfl⟩,z⟩
 ·refine⟨its.toList,r,⟨o,n,I.kIn a o hk,hc,hd,by simpa using hs⟩,?_⟩
  have e:=r.length
  simp only[uK]at e
  lia
theorem Inv.tuple(I:Inv X pins σ H s)(h:SqT X.K H a xs):∃its:List Value,Vals xs its/\IsTup s.heap a its.toArray/\xs.length<=sizeLine:=by
 rcases h with h|⟨o,its,n,hk,hc,hs,hz,r⟩
 ·obtain⟨z,its,r,p⟩:=h.ok I.hok
  exact⟨its,r,p,z⟩
 ·refine⟨its.toList,r,⟨o,I.kIn a o hk,hc,n,by simpa using hs⟩,?_⟩
  have e:=r.length
  simp only[uK]at e
  lia
theorem Inv.list_inj(I:Inv X pins σ H s)(h:SqL X.K H a xs)(h':SqL X.K H a ys):xs=ys:=by
 obtain⟨its,r,⟨o,n,e,_,_,d⟩,_⟩:=I.list h
 obtain⟨its',r',⟨o',n',e',_,_,d'⟩,_⟩:=I.list h'
 rw[e]at e';cases e'
 rw[d]at d'
 injection d' with d1 _
 have:its=its':=by simpa using congrArg Array.toList d1
 subst this
 exact r.inj r'
theorem Inv.tuple_inj(I:Inv X pins σ H s)(h:SqT X.K H a xs)(h':SqT X.K H a ys):xs=ys:=by
 obtain⟨its,r,⟨o,e,_,n,d⟩,_⟩:=I.tuple h
 obtain⟨its',r',⟨o',e',_,n',d'⟩,_⟩:=I.tuple h'
 rw[e]at e';cases e'
 rw[d]at d'
 injection d' with d1 _
 have:its=its':=by simpa using congrArg Array.toList d1
 subst this
 exact r.inj r'
end
noncomputable abbrev Cx.wish(X:Cx)(E:Value->Shared->Prop):Cx:={X with xe:=E}
noncomputable abbrev Cx.nox(X:Cx):Cx:=X.wish λ_ _=>False
theorem Cx.Ok.wish{X:Cx}(ok:X.Ok)(E:Value->Shared->Prop):(X.wish E).Ok:=
 ⟨ok.mod,ok.kind,ok.glob,ok.blt,ok.above,ok.inj,ok.has,ok.cab,ok.hd,ok.frames,ok.stk,ok.exf,ok.bs,ok.bsz,ok.noex,ok.exfs,ok.funs,ok.frf⟩
theorem Cx.Ok.unwish{X:Cx}{E:Value->Shared->Prop}(ok:(X.wish E).Ok):X.Ok:=
 ⟨ok.mod,ok.kind,ok.glob,ok.blt,ok.above,ok.inj,ok.has,ok.cab,ok.hd,ok.frames,ok.stk,ok.exf,ok.bs,ok.bsz,ok.noex,ok.exfs,ok.funs,ok.frf⟩
section
variable{X:Cx}{pins:List (Addr×Obj)}{σ:St}{H:Hp}{s:Shared}{E:Value->Shared->Prop}
theorem Inv.wish(I:Inv X pins σ H s)(E:Value->Shared->Prop):Inv (X.wish E) pins σ H s:=⟨I.ok.wish E,I.os,I.bare,I.base,I.loc,I.cell,I.free,I.freeC,I.pin,I.hok,I.len⟩
theorem Inv.unwish(I:Inv (X.wish E) pins σ H s):Inv X pins σ H s:=⟨I.ok.unwish,I.os,I.bare,I.base,I.loc,I.cell,I.free,I.freeC,I.pin,I.hok,I.len⟩
theorem SP.unwish{D:Ends}{f:Flow}{s':Shared}(h:SP (X.wish E) pins D f s'):SP X pins D f s':=by
 cases f with
 |next=>obtain⟨σ',H',I,q⟩:=h;exact⟨σ',H',I.unwish,q⟩
 |brk=>obtain⟨σ',H',I,q⟩:=h;exact⟨σ',H',I.unwish,q⟩
 |cont=>obtain⟨σ',H',I,q⟩:=h;exact⟨σ',H',I.unwish,q⟩
 |ret u=>obtain⟨v,σ',H',I,r,q⟩:=h;exact⟨v,σ',H',I.unwish,r,q⟩
theorem PT.nox{e:Expr}{t:TT}(h:PT X.nox e t):PT X e t:=λpins s σ H Q I hw=>
 wpAny_mono (h pins s σ H Q (I.wish _) hw) (λ_ _ ⟨H',I',q⟩=>⟨H',I'.unwish,q⟩) λ_ _ z=>False.elim z
theorem PSs.nox{st:List Stmt}{t:TS}(h:PSs X.nox st t):PSs X st t:=λpins s σ H D I hw=>
 wpAny_mono (h pins s σ H D (I.wish _) hw) (λ_ _ q=>q.unwish) λ_ _ z=>False.elim z
end
section
variable{X:Cx}{st:Stmt}{rest:List Stmt}{t u:TS}{e:Expr}{te:TE}{pos:Pos}
noncomputable def tNext:TS:=λD σ H=>D.nx σ H
noncomputable def tSeq(t u:TS):TS:=λD σ H=>t {D with nx:=u D} σ H
theorem lE:PSs X [] tNext:=λ_ _ σ H _ I h=>wpAny_execs_nil ⟨σ,H,I,h⟩
theorem eU(h1:PS X st t)(h2:PSs X rest u):PSs X (st::rest) (tSeq t u):=by
 intro pins s σ H D I h
 refine wpAny_execs_cons (thn (h1 pins s σ H {D with nx:=u D} I h) λf s1 q=>?_)
 cases f with
 |next=>
  obtain⟨σ',H',I',q⟩:=q
  exact h2 pins s1 σ' H' D I' q
 |ret v=>exact q
 |brk=>exact q
 |cont=>exact q
theorem Inv.quiet{pins:List (Addr×Obj)}{σ:St}{H:Hp}{s:Shared}(I:Inv X pins σ H s):interactive X.env=false:=by simp[interactive,I.ok.kind]
noncomputable def tDrop(te:TE):TS:=λD σ H=>te σ H λ_ H1=>D.nx σ H1
theorem lF(he:PE X e te)(hs:swapsWith e none pos.line X.env=pure false:=by rfl):PS X (.Expr e pos) (tDrop te):=by
 intro pins s σ H D I h
 exact wpAny_Expr_any (thn (he pins s σ H _ I h) λv s1 ⟨x,H1,I1,r1,q1⟩=>⟨σ,H1,I1,q1⟩) I.quiet hs
noncomputable def tRet(te:TE):TS:=λD σ H=>te σ H D.rt
theorem kA(he:PE X e te):PS X (.Return (some e) pos) (tRet te):=by
 intro pins s σ H D I h
 exact wpAny_Return_some (thn (he pins s σ H _ I h) λv s1 ⟨x,H1,I1,r1,q1⟩=>⟨x,σ,H1,I1,r1,q1⟩)
noncomputable def tIfS(c:TT)(t u:TS):TS:=λD σ H=>c σ H λb H1=>if b=true then t D σ H1 else u D σ H1
theorem kB{c:Expr}{a b:List Stmt}{tc:TT}(hc:PT X c tc)(ha:PSs X a t)(hb:PSs X b u):PS X (.If c a b pos) (tIfS tc t u):=by
 intro pins s σ H D I h
 refine wpAny_If (thn (hc pins s σ H _ I h) λd s1 ⟨H1,I1,q1⟩=>?_)
 cases d with
 |true=>exact ha pins s1 σ H1 D I1 q1
 |false=>exact hb pins s1 σ H1 D I1 q1
noncomputable def tNever:TS:=λ_ _ _=>False
theorem A0:PS X st tNever:=λ_ _ _ _ _ _ h=>h.elim
end
noncomputable abbrev TG:=V->St->Hp->(St->Hp->Prop)->Prop
noncomputable abbrev TGs:=List V->St->Hp->(St->Hp->Prop)->Prop
noncomputable def PG(X:Cx)(target:Expr)(t:TG):Prop:=
 ∀(pins:List (Addr×Obj))(s:Shared)(σ:St)(H:Hp)(v:V)(u:Value)(Q:St->Hp->Prop),Inv X pins σ H s->RelV v u->t v σ H Q ->
  wpAny (model X.prog X.w) X.A (assign target X.env u) (λ_ s'=>∃σ' H',Inv X pins σ' H' s'/\Q σ' H') X.xe s
noncomputable def PGs(X:Cx)(ts:List Expr)(t:TGs):Prop:=
 ∀(pins:List (Addr×Obj))(s:Shared)(σ:St)(H:Hp)(vs:List V)(us:List Value)(Q:St->Hp->Prop),Inv X pins σ H s->Vals vs us->t vs σ H Q ->
  wpAny (model X.prog X.w) X.A (assignInOrder ((assignEach ts X.env).map (·.2)) us) (λ_ s'=>∃σ' H',Inv X pins σ' H' s'/\Q σ' H') X.xe s
noncomputable abbrev TSet:=V->V->V->Hp->(Hp->Prop)->Prop
noncomputable def PSet(X:Cx)(t:TSet):Prop:=
 ∀(pins:List (Addr×Obj))(s:Shared)(σ:St)(H:Hp)(o i v:V)(ov iv u:Value)(Q:Hp->Prop),Inv X pins σ H s->RelV o ov->RelV i iv->RelV v u->t o i v H Q ->
  wpAny (model X.prog X.w) X.A (setItem ov iv u) (λ_ s'=>∃H',Inv X pins σ H' s'/\Q H') X.xe s
section
variable{X:Cx}{pos:Pos}
noncomputable def uX(i:Nat):TG:=λv σ H Q=>Q (σ.set i (some v)) H
theorem A1{i:Nat}{x:Str}(hN:X.N.Nodup)(hi:X.N[i]?=some x)(hx:Loc X.env.scope x)(hf:X.fn x=true\/X.env.scope.names.lookup x=some .local:=by first|exact .inl rfl|exact .inr rfl|assumption):PG X (.Name x pos) (uX i):=by
 intro pins s σ H v u Q I r h
 exact wpAny_assign_Name (uT I hN hi hx r (λs' I'=>⟨_,H,I',h⟩) hf)
noncomputable def gNil:TGs:=λvs σ H Q=>vs=[]/\Q σ H
noncomputable def gCons(t:TG)(u:TGs):TGs:=λvs σ H Q=>∃v r,vs=v::r/\t v σ H λσ' H'=>u r σ' H' Q
theorem FI:PGs X [] gNil:=by
 intro pins s σ H vs us Q I r h
 obtain⟨e,h⟩:=h
 subst e
 cases r
 exact assignInOrder_nil ⟨σ,H,I,h⟩
theorem FJ{e:Expr}{es:List Expr}{t:TG}{u:TGs}(h1:PG X e t)(h2:PGs X es u)
 (hs:(assignEach (e::es) X.env).map (·.2)=assign e X.env::(assignEach es X.env).map (·.2):=by rfl):PGs X (e::es) (gCons t u):=by
 intro pins s σ H vs us Q I r h
 obtain⟨v,vr,e1,h⟩:=h
 subst e1
 cases r with
 |cons r rr=>
  rw[hs]
  refine assignInOrder_cons (thn (h1 pins s σ H _ _ _ I r h) λ_ s1 ⟨σ1,H1,I1,q1⟩=>?_)
  exact h2 pins s1 σ1 H1 _ _ Q I1 rr q1
noncomputable def gTup(K:PySem.W.Frag)(n:Nat)(t:TGs):TG:=λv σ H Q=>∃a xs,v=.ref a/\SqT K H a xs/\xs.length=n/\t xs σ H Q
theorem pg_tup{es:List Expr}{k:Nat}{t:TGs}{n:Nat}(hc:X.calm=true)(h:PGs X es t)
 (hn:(assignEach es X.env).length=n:=by rfl) (hst:(assignEach es X.env).findIdx? (·.1)=none:=by rfl):PG X (.Tuple es k pos) (gTup X.K n t):=by
 intro pins s σ H v u Q I r hw
 obtain⟨a,xs,e1,hq,hl,hw⟩:=hw
 subst e1
 cases r
 obtain⟨its,rv,ht,hz⟩:=I.tuple hq
 refine assign_Tuple_tuple (I.ok.hd hc) ht (by simp[hn,<-hl,rv.length]) hst λh' hx=>?_
 have I1:Inv X pins σ H {s with heap:=h' }:=I.kept (t':=s.toks) λb o e=>hx b o (bM (Heap.lt_size e)) e
 exact h pins _ σ H xs _ Q I1 (by simpa using rv) hw
noncomputable def gSub(to ti:TE)(t:TSet):TG:=λv σ H Q=>to σ H λo H1=>ti σ H1 λi H2=>t o i v H2 λH3=>Q σ H3
theorem pg_sub{o i:Expr}{to ti:TE}{t:TSet}(ho:PE X o to)(hi:PE X i ti)(hs:PSet X t)
 (ha:∀v,assign (.Subscript o i pos) X.env v=(do
  let ov<-holding [v] (eval o X.env)
  let iv<-holding [v,ov] (eval i X.env)
  standAt pos
  holding [v,ov,iv] (setItem ov iv v)
  release [v,ov,iv] []):=by intro _;rfl):PG X (.Subscript o i pos) (gSub to ti t):=by
 intro pins s σ H v u Q I r h
 rw[ha]
 refine wpAny_bind (wpAny_holding (thn (ho pins s σ H _ I h) λov s1 ⟨x,H1,I1,r1,q1⟩=>?_))
 refine wpAny_bind (wpAny_holding (thn (hi pins s1 σ H1 _ I1 q1) λiv s2 ⟨y,H2,I2,r2,q2⟩=>?_))
 refine wpAny_bind (wpAny_standAt (wpAny_bind (wpAny_holding (thn (hs pins s2 σ H2 x y v ov iv u _ I2 r1 r2 r q2) λ_ s3 ⟨H3,I3,q3⟩=>?_))))
 exact wpAny_release ⟨σ,H3,I3,q3⟩
noncomputable def tAsg(te:TE)(g:TG):TS:=λD σ H=>te σ H λx H1=>g x σ H1 D.nx
theorem A2{tg e:Expr}{te:TE}{g:TG}(he:PE X e te)(hg:PG X tg g)(hs:swapsWithSole [tg] e pos.line X.env=pure false:=by rfl)(hw:swappedStores [tg] e X.env=pure none:=by rfl)
 (h1:(assignEach [tg] X.env).map (·.2)=[assign tg X.env]:=by rfl):PS X (.Assign [tg] e pos) (tAsg te g):=by
 intro pins s σ H D I h
 refine wpAny_Assign_stores (thn (he pins s σ H _ I h) λv s1 ⟨x,H1,I1,r1,q1⟩=>?_) hs hw
 rw[h1]
 exact thn (hg pins s1 σ H1 x v _ I1 r1 q1) λ_ s2 q=>q
theorem kC{i:Nat}{x:Str}{e:Expr}{te:TE}{pos':Pos}(hN:X.N.Nodup)(hi:X.N[i]?=some x)(hx:Loc X.env.scope x)(he:PE X e te)(hs:swapsWith e (some (.Name x pos')) pos.line X.env=pure false:=by rfl)(hf:X.fn x=true\/X.env.scope.names.lookup x=some .local:=by first|exact .inl rfl|exact .inr rfl|assumption) :
 PS X (.Assign [.Name x pos'] e pos) (tAsg te (uX i)):=by
 intro pins s σ H D I h
 refine wpAny_Assign_Name (thn (he pins s σ H _ I h) λv s1 ⟨y,H1,I1,r1,q1⟩=>?_) hs
 exact uT I1 hN hi hx r1 (λs2 I2=>⟨_,H1,I2,q1⟩) hf
end
section
variable{X:Cx}{pos:Pos}
end
set_option genInjectivity false in
structure It where
 go:Nat->Hp->Prop
 yld:Nat->Hp->V->Hp->Prop
 stop:Nat->Hp->Prop
noncomputable def fU(X:Cx)(pins:List (Addr×Obj))(H:Hp)(b:Addr):Prop:=
 H b=none/\b≠X.env.locals/\b∉X.fs/\(b∈X.ex\/X.s₀.heap.objs.size<=b)/\(∀x c,X.env.cells.lookup x=some c->c≠b)/\∀p∈X.pn++pins,p.1≠b
theorem Inv.fpOk{X:Cx}{pins:List (Addr×Obj)}{σ:St}{H H':Hp}{s:Shared}{b:Addr}(I:Inv X pins σ H s)(hb:s.heap.objs.size<=b)(hn:H' b=none):fU X pins H' b:=by
 refine⟨hn,mL (cR I.lt hb),I.nofs hb,.inr (cD I.sz hb),λx c e z=>?_,λp hp z=>?_⟩
 ·obtain⟨v,q⟩:=I.cell x c e
  exact absurd (cR q.lt (by rw[z];exact hb)) (jS _)
 ·exact absurd (cR (Heap.lt_size (I.pin p hp).1) (by rw[z];exact hb)) (jS _)
set_option genInjectivity false in
structure Turn(P:Program)(w:World)(K:PySem.W.Frag)(tg:Expr)(J:It)(fp:List Addr)(it:Addr)(tn:Nat->Heap->Prop):Prop where
 mem:it∈fp
 obj:∀i h,tn i h->∀b∈fp,∃o,h.get? b=some o/\∀v,o.data≠.cell v
 keep:∀i h h',tn i h->(∀b∈fp,∀o,h.get? b=some o->h'.get? b=some o)->tn i h'
 item:∀(X:Cx),X.prog=P->X.w=w->X.K=K->X.calm=true->∀(i:Nat)(pins:List (Addr×Obj))(s:Shared)(σ:St)(H:Hp)(E:Value->Shared->Prop),Inv X pins σ H s->(∀b∈fp,fU X pins H b)->tn i s.heap->J.go i H ->
  wpAny (model P w) X.A (pyNext (.ref it)) (λr s1=>∃u,r=some u /\
   wpAny (model P w) X.A (letOwnedTupleGo tg (.ref it) u) (λ_ s2=>∃x H',Inv X pins σ H' s2/\RelV x u/\J.yld i H x H'/\tn (i+1) s2.heap/\∀b∈fp,H' b=none) E s1) E s
 done:∀(X:Cx),X.prog=P->X.w=w->X.K=K->X.calm=true->∀(i:Nat)(pins:List (Addr×Obj))(s:Shared)(σ:St)(H:Hp)(E:Value->Shared->Prop),Inv X pins σ H s->(∀b∈fp,fU X pins H b)->tn i s.heap->J.stop i H ->
  wpAny (model P w) X.A (pyNext (.ref it)) (λr s1=>r=none/\Inv X pins σ H s1) E s
 self:∀(A:Around)(i:Nat)(s:Shared)(Q:Value->Shared->Prop)(E:Value->Shared->Prop),tn i s.heap->Q (.ref it) s->wpAny (model P w) A (pyIter (.ref it)) Q E s
noncomputable abbrev TI:=St->Hp->(It->Hp->Prop)->Prop
noncomputable def PIE(X:Cx)(pins:List (Addr×Obj))(σ:St)(tg:Expr)(R:It->Hp->Prop)(itv:Value)(s2:Shared):Prop:=
 ∃(it:Addr)(fp:List Addr)(tn:Nat->Heap->Prop)(J:It)(H':Hp),itv=.ref it/\Inv X pins σ H' s2/\Turn X.prog X.w X.K tg J fp it tn/\tn 0 s2.heap/\(∀b∈fp,fU X pins H' b)/\R J H'
noncomputable def PI(X:Cx)(tg iter:Expr)(wi:TI):Prop:=
 ∀(pins:List (Addr×Obj))(s:Shared)(σ:St)(H:Hp)(R:It->Hp->Prop),Inv X pins σ H s->wi σ H R ->
  wpAny (model X.prog X.w) X.A (eval iter X.env) (λv s1=>wpAny (model X.prog X.w) X.A (pyIter v) (PIE X pins σ tg R) X.xe s1) X.xe s
theorem mV{M:Model}{A:Around}{E:Value->Shared->Prop}{s:Shared}{tg:Expr}{it:Addr}{u:Value}{o:Obj}{n:String}{vs:Array Value}{Q:Unit->Shared->Prop}(ho:s.heap.get? it=some o)(hc:o.cls=.type n)(hd:o.data=.fields vs)
 (hn:["enumerate", "zip", "dict_itemiterator", "dict_reverseitemiterator", "odict_iterator", "itertools.zip_longest", "itertools.pairwise"].contains n=false) (hQ:Q () s):wpAny M A (letOwnedTupleGo tg (.ref it) u) Q E s:=by
 unfold letOwnedTupleGo
 cases tg<;>first
  |exact wpAny_pure hQ
  |(cases u<;>first
   |exact wpAny_pure hQ
   | (refine wpAny_bind (wpAny_load ho ?_)
      rw[hc,hd]
      show wpAny M A (if(["enumerate", "zip", "dict_itemiterator", "dict_reverseitemiterator", "odict_iterator", "itertools.zip_longest", "itertools.pairwise"].contains n&&vs[0]?==some (rawInt _))=true then _ else _) Q E s
      rw[if_neg (by intro h;rw[hn,Bool.false_and]at h;cases h)]
      exact wpAny_pure hQ))
noncomputable def Itl(K:PySem.W.Frag)(a:Addr):It:=
 ⟨λi H=>∃xs x,SqL K H a xs/\xs[i]?=some x,λi H x H'=>H'=H/\∀xs,SqL K H a xs->xs[i]?=some x,λi H=>∃xs,SqL K H a xs/\xs.length<=i⟩
noncomputable def Itt(K:PySem.W.Frag)(a:Addr):It:=
 ⟨λi H=>∃xs x,SqT K H a xs/\xs[i]?=some x,λi H x H'=>H'=H/\∀xs,SqT K H a xs->xs[i]?=some x,λi H=>∃xs,SqT K H a xs/\xs.length<=i⟩
noncomputable def Itr(lo:Int)(n:Nat):It:=⟨λi _=>i<n,λi H x H'=>H'=H/\x=.int (lo+i),λi _=>n<=i⟩
theorem FK{P:Program}{w:World}{K:PySem.W.Frag}{tg:Expr}(a it:Addr):Turn P w K tg (Itl K a) [it] it (λi h=>h.IsListIter it a i) where
 mem:=by simp
 obj:=λi h st b hb=>by
  have e:b=it:=by simpa using hb
  subst e
  obtain⟨o,e,c,d⟩:=st
  exact⟨o,e,λv z=>by rw[d]at z;cases z⟩
 keep:=λi h h' st k=>st.at λo e=>k it (by simp) o e
 item:=by
  intro X hP hw hK hc i pins s σ H E I hf st hg
  subst hP hw hK
  obtain⟨xs,x,hq,hx⟩:=hg
  obtain⟨its,rv,p,hz⟩:=I.list hq
  obtain⟨u,hu,ru⟩:=rv.get hx
  obtain⟨f0,f1,f2,f3,f4,f5⟩:=hf it (by simp)
  refine wpAny_pyNext_list_item st p.isList (x:=u) (by simpa using hu) λh' st' sb=>?_
  have I1:Inv X pins σ H {s with heap:=h' }:=I.turned (t':=s.toks) (λb o hb e=>(sb.2 b hb).trans e) f0 f1 f3 f4 f5
  obtain⟨o,e,c,d⟩:=id st'
  exact⟨u,rfl,mV (s:={s with heap:=h' }) e c d (by decide) ⟨x,H,I1,ru,⟨rfl,λys hy=>by rw[I.list_inj hy hq];exact hx⟩,st',λb hb=>(hf b hb).1⟩⟩
 done:=by
  intro X hP hw hK hc i pins s σ H E I hf st hg
  subst hP hw hK
  obtain⟨xs,hq,hx⟩:=hg
  obtain⟨its,rv,p,hz⟩:=I.list hq
  obtain⟨f0,f1,f2,f3,f4,f5⟩:=hf it (by simp)
  have hl:=rv.length
  exact wpAny_pyNext_list_end (I.ok.hd hc) st p.isList (by simp;lia) λh' eb=>⟨rfl,I.turned (t':=s.toks) (λb o hb e=>eb b o hb e) f0 f1 f3 f4 f5⟩
 self:=λ_ _ _ _ _ st h=>wpAny_pyIter_listiter st h
theorem FL{P:Program}{w:World}{K:PySem.W.Frag}{tg:Expr}(a it:Addr):Turn P w K tg (Itt K a) [it] it (λi h=>h.IsTupleIter it a i) where
 mem:=by simp
 obj:=λi h st b hb=>by
  have e:b=it:=by simpa using hb
  subst e
  obtain⟨o,e,c,d⟩:=st
  exact⟨o,e,λv z=>by rw[d]at z;cases z⟩
 keep:=λi h h' st k=>st.at λo e=>k it (by simp) o e
 item:=by
  intro X hP hw hK hc i pins s σ H E I hf st hg
  subst hP hw hK
  obtain⟨xs,x,hq,hx⟩:=hg
  obtain⟨its,rv,p,hz⟩:=I.tuple hq
  obtain⟨u,hu,ru⟩:=rv.get hx
  obtain⟨f0,f1,f2,f3,f4,f5⟩:=hf it (by simp)
  refine wpAny_pyNext_tuple_item st (show s.heap.IsTuple a its.toArray from p) (x:=u) (by simpa using hu) λh' st' sb=>?_
  have I1:Inv X pins σ H {s with heap:=h' }:=I.turned (t':=s.toks) (λb o hb e=>(sb.2 b hb).trans e) f0 f1 f3 f4 f5
  obtain⟨o,e,c,d⟩:=id st'
  exact⟨u,rfl,mV (s:={s with heap:=h' }) e c d (by decide) ⟨x,H,I1,ru,⟨rfl,λys hy=>by rw[I.tuple_inj hy hq];exact hx⟩,st',λb hb=>(hf b hb).1⟩⟩
 done:=by
  intro X hP hw hK hc i pins s σ H E I hf st hg
  subst hP hw hK
  obtain⟨xs,hq,hx⟩:=hg
  obtain⟨its,rv,p,hz⟩:=I.tuple hq
  obtain⟨f0,f1,f2,f3,f4,f5⟩:=hf it (by simp)
  have hl:=rv.length
  exact wpAny_pyNext_tuple_end (I.ok.hd hc) st (show s.heap.IsTuple a its.toArray from p) (by simp;lia) λh' eb=>⟨rfl,I.turned (t':=s.toks) (λb o hb e=>eb b o hb e) f0 f1 f3 f4 f5⟩
 self:=λ_ _ _ _ _ st h=>wpAny_pyIter_tupleiter st h
theorem FM{P:Program}{w:World}{K:PySem.W.Frag}{tg:Expr}(it:Addr)(lo:Int)(n:Nat):Turn P w K tg (Itr lo n) [it] it (λi h=>IsRangeIter h it (lo+(i:Nat)*1) ((n:Int)-(i:Nat)) 1) where
 mem:=by simp
 obj:=λi h st b hb=>by
  have e:b=it:=by simpa using hb
  subst e
  exact⟨_,st,λv z=>by
   have z':Data.fields _=Data.cell v:=z
   cases z'⟩
 keep:=λi h h' st k=>k it (by simp) _ st
 item:=by
  intro X hP hw hK hc i pins s σ H E I hf st hg
  subst hP hw hK
  obtain⟨f0,f1,f2,f3,f4,f5⟩:=hf it (by simp)
  have W:=Walks.range (prog:=X.prog) (w:=X.w) (I.ok.hd hc) it lo 1 n
  refine W.item i s _ _ hg st λv h' tk hv st' kk=>?_
  obtain⟨t,rfl⟩:=hv
  have I1:Inv X pins σ H {s with heap:=h',toks:=tk}:=I.turned (λb o hb e=>kk b o (by simpa using hb) e) f0 f1 f3 f4 f5
  refine⟨_,rfl,mV (s:={s with heap:=h',toks:=tk}) (n := "range_iterator") st' rfl rfl (by decide) ⟨.int (lo+i),H,I1,⟨t,?_⟩,⟨rfl,rfl⟩,st',λb hb=>(hf b hb).1⟩⟩
  rw[Int.mul_one]
 done:=by
  intro X hP hw hK hc i pins s σ H E I hf st hg
  subst hP hw hK
  obtain⟨f0,f1,f2,f3,f4,f5⟩:=hf it (by simp)
  exact wpAny_pyNext_range_end (I.ok.hd hc) st (by have:n<=i:=hg;lia) λh' eb=>⟨rfl,I.turned (t':=s.toks) (λb o hb e=>eb b o hb e) f0 f1 f3 f4 f5⟩
 self:=λ_ _ _ _ _ st h=>wpAny_pyIter_rangeiter st h
section
variable{X:Cx}{tg:Expr}
theorem A3{pins:List (Addr×Obj)}{σ:St}{H:Hp}{s:Shared}{R:It->Hp->Prop}{E:Value->Shared->Prop}{lo hi:Int}{t u v:Tok}{tk:Nat}(I:Inv X pins σ H s)(h1:-(2^62)<=lo)(h2:lo<2^62)(h3:-(2^62)<=hi)(h4:hi<2^62)
 (q:R (Itr lo (hi-lo).toNat) H):wpAny (model X.prog X.w) X.A (pyIter (.ref s.heap.objs.size)) (PIE X pins σ tg R) E {s with heap:=s.heap.push {cls:=.type "range", data:=.fields #[.int lo t,.int hi u,.int 1 v] },toks:=tk}:=by
 refine wpAny_pyIter_range (IsRange.new ..) (small_one h1 h2 h3 h4) ?_
 have I1:Inv X pins σ H {s with heap:=s.heap.push {cls:=.type "range", data:=.fields #[.int lo t,.int hi u,.int 1 v] },toks:=tk}:=I.kept λb o e=>Heap.get?_push_of_some _ e
 refine⟨(s.heap.push {cls:=.type "range", data:=.fields #[.int lo t,.int hi u,.int 1 v] }).objs.size,[(s.heap.push {cls:=.type "range", data:=.fields #[.int lo t,.int hi u,.int 1 v] }).objs.size],_,_,H,rfl,
  I1.kept (t':=tk) λb o e=>Heap.get?_push_of_some _ e,FM _ lo (hi-lo).toNat,?_,λb hb=>?_,q⟩
 ·have e1:lo+((0:Nat):Int)*1=lo:=by simp
  have e2:(((hi-lo).toNat:Nat):Int)-((0:Nat):Int)=Builtin.Range.rangeSize lo hi 1:=by rw[rangeSize_one];split<;>lia
  show IsRangeIter _ _ (lo+((0:Nat):Int)*1) ((((hi-lo).toNat:Nat):Int)-((0:Nat):Int)) 1
  rw[e1,e2]
  exact Heap.get?_push_size _ rfl
 ·have e:b=(s.heap.push {cls:=.type "range", data:=.fields #[.int lo t,.int hi u,.int 1 v] }).objs.size:=by simpa using hb
  subst e
  exact I1.fpOk (aQ _) (I1.hok.fresh (aQ _))
noncomputable def iRng1(ta:TA):TI:=λσ H R=>ta σ H λvs H1=>∃j:Int,vs=[.int j] /\ -(2^62)<=j/\j<2^62/\R (Itr 0 j.toNat) H1
noncomputable def iRng2(ta:TA):TI:=λσ H R=>ta σ H λvs H1=>∃i j:Int,vs=[.int i,.int j]/\(-(2^62)<=i/\i<2^62 /\ -(2^62)<=j/\j<2^62)/\R (Itr i (j-i).toNat) H1
theorem FN {a:Expr} {ta:TA} {p pos:Pos} (hg:Gl X "range") (hm:X.mg "range" = none) (ha:PA X [a] ta) (hs:starEach [a] X.env=[(false,eval a X.env)]:=by rfl):PI X tg (.Call (.Name "range" p) [a] [] pos) (iRng1 ta):=by
 intro pins s σ H R I h
 refine Call_ (jZ I hg hm boot_range (PyProof.Rows.callWith_type1 (thn (ha pos pins s σ H _ I h) λus s1 ⟨vs,H1,I1,r1,q1⟩=>?_) hs rfl))
 obtain⟨j,e,q1,q2,q⟩:=q1
 subst e
 cases r1 with
 |cons r rr=>
  cases rr
  obtain⟨t,rfl⟩:=r
  exact call_range_1 (A3 I1 (by lia) (by lia) q1 q2 (by simpa using q))
theorem FO {a b:Expr} {ta:TA} {p pos:Pos} (hg:Gl X "range") (hm:X.mg "range" = none) (ha:PA X [a,b] ta) (hs:starEach [a,b] X.env=[(false,eval a X.env),(false,eval b X.env)]:=by rfl) (hs2:starEach [b] X.env=[(false,eval b X.env)]:=by rfl) :
 PI X tg (.Call (.Name "range" p) [a,b] [] pos) (iRng2 ta):=by
 intro pins s σ H R I h
 refine Call_ (jZ I hg hm boot_range (PyProof.Rows.callWith_type1 (thn (ha pos pins s σ H _ I h) λus s1 ⟨vs,H1,I1,r1,q1⟩=>?_) (by rw[hs,hs2]) (by rw[hs2];rfl)))
 obtain⟨i,j,e,⟨q1,q2,q3,q4⟩,q⟩:=q1
 subst e
 cases r1 with
 |cons r rr=>
  cases rr with
  |cons r' rr=>
   cases rr
   obtain⟨t,rfl⟩:=r
   obtain⟨t',rfl⟩:=r'
   exact call_range_2 (A3 I1 q1 q2 q3 q4 q)
noncomputable def tFor(wi:TI)(g:TG)(tb:TS):TS:=λD σ H=>wi σ H λJ H1=>∃W:Nat->Nat->St->Hp->Prop,(∃m,W 0 m σ H1)/\∀i m σ H,W i m σ H ->
 (J.stop i H/\D.nx σ H)\/(J.go i H/\∃N:St->Hp->Prop,(∀σ' H',N σ' H'->∃m',m'<m/\W (i+1) m' σ' H')/\∀x H',J.yld i H x H'->g x σ H' λσ2 H2=>tb {D with nx:=N,ct:=N,bk:=D.nx} σ2 H2)
noncomputable def lG(fp:List Addr)(h:Heap):List (Addr×Obj):=fp.filterMap λb=>(h.get? b).map λo=>(b,o)
theorem pX{fp:List Addr}{h:Heap}{b:Addr}{o:Obj}(hb:b∈fp)(e:h.get? b=some o):(b,o)∈lG fp h:=jU.mpr ⟨b,hb,by rw[e];rfl⟩
theorem FP{fp:List Addr}{h:Heap}{p:Addr×Obj}(hp:p∈lG fp h):p.1∈fp/\h.get? p.1=some p.2:=by
 obtain⟨b,hb,e⟩:=jU.mp hp
 cases q:h.get? b with
 |none=>rw[q]at e;cases e
 |some o=>
  rw[q]at e
  have e':(b,o)=p:=eM.inj e
  subst e'
  exact⟨hb,q⟩
theorem Inv.pinned{pins:List (Addr×Obj)}{σ:St}{H:Hp}{s:Shared}{fp:List Addr}(I:Inv X pins σ H s)(hf:∀b∈fp,fU X pins H b)(ho:∀b∈fp,∃o,s.heap.get? b=some o/\∀v,o.data≠.cell v):Inv X (pins++lG fp s.heap) σ H s:=
 I.pins_of λp hp=>(fQ.mp hp).elim (λz=>I.pin p (fR _ z)) λz=>by
  obtain⟨hb,e⟩:=FP z
  obtain⟨f0,f1,f2,_⟩:=hf p.1 hb
  obtain⟨o,e',d⟩:=ho p.1 hb
  rw[e]at e';cases e'
  exact⟨e,f0,f1,f2,d⟩
theorem Inv.unpinned{pins pl:List (Addr×Obj)}{σ:St}{H:Hp}{s:Shared}(I:Inv X (pins++pl) σ H s):Inv X pins σ H s:=I.pins_of λp hp=>I.pin p (fR _ (pI _ hp))
theorem A4{iter:Expr}{body:List Stmt}{wi:TI}{g:TG}{tb:TS}{pos:Pos}(hp:PassesOwn (model X.prog X.w) X.A X.env X.xe)(hc:X.calm=true)(hi:PI X tg iter wi)(hg:PG X tg g)(hb:PSs X body tb)
 (hs:∀x,foldedSetIterable iter X.env x=pure x:=by intro _;rfl):PS X (.For tg iter body [] pos) (tFor wi g tb):=by
 intro pins s σ H D I h
 refine wpAny_For (thn (hi pins s σ H _ I h) λv s1 h1=>thn h1 λitv s2 h2=>?_) hs
 obtain⟨it,fp,tn,J,H2,e,I2,T,st2,f2,W,⟨m0,w0⟩,turn⟩:=h2
 subst e
 have stat:∀{H':Hp},(∀b∈fp,H' b=none)->∀b∈fp,fU X pins H' b:=λhn b hb=>⟨hn b hb,(f2 b hb).2⟩
 refine codeAny_forLoop_any (λn s'=>∃i σ' H',Inv X pins σ' H' s'/\tn i s'.heap/\(∀b∈fp,H' b=none)/\W i n σ' H') ?_ m0 ⟨0,σ,H2,I2,st2,λb hb=>(f2 b hb).1,w0⟩
 rintro n s3 ⟨i,σ3,H3,I3,st3,fr3,w3⟩
 rcases turn i n σ3 H3 w3 with⟨stop,qn⟩|⟨go,N,hN,step⟩
 ·refine wpAny_passesOwn hp (thn (T.done X rfl rfl rfl hc i pins s3 σ3 H3 X.xe I3 (stat fr3) st3 stop) λr s4 ⟨hr,I4⟩=>?_)
  subst hr
  exact wpAny_execs_nil ⟨σ3,H3,I4,qn⟩
 ·refine wpAny_passesOwn hp (thn (T.item X rfl rfl rfl hc i pins s3 σ3 H3 X.xe I3 (stat fr3) st3 go) λr s4 ⟨u,hr,h4⟩=>?_)
  subst hr
  refine wpAny_passesOwn hp (thn h4 λ_ s5 ⟨x,H5,I5,r5,y5,st5,fr5⟩=>?_)
  have I5':=I5.pinned (stat fr5) (T.obj _ _ st5)
  refine wpAny_passesOwn hp (thn (hg _ s5 σ3 H5 x u _ I5' r5 (step x H5 y5)) λ_ s6 ⟨σ6,H6,I6,q6⟩=>?_)
  refine wpAny_passesOwn hp (thn (hb _ s6 σ6 H6 _ I6 q6) λf s7 q7=>?_)
  have again:∀{σ7:St} {H7:Hp},Inv X (pins++lG fp s5.heap) σ7 H7 s7->N σ7 H7->∃m,m<n/\∃i σ' H',Inv X pins σ' H' s7/\tn i s7.heap/\(∀b∈fp,H' b=none)/\W i m σ' H':=λ{σ7 H7} I7 n7=>by
   obtain⟨m',hm,w7⟩:=hN σ7 H7 n7
   refine⟨m',hm,i+1,σ7,H7,I7.unpinned,T.keep _ _ _ st5 λb hb o e=>(I7.pin (b,o) (fR _ (fR _ (pX hb e)))).1,λb hb=>?_,w7⟩
   obtain⟨o,e,d⟩:=T.obj _ _ st5 b hb
   exact(I7.pin (b,o) (fR _ (fR _ (pX hb e)))).2.1
  cases f with
  |next=>obtain⟨σ7,H7,I7,n7⟩:=q7;exact again I7 n7
  |cont=>obtain⟨σ7,H7,I7,n7⟩:=q7;exact again I7 n7
  |brk=>obtain⟨σ7,H7,I7,q7⟩:=q7;exact⟨σ7,H7,I7.unpinned,q7⟩
  |ret v=>obtain⟨x7,σ7,H7,I7,r7,q7⟩:=q7;exact⟨x7,σ7,H7,I7.unpinned,r7,q7⟩
end
noncomputable abbrev R2:=V->V->Hp->VK->Prop
noncomputable def OpR(X:Cx)(f:Value->Value->Sem Value)(r:R2):Prop:=
 ∀(pins:List (Addr×Obj))(s:Shared)(σ:St)(H:Hp)(x y:V)(v u:Value)(Q:VK),Inv X pins σ H s->RelV x v->RelV y u->r x y H Q ->
  wpAny (model X.prog X.w) X.A (f v u) (EP X pins σ Q) X.xe s
noncomputable def UnR(X:Cx)(f:Value->Sem Value)(r:V->Hp->VK->Prop):Prop:=
 ∀(pins:List (Addr×Obj))(s:Shared)(σ:St)(H:Hp)(x:V)(v:Value)(Q:VK),Inv X pins σ H s->RelV x v->r x H Q ->
  wpAny (model X.prog X.w) X.A (f v) (EP X pins σ Q) X.xe s
noncomputable def cX(X:Cx)(f:Value)(r:List V->Hp->VK->Prop):Prop:=
 ∀(pins:List (Addr×Obj))(s:Shared)(σ:St)(H:Hp)(xs:List V)(us:List Value)(Q:VK),Inv X pins σ H s->Vals xs us->r xs H Q ->
  wpAny (model X.prog X.w) X.A (call f us) (EP X pins σ Q) X.xe s
noncomputable def TruR(X:Cx)(r:V->Hp->(Bool->Hp->Prop)->Prop):Prop:=
 ∀(pins:List (Addr×Obj))(s:Shared)(σ:St)(H:Hp)(x:V)(v:Value)(Q:Bool->Hp->Prop),Inv X pins σ H s->RelV x v->r x H Q ->
  wpAny (model X.prog X.w) X.A (truthy v) (TP X pins σ Q) X.xe s
noncomputable def tOp(r:R2)(ta tb:TE):TE:=λσ H Q=>ta σ H λx H1=>tb σ H1 λy H2=>r x y H2 Q
noncomputable def tUn(r:V->Hp->VK->Prop)(ta:TE):TE:=λσ H Q=>ta σ H λx H1=>r x H1 Q
noncomputable def rI(C:Int->Int->Prop)(g:Int->Int->V):R2:=λx y H Q=>∃i j,x=.int i/\y=.int j/\C i j/\Q (g i j) H
noncomputable def rI0(g:Int->Int->V):R2:=λx y H Q=>∃i j,x=.int i/\y=.int j/\Q (g i j) H
noncomputable def rU(g:Int->V):V->Hp->VK->Prop:=λx H Q=>∃i,x=.int i/\Q (g i) H
section
variable{X:Cx}{a b c:Expr}{ta tb tc:TE}{pos:Pos}
theorem binT(ha:PE X a ta)(hb:PE X b tb){pins:List (Addr×Obj)}{s:Shared}{σ:St}{H:Hp}{R:V->V->Hp->Prop}(I:Inv X pins σ H s)
 (h:ta σ H λx H1=>tb σ H1 λy H2=>R x y H2) {Q:Value->Shared->Prop} {f:Value->Value->Sem Value}
 (hf:∀v u s2 x y H2,Inv X pins σ H2 s2->RelV x v->RelV y u->R x y H2->wpAny (model X.prog X.w) X.A (f v u) Q X.xe s2) :
 wpAny (model X.prog X.w) X.A (eval a X.env) (λv s₁=>wpAny (model X.prog X.w) X.A (eval b X.env) (λu s₂=>wpAny (model X.prog X.w) X.A (f v u) Q X.xe s₂) X.xe s₁) X.xe s:=by
 refine thn (ha pins s σ H _ I h) λv s1 ⟨x,H1,I1,r1,q1⟩=>?_
 refine thn (hb pins s1 σ H1 _ I1 q1) λu s2 ⟨y,H2,I2,r2,q2⟩=>?_
 exact hf v u s2 x y H2 I2 r1 r2 q2
theorem pe_op{op:Operator}{r:R2}(ho:OpR X (binaryOp op) r)(ha:PE X a ta)(hb:PE X b tb):PE X (.BinOp a op b pos) (tOp r ta tb):=by
 intro pins s σ H Q I h
 exact wpAny_BinOp (binT ha hb I h λv u s2 x y H2 I2 rx ry q=>ho pins s2 σ H2 x y v u Q I2 rx ry q)
theorem pe_un{op:UnaryOp}{r:V->Hp->VK->Prop}(ho:UnR X (unaryOp op) r)(ha:PE X a ta):PE X (.UnaryOp op a pos) (tUn r ta):=by
 intro pins s σ H Q I h
 exact UnaryOp_ (thn (ha pins s σ H _ I h) λv s1 ⟨x,H1,I1,r1,q1⟩=>ho pins s1 σ H1 x v Q I1 r1 q1)
theorem opI{f:Value->Value->Sem Value}{C:Int->Int->Prop}{g:Int->Int->Int}
 (rule:∀(i j:Int)(t u:Tok)(s:Shared)(Q:Value->Shared->Prop)(E:Value->Shared->Prop),C i j->Q (.int (g i j) s.toks) {s with toks:=s.toks+1}->wpAny (model X.prog X.w) X.A (f (.int i t) (.int j u)) Q E s) :
 OpR X f (rI C λi j=>.int (g i j)):=by
 intro pins s σ H x y v u Q I rx ry h
 obtain⟨i,j,rfl,rfl,hc,q⟩:=h
 obtain⟨t,rfl⟩:=rx
 obtain⟨t',rfl⟩:=ry
 exact rule i j t t' s _ _ hc ⟨.int (g i j),H,I.tok _,⟨_,rfl⟩,q⟩
theorem opI0{f:Value->Value->Sem Value}{g:Int->Int->Int}
 (rule:∀(i j:Int)(t u:Tok)(s:Shared)(Q:Value->Shared->Prop)(E:Value->Shared->Prop),Q (.int (g i j) s.toks) {s with toks:=s.toks+1}->wpAny (model X.prog X.w) X.A (f (.int i t) (.int j u)) Q E s) :
 OpR X f (rI0 λi j=>.int (g i j)):=by
 intro pins s σ H x y v u Q I rx ry h
 obtain⟨i,j,rfl,rfl,q⟩:=h
 obtain⟨t,rfl⟩:=rx
 obtain⟨t',rfl⟩:=ry
 exact rule i j t t' s _ _ ⟨.int (g i j),H,I.tok _,⟨_,rfl⟩,q⟩
theorem pY{f:Value->Value->Sem Value}{g:Int->Int->Bool}
 (rule:∀(i j:Int)(t u:Tok)(s:Shared)(Q:Value->Shared->Prop)(E:Value->Shared->Prop),Q (.bool (g i j)) s->wpAny (model X.prog X.w) X.A (f (.int i t) (.int j u)) Q E s) :
 OpR X f (rI0 λi j=>.bl (g i j)):=by
 intro pins s σ H x y v u Q I rx ry h
 obtain⟨i,j,rfl,rfl,q⟩:=h
 obtain⟨t,rfl⟩:=rx
 obtain⟨t',rfl⟩:=ry
 exact rule i j t t' s _ _ ⟨.bl (g i j),H,I,rfl,q⟩
noncomputable def CDiv(i j:Int):Prop:=0<j/\j<1073741824
noncomputable def CPow(i j:Int):Prop:=0<=j/\j<=1000000/\i.natAbs<2^64
noncomputable def CMul(i j:Int):Prop:=(-(2^64)<i/\i<2^64)\/(-(2^64)<j/\j<2^64)
theorem CMul.ok{i j:Int}(h:CMul i j):IntMulOk i j:=by
 rcases h with⟨h1,h2⟩|⟨h1,h2⟩
 ·exact .of_left (intBits_le_64 h1 h2)
 ·exact .of_right (intBits_le_64 h1 h2)
theorem op_add:OpR X (binaryOp .Add) (rI0 λi j=>.int (i+j)):=opI0 λ_ _ _ _ _ _ _ q=>add_int q
theorem op_sub:OpR X (binaryOp .Sub) (rI0 λi j=>.int (i-j)):=opI0 λ_ _ _ _ _ _ _ q=>sub_int q
theorem op_mul:OpR X (binaryOp .Mult) (rI CMul λi j=>.int (i*j)):=opI λ_ _ _ _ _ _ _ hc q=>mul_int q hc.ok
theorem FQ:OpR X (binaryOp .FloorDiv) (rI CDiv λi j=>.int (i/j)):=opI λi j _ _ _ _ _ hc q=>by
 have h1:(0:Int)<j:=hc.1
 have h2:j<1073741824:=hc.2
 exact floordiv_int (by lia) (by rw[Int.fdiv_eq_ediv_of_nonneg i (by lia)];exact q) (.inl (PyProof.noPylong_small (by lia)))
theorem op_mod:OpR X (binaryOp .Mod) (rI (λ_ j=>0<j) λi j=>.int (i%j)):=opI λi j _ _ _ _ _ hc q=>by
 have h1:(0:Int)<j:=hc
 exact mod_int' (by lia) (by rw[Int.fmod_eq_emod_of_nonneg i (by lia)];exact q)
theorem op_pow:OpR X (binaryOp .Pow) (rI CPow λi j=>.int (i^j.toNat)):=opI λ_ _ _ _ _ _ _ hc q=>pow_int_small hc.1 hc.2.1 hc.2.2 q
theorem unI{f:Value->Sem Value}{g:Int->Int}
 (rule:∀(i:Int)(t:Tok)(s:Shared)(Q:Value->Shared->Prop)(E:Value->Shared->Prop),Q (.int (g i) s.toks) {s with toks:=s.toks+1}->wpAny (model X.prog X.w) X.A (f (.int i t)) Q E s) :
 UnR X f (rU λi=>.int (g i)):=by
 intro pins s σ H x v Q I rx h
 obtain⟨i,rfl,q⟩:=h
 obtain⟨t,rfl⟩:=rx
 exact rule i t s _ _ ⟨.int (g i),H,I.tok _,⟨_,rfl⟩,q⟩
theorem un_neg:UnR X (unaryOp .USub) (rU λi=>.int (-i)):=unI λ_ _ _ _ _ q=>neg_int q
end
section
variable{X:Cx}{a b c:Expr}{ta tb tc:TE}{pos:Pos}
theorem lH{pins:List (Addr×Obj)}{σ:St}{H:Hp}{s:Shared}{Q:VK}{k k':Bool}(I:Inv X pins σ H s)(q:Q (.bl k) H)(e:k=k'):EP X pins σ Q (.bool k') s:=by
 subst e
 exact⟨.bl k,H,I,rfl,q⟩
theorem op_lt:OpR X (compareOp .Lt) (rI0 λi j=>.bl (decide (i<j))):=pY λ_ _ _ _ _ _ _ q=>lt_int q
theorem op_le:OpR X (compareOp .LtE) (rI0 λi j=>.bl (decide (i<=j))):=pY λ_ _ _ _ _ _ _ q=>le_int q
theorem op_gt:OpR X (compareOp .Gt) (rI0 λi j=>.bl (decide (j<i))):=pY λ_ _ _ _ _ _ _ q=>gt_int q
theorem op_ge:OpR X (compareOp .GtE) (rI0 λi j=>.bl (decide (j<=i))):=pY λ_ _ _ _ _ _ _ q=>ge_int q
theorem FR:OpR X (compareOp .In) (λx y H Q=>∃i j,x=.str i/\y=.str j/\Q (.bl (!(Builtin.Str.occurrences j i 0 j.length 1).isEmpty)) H):=by
 intro pins s σ H x y v u Q I rx ry h
 obtain⟨i,j,rfl,rfl,q⟩:=h
 obtain⟨t,rfl⟩:=rx
 obtain⟨t',rfl⟩:=ry
 exact in_str (lH I q rfl)
theorem op_isN:OpR X (compareOp .Is) (λx y H Q=>y=.non/\Q (.bl (decide (x=.non))) H):=by
 intro pins s σ H x y v u Q I rx ry h
 obtain⟨rfl,q⟩:=h
 cases ry
 refine is_none_gen (lH I q ?_)
 cases x<;>first
  |(cases rx;rfl)
  |(obtain⟨t,rfl⟩:=rx;rfl)
theorem FS:OpR X (compareOp .IsNot) (λx y H Q=>y=.non/\Q (.bl (!decide (x=.non))) H):=by
 intro pins s σ H x y v u Q I rx ry h
 obtain⟨rfl,q⟩:=h
 cases ry
 refine isnot_none_gen (lH I q ?_)
 cases x<;>first
  |(cases rx;rfl)
  |(obtain⟨t,rfl⟩:=rx;rfl)
theorem FT:OpR X (compareOp .NotIn) (λx y H Q=>∃i j,x=.str i/\y=.str j/\Q (.bl (!(!(Builtin.Str.occurrences j i 0 j.length 1).isEmpty))) H):=by
 intro pins s σ H x y v u Q I rx ry h
 obtain⟨i,j,rfl,rfl,q⟩:=h
 obtain⟨t,rfl⟩:=rx
 obtain⟨t',rfl⟩:=ry
 exact notIn_str (lH I q rfl)
theorem FU{op:CmpOp}{r:R2}(ho:OpR X (compareOp op) r)(ha:PE X a ta)(hb:PE X b tb)(hm:behindInMarks op b=false):PE X (.Compare a [op] [b] pos) (tOp r ta tb):=by
 intro pins s σ H Q I h
 exact wpAny_Compare1 (binT ha hb I h λv u s2 x y H2 I2 rx ry q=>ho pins s2 σ H2 x y v u Q I2 rx ry q) hm
noncomputable def tTest(t:TE):TT:=λσ H Q=>t σ H λx H'=>∃k,x=.bl k/\Q k H'
theorem FV{op:CmpOp}{r:R2}(ho:OpR X (compareOp op) r)(ha:PE X a ta)(hb:PE X b tb)(hm:behindInMarks op b=false):PT X (.Compare a [op] [b] pos) (tTest (tOp r ta tb)):=by
 intro pins s σ H Q I h
 refine wpAny_isTrue_Compare1 (thn (ha pins s σ H _ I h) λv s1 ⟨x,H1,I1,r1,q1⟩=>thn (hb pins s1 σ H1 _ I1 q1) λu s2 ⟨y,H2,I2,r2,q2⟩=>
  thn (ho pins s2 σ H2 x y v u _ I2 r1 r2 q2) λc s3 ⟨z,H3,I3,r3,k,e,q3⟩=>?_) hm
 subst e
 cases r3
 exact wpAny_truthy_bool ⟨H3,I3,q3⟩
noncomputable def mW(K:PySem.W.Frag)(x:V)(H:Hp)(k:Bool):Prop:=
 match x with
 |.non=>k=false
 |.bl b=>k=b
 |.int i=>k=(i != 0)
 |.str y=>y.length<=sizeLine/\k=((y.length:Int) != 0)
 |.byt y=>y.size<=sizeLine/\k=((y.size:Int) != 0)
 |.ref p=>(∃xs,SqL K H p xs/\k=!xs.isEmpty)\/(∃xs,SqT K H p xs/\k=!xs.isEmpty)\/∃kvs,H p=some (.dK kvs)/\k=!kvs.isEmpty
 |_=>False
theorem FW{κ:Type}{kvs:List (κ×V)}{vs:List (κ×Value)}(r:KV kvs vs):(!vs.isEmpty)=!kvs.isEmpty:=by
 cases r<;>rfl
theorem A5{xs:List V}{its:List Value}(r:Vals xs its):(!its.toArray.isEmpty)=!xs.isEmpty:=by
 cases r<;>simp
theorem kD:(sizeLine:Nat)<2^63:=by rw[sizeLine_eq];decide
theorem uY:TruR X (λx H Q=>∃k,mW X.K x H k/\Q k H):=by
 intro pins s σ H x v Q I rx h
 obtain⟨k,e,q⟩:=h
 have hl:=kD
 have hs:sizeLine=16777216:=sizeLine_eq
 cases x with
 |non=>
  cases rx
  have e':k=false:=e
  subst e'
  exact truthy_none ⟨H,I,q⟩
 |bl b=>
  cases rx
  have e':k=b:=e
  subst e'
  exact wpAny_truthy_bool ⟨H,I,q⟩
 |int i=>
  obtain⟨t,rfl⟩:=rx
  have e':k=(i != 0):=e
  subst e'
  exact PySem.P.truthy_int ⟨H,I,q⟩
 |str y=>
  obtain⟨t,rfl⟩:=rx
  obtain⟨hy,e'⟩:y.length<=sizeLine/\k=((y.length:Int) != 0):=e
  subst e'
  exact PySem.P.truthy_str (by lia) ⟨H,I.tok _,q⟩
 |byt y=>
  obtain⟨t,rfl⟩:=rx
  obtain⟨hy,e'⟩:y.size<=sizeLine/\k=((y.size:Int) != 0):=e
  subst e'
  exact PySem.W.truthy_bytes (by lia) ⟨H,I.tok _,q⟩
 |ref p=>
  cases rx
  have e':(∃xs,SqL X.K H p xs/\k=!xs.isEmpty)\/(∃xs,SqT X.K H p xs/\k=!xs.isEmpty)\/∃kvs,H p=some (.dK kvs)/\k=!kvs.isEmpty:=e
  rcases e' with⟨xs,hx,e'⟩|⟨xs,hx,e'⟩|⟨kvs,hx,e'⟩
  ·subst e'
   obtain⟨its,r,pl,hz⟩:=I.list hx
   have hlen:=r.length
   exact wpAny_truthy_list pl.isList (by simp only[bK];lia) ⟨H,I.tok _,by rw[A5 r];exact q⟩
  ·subst e'
   obtain⟨its,r,pl,hz⟩:=I.tuple hx
   have hlen:=r.length
   exact truthy_tuple pl (by simp only[bK];lia) ⟨H,I.tok _,by rw[A5 r];exact q⟩
  ·subst e'
   obtain⟨hz,hS,vs,r,m⟩:kvs.length<=sizeLine/\(p==sysModules)=false/\∃vs,KV kvs vs/\s.heap.DictOf (bP X.prog X.w) p vs:=I.hok p _ hx
   have hlen:kvs.length=vs.length:=Paired.length r
   exact wpAny_truthy_dict hS m (by lia) ⟨H,I.tok _,by rw[FW r];exact q⟩
 |_=>exact(show False from e).elim
theorem A6(ha:PE X a ta)(he:∀whole,isTrue a X.env whole=(do let v<-whole;standAt a.pos;holding [v] (truthy v))) :
 PT X a (λσ H Q=>ta σ H λx H'=>∃k,mW X.K x H' k/\Q k H'):=by
 intro pins s σ H Q I h
 exact isTrue_plain (thn (ha pins s σ H _ I h) λv s1 ⟨x,H1,I1,r1,q1⟩=>uY pins s1 σ H1 x v Q I1 r1 q1) (he _)
theorem FX:OpR X (binaryOp .Add) (λx y H Q=>∃i j,x=.str i/\y=.str j/\i.length+j.length<=sizeLine/\Q (.str (i++j)) H):=by
 intro pins s σ H x y v u Q I rx ry h
 obtain⟨i,j,rfl,rfl,hz,q⟩:=h
 obtain⟨t,rfl⟩:=rx
 obtain⟨t',rfl⟩:=ry
 exact add_str (λt' tk=>⟨.str (i++j),H,I.tok _,⟨_,rfl⟩,q⟩) hz
theorem fW{x:V}{us:List Value}(r:Vals [x] us):∃u,us=[u]/\RelV x u:=by
 cases r with
 |cons r1 r2=>cases r2;exact⟨_,rfl,r1⟩
theorem vals2{x y:V}{us:List Value}(r:Vals [x,y] us):∃u w',us=[u,w']/\RelV x u/\RelV y w':=by
 cases r with
 |cons r1 r2=>
  cases r2 with
  |cons r3 r4=>cases r4;exact⟨_,_,rfl,r1,r3⟩
theorem A7:cX X (.type "int") (λxs H Q=>(∃i,xs=[.int i]/\Q (.int i) H)\/∃k,xs=[.bl k]/\Q (.int (if k then 1 else 0)) H):=by
 intro pins s σ H xs us Q I r h
 rcases h with⟨i,rfl,q⟩|⟨k,rfl,q⟩
 ·obtain⟨u,rfl,t,rfl⟩:=fW r
  exact call_int_int ⟨.int i,H,I,⟨_,rfl⟩,q⟩
 ·obtain⟨u,rfl,r1⟩:=fW r
  cases r1
  exact call_int_bool ⟨.int (if k then 1 else 0),H,I.tok _,⟨_,rfl⟩,q⟩
end
theorem RelO.some_of{v:V}{o:Option Value}(r:RelO (some v) o):∃u,o=some u/\RelV v u:=by
 cases o with
 |none=>exact(show False from r).elim
 |some u=>exact⟨u,rfl,r⟩
section
variable{X:Cx}{pins:List (Addr×Obj)}{σ:St}{H:Hp}{s:Shared}{a C dx:Addr}{fs:List (Str×V)}{f:Str}{v:V}{A:Around}{E:Value->Shared->Prop}
end
set_option genInjectivity false in
structure Room(k:Nat)(A:Around):Prop where
 hd:A.handled=none
 dp:A.depth+3*k+5<recursionLimit
 un:A.units+16*k+200<cLine
theorem Room.mono{j k:Nat}{A:Around}(r:Room k A)(h:j<=k):Room j A:=⟨r.hd,by have:=r.dp;lia,by have:=r.un;lia⟩
theorem Room.deeper{k:Nat}{A:Around}(r:Room (k+1) A)(env:Env):Room k (A.deeper env):=
 ⟨r.hd,by have:=r.dp;show A.depth+1+3*k+5<_;lia,by have:=r.un;show A.units+3+16*k+200<_;lia⟩
theorem FY {A:Around} {C:Addr} {us:List Value} {kw:List (Str×Value)}:(A.under (.builtin "type.__call__" ⟨.ref C::us,kw⟩)).depth=A.depth+1:=by
 first|rfl|simp[Around.under,Code.weight,Code.isCreation,Code.isGuard,Code.isCaller,Code.frames,Code.isFrame,guardIds]
theorem FZ {A:Around} {C:Addr} {us:List Value} {kw:List (Str×Value)}:(A.under (.builtin "type.__call__" ⟨.ref C::us,kw⟩)).units=A.units+1:=by
 first|rfl|simp[Around.under,Code.cUnits,Code.frames,Code.isFrame]
theorem Room.make {k:Nat} {A:Around} (r:Room (k+1) A) (C:Addr) (us:List Value) (kw:List (Str×Value)):Room k (A.under (.builtin "type.__call__" ⟨.ref C::us,kw⟩)):=
 ⟨r.hd,by have:=r.dp;rw[FY];lia,by have:=r.un;rw[FZ];lia⟩
theorem Room.depth{k:Nat}{A:Around}(r:Room k A):A.depth<recursionLimit:=by have:=r.dp;lia
theorem Room.units{k:Nat}{A:Around}(r:Room k A):A.units+64<cLine:=by have:=r.un;lia
noncomputable def tNil:TA:=λ_ H Q=>Q [] H
noncomputable def A8(ta:TE)(tr:TA):TA:=λσ H Q=>ta σ H λx H1=>tr σ H1 λxs H2=>Q (x::xs) H2
section
variable{X:Cx}{e:Expr}{es:List Expr}{te:TE}{t:TA}{pos:Pos}
theorem eV:PA X [] tNil:=λ_ _ _ _ H Q I h=>Calls.spliced_nil ⟨[],H,I,.nil,h⟩
theorem cY(ha:PE X e te)(hr:PA X es t)(hs:starEach (e::es) X.env=(false,eval e X.env)::starEach es X.env:=by rfl):PA X (e::es) (A8 te t):=by
 intro pos pins s σ H Q I h
 rw[hs]
 show wpAny _ _ (spliced ((false,eval e X.env)::backTo pos (starEach es X.env))) _ _ s
 refine Calls.spliced_cons (thn (ha pins s σ H _ I h) λu s1 ⟨x,H1,I1,r1,q1⟩=>?_)
 exact thn (hr pos pins s1 σ H1 _ I1 q1) λus s2 ⟨xs,H2,I2,r2,q2⟩=>⟨x::xs,H2,I2,.cons r1 r2,q2⟩
noncomputable def tTup(t:TA):TE:=λσ H Q=>t σ H λxs H1=>xs.length<=sizeLine/\∀p,H1 p=none->Q (.ref p) (upd H1 p (.tup xs))
noncomputable def tLst(t:TA):TE:=λσ H Q=>t σ H λxs H1=>xs.length<=sizeLine/\∀p,H1 p=none->Q (.ref p) (upd H1 p (.lst xs))
theorem pe_tup{x1}(h:PA X es t):PE X (.Tuple es x1 pos) (tTup t):=by
 intro pins s σ H Q I hq
 refine wpAny_Tuple_spliced (thn (h pos pins s σ H _ I hq) λus s1 ⟨xs,H1,I1,r,z,q⟩=>⟨by rw[<-r.length];exact z,?_⟩)
 have hf:H1 s1.heap.objs.size=none:=I1.hok.fresh (aQ _)
 refine⟨.ref s1.heap.objs.size,upd H1 s1.heap.objs.size (.tup xs),I1.laid (t':=s1.toks) (λb u e=>Heap.get?_push_of_some _ e) (aQ _) ?_,rfl,q _ hf⟩
 exact⟨z,us,r,⟨_,Heap.get?_push_size _ rfl,rfl,_,rfl⟩⟩
theorem pe_lst(h:PA X es t):PE X (.List es pos) (tLst t):=by
 intro pins s σ H Q I hq
 refine wpAny_List_spliced (thn (h pos pins s σ H _ I hq) λus s1 ⟨xs,H1,I1,r,z,q⟩=>⟨by rw[<-r.length];exact z,?_⟩)
 have hf:H1 s1.heap.objs.size=none:=I1.hok.fresh (aQ _)
 refine⟨.ref s1.heap.objs.size,upd H1 s1.heap.objs.size (.lst xs),I1.laid (t':=s1.toks) (λb u e=>Heap.get?_push_of_some _ e) (aQ _) ?_,rfl,q _ hf⟩
 exact⟨z,us,0,r,Heap.get?_push_size _ rfl⟩
end
noncomputable abbrev Sp:=List V->Hp->VK->XK->Prop
noncomputable abbrev CXT:=List Env->Hp->Shared->XK->Value->Shared->Prop
set_option genInjectivity false in
structure Env0(P:Program)(w:World)(K:PySem.W.Frag)(mg:Str->Option Value)(base:Heap)(A:Around)(outer:List Env)(s:Shared)(H:Hp):Prop where
 frames:A.frames=some outer
 mod:Mod K mg base
 bs:∀b o,base.get? b=some o->s.heap.get? b=some o/\H b=none
 bsz:base.objs.size<=s.heap.objs.size
 funs:s.heap.FunFrames base outer
 frf:∀b∈frs outer,H b=none
 hok:HOk P w H s.heap
 bare:AllBare s.gens
noncomputable def CE(outer:List Env)(P:Program)(w:World)(H:Hp)(s:Shared)(Q:VK)(u:Value)(s':Shared):Prop:=
 ∃v H',s'.os=s.os/\AllBare s'.gens/\Un (frs outer) [] H H' s.heap s'.heap/\HOk P w H' s'.heap/\RelV v u/\Q v H'
noncomputable def CR(CX:CXT)(outer:List Env)(P:Program)(w:World)(H:Hp)(s:Shared)(Q:VK)(E:XK)(r:Result)(s':Shared):Prop:=
 match r with
 |.ok (.ret u)=>CE outer P w H s Q u s'
 |.ok _=>False
 |.error e=>CX outer H s E e s'
set_option genInjectivity false in
structure FnOk(P:Program)(w:World)(K:PySem.W.Frag)(mg:Str->Option Value)(base:Heap)(CX:CXT)(k:Nat)(f:Addr)(fd:FuncData)(ps:List Str)(sp:Sp):Prop where
 len:∀vs H Q E,sp vs H Q E->vs.length=ps.length
 run:∀(A:Around)(outer:List Env)(s:Shared)(H:Hp)(args:Args)(us:List Value)(vs:List V)(Q:VK)(E:XK),Room k A->Env0 P w K mg base A outer s H->BindsTo s fd args (ps.zip us)->Vals vs us->sp vs H Q E ->
  codeAny (model P w) A (.call (.ref f) args) (CR CX outer P w H s Q E) s
theorem Env0.make{P:Program}{w:World}{K:PySem.W.Frag}{mg:Str->Option Value}{base:Heap}{A:Around}{outer:List Env}{s:Shared}{H:Hp}(e:Env0 P w K mg base A outer s H)(C:Addr)(us:List Value)(kw:List (Str×Value)) :
 Env0 P w K mg base (A.under (.builtin "type.__call__" ⟨.ref C::us,kw⟩)) outer s H:=⟨by first|exact e.frames|(simpa[Around.under,Code.envs,Code.isFrame,pushEnvs]using e.frames),e.mod,e.bs,e.bsz,e.funs,e.frf,e.hok,e.bare⟩
section
variable{X:Cx}{pins:List (Addr×Obj)}{σ:St}{H:Hp}{s s':Shared}
theorem Inv.env0(I:Inv X pins σ H s):Env0 X.prog X.w X.K X.mg X.base X.A X.stack s H:=
 ⟨I.ok.frames,I.ok.mod,I.bs,cD I.ok.bsz I.sz,I.stack,I.stkFree,I.hok,I.bare⟩
theorem Inv.after{Q:VK}{u:Value}(I:Inv X pins σ H s)(h:CE X.stack X.prog X.w H s Q u s'):EP X pins σ Q u s':=by
 obtain⟨v,H',os,bare,un,hok,r,q⟩:=h
 obtain⟨hh,g,d,t,os'⟩:=s'
 obtain rfl:os'=s.os:=os
 exact⟨v,H',I.call (h':=hh) (g':=g) (d':=d) (t':=t) (ch:=[]) un hok bare (λb z=>absurd z (by simp)),r,q⟩
end
noncomputable def pZ(sp:Sp)(dvs:List V)(E:XK)(t:TA):TE:=λσ H Q=>t σ H λvs H1=>sp (vs++dvs) H1 Q E
noncomputable def Binds(K:PySem.W.Frag)(fd:FuncData)(ps:List Str)(ds:List Value):Prop:=
 ∀(s:Shared)(us:List Value),K.In s.heap->(us++ds).length=ps.length->BindsTo s fd ⟨us,[]⟩ (ps.zip (us++ds))
theorem Binds.all{K:PySem.W.Frag}{fd:FuncData}{ps:List Str}(h:∀us:List Value,us.length=ps.length->bindArgs fd ⟨us,[]⟩=pure (ps.zip us)):Binds K fd ps []:=λs us _ hl=>by
 rw[mM]at hl⊢
 exact .of_eq (h us hl)
noncomputable def lI(CX:CXT)(X:Cx)(E:XK):Prop:=∀(pins:List (Addr×Obj))(σ:St)(H:Hp)(s:Shared)(e:Value)(s':Shared),Inv X pins σ H s->CX X.stack H s E e s'->X.xe e s'
section
variable{X:Cx}{CX:CXT}{k:Nat}{f C:Addr}{fd:FuncData}{ps:List Str}{sp:Sp}{dvs:List V}{ds:List Value}{E:XK}{x m:Str}{p pos apos:Pos}{e o:Expr}{es:List Expr}{ta:TE}{t:TA}
theorem A9{pins:List (Addr×Obj)}{σ:St}{H:Hp}{s:Shared}{Q:VK}{us:List Value}{vs:List V}(F:FnOk X.prog X.w X.K X.mg X.base CX k f fd ps sp)(hr:Room k X.A)(hb:Binds X.K fd ps ds)(hd:Vals dvs ds)(hx:lI CX X E)
 (I:Inv X pins σ H s) (r:Vals vs us) (h:sp (vs++dvs) H Q E):wpAny (model X.prog X.w) X.A (call (.ref f) us) (EP X pins σ Q) X.xe s:=by
 have r2:Vals (vs++dvs) (us++ds):=r.append hd
 have hl:(us++ds).length=ps.length:=by rw[<-r2.length];exact F.len _ _ _ _ h
 refine wpAny_call (codeAny_mono (F.run X.A X.stack s H ⟨us,[]⟩ (us++ds) (vs++dvs) Q E hr I.env0 (hb s us I.kIn hl) r2 h) λr s' hq=>?_)
 cases r with
 |error e=>exact hx pins σ H s e s' I hq
 |ok fl=>
  cases fl with
  |ret u=>exact I.after hq
  |next=>exact False.elim hq
  |brk=>exact False.elim hq
  |cont=>exact False.elim hq
theorem qA(F:FnOk X.prog X.w X.K X.mg X.base CX k f fd ps sp)(hr:Room k X.A)(hg:Gl X x)(hm:X.mg x=some (.ref f))(hk:PySem.W.keepIn X.K (.ref f)=true)(hb:Binds X.K fd ps ds)(hd:Vals dvs ds)(hx:lI CX X E)
 (ha:PA X (e::es) t) (hdb:(x==("__debug__" : Str))=false:=by decide) (he:starEach (e::es) X.env=(false,eval e X.env)::starEach es X.env:=by rfl) (hpl:(backTo pos (starEach es X.env)).any (·.1)=false:=by rfl) :
 PE X (.Call (.Name x p) (e::es) [] pos) (pZ sp dvs E t):=by
 intro pins s σ H Q I h
 refine wpAny_Call_Name_kw (pW I hg hm ?_ hdb)
 refine PySem.W.callWith_K (h₀:=X.base) I.ok.mod.kin hk (thn (ha pos pins s σ H _ I h) λus s1 ⟨vs,H1,I1,r,q⟩=>⟨I1.kIn,?_⟩) he hpl
 exact A9 F hr hb hd hx I1 r q
theorem A_(F:FnOk X.prog X.w X.K X.mg X.base CX k f fd ps sp)(hr:Room k X.A)(hg:Gl X x)(hm:X.mg x=some (.ref f))(hk:PySem.W.keepIn X.K (.ref f)=true)(hb:Binds X.K fd ps ds)(hd:Vals dvs ds)(hx:lI CX X E)
 (hdb:(x==("__debug__" : Str))=false:=by decide):PE X (.Call (.Name x p) [] [] pos) (pZ sp dvs E tNil):=by
 intro pins s σ H Q I h
 refine wpAny_Call_Name_kw (pW I hg hm ?_ hdb)
 exact PySem.W.callWith_K0 I.kIn hk (A9 (us:=[]) F hr hb hd hx I .nil h)
end
section
variable{X:Cx}{CX:CXT}{k:Nat}{f C:Addr}{fd:FuncData}{ps ks:List Str}{sp:Sp}{E:XK}{x m:Str}{p pos apos kpos:Pos}{e o:Expr}{es:List Expr}{kws:List Keyword}{te ta:TE}{t tk:TA}{nm:Option Str}
variable{g:List Value->List Value->List Value}{gV:List V->List V->List V}
end
set_option genInjectivity false in
structure FnScope(N P:List Str)(sc:Scope):Prop where
 kind:sc.kind=.function
 co:sc.isCoroutine=false
 gen:sc.isGenerator=false
 nd:N.Nodup
 pre:N.take P.length=P
 par:∀x∈P,sc.names.lookup x=some .local\/sc.names.lookup x=some .cell
 nofree:∀y∈sc.names,y.2≠.free
theorem Aa{kindOf:Str->Option NameKind}{x:Str}:∀{binds:List (Str×Value)} {m:Str->Option Value},(∀v,(x,v)∉binds)->bindL kindOf binds m x=m x
 |[],_,_=>rfl
 |(n,v)::r,m,h=>by
  unfold bindL
  rw[Aa λw hw=>h w (bG _ hw)]
  split
  ·have:x≠n:=by rintro rfl;exact h v bR
   simp[this]
  ·rfl
theorem Ab{kindOf:Str->Option NameKind}{x:Str}:∀{binds:List (Str×Value)} {m:Str->Option Value},(∀v,(x,v)∉binds)->bindC kindOf binds m x=m x
 |[],_,_=>rfl
 |(n,v)::r,m,h=>by
  unfold bindC
  rw[Ab λw hw=>h w (bG _ hw)]
  split
  ·rfl
  ·have:x≠n:=by rintro rfl;exact h v bR
   simp[this]
theorem Ac{kindOf:Str->Option NameKind}{x:Str}{v:Value}:∀{P:List Str} {vs:List Value} {i:Nat} {m:Str->Option Value},P.Nodup->P[i]?=some x->vs[i]?=some v->kindOf x=some .local ->
 bindL kindOf (P.zip vs) m x=some v
 |[],_,_,_,_,h,_,_=>by simp at h
 |_::_,[],_,_,_,_,h,_=>by simp at h
 |p::P,w::vs,0,m,nd,h1,h2,hk=>by
  simp at h1 h2;subst h1;subst h2
  show bindL kindOf ((p,w)::P.zip vs) m p=_
  unfold bindL
  rw[Aa λv hv=>(iG.mp nd).1 (Em hv).1,if_pos hk]
  simp
 |p::P,w::vs,i+1,m,nd,h1,h2,hk=>by
  show bindL kindOf ((p,w)::P.zip vs) m x=_
  unfold bindL
  exact Ac (i:=i) (iG.mp nd).2 (by simpa using h1) (by simpa using h2) hk
theorem Ad{kindOf:Str->Option NameKind}{x:Str}{v:Value}:∀{P:List Str} {vs:List Value} {i:Nat} {m:Str->Option Value},P.Nodup->P[i]?=some x->vs[i]?=some v->kindOf x≠some .local ->
 bindC kindOf (P.zip vs) m x=some v
 |[],_,_,_,_,h,_,_=>by simp at h
 |_::_,[],_,_,_,_,h,_=>by simp at h
 |p::P,w::vs,0,m,nd,h1,h2,hk=>by
  simp at h1 h2;subst h1;subst h2
  show bindC kindOf ((p,w)::P.zip vs) m p=_
  unfold bindC
  rw[Ab λv hv=>(iG.mp nd).1 (Em hv).1,if_neg hk]
  simp
 |p::P,w::vs,i+1,m,nd,h1,h2,hk=>by
  show bindC kindOf ((p,w)::P.zip vs) m x=_
  unfold bindC
  exact Ad (i:=i) (iG.mp nd).2 (by simpa using h1) (by simpa using h2) hk
noncomputable def cF(N:List Str)(vs:List V):St:=vs.map some++aO (N.length-vs.length) none
noncomputable def aV(CX:CXT)(P:Program)(w:World)(K:PySem.W.Frag)(mg:Str->Option Value)(base:Heap)(N:List Str)(qual:Str)(scope:Scope)(f:Addr)(cd:Value)(A:Around)(outer:List Env)(s:Shared)(H:Hp)(E:XK):Cx where
 prog:=P
 w:=w
 K:=K
 mg:=mg
 base:=base
 A:=A.deeper (envOfC qual scope s.heap.objs.size f cd)
 N:=N
 s₀:=s
 H₀:=H
 env:=envOfC qual scope s.heap.objs.size f cd
 outer:=outer
 stack:=envOfC qual scope s.heap.objs.size f cd::outer
 ex:=[]
 calm:=true
 fn:=λ_=>true
 pn:=[]
 xe:=λe s'=>wpAny (model P w) (A.deeper (envOfC qual scope s.heap.objs.size f cd)) (leaving (envOfC qual scope s.heap.objs.size f cd) e) (λ_ s''=>CX outer H s E e s'') (λe' s''=>CX outer H s E e' s'') s'
theorem Ae{sc:Scope}{n:Nat}{x:Str}(h:sc.names.lookup x=some .cell):∃c,(cellsFrom n sc.names []).lookup x=some c:=by
 have q:=PySem.W.cellsFrom_some sc.names n [] (.inl h)
 exact LP.mp q
theorem F0{CX:CXT}{P:Program}{w:World}{K:PySem.W.Frag}{mg:Str->Option Value}{base:Heap}{N ps:List Str}{qual:Str}{scope:Scope}{f:Addr}{cd:Value}{A:Around}{outer:List Env}{s s1:Shared}{H:Hp}{E:XK}{us:List Value}{vs:List V}
 (S:FnScope N ps scope) (hd:A.handled=none) (e0:Env0 P w K mg base A outer s H) (hl:vs.length=ps.length) (r:Vals vs us)
 (x:InCallC s s.heap.objs.size (bindL (envOfC qual scope s.heap.objs.size f cd).kindOf (ps.zip us) λ_=>none) (cellsFrom (s.heap.objs.size+1) scope.names []) (bindC (envOfC qual scope s.heap.objs.size f cd).kindOf (ps.zip us) λ_=>none) s1) :
 Inv (aV CX P w K mg base N qual scope f cd A outer s H E) [] (cF N vs) H s1:=by
 have hpl:ps.length<=N.length:=by have:=congrArg List.length S.pre;rw[fS]at this;lia
 obtain⟨h1,tk,rfl,hk⟩:=x.done
 have noA:∀b:Addr,b∉(aV CX P w K mg base N qual scope f cd A outer s H E).ex:=λb z=>absurd (show b∈([]:List Addr)from z) (by simp)
 refine⟨⟨e0.mod,S.kind,rfl,rfl,aQ _,λy z c h1 h2=>?_,λy hy=>?_,λy c _ h=>?_,λ_=>hd,Around.frames_deeper e0.frames,.inr ⟨rfl,rfl⟩,λb z=>absurd z (noA b),e0.bs,e0.bsz,λb _ _=>noA b,λb z=>absurd z (noA b),e0.funs,e0.frf⟩,
  rfl,e0.bare,Un.kept hk,⟨_,x.toInCall.ns,λi y v h1 h2 h3=>?_⟩,λy c h=>⟨_,x.cell y c h⟩,e0.hok.fresh (aQ _),λy c h=>?_,λp hp=>absurd (show p∈([]:List (Addr×Obj))from hp) (by simp),e0.hok.kept hk,?_⟩
 ·exact name_of_addr x.apart (PySem.mem_of_lookup h1) (PySem.mem_of_lookup h2)
 ·have hy:scope.names.lookup y=some .cell\/scope.names.lookup y=some .free:=hy
  rcases hy with hy|hy
  ·exact Ae hy
  ·exact absurd rfl (S.nofree _ (PySem.mem_of_lookup hy))
 ·exact jT (x.above y c (PySem.mem_of_lookup h))
 ·have hi:i<vs.length:=by
   unfold cF at h2
   by_cases hi:i<vs.length
   ·exact hi
   ·rw[gL (by simpa using hi)]at h2
    rw[mO]at h2
    split at h2<;>cases h2
  have ha:vs[i]?=some v:=by
   unfold cF at h2
   rw[mP (by simpa using hi),bO]at h2
   cases e:vs[i]? with
   |none=>rw[e]at h2;cases h2
   |some a=>rw[e]at h2;cases h2;rfl
  obtain⟨u,hu,rv⟩:=r.get ha
  have hp:ps[i]?=some y:=by
   rw[<-S.pre,LQ (by lia)];exact h1
  have ndP:ps.Nodup:=by rw[<-S.pre];exact S.nd.sublist (List.take_sublist _ _)
  refine⟨u,rv,?_⟩
  rcases S.par y (jA hp)with k|k
  ·exact .inl ⟨k,Ac ndP hp hu k⟩
  ·obtain⟨c,e⟩:=Ae (n:=s.heap.objs.size+1) k
   refine .inr ⟨.inl k,c,e,?_⟩
   have q:=x.cell y c e
   rw[Ad ndP hp hu (by show scope.names.lookup y≠_;rw[k];decide)]at q
   exact q
 ·exact e0.hok.fresh (jT (x.above y c (PySem.mem_of_lookup h)))
 ·unfold cF
  show _=N.length
  rw[cE,aE,dY]
  lia
theorem fn_of{CX:CXT}{P:Program}{w:World}{K:PySem.W.Frag}{mg:Str->Option Value}{base:Heap}{k:Nat}{f:Addr}{name qual:Str}{params:Arguments}{body:List Stmt}{scope:Scope}{dV kV doc pm cdv ct oc:Value}{an od:Option Addr}
 {osl:Array (Option Value)} {N ps:List Str} {sp:Sp} (lk:K.lookup f=some ⟨oc,od,.func (PySem.W.fnOf name qual params body scope dV kV doc pm an cdv ct),osl⟩) (hcd:PySem.W.codeIn K cdv qual=true) (S:FnScope N ps scope)
 (len:∀vs H Q E,sp vs H Q E->vs.length=ps.length)
 (hbody:∀(A:Around)(outer:List Env)(s:Shared)(H:Hp)(vs:List V)(Q:VK)(E:XK),Room k (A.deeper (envOfC qual scope s.heap.objs.size f cdv))->sp vs H Q E ->
  ∃t,PSs (aV CX P w K mg base N qual scope f cdv A outer s H E) body t/\t {nx:=λ_ H'=>Q .non H',rt:=Q} (cF N vs) H) :
 FnOk P w K mg base CX (k+1) f (PySem.W.fnOf name qual params body scope dV kV doc pm an cdv ct) ps sp:=by
 refine⟨len,λA outer s H args us vs Q E hr e0 hb r hsp=>?_⟩
 have hl:=len _ _ _ _ hsp
 have KX:K.In s.heap:=e0.mod.kin.keeps λb o e=>(e0.bs b o e).1
 have lim:s.heap.NoLimit:=e0.mod.nolimit.keeps λb o e=>(e0.bs b o e).1
 have hkind:∀y∈ps.zip us,scope.names.lookup y.1=some .local\/(scope.names.lookup y.1=some .cell/\((cellsFrom (s.heap.objs.size+1) scope.names []).lookup y.1).isSome=true):=λ⟨n,v⟩ hy=>by
  rcases S.par n (Em hy).1 with q|q
  ·exact .inl q
  ·exact .inr ⟨q,PySem.W.cellsFrom_some _ _ _ (.inl q)⟩
 refine codeAny_call_function hr.depth (KX _ _ lk) rfl S.co S.gen rfl (PySem.W.codeRec_of KX hcd) (hb _ _ _ _ ?_)
 refine wpAny_newFunctionEnv_cells S.kind hkind λenv he s1 x=>?_
 subst he
 refine⟨lim.keeps x.toInCall.keep,codeAny_func ?_⟩
 obtain⟨t,ht,hq⟩:=hbody A outer s H vs Q E (hr.deeper _) hsp
 have I:Inv (aV CX P w K mg base N qual scope f cdv A outer s H E) [] (cF N vs) H s1:=F0 S hr.hd e0 hl r x
 refine wpAny_mono (ht [] s1 (cF N vs) H _ I hq) (λfl s' hs=>?_) λe s' hs=>hs
 have fin:∀{σ':St} {H':Hp} {v:V} {u:Value},Inv (aV CX P w K mg base N qual scope f cdv A outer s H E) [] σ' H' s'->RelV v u->Q v H'->CE outer P w H s Q u s':=
  λ{σ' H' v u} J rv q=>⟨v,H',J.os,J.bare,J.base,J.hok,rv,q⟩
 cases fl with
 |ret u=>
  obtain⟨v,σ',H',J,rv,q⟩:=hs
  exact fin J rv q
 |next=>
  obtain⟨σ',H',J,q⟩:=hs
  exact fin (v:=V.non) (u:=Value.none) J rfl q
 |brk=>
  obtain⟨_,_,_,q⟩:=hs
  exact False.elim q
 |cont=>
  obtain⟨_,_,_,q⟩:=hs
  exact False.elim q
section
variable{X:Cx}{x:Str}{p pos:Pos}{e:Expr}{es:List Expr}{t:TA}{id T:String}{r:List V->Hp->VK->Prop}
noncomputable def tCB(r:List V->Hp->VK->Prop)(t:TA):TE:=λσ H Q=>t σ H λvs H1=>r vs H1 Q
theorem qB (hc:cX X (.builtin id) r) (hg:Gl X x) (hm:X.mg x=none) (hv:bootBuiltins x=some (.builtin id)) (ha:PA X (e::es) t) (hn:x ≠ "__name__" := by decide) (hdb:(x==("__debug__" : Str))=false:=by decide)
 (he:starEach (e::es) X.env=(false,eval e X.env)::starEach es X.env:=by rfl) (hpl:(backTo pos (starEach es X.env)).any (·.1)=false:=by rfl):PE X (.Call (.Name x p) (e::es) [] pos) (tCB r t):=by
 intro pins s σ H Q I h
 refine wpAny_Call_Name_kw (jZ I hg hm hv ?_ hn hdb)
 exact PyProof.Rows.callWith_builtin1 (thn (ha pos pins s σ H _ I h) λus s1 ⟨vs,H1,I1,r1,q1⟩=>hc pins s1 σ H1 vs us Q I1 r1 q1) he hpl
theorem qC (hc:cX X (.type T) r) (hg:Gl X x) (hm:X.mg x=none) (hv:bootBuiltins x=some (.type T)) (ha:PA X (e::es) t) (hn:x ≠ "__name__" := by decide) (hdb:(x==("__debug__" : Str))=false:=by decide)
 (he:starEach (e::es) X.env=(false,eval e X.env)::starEach es X.env:=by rfl) (hpl:(backTo pos (starEach es X.env)).any (·.1)=false:=by rfl):PE X (.Call (.Name x p) (e::es) [] pos) (tCB r t):=by
 intro pins s σ H Q I h
 refine wpAny_Call_Name_kw (jZ I hg hm hv ?_ hn hdb)
 exact PyProof.Rows.callWith_type1 (thn (ha pos pins s σ H _ I h) λus s1 ⟨vs,H1,I1,r1,q1⟩=>hc pins s1 σ H1 vs us Q I1 r1 q1) he hpl
end
end L2
namespace HT
open PySem PyProof.Rows
section
open PySem.SeqAt
open PySem.AutoSeq1 (wpAny_loadPart')
open PySem.MeetsSeq PySem.MeetsSeq2 PySem.MeetsSeq3
end
section
variable{prog:Program}{w:World}{A:Around}{E:Value->Shared->Prop}{s:Shared}
theorem cat_tup{t b:Addr}{vs ws:List Value}{Q:Value->Shared->Prop}(ht:IsTup s.heap t vs.toArray)(hb:IsTup s.heap b ws.toArray)(hv:vs≠[])
 (h1:ws=[]->Q (.ref t) s) (h2:ws≠[]->Q (.ref s.heap.objs.size) {s with heap:=s.heap.push {cls:=.type "tuple", data:=.seq (vs++ws).toArray} })
 (hsz:vs.length+ws.length<=sizeLine):wpAny (model prog w) A (binaryOp .Add (.ref t) (.ref b)) Q E s:=by
 obtain⟨⟨cls,dd,data,sl⟩,ho,hc,n,hd⟩:=id ht
 obtain⟨⟨cls2,dd2,data2,sl2⟩,ho2,hc2,n2,hd2⟩:=id hb
 simp only at hc hd hc2 hd2
 subst hc hd hc2 hd2
 have e:vs.toArray++ws.toArray=(vs++ws).toArray:=by simp
 by_cases hw:ws=[]
 ·exact concat_meets ⟨_,ho,rfl⟩ ⟨_,ho2,rfl⟩ noFill_tuple_add seq_tuple_add PySem.F.slot_tuple_add PySem.F.entry_tuple_add (PySem.F.args_tuple_add_2 _ _)
   (tuple_addW1 t b vs.toArray ws.toArray n n2 dd dd2 sl sl2 (by simpa using hv) (by simp[hw])) ⟨ho,ho2,h1 hw⟩
 ·refine concat_meets ⟨_,ho,rfl⟩ ⟨_,ho2,rfl⟩ noFill_tuple_add seq_tuple_add PySem.F.slot_tuple_add PySem.F.entry_tuple_add (PySem.F.args_tuple_add_2 _ _)
   (tuple_addW2 t b vs.toArray ws.toArray n n2 dd dd2 sl sl2 (by simpa using hv) (by simpa using hw) (by rw[bK,bK];exact hsz)) ⟨ho,ho2,?_⟩
  rw[e]
  exact h2 hw
noncomputable def sIx(n d:Nat):Option Int->Nat
 |none=>d
 |some v=>if v<0 then(v+(n:Int)).toNat else min v.toNat n
theorem sIx_le(n d:Nat)(hd:d<=n)(o:Option Int):sIx n d o<=n:=by
 cases o with
 |none=>exact hd
 |some v=>
  show(if v<0 then(v+(n:Int)).toNat else min v.toNat n)<=n
  by_cases hv:v<0
  ·rw[if_pos hv];lia
  ·rw[if_neg hv];exact Nat.min_le_right _ _
theorem Af(v:Int)(n d:Nat):(if v<0 then max (v+(n:Int)) 0 else min v (n:Int))=((sIx n d (some v):Nat):Int):=by
 show(if v<0 then max (v+(n:Int)) 0 else min v (n:Int))=(((if v<0 then(v+(n:Int)).toNat else min v.toNat n):Nat):Int)
 by_cases hv:v<0
 ·simp only[if_pos hv];lia
 ·simp only[if_neg hv];lia
theorem F3(lo hi:Option Int)(n:Nat):Builtin.Slice.sliceAdjust lo hi 1 (n:Int)=(((sIx n 0 lo:Nat):Int),((sIx n n hi:Nat):Int)):=by
 have h1:¬((1:Int)<0):=by lia
 unfold Builtin.Slice.sliceAdjust
 simp only[h1,if_false]
 refine Prod.ext ?_ ?_
 ·cases lo with
  |none=>rfl
  |some v=>exact Af v n 0
 ·cases hi with
  |none=>rfl
  |some v=>exact Af v n n
theorem F9(i j:Nat):Builtin.Slice.slicePlaces (i:Int) (j:Int) 1=j-i:=by
 unfold Builtin.Slice.slicePlaces
 have h1:(1:Int)>0:=by lia
 simp only[h1,if_true,Int.ediv_one]
 split<;>lia
theorem Ag{v:Value}{o:Option Int}{Q:Option Int->Shared->Prop}(p:IsPart v o)(h:Q o s):wpAny (model prog w) A (Builtin.Slice.slicePartIndex v) Q E s:=by
 cases p with
 |none=>exact slicePart_none h
 |int i t=>exact slicePart_int h
theorem sliceApplied_gen{sl:Addr}{vl vu:Value}{lo hi:Option Int}{n:Nat}{Q:Int×Int×Nat->Shared->Prop}(hs:s.heap.IsSliceOf sl vl vu .none)(pl:IsPart vl lo)(pu:IsPart vu hi)
 (h:Q (((sIx n 0 lo:Nat):Int),1,sIx n n hi-sIx n 0 lo) s):wpAny (model prog w) A (Builtin.Slice.sliceApplied (.ref sl) (pure (n:Int))) Q E s:=by
 obtain⟨os,hos,hcs,hds⟩:=id hs
 unfold Builtin.Slice.sliceApplied Builtin.Slice.sliceFields
 refine wpAny_bind (wpAny_bind (wpAny_field hos hds (x:=vl) rfl (wpAny_bind (wpAny_field hos hds (x:=vu) rfl (wpAny_bind (wpAny_field hos hds (x:=.none) rfl (wpAny_pure ?_)))))))
 refine wpAny_bind (slicePart_none ?_)
 show wpAny _ _ (if((1:Int)==0)=true then _ else _) _ _ s
 rw[if_neg (by decide)]
 refine wpAny_bind (Ag pl (wpAny_bind (Ag pu (wpAny_bind (wpAny_pure ?_)))))
 show wpAny _ _ (match Builtin.Slice.sliceAdjust lo hi 1 (n:Int)with|(lo,hi)=>pure (lo,(1:Int),Builtin.Slice.slicePlaces lo hi 1)) _ _ s
 rw[F3 lo hi n]
 show wpAny _ _ (pure (((sIx n 0 lo:Nat):Int),(1:Int),Builtin.Slice.slicePlaces ((sIx n 0 lo:Nat):Int) ((sIx n n hi:Nat):Int) 1)) _ _ s
 rw[F9]
 exact wpAny_pure h
theorem F_(xs:Array Value)(i k:Nat):((aF k).filterMap λ(m:Nat)=>xs[((i:Int)+(m:Int)*1).toNat]?).toArray=((xs.toList.drop i).take k).toArray:=by
 have e:(λ(m:Nat)=>xs[((i:Int)+(m:Int)*1).toNat]?)=λm=>xs[i+m]?:=by
  funext m
  have:((i:Int)+(m:Int)*1).toNat=i+m:=by lia
  rw[this]
 rw[e]
 have:=pick_run xs i k
 rw[LR]at this
 have e2:((λx=>xs[x]?)∘λx=>i+x)=λm=>xs[i+m]?:=rfl
 rw[e2]at this
 rw[this]
theorem getItem_tuple_cut{t sl:Addr}{items:Array Value}{vl vu:Value}{lo hi:Option Int}{Q:Value->Shared->Prop}(ht:IsTup s.heap t items)(hs:s.heap.IsSliceOf sl vl vu .none)(pl:IsPart vl lo)(pu:IsPart vu hi)
 (hw:¬(sIx items.size 0 lo=0/\sIx items.size items.size hi=items.size))
 (h:Q (.ref s.heap.objs.size) {s with heap:=s.heap.push {cls:=.type "tuple", data:=.seq ((items.toList.drop (sIx items.size 0 lo)).take (sIx items.size items.size hi-sIx items.size 0 lo)).toArray} })
 (hsz:items.size<=sizeLine):wpAny (model prog w) A (getItem (.ref t) (.ref sl)) Q E s:=by
 have htake:sizeOk (.seq ((items.toList.drop (sIx items.size 0 lo)).take (sIx items.size items.size hi-sIx items.size 0 lo)).toArray):=by
  show((items.toList.drop (sIx items.size 0 lo)).take (sIx items.size items.size hi-sIx items.size 0 lo)).toArray.size<=sizeLine
  rw[bK,fS,pJ,uK]
  lia
 have hj:sIx items.size items.size hi<=items.size:=sIx_le _ _ (aQ _) hi
 obtain⟨os,hos,hcs,hds⟩:=id hs
 have hTs:s.TypeIs (.ref sl) "slice" := ⟨os,hos,hcs⟩
 unfold getItem
 try with_reducible refine wpAny_holding ?_
 first|refine wpAny_bind (wpAny_pure ?_)|skip
 refine wpAny_bind (wpAny_sequenceKey ht.typeIs (by decide) ?_)
 refine wpAny_bind (wpAny_callSpecial?_slot (name:=Str.ofString "__getitem__") ht.typeIs PyProof.Rows.slot_tuple_getitem
  (wpAny_call_entry PyProof.Rows.slot_tuple_getitem ht.typeIs entry_tuple_getitem ?_ (args_tuple_getitem _ _)))
 show wpAny _ _ (Builtin.Tuple.tupleItemsOf (.ref t)>>=_) _ _ s
 refine wpAny_bind (tupleItemsOf_ ht ?_)
 refine wpAny_bind (wpAny_typeOf hTs ?_)
 rw[if_pos (by decide)]
 refine wpAny_bind (sliceApplied_gen hs pl pu ?_)
 have hno:¬((((sIx items.size 0 lo:Nat):Int)==0&&(1:Int)==1&&(sIx items.size items.size hi-sIx items.size 0 lo)==items.size)=true):=by
  intro q
  rw[aD,aD]at q
  have q1:((sIx items.size 0 lo:Nat):Int)=0:=eq_of_beq q.1.1
  have q2:sIx items.size items.size hi-sIx items.size 0 lo=items.size:=eq_of_beq q.2
  exact hw ⟨by lia,by lia⟩
 show wpAny _ _ (if(((sIx items.size 0 lo:Nat):Int)==0&&(1:Int)==1&&(sIx items.size items.size hi-sIx items.size 0 lo)==items.size)=true then _ else _) _ _ s
 rw[if_neg hno,F_]
 first
  |exact wpAny_bind (m:=Builtin.Tuple.tupleExact _) (wpAny_newObj_type (wpAny_pure ⟨_,rfl,wpAny_pure h⟩) htake)
  |exact wpAny_bind (m:=Builtin.Tuple.tupleExact _) (wpAny_newObj_type (wpAny_bind (wpAny_pure (wpAny_pure ⟨_,rfl,wpAny_pure h⟩))) htake)
  |exact wpAny_bind (wpAny_bind (m:=Builtin.Tuple.tupleExact _) (wpAny_newObj_type (wpAny_pure (wpAny_pure ⟨_,rfl,wpAny_pure h⟩)) htake))
  |exact wpAny_bind (wpAny_bind (m:=Builtin.Tuple.tupleExact _) (wpAny_newObj_type (wpAny_pure ⟨_,rfl,wpAny_pure h⟩) htake))
end
end HT
namespace L2
open PySem PySem.Spec PyProof.Rows
noncomputable abbrev TO:=St->Hp->(Option Int->Hp->Prop)->Prop
noncomputable def PO(X:Cx)(e:Option Expr)(t:TO):Prop:=
 ∀(pins:List (Addr×Obj))(s:Shared)(σ:St)(H:Hp)(Q:Option Int->Hp->Prop),Inv X pins σ H s->t σ H Q ->
  wpAny (model X.prog X.w) X.A (evalPart e X.env) (λu s'=>∃o H',Inv X pins σ H' s'/\IsPart u o/\Q o H') X.xe s
noncomputable def Fb:TO:=λ_ H Q=>Q none H
theorem intsAre_of{ns:List Int}:∀{us:List Value},Vals (ns.map V.int) us->IntsAre us ns:=by
 induction ns with
 |nil=>intro us r;rw[pK]at r;cases r;exact .nil
 |cons n ns ih=>
  intro us r
  rw[aK]at r
  cases r with
  |cons r1 r2=>
   obtain⟨t,e⟩:=r1
   subst e
   exact .cons n t (ih r2)
section
variable{X:Cx}{e:Expr}{te:TE}{lo hi:Option Expr}{tl th:TO}{pos p2:Pos}
theorem Fd:PO X none Fb:=by
 intro pins s σ H Q I h
 rw[evalPart_none]
 exact wpAny_pure ⟨none,H,I,.none,h⟩
noncomputable def SlR(X:Cx)(r:V->Option Int->Option Int->Hp->VK->Prop):Prop:=
 ∀(pins:List (Addr×Obj))(s:Shared)(σ:St)(H:Hp)(x:V)(v vl vu:Value)(lo hi:Option Int)(sl:Addr)(Q:VK),Inv X pins σ H s->RelV x v->s.heap.IsSliceOf sl vl vu .none->IsPart vl lo->IsPart vu hi->r x lo hi H Q ->
  ∃T id,typeLookup (.type T) "__getitem__" = pure (some (.builtin id))/\s.TypeIs v T/\wpAny (model X.prog X.w) X.A (getItem v (.ref sl)) (EP X pins σ Q) X.xe s
noncomputable def tSl(r:V->Option Int->Option Int->Hp->VK->Prop)(te:TE)(tl th:TO):TE:=λσ H Q=>te σ H λx H1=>tl σ H1 λl H2=>th σ H2 λu H3=>r x l u H3 Q
theorem Fe{r:V->Option Int->Option Int->Hp->VK->Prop}(hr:SlR X r)(he:PE X e te)(hl:PO X lo tl)(hu:PO X hi th):PE X (.Subscript e (.Slice lo hi none p2) pos) (tSl r te tl th):=by
 intro pins s σ H Q I h
 refine Subscript_ (thn (he pins s σ H _ I h) λv s1 ⟨x,H1,I1,r1,q1⟩=>?_)
 refine wpAny_Slice (thn (hl pins s1 σ H1 _ I1 q1) λvl s2 ⟨l,H2,I2,pl,q2⟩=>thn (hu pins s2 σ H2 _ I2 q2) λvu s3 ⟨u,H3,I3,pu,q3⟩=>?_)
 rw[evalPart_none]
 refine wpAny_pure ?_
 have I4:Inv X pins σ H3 {s3 with heap:=s3.heap.push {cls:=.type "slice", data:=.fields #[vl,vu,.none] } }:=I3.kept (t':=s3.toks) λb ob q=>Heap.get?_push_of_some _ q
 obtain⟨T,id,hT,ht,hg⟩:=hr pins {s3 with heap:=s3.heap.push {cls:=.type "slice", data:=.fields #[vl,vu,.none] } } σ H3 x v vl vu l u s3.heap.objs.size Q I4 r1 (Heap.IsSliceOf.new ..) pl pu q3
 show wpAny (model X.prog X.w) X.A (subscriptTail e (.Slice lo hi none p2) v (.ref s3.heap.objs.size)) (EP X pins σ Q) X.xe {s3 with heap:=s3.heap.push {cls:=.type "slice", data:=.fields #[vl,vu,.none] } }
 exact tail_any (ops:=[.ref s3.heap.objs.size,v]) ht hT hg (by with_unfolding_all rfl)
noncomputable def jF(xs:List V)(lo hi:Option Int):List V:=(xs.drop (HT.sIx xs.length 0 lo)).take (HT.sIx xs.length xs.length hi-HT.sIx xs.length 0 lo)
theorem Ah(xs:List V)(lo hi:Option Int):(jF xs lo hi).length<=xs.length:=by
 unfold jF
 rw[fS,pJ]
 lia
noncomputable def rSlT(K:PySem.W.Frag):V->Option Int->Option Int->Hp->VK->Prop:=λx lo hi H Q=>∃a xs,x=.ref a/\SqT K H a xs /\
 ¬(HT.sIx xs.length 0 lo=0/\HT.sIx xs.length xs.length hi=xs.length)/\∀p,H p=none->Q (.ref p) (upd H p (.tup (jF xs lo hi)))
theorem sl_tup:SlR X (rSlT X.K):=by
 intro pins s σ H x v vl vu lo hi sl Q I rx hs pl pu h
 obtain⟨a,xs,rfl,hx,hw,q⟩:=h
 cases rx
 obtain⟨its,r,ht,hz⟩:=I.tuple hx
 have hlen:its.toArray.size=xs.length:=by rw[bK];exact r.length.symm
 refine⟨"tuple", _,PyProof.Rows.slot_tuple_getitem.lookup,ht.typeIs,?_⟩
 refine HT.getItem_tuple_cut ht hs pl pu (by rw[hlen];exact hw) ?_ (by rw[hlen];exact hz)
 rw[hlen]
 refine⟨.ref s.heap.objs.size,_,I.laid (t':=s.toks) (o:=.tup (jF xs lo hi)) (λb ob q=>Heap.get?_push_of_some _ q) (aQ _) ?_,rfl,q _ (I.hok.fresh (aQ _))⟩
 exact⟨cD (Ah xs lo hi) hz,_,(r.drop (HT.sIx xs.length 0 lo)).take (HT.sIx xs.length xs.length hi-HT.sIx xs.length 0 lo),IsTup.new _ _⟩
noncomputable def rCatT(K:PySem.W.Frag):R2:=λx y H Q=>∃a b xs ys,x=.ref a/\y=.ref b/\SqT K H a xs/\SqT K H b ys/\xs≠[]/\xs.length+ys.length<=sizeLine /\
 (ys=[]->Q (.ref a) H)/\(ys≠[]->∀p,H p=none->Q (.ref p) (upd H p (.tup (xs++ys))))
theorem Vals.nil_iff{xs:List V}{us:List Value}(r:Vals xs us):us=[]↔xs=[]:=by
 cases r with
 |nil=>simp
 |cons _ _=>simp
theorem Ff:OpR X (binaryOp .Add) (rCatT X.K):=by
 intro pins s σ H x y v u Q I rx ry h
 obtain⟨a,b,xs,ys,rfl,rfl,ha,hb,hx,hz,q1,q2⟩:=h
 cases rx
 cases ry
 obtain⟨its,r1,p1,_⟩:=I.tuple ha
 obtain⟨its2,r2,p2,_⟩:=I.tuple hb
 refine HT.cat_tup p1 p2 (λz=>hx (r1.nil_iff.mp z)) (λz=>⟨.ref a,H,I,rfl,q1 (r2.nil_iff.mp z)⟩) (λz=>?_) (by rw[<-r1.length,<-r2.length];exact hz)
 refine⟨.ref s.heap.objs.size,_,I.laid (t':=s.toks) (o:=.tup (xs++ys)) (λb ob q=>Heap.get?_push_of_some _ q) (aQ _) ?_,rfl,q2 (λw=>z (r2.nil_iff.mpr w)) _ (I.hok.fresh (aQ _))⟩
 exact⟨by rw[cE];exact hz,_,r1.append r2,IsTup.new _ _⟩
end
noncomputable def ixN(n:Nat)(i:Int):Option Nat:=if 0<=i then(if i<n then some i.toNat else none)else if -(n:Int)<=i then some (i+n).toNat else none
noncomputable def atI{α:Type}(xs:List α)(i:Int):Option α:=(ixN xs.length i).bind λj=>xs[j]?
theorem Ai{n:Nat}{i:Int}{j:Nat}(h:ixN n i=some j):seqIndex? i n=some j/\j<n /\ -(n:Int)<=i/\i<n:=by
 unfold ixN at h
 by_cases h0:0<=i
 ·rw[if_pos h0]at h
  by_cases h1:i<n
  ·rw[if_pos h1]at h
   have e:i.toNat=j:=eM.inj h
   exact⟨by rw[seqIndex_of h0 h1,e],by lia,by lia,h1⟩
  ·rw[if_neg h1]at h;cases h
 ·rw[if_neg h0]at h
  by_cases h1:-(n:Int)<=i
  ·rw[if_pos h1]at h
   have e:(i+n).toNat=j:=eM.inj h
   exact⟨by rw[seqIndex_neg (by lia) h1,e],by lia,h1,by lia⟩
  ·rw[if_neg h1]at h;cases h
theorem uZ{α:Type}{xs:List α}{i:Int}{v:α}(h:atI xs i=some v):∃j,seqIndex? i xs.length=some j/\xs[j]?=some v/\j<xs.length /\ -(xs.length:Int)<=i/\i<xs.length:=by
 unfold atI at h
 cases e:ixN xs.length i with
 |none=>rw[e]at h;cases h
 |some j=>
  rw[e]at h
  obtain⟨h1,h2,h3,h4⟩:=Ai e
  exact⟨j,h1,h,h2,h3,h4⟩
noncomputable def Aj(b:Expr):Prop:=∀o i,subscripted b false o i=operate [o,i] (getItem o i)
noncomputable def IxR(X:Cx)(r:R2):Prop:=
 ∀(value slice:Expr)(pins:List (Addr×Obj))(s:Shared)(σ:St)(H:Hp)(x y:V)(v u:Value)(Q:VK),Inv X pins σ H s->RelV x v->RelV y u->r x y H Q ->
  subscripted slice false v u=operate [v,u] (getItem v u)->wpAny (model X.prog X.w) X.A (subscriptTail value slice v u) (EP X pins σ Q) X.xe s
noncomputable def MtR(X:Cx)(id:String)(r:V->List V->Hp->VK->Prop):Prop:=
 ∀(pins:List (Addr×Obj))(s:Shared)(σ:St)(H:Hp)(x:V)(xs:List V)(v:Value)(us:List Value)(Q:VK),Inv X pins σ H s->RelV x v->Vals xs us->r x xs H Q ->
  wpAny (model X.prog X.w) X.A (call (.builtin id) (v::us)) (EP X pins σ Q) X.xe s
section
variable{X:Cx}{a b:Expr}{ta tb:TE}{pos:Pos}
theorem pe_ix{r:R2}(hr:IxR X r)(ha:PE X a ta)(hb:PE X b tb)(hs:Aj b):PE X (.Subscript a b pos) (tOp r ta tb):=by
 intro pins s σ H Q I h
 exact Subscript_ (binT ha hb I h λv u s2 x y H2 I2 rx ry q=>hr a b pins s2 σ H2 x y v u Q I2 rx ry q (hs _ _))
noncomputable def rIxL(K:PySem.W.Frag):R2:=λx y H Q=>∃p xs i v,x=.ref p/\y=.int i/\SqL K H p xs/\atI xs i=some v/\Q v H
noncomputable def rIxT(K:PySem.W.Frag):R2:=λx y H Q=>∃p xs i v,x=.ref p/\y=.int i/\SqT K H p xs/\atI xs i=some v/\Q v H
noncomputable def rIxS:R2:=λx y H Q=>∃z i c,x=.str z/\y=.int i/\z.length<=sizeLine/\atI z.cps.toList i=some c/\Q (.str ⟨#[c]⟩) H
theorem Fg:IxR X (rIxL X.K):=by
 intro value slice pins s σ H x y v u Q I rx ry h hs
 obtain⟨p,xs,i,z,rfl,rfl,hq,he,q⟩:=h
 cases rx
 obtain⟨t,rfl⟩:=ry
 obtain⟨its,r,pl,hz⟩:=I.list hq
 obtain⟨j,h1,h2,h3,h4,h5⟩:=uZ he
 obtain⟨w,ew,rw'⟩:=r.get h2
 have hl:=r.length
 have hn:=kD
 have fin:EP X pins σ Q w s:=⟨z,H,I,rw',q⟩
 by_cases h0:0<=i
 ·have hj:i.toNat=j:=by
   rw[seqIndex_of h0 h5]at h1
   exact eM.inj h1
  exact item_listR pl.isList h0 (by lia) (by rw[hj];simpa using ew) fin hs
 ·have hj:(i+(its.toArray.size:Int)).toNat=j:=by
   rw[seqIndex_neg (by lia) h4]at h1
   rw[bK,<-hl]
   exact eM.inj h1
  exact subscriptTail_builtinR (x:=w) pl.isList.typeIs slot_list_getitem.lookup
   (wpAny_getItem_list_neg (Q:=λr s'=>r=w/\EP X pins σ Q r s') pl.isList (by lia) (by rw[bK]<;>lia) (by lia) (by rw[hj];simpa using ew) ⟨rfl,fin⟩) hs
theorem ix_tup:IxR X (rIxT X.K):=by
 intro value slice pins s σ H x y v u Q I rx ry h hs
 obtain⟨p,xs,i,z,rfl,rfl,hq,he,q⟩:=h
 cases rx
 obtain⟨t,rfl⟩:=ry
 obtain⟨its,r,pl,hz⟩:=I.tuple hq
 obtain⟨j,h1,h2,h3,h4,h5⟩:=uZ he
 obtain⟨w,ew,rw'⟩:=r.get h2
 have hl:=r.length
 have hn:=kD
 have fin:EP X pins σ Q w s:=⟨z,H,I,rw',q⟩
 exact subscriptTail_builtinR (x:=w) pl.typeIs slot_tuple_getitem.lookup
  (getItem_tuple (j:=j) (Q:=λr s'=>r=w/\EP X pins σ Q r s') pl (by lia) (by lia) (by rw[bK,<-hl];exact h1) (by simpa using ew) ⟨rfl,fin⟩) hs
theorem ix_str:IxR X rIxS:=by
 intro value slice pins s σ H x y v u Q I rx ry h hs
 obtain⟨z,i,c,rfl,rfl,hz,he,q⟩:=h
 obtain⟨t,rfl⟩:=rx
 obtain⟨t',rfl⟩:=ry
 obtain⟨j,h1,h2,h3,h4,h5⟩:=uZ he
 have hl:z.cps.toList.length=z.length:=by simp[Str.length]
 rw[hl]at h1 h4 h5
 have hn:=kD
 exact tail_any (typeIs_str s z t) slot_str_getitem.lookup (getItem_str (c:=c) (by
  have e1:decide (i < -(2^63:Int))=false:=decide_eq_false (by lia)
  have e2:decide (i≥2^63)=false:=decide_eq_false (by lia)
  rw[e1,e2,Bool.or_false]) (by rw[h1];simpa using h2) ⟨.str ⟨#[c]⟩,H,I.tok _,⟨_,rfl⟩,q⟩) hs
theorem Fh (its:List Value) (n j:Nat) (u:Value):Obj.mapSeq (·.setIfInBounds j u) {cls:=.type "list", data:=.seq its.toArray n}={cls:=.type "list", data:=.seq (its.set j u).toArray n}:=by
 simp[Obj.mapSeq]
theorem Inv.lst{pins:List (Addr×Obj)}{σ:St}{H:Hp}{s:Shared}{p:Addr}{xs:List V}(I:Inv X pins σ H s)(h:H p=some (.lst xs)) :
 ∃(its:List Value) (n:Nat),Vals xs its/\s.heap.get? p=some {cls:=.type "list", data:=.seq its.toArray n}/\xs.length<=sizeLine:=by
 obtain⟨z,its,n,r,e⟩:=I.hok p _ h
 exact⟨its,n,r,e,z⟩
theorem Inv.lstUpd{pins:List (Addr×Obj)}{σ:St}{H:Hp}{s:Shared}{p:Addr}{xs ys:List V}{its its':List Value}{n n':Nat}{f:Obj->Obj}(I:Inv X pins σ H s)(h:H p=some (.lst xs))
 (ho:s.heap.get? p=some {cls:=.type "list", data:=.seq its.toArray n}) (hf:f {cls:=.type "list", data:=.seq its.toArray n}={cls:=.type "list", data:=.seq its'.toArray n' }) (r:Vals ys its') (hz:ys.length<=sizeLine) (t:Nat) :
 Inv X pins σ (upd H p (.lst ys)) {s with heap:=s.heap.update p f,toks:=t}:=by
 have e:(s.heap.update p f).get? p=some {cls:=.type "list", data:=.seq its'.toArray n' }:=by
  rw[Heap.get?_update_self f ho (by rw[hf]<;>rfl),hf]
 refine I.write (x:=p) (e:=p) (by rw[h];trivial) (.inl rfl) (λb u hb q=>(Heap.get?_update_other _ _ (Ne.symm hb)).trans q) ⟨_,e⟩ ?_
 exact⟨hz,its',n',r,e⟩
noncomputable def rSetL:V->V->V->Hp->(Hp->Prop)->Prop:=λo i v H Q=>∃p xs k j,o=.ref p/\i=.int k/\H p=some (.lst xs)/\ixN xs.length k=some j/\Q (upd H p (.lst (xs.set j v)))
theorem Fj:PSet X rSetL:=by
 intro pins s σ H o i v ov iv u Q I ro ri rv h
 obtain⟨p,xs,k,j,rfl,rfl,hp,hj,q⟩:=h
 cases ro
 obtain⟨t,rfl⟩:=ri
 obtain⟨its,n,r,ho,hz⟩:=I.lst hp
 obtain⟨h1,h2,h3,h4⟩:=Ai hj
 have hl:=r.length
 have hn:=kD
 have I':Inv X pins σ (upd H p (.lst (xs.set j v))) {s with heap:=s.heap.update p (Obj.mapSeq (·.setIfInBounds j u)) }:=
  I.lstUpd hp ho (Fh its n j u) (r.set rv j) (by rw[cI];exact hz) s.toks
 by_cases h0:0<=k
 ·have hk:k.toNat=j:=by
   rw[seqIndex_of h0 h4]at h1
   exact eM.inj h1
  exact PySem.W.ki_setAt ho h0 (by lia) (by rw[bK,<-hl];exact h4) (by rw[hk];exact⟨_,I',q⟩)
 ·have hk:(k+(its.toArray.size:Int)).toNat=j:=by
   rw[seqIndex_neg (by lia) h3]at h1
   rw[bK,<-hl]
   exact eM.inj h1
  exact PySem.W.ki_setBack ho (by lia) (by rw[bK,<-hl];exact h3) (by lia) (by rw[hk];exact⟨_,I',q⟩)
theorem Fl(lo hi:Option Int)(n:Nat):(sliceBounds lo hi none n).1=((HT.sIx n 0 lo:Nat):Int)/\(sliceBounds lo hi none n).2.1=((HT.sIx n n hi:Nat):Int)/\(sliceBounds lo hi none n).2.2=1:=by
 refine⟨?_,?_,rfl⟩
 ·cases lo with
  |none=>simp[sliceBounds,HT.sIx]
  |some i=>
   simp only[sliceBounds,HT.sIx,LS,show(1:Int)>0 by decide,if_true]
   by_cases h:i<0
   ·simp only[h,if_true]<;>lia
   ·simp only[h,if_false]<;>lia
 ·cases hi with
  |none=>simp[sliceBounds,HT.sIx]
  |some i=>
   simp only[sliceBounds,HT.sIx,LS,show(1:Int)>0 by decide,if_true]
   by_cases h:i<0
   ·simp only[h,if_true]<;>lia
   ·simp only[h,if_false]<;>lia
theorem Fp(its:List Value)(lo hi:Option Int):slicePick its.toArray lo hi none=((its.drop (HT.sIx its.length 0 lo)).take (HT.sIx its.length its.length hi-HT.sIx its.length 0 lo)).toArray:=by
 obtain⟨h1,h2,h3⟩:=Fl lo hi its.toArray.size
 unfold slicePick
 rw[h1,h2,h3]
 simp only[sliceRange_one,pick_run,bK]<;>rfl
noncomputable def rSlL(K:PySem.W.Frag):V->Option Int->Option Int->Hp->VK->Prop:=λx lo hi H Q=>∃a xs,x=.ref a/\SqL K H a xs/\∀p,H p=none->Q (.ref p) (upd H p (.lst (jF xs lo hi)))
theorem Fq:SlR X (rSlL X.K):=by
 intro pins s σ H x v vl vu lo hi sl Q I rx hs pl pu h
 obtain⟨a,xs,rfl,hx,q⟩:=h
 cases rx
 obtain⟨its,r,ht,hz⟩:=I.list hx
 have hlen:=r.length
 refine⟨"list", _,slot_list_getitem.lookup,ht.isList.typeIs,?_⟩
 refine wpAny_getItem_list_slice ht.isList hs pl pu .none (by simp) ?_ (by rw[bK]<;>lia)
 rw[Fp,<-hlen]
 refine⟨.ref s.heap.objs.size,_,I.laid (t':=s.toks) (o:=.lst (jF xs lo hi)) (λb ob q=>Heap.get?_push_of_some _ q) (aQ _) ?_,rfl,q _ (I.hok.fresh (aQ _))⟩
 exact⟨cD (Ah xs lo hi) hz,_,0,(r.drop (HT.sIx xs.length 0 lo)).take (HT.sIx xs.length xs.length hi-HT.sIx xs.length 0 lo),Heap.get?_push_size _ rfl⟩
theorem Ak:cX X (.builtin "len") (λxs H Q=>∃p ys,xs=[.ref p]/\(SqL X.K H p ys\/SqT X.K H p ys)/\Q (.int ys.length) H):=by
 intro pins s σ H xs us Q I r h
 obtain⟨p,ys,rfl,hq,q⟩:=h
 obtain⟨u,rfl,rx⟩:=fW r
 cases rx
 have hn:=kD
 rcases hq with hq|hq
 ·obtain⟨its,r',pl,hz⟩:=I.list hq
  have hlen:=r'.length
  exact Calls.call_len_list pl.isList (by simp only[bK]<;>lia) ⟨.int ys.length,H,I.tok _,⟨s.toks+1,by rw[bK,hlen]⟩,q⟩
 ·obtain⟨its,r',pl,hz⟩:=I.tuple hq
  have hlen:=r'.length
  exact len_tuple pl (by simp only[bK]<;>lia) ⟨.int ys.length,H,I.tok _,⟨s.toks+1,by rw[bK,hlen]⟩,q⟩
theorem Fu:cX X (.builtin "len") (λxs H Q=>∃z,xs=[.str z]/\z.length<=sizeLine/\Q (.int z.length) H):=by
 intro pins s σ H xs us Q I r h
 obtain⟨z,rfl,hz,q⟩:=h
 obtain⟨u,rfl,t,rfl⟩:=fW r
 have hn:=kD
 exact len_str (by lia) ⟨.int z.length,H,I.tok _,⟨_,rfl⟩,q⟩
theorem Al:cX X (.type "list") (λxs H Q=>∃p ys,xs=[.ref p]/\(SqL X.K H p ys\/SqT X.K H p ys)/\∀l,H l=none->Q (.ref l) (upd H l (.lst ys))):=by
 intro pins s σ H xs us Q I r h
 obtain⟨p,ys,rfl,hq,q⟩:=h
 obtain⟨u,rfl,rx⟩:=fW r
 cases rx
 have fin:∀(its:List Value),Vals ys its->ys.length<=sizeLine->∀(h':Heap)(c':Nat),(∀b o',s.heap.get? b=some o'->h'.get? b=some o') ->
  h'.get? s.heap.objs.size=some {cls:=.type "list", dict:=none,data:=.seq its.toArray c',slots:=#[] }->EP X pins σ Q (.ref s.heap.objs.size) {s with heap:=h' }:=λits r' hz h' c' kp e=>
  ⟨.ref s.heap.objs.size,_,I.laid (t':=s.toks) kp (aQ _) (show ObjOk X.prog X.w _ h' _ (.lst ys)from⟨hz,its,c',r',e⟩),rfl,q _ (I.hok.fresh (aQ _))⟩
 rcases hq with hq|hq
 ·obtain⟨its,r',pl,hz⟩:=I.list hq
  have hlen:=r'.length
  obtain⟨o,ho,hc,n,hd⟩:=pl.isList
  exact call_list_seq p (.inl rfl) ho hc hd (λh' c' kp e=>fin its r' hz h' c' kp e) (by simp only[bK]<;>lia)
 ·obtain⟨its,r',pl,hz⟩:=I.tuple hq
  have hlen:=r'.length
  obtain⟨o,ho,hc,n,hd⟩:=pl
  exact call_list_seq p (.inr rfl) ho hc hd (λh' c' kp e=>fin its r' hz h' c' kp e) (by simp only[bK]<;>lia)
theorem Am:cX X (.type "tuple") (λxs H Q=>∃p ys,xs=[.ref p]/\((SqL X.K H p ys/\∀l,H l=none->Q (.ref l) (upd H l (.tup ys)))\/(SqT X.K H p ys/\Q (.ref p) H))):=by
 intro pins s σ H xs us Q I r h
 obtain⟨p,ys,rfl,h⟩:=h
 obtain⟨u,rfl,rx⟩:=fW r
 cases rx
 rcases h with⟨hq,q⟩|⟨hq,q⟩
 ·obtain⟨its,r',pl,hz⟩:=I.list hq
  have hlen:=r'.length
  refine call_tuple_list pl.isList (λh' kp=>?_) (by simp only[bK]<;>lia)
  have I1:Inv X pins σ H {s with heap:=h' }:=I.kept (t':=s.toks) kp
  have I2:Inv X pins σ (upd H h'.objs.size (.tup ys)) {s with heap:=h'.push {cls:=.type "tuple", data:=.seq its.toArray} }:=
   I1.laid (t':=s.toks) (λb o e=>Heap.get?_push_of_some _ e) (aQ _) (show ObjOk X.prog X.w _ _ _ (.tup ys)from⟨hz,its,r',IsTup.new _ _⟩)
  exact⟨.ref h'.objs.size,_,I2,rfl,q _ (I1.hok.fresh (aQ _))⟩
 ·obtain⟨its,r',pl,hz⟩:=I.tuple hq
  exact call_tuple_same pl ⟨.ref p,H,I,rfl,q⟩
noncomputable def tyV(K:PySem.W.Frag)(T:String)(x:V)(H:Hp):Prop:=match x with
 |.str _=>T = "str"
 |.int _=>T = "int"
 |.ref p=>(T = "list" /\ ∃xs,SqL K H p xs)\/(T = "tuple" /\ ∃o,K.lookup p=some o/\o.cls=.type "tuple" /\ o.dict=none) \/
  (T = "dict" /\ ((∃kvs,H p=some (.dK kvs))\/∃kvs,H p=some (.dT kvs)))\/(T = "set" /\ ∃S n,H p=some (.set S n))
 |_=>False
theorem tyV_is{pins:List (Addr×Obj)}{σ:St}{H:Hp}{s:Shared}{T:String}{x:V}{v:Value}(I:Inv X pins σ H s)(r:RelV x v)(ty:tyV X.K T x H) :
 s.TypeIs v T/\∀a,v=.ref a->∃ob,s.heap.get? a=some ob/\ob.dict=none:=by
 cases x with
 |str z=>
  obtain⟨t,rfl⟩:=r
  cases (show T = "str" from ty)
  exact⟨typeIs_str s z t,λ_ e=>nomatch e⟩
 |int i=>
  obtain⟨t,rfl⟩:=r
  cases (show T = "int" from ty)
  exact⟨typeIs_int s i t,λ_ e=>nomatch e⟩
 |ref p=>
  cases r
  rcases ty with⟨rfl,xs,hq⟩|⟨rfl,o,hk,hc,hd⟩|⟨rfl,hk⟩|⟨rfl,S,n,hk⟩
  ·obtain⟨its,_,pl,_⟩:=I.list hq
   refine⟨pl.isList.typeIs,λa e=>?_⟩
   cases e
   obtain⟨o,n,e,c,hd,_⟩:=pl
   exact⟨o,e,hd⟩
  ·refine⟨⟨o,I.kIn p o hk,hc⟩,λa e=>?_⟩
   cases e
   exact⟨o,I.kIn _ o hk,hd⟩
  ·have z:∃o,s.heap.get? p=some o/\o.ExactDict:=by
    rcases hk with⟨kvs,hk⟩|⟨kvs,hk⟩
    ·obtain⟨_,_,_,_,o,_,_,e,ex,_⟩:=I.hok p _ hk
     exact⟨o,e,ex⟩
    ·obtain⟨_,_,_,_,o,_,_,e,ex,_⟩:=I.hok p _ hk
     exact⟨o,e,ex⟩
   obtain⟨o,e,ex⟩:=z
   refine⟨⟨o,e,ex.1⟩,λa e2=>?_⟩
   cases e2
   exact⟨o,e,ex.2.1⟩
  ·obtain⟨o,_,_,_,e,ex,_⟩:=I.hok p _ hk
   refine⟨⟨o,e,ex.1⟩,λa e2=>?_⟩
   cases e2
   exact⟨o,e,ex.2.1⟩
 |_=>exact False.elim ty
noncomputable def tBM(K:PySem.W.Frag)(T:String)(r:V->List V->Hp->VK->Prop)(to:TE)(t:TA):TE:=λσ H Q=>to σ H λx H1=>tyV K T x H1/\t σ H1 λxs H2=>r x xs H2 Q
variable{o e:Expr}{es:List Expr}{to:TE}{t:TA}{name:Str}{apos cpos:Pos}{T id:String}{r:V->List V->Hp->VK->Prop}
theorem vB (pa:PlainAttrs T) (slot:Slot T name id) (hty:typeOf (.builtin id)=pure (.type "method_descriptor")) (hm:MtR X id r) (ho:PE X o to) (ha:PA X (e::es) t)
 (hbase:attributeBase o name X.env (eval o X.env)=eval o X.env:=by rfl)
 (hfew:((backTo cpos (starEach (e::es) X.env)).all (λx=>!x.1)&&(backToKw cpos (keywordEach [] X.env)).all (λx=>x.1.isSome)
  && decide ((e::es).length+([]:List Keyword).length+(if([]:List Keyword).isEmpty then 0 else 1)<30))=true:=by rfl)
 (hline:(apos.endLine==cpos.line)=true:=by rfl) (hs:starEach (e::es) X.env=(false,eval e X.env)::starEach es X.env:=by rfl) (hplain:(backTo cpos (starEach es X.env)).any (·.1)=false:=by rfl) :
 PE X (.Call (.Attribute o name apos) (e::es) [] cpos) (tBM X.K T r to t):=by
 intro pins s σ H Q I h
 refine wpAny_Call_method_late hbase hfew hline rfl (thn (ho pins s σ H _ I h) λv s1 ⟨x,H1,I1,r1,ty,q1⟩=>?_)
 obtain⟨h1,h2⟩:=tyV_is I1 r1 ty
 refine⟨T,id,pa,slot,hty,h1,h2,?_⟩
 have hA:=ha cpos pins s1 σ H1 _ I1 q1
 rw[hs]at hA⊢
 refine Calls.callWith_builtin (by show(false||(backTo cpos (starEach es X.env)).any (·.1))=false;rw[hplain]<;>rfl) (Calls.evalArgs_plain ?_)
 exact thn hA λus s2 ⟨vs,H2,I2,r2,q2⟩=>hm pins s2 σ H2 x vs v us Q I2 r1 r2 q2
end
noncomputable def MtM(X:Cx)(id:String)(r:V->List V->Hp->VK->Prop):Prop:=
 ∀(pins:List (Addr×Obj))(s:Shared)(σ:St)(H:Hp)(x:V)(xs:List V)(v:Value)(us:List Value)(Q:VK),Inv X pins σ H s->RelV x v->Vals xs us->r x xs H Q ->
  wpAny (model X.prog X.w) X.A (call (.builtin id) (v::us)) (EP X pins σ Q) X.xe s
theorem Vals.one:∀{x:V} {us:List Value},Vals [x] us->∃u,us=[u]/\RelV x u
 |_,_,.cons r .nil=>⟨_,rfl,r⟩
theorem Vals.rep{xs:List V}{us:List Value}(h:Vals xs us):∀k:Nat,Vals (aO k xs).flatten (aO k us).flatten
 |0=>.nil
 |k+1=>by
  rw[mQ,mQ,pL,pL]
  exact Vals.append h (Vals.rep h k)
theorem An(its:List Value):∀(k:Nat)(acc:List Value),
 List.foldl (λx1 x2=>x1++x2) acc.toArray (aO k its.toArray)=(acc++(aO k its).flatten).toArray
 |0,acc=>by simp
 |k+1,acc=>by
  have e:acc.toArray++its.toArray=(acc++its).toArray:=by simp
  have e2:(acc++its)++(aO k its).flatten=acc++(aO (k+1) its).flatten:=by
   rw[mQ,pL,pM]
  rw[<-e2,<-An its k (acc++its),<-e,mQ,LU]
section
variable{X:Cx}{pins:List (Addr×Obj)}{σ:St}{H:Hp}{s:Shared}{l b:Addr}{xs ys zs:List V}
theorem Inv.lset{its its':List Value}{n:Nat}{f:Array Value->Array Value}{t':Nat}(I:Inv X pins σ H s)(hH:H l=some (.lst xs))
 (e:s.heap.get? l=some {cls:=.type "list", data:=.seq its.toArray n}) (hf:f its.toArray=its'.toArray) (hv:Vals ys its') (hz:ys.length<=sizeLine) :
 Inv X pins σ (upd H l (.lst ys)) {s with heap:=s.heap.update l (Obj.mapSeq f),toks:=t' }:=by
 have q:=PySem.IsL.update e f
 rw[hf]at q
 refine I.write (x:=l) (e:=l) (by rw[hH];exact trivial) (.inl rfl) (λb' u hb hu=>(Heap.get?_update_other s.heap (Obj.mapSeq f) (Ne.symm hb)).trans hu) ⟨_,q⟩ ?_
 exact⟨hz,its',_,hv,q⟩
theorem Inv.lnew{its:List Value}{t':Nat}(I:Inv X pins σ H s)(hv:Vals ys its)(hz:ys.length<=sizeLine) :
 Inv X pins σ (upd H s.heap.objs.size (.lst ys)) {s with heap:=s.heap.push {cls:=.type "list", data:=.seq its.toArray},toks:=t' }:=
 I.laid (λ_ _ q=>Heap.get?_push_of_some _ q) (aQ _) ⟨hz,its,0,hv,Heap.get?_push_size _ rfl⟩
theorem Inv.fresh(I:Inv X pins σ H s):H s.heap.objs.size=none:=I.hok.fresh (aQ _)
theorem Inv.lstM (I:Inv X pins σ H s) (hH:H l=some (.lst xs)):xs.length<=sizeLine/\∃(its:List Value) (n:Nat),Vals xs its/\xs.length=its.length/\s.heap.get? l=some {cls:=.type "list", data:=.seq its.toArray n}:=by
 obtain⟨z,its,n,r,e⟩:=I.hok l _ hH
 exact⟨z,its,n,r,r.length,e⟩
theorem Fv{n:Nat}(h:n<=sizeLine):Builtin.List.listTooLong n=false:=by
 unfold Builtin.List.listTooLong
 exact decide_eq_false (by lia)
end
section
variable{X:Cx}
noncomputable def Fw:V->List V->Hp->VK->Prop:=λx vs H Q=>∃l xs y,x=.ref l/\vs=[y]/\H l=some (.lst xs)/\xs.length<sizeLine/\Q .non (upd H l (.lst (xs++[y])))
theorem Ao:MtM X "list.append" Fw:=by
 intro pins s σ H x vs v us Q I rx rv h
 obtain⟨l,xs,y,rfl,rfl,hH,hz,q⟩:=h
 cases rx
 obtain⟨u,rfl,ru⟩:=rv.one
 obtain⟨z,its,n,r,hl,e⟩:=I.lstM hH
 refine call_meets F.slot_list_append ⟨_,e,rfl⟩ F.entry_list_append (F.args_list_append_2 _ _) (PySem.list_append l its.toArray n u (by rw[bK];lia)) ⟨e,?_⟩
 refine⟨.non,_,I.lset (its':=its++[u]) hH e (by simp) (r.append (.cons ru .nil)) ?_,rfl,q⟩
 rw[cE,jB]
 lia
noncomputable def Fx:V->List V->Hp->VK->Prop:=λx vs H Q=>∃l b xs zs,x=.ref l/\vs=[.ref b]/\H l=some (.lst xs)/\H b=some (.lst zs)/\xs.length+zs.length<=sizeLine/\Q .non (upd H l (.lst (xs++zs)))
theorem Ap:MtM X "list.extend" Fx:=by
 intro pins s σ H x vs v us Q I rx rv h
 obtain⟨l,b,xs,zs,rfl,rfl,hH,hB,hz,q⟩:=h
 cases rx
 obtain⟨u,rfl,ru⟩:=rv.one
 cases ru
 obtain⟨z,its,n,r,hl,e⟩:=I.lstM hH
 obtain⟨z2,its2,n2,r2,hl2,e2⟩:=I.lstM hB
 have hsz:its.toArray.size+its2.toArray.size<=sizeLine:=by rw[bK,bK];lia
 have hlong:¬(!its.toArray.isEmpty&&Builtin.List.listTooLong (its.toArray.size+its2.toArray.size))=true:=by
  rw[Fv hsz,LV]
  exact aP
 refine call_meets F.slot_list_extend ⟨_,e,rfl⟩ F.entry_list_extend (F.args_list_extend_2 _ _)
  (AutoSeq1.list_extend_list_list_0 l its.toArray n b its2.toArray n2 hlong (by rw[bK];lia) (by lia)) ⟨e,e2,?_⟩
 refine⟨.non,_,I.lset (its':=its++its2) hH e (by simp) (r.append r2) ?_,rfl,q⟩
 rw[cE]
 lia
theorem Fy{α:Type}(xs:List α)(k:Nat):(aO k xs).flatten.length=k*xs.length:=by
 induction k with
 |zero=>simp
 |succ k ih=>rw[mQ,pL,cE,ih,Nat.succ_mul,Nat.add_comm]
end
end L2
namespace Att
open PySem PySem.W PySem.Calls PyProof.Rows
theorem Fz{P:Params}{h:Heap}:∀(ns:List Int)(vs:List Value),WellAll P h vs (ns.map WData.int)->IntsAre vs ns:=by
 intro ns
 induction ns with
 |nil=>
  intro vs w
  rw[pK]at w
  cases w
  exact .nil
 |cons n ns ih=>
  intro vs w
  rw[aK]at w
  cases w with
  |cons a b=>
   cases a
   exact .cons _ _ (ih _ b)
theorem GA{l:OpenLaw}{n:Nat}(hn:l.most=some n){P:Params}{h:Heap}{args:List WData}{vals:List Value}
 (hpre:l.row.toRowW.claim.pre args=true) (hwl:WellAll P h vals args) :
 ∃a vs ns,vals=[Value.ref a]/\args=[WData.list (ns.map WData.int)]/\h.get? a=some {cls:=.type "list", data:=.seq vs.toArray}/\IntsAre vs ns/\ns.length<=n:=by
 have hsh:WShape.hasAll [] args [.list .int]=true:=(pre_splitW hpre).1
 have hc:l.pre.holds [] {args:=args}=true:=(pre_splitW hpre).2
 obtain⟨d,r,rfl,h1,h2⟩:=hasAllW_cons hsh
 obtain rfl:=hasAllW_nil h2
 obtain⟨xs,rfl,h3⟩:=hasW_list h1
 obtain⟨ns,rfl⟩:=items_int h3
 have hlen:ns.length<=n:=by
  unfold OpenLaw.pre at hc
  have h4:(WTm.not (.lt (.lit (.int (n:Int))) (.len (.arg 0)))).holds [] {args:=[.list (ns.map .int)] }=true:=by
   have h4:=(holds_andW hc).1
   rw[hn]at h4
   exact h4
  have h5:=condW_of h4 (w_not (w_lt w_lit (w_len_list (w_arg rfl))))
  rw[aE]at h5
  refine Nat.le_of_not_lt λq=>?_
  have q':(n:Int)<((ns.length:Nat):Int):=by lia
  first
   |(rw[decide_eq_true q']at h5;exact absurd h5 (by decide))
   |(simp at h5;lia)
 cases hwl with
 |cons w1 w2=>
  cases w2
  cases w1 with
  |list ho hall=>exact⟨_,_,ns,rfl,rfl,ho,Fz ns _ hall,hlen⟩
theorem GB(l:OpenLaw)(args:List WData):l.row.toRowW.claim.post args (.bool true) args=true:=
 postW_of (r:=l.row.toRowW) (X:=(true==true))
  (show WShape.has [] (.bool true) .bool=true by first|rfl|decide|simp[WShape.has,WShape.arms,WShape.armsAll])
  (show(WTm.eq .res (.lit (.bool true))).value [] {args:=args,res:=some (.bool true),after:=args}=some (.bool (true==true))from w_eq_bool (w_res rfl) w_lit) rfl
theorem attach_call{l:OpenLaw}{n:Nat}{q:Program}{loose:List Str}{XP:(Str->Option Value)->Heap->Prop}{YP:World->Heap->Prop}{d:DefRec}
 (hn:l.most=some n) (hdf:d.params.defaults=[])
 (call:∀(w:World)(s₀ s₁:Shared)(mg mb:Str->Option Value)(fa:Addr)(o:Obj)(pm cd doc:Value)(a:Addr)(vs:List Value)(ns:List Int),
  Ground q loose [] XP w s₀ mg mb s₁.heap->YP w s₁.heap ->
  s₁.heap.get? fa=some o->o.data=.func (docDef d.name d.params d.body d.scope pm cd doc)->s₁.heap.CodeRec cd d.name->mg d.name=some (.ref fa) ->
  s₁.heap.get? a=some {cls:=.type "list", data:=.seq vs.toArray}->IntsAre vs ns->ns.length<=n->s₁.gens=#[] ->
  codeAny (model l.prog w) callerA (.call (.ref fa) ⟨[.ref a],[]⟩) (λr s'=>r=.ok (.ret (.bool true))/\OldK s₁.heap s'.heap/\s'.os=s₁.os/\AllBare s'.gens) s₁) :
 WalkO q loose XP YP l.row.toRowW d [] (λf vs=>PySem.call f vs):=by
 intro w s₀ s₁ mg mb G Y fa o pm cd doc dV kV ho hd hcd hD hmg hg args vals as hpre hlay hrd hwl hlo
 obtain rfl:dV=.none:=Dflts.none hD hdf
 obtain rfl:kV=.none:=Dflts.noKw hD
 obtain⟨a,vs,ns,rfl,rfl,hobj,hints,hlen⟩:=GA hn hpre hwl
 refine enter_call (codeAny_mono (call w s₀ s₁ mg mb fa o pm cd doc a vs ns G Y ho (fd_plain hd) hcd hmg hobj hints hlen hg) λr s' hq=>?_)
 obtain⟨rfl,h2,h3,h4⟩:=hq
 exact⟨.inl ⟨.bool true,.bool true,[],rfl,λ_=>rfl,.bool true,GB l _,λ_=>⟨List.Pairwise.nil,λ_ hm=>(nomatch hm)⟩⟩,h2,h3,h4⟩
end Att
namespace L2
open PySem PySem.Spec PyProof.Rows
theorem vals_ints:∀{vs:List Value} {ns:List Int},IntsAre vs ns->Vals (ns.map V.int) vs
 |_,_,.nil=>.nil
 |_,_,.cons n t h=>.cons ⟨t,rfl⟩ (vals_ints h)
noncomputable def Only(H:Hp):Prop:=∀b,H b=none\/∃o xs,H b=some (.frz o (.lst xs))
theorem GC{P:Program}{w:World}{K:PySem.W.Frag}{mg mb:Str->Option Value}{CX:CXT}{k:Nat}{fa a:Addr}{fd:FuncData}{x:Str}{sp:Sp}{s₁:Shared}{vs:List Value}{ns:List Int}
 (KX:K.In s₁.heap) (hns:s₁.heap.Ns mainGlobals mg) (hb:s₁.heap.Ns builtinsNs mb) (hbb:∀x:Str,x ≠ "__name__" -> mb x=bootBuiltins x) (hlim:s₁.heap.NoLimit) (hg:s₁.gens=#[])
 (ha:s₁.heap.get? a=some {cls:=.type "list", data:=.seq vs.toArray}) (hi:IntsAre vs ns) (hl:ns.length<=sizeLine) (hr:Room k callerA)
 (F:∀base:Heap,K.In base->base.Ns mainGlobals mg->FnOk P w K mg base CX k fa fd [x] sp) (hbind:∀(s:Shared)(u:Value),BindsTo s fd ⟨[u],[]⟩ [(x,u)])
 (hsp:∀H:Hp,Only H->SqL K H a (ns.map V.int)->sp [.ref a] H (λv _=>v=.bl true) λ_ _ _=>False)
 (hCX:∀H e s',CX [] H s₁ (λ_ _ _=>False) e s'->False) :
 codeAny (model P w) callerA (.call (.ref fa) ⟨[.ref a],[]⟩) (λr s'=>r=.ok (.ret (.bool true))/\OldK s₁.heap s'.heap/\s'.os=s₁.os/\AllBare s'.gens) s₁:=by
 have rv:=vals_ints hi
 have lenV:=hi.length
 have core:∀H:Hp,Only H->SqL K H a (ns.map V.int)->HOk P w H s₁.heap->(∀b,H b≠none->b=a)->(H a≠none->K.lookup a=none) ->
  codeAny (model P w) callerA (.call (.ref fa) ⟨[.ref a],[]⟩) (λr s'=>r=.ok (.ret (.bool true))/\OldK s₁.heap s'.heap/\s'.os=s₁.os/\AllBare s'.gens) s₁:=by
  intro H hO hS hok hA hK
  have base_of:∀{b:Addr} {o:Obj},s₁.heap.get? b=some o->H b=none->(iI s₁.heap H).get? b=some o:=λe n=>FD e n
  have noA:∀{b:Addr} {o:Obj} {es:Array DictEntry} {ep:Nat},s₁.heap.get? b=some o->o.data=.dict es ep->H b=none:=λ{b o es ep} e d=>by
   cases q:H b with
   |none=>rfl
   |some u=>
    have e':b=a:=hA b (by rw[q];simp)
    subst e'
    rw[ha]at e;cases e
    have d':Data.seq vs.toArray _=Data.dict es ep:=d
    cases d'
  have nsK:∀{b:Addr} {m:Str->Option Value},s₁.heap.Ns b m->(iI s₁.heap H).Ns b m:=λ{b m} ⟨o,es,ep,e,d,r⟩=>⟨o,es,ep,base_of e (noA e d),d,r⟩
  have hKb:K.In (iI s₁.heap H):=λb o e=>base_of (KX b o e) (by
   cases q:H b with
   |none=>rfl
   |some u=>
    have e':b=a:=hA b (by rw[q];simp)
    subst e'
    rw[hK (by rw[q];simp)]at e;cases e)
  have hM:Mod K mg (iI s₁.heap H):=⟨hKb,nsK hns,⟨mb,nsK hb,hbb⟩,let ⟨mc,h1,h2⟩:=hlim;⟨mc,nsK h1,h2⟩⟩
  have e0:Env0 P w K mg (iI s₁.heap H) callerA [] s₁ H:=⟨rfl,hM,λb o e=>FE e,Nat.le_of_eq (FC _ _),trivial,λb hb=>absurd (show b∈([]:List Addr)from hb) (by simp),hok,.of_eq hg⟩
  refine codeAny_mono ((F _ hKb (nsK hns)).run callerA [] s₁ H ⟨[.ref a],[]⟩ [.ref a] [.ref a] _ _ hr e0 (hbind s₁ (.ref a)) (.cons rfl .nil) (hsp H hO hS)) λr s' h=>?_
  cases r with
  |error e=>exact(hCX H e s' h).elim
  |ok fl=>
   cases fl with
   |next=>exact False.elim h
   |brk=>exact False.elim h
   |cont=>exact False.elim h
   |ret u=>
    obtain⟨v,H',os,bare,un,hok',r',q⟩:=h
    have q':v=.bl true:=q
    subst q'
    obtain rfl:u=Value.bool true:=r'
    refine⟨rfl,OldK.of_keep λb o e=>?_,os,bare⟩
    cases q:H b with
    |none=>exact un.keep b o e q (by intro z;exact absurd (show b∈([]:List Addr)from z) (by simp)) (by simp)
    |some u=>
     rcases hO b with z|⟨ob,xs,z⟩
     ·rw[q]at z;cases z
     ·have z2:=un.frzs b ob _ z
      obtain⟨e1,_⟩:=hok b _ z
      obtain⟨e2,_⟩:=hok' b _ z2
      rw[e]at e1;cases e1
      exact e2
 cases hk:K.lookup a with
 |some o=>
  have e:=KX a o hk
  rw[ha]at e
  cases e
  refine core (λ_=>none) (λ_=>.inl rfl) (.inr ⟨_,vs.toArray,_,hk,rfl,rfl,rfl,by rw[bK,lenV];exact hl,by simpa using rv⟩) (λb u z=>by have z':(none:Option HO)=some u:=z;cases z') (λb z=>absurd rfl z) λz=>absurd rfl z
 |none=>
  refine core (λb=>if b=a then some (.frz {cls:=.type "list", data:=.seq vs.toArray} (.lst (ns.map V.int)))else none) (λb=>?_) (.inl (.inr ⟨{cls:=.type "list", data:=.seq vs.toArray},if_pos rfl⟩)) (λb u z=>?_) (λb z=>?_) λ_=>hk
  ·by_cases hb:b=a
   ·exact .inr ⟨_,_,if_pos hb⟩
   ·exact .inl (if_neg hb)
  ·by_cases hb:b=a
   ·have z':=(if_pos hb).symm.trans z
    cases z'
    subst hb
    exact⟨ha,by rw[aE];exact hl,vs,_,rv,ha⟩
   ·have z':=(if_neg hb).symm.trans z
    cases z'
  ·by_cases hb:b=a
   ·exact hb
   ·exact absurd (if_neg hb) z
theorem GD{l:PySem.W.OpenLaw}{n k:Nat}{q:Program}{loose:List Str}{XP:(Str->Option Value)->Heap->Prop}{YP:World->Heap->Prop}{d:DefRec}{K:Params->PySem.W.Frag}{CX:World->CXT}{sp:World->Sp}{x:Str}
 (hn:l.most=some n) (hn2:n<=sizeLine) (hdf:d.params.defaults=[]) (hr:Room k callerA)
 (hY:∀(w:World)(h:Heap),YP w h->(K w.params).In h)
 (F:∀(w:World)(mg:Str->Option Value)(fa:Addr)(h:Heap),(K w.params).In h->h.Ns mainGlobals mg->mg d.name=some (.ref fa) ->
  ∃fd:FuncData,(∀(s:Shared)(u:Value),BindsTo s fd ⟨[u],[]⟩ [(x,u)]) /\
   ∀base:Heap,(K w.params).In base->base.Ns mainGlobals mg->FnOk l.prog w (K w.params) mg base (CX w) k fa fd [x] (sp w))
 (hsp:∀(w:World)(H:Hp)(a:Addr)(ns:List Int),ns.length<=n->Only H->SqL (K w.params) H a (ns.map V.int)->sp w [.ref a] H (λv _=>v=.bl true) λ_ _ _=>False)
 (hCX:∀(w:World)(H:Hp)(s:Shared)(e:Value)(s':Shared),CX w [] H s (λ_ _ _=>False) e s'->False) :
 PySem.W.WalkO q loose XP YP l.row.toRowW d [] (λf vs=>PySem.call f vs):=by
 refine Att.attach_call hn hdf λw s₀ s₁ mg mb fa o pm cd doc a vs ns G Y ho hd hcd hmg hobj hints hlen hg=>?_
 have KX:=hY w _ Y
 obtain⟨fd,hb,hF⟩:=F w mg fa _ KX G.T.g hmg
 exact GC KX G.T.g G.T.b G.T.builtins G.T.nolimit hg hobj hints (cD hlen hn2) hr hF hb (λH hO hS=>hsp w H a ns hlen hO hS) λH e s'=>hCX w H s₁ e s'
noncomputable def kE(s:Stmt):Arguments:=match s with
 |.FunctionDef _ a _ _ _ _ _ _ _ _=>a
 |_=>{posonlyargs:=[],args:=[],vararg:=none,kwonlyargs:=[],kw_defaults:=[],kwarg:=none,defaults:=[] }
noncomputable def eW(s:Stmt):List Stmt:=match s with
 |.FunctionDef _ _ b _ _ _ _ _ _ _=>b
 |_=>[]
noncomputable def bA(s:Stmt):Scope:=match s with
 |.FunctionDef _ _ _ _ _ _ sc _ _ _=>sc
 |_=>{kind:=.function,names:=[],isGenerator:=false,isCoroutine:=false}
noncomputable abbrev E0:XK:=λ_ _ _=>False
set_option genInjectivity false in
structure Fun(K:PySem.W.Frag)(x qual:Str)(st:Stmt)(f:Addr)(fd:FuncData):Prop where
 ex:∃(oc:Value)(od:Option Addr)(kV doc pm:Value)(an:Option Addr)(cdv ct:Value)(osl:Array (Option Value)),
  fd=PySem.W.fnOf x qual (kE st) (eW st) (bA st) .none kV doc pm an cdv ct/\K.lookup f=some ⟨oc,od,.func fd,osl⟩/\PySem.W.codeIn K cdv qual=true
 kp:PySem.W.keepIn K (.ref f)=true
section
variable{P:Program}{w:World}{K:PySem.W.Frag}{mg:Str->Option Value}{base:Heap}
theorem Fun.binds{x qual:Str}{st:Stmt}{f:Addr}{fd:FuncData}{ps:List Str}(F:Fun K x qual st f fd)
 (h:∀(kV doc pm:Value)(an:Option Addr)(cdv ct:Value)(us:List Value),us.length=ps.length->bindArgs (PySem.W.fnOf x qual (kE st) (eW st) (bA st) .none kV doc pm an cdv ct) ⟨us,[]⟩=pure (ps.zip us)):Binds K fd ps []:=by
 obtain⟨oc,od,kV,doc,pm,an,cdv,ct,osl,rfl,lk,hcd⟩:=F.ex
 exact .all (h kV doc pm an cdv ct)
theorem Aq{x qual:Str}{st:Stmt}{f:Addr}{oc:Value}{od an:Option Addr}{osl:Array (Option Value)}{kV doc pm cdv ct:Value}(l:K.lookup f=some ⟨oc,od,.func (PySem.W.fnOf x qual (kE st) (eW st) (bA st) .none kV doc pm an cdv ct),osl⟩)
 (c:PySem.W.codeIn K cdv qual=true) (k:PySem.W.keepIn K (.ref f)=true):Fun K x qual st f (PySem.W.fnOf x qual (kE st) (eW st) (bA st) .none kV doc pm an cdv ct):=⟨⟨oc,od,kV,doc,pm,an,cdv,ct,osl,rfl,l,c⟩,k⟩
end
theorem GE{n:Nat}(h:n<=1000):n<sizeLine:=Nat.lt_of_le_of_lt h (by decide)
noncomputable def Same(H H':Hp):Prop:=∀b o,H b=some o->H' b=some o
theorem Same.refl(H:Hp):Same H H:=λ_ _ h=>h
theorem Same.trans{H H1 H2:Hp}(a:Same H H1)(b:Same H1 H2):Same H H2:=λc o h=>b c o (a c o h)
theorem Same.free{H H':Hp}(e:Same H H'){l:Addr}(h:H' l=Option.none):H l=Option.none:=by
 cases q:H l with
 |none=>rfl
 |some o=>
  rw[e l o q]at h
  cases h
end L2
set_option maxRecDepth 100000
namespace L2
open PySem PySem.Spec PyProof.Rows
section
variable{κ:Type}[DecidableEq κ]
noncomputable def eN(kvs:List (κ×V))(k:κ):Option V:=(kvs.find? λkv=>decide (kv.1=k)).map (·.2)
noncomputable def dD(kvs:List (κ×V))(k:κ)(v:V):List (κ×V):=
 if(kvs.any λkv=>decide (kv.1=k))=true then kvs.map (λkv=>if kv.1=k then(kv.1,v)else kv)else kvs++[(k,v)]
theorem mX{p:κ×V}{r:List (κ×V)}{k:κ}(e:p.1=k):eN (p::r) k=some p.2:=by simp[eN,cJ,e]
theorem mY{p:κ×V}{r:List (κ×V)}{k:κ}(e:¬p.1=k):eN (p::r) k=eN r k:=by simp[eN,cJ,e]
theorem Ar(k:κ):∀kvs:List (κ×V),(kvs.any λkv=>decide (kv.1=k))=(eN kvs k).isSome
 |[]=>rfl
 |p::r=>by
  rw[jV]
  by_cases e:p.1=k
  ·simp only[mX e,decide_eq_true e,Bool.true_or,Option.isSome_some]
  ·rw[mY e,decide_eq_false e,AB];exact Ar k r
theorem As(kvs:List (κ×V))(k:κ)(v:V):(dD kvs k v).length<=kvs.length+1:=by
 unfold dD
 split
 ·rw[aE];lia
 ·rw[cE,aX,uL];lia
theorem RelO.isSome_eq{o:Option V}{u:Option Value}(r:RelO o u):o.isSome=u.isSome:=by
 cases o with
 |none=>cases u with
  |none=>rfl
  |some _=>exact(show False from r).elim
 |some _=>cases u with
  |none=>exact(show False from r).elim
  |some _=>rfl
theorem KV.val{kvs:List (κ×V)}{vs:List (κ×Value)}(r:KV kvs vs)(k:κ):RelO (eN kvs k) (valueAt vs k):=by
 unfold KV at r
 induction r with
 |nil=>exact True.intro
 | @cons p q ps qs h t ih=>
  obtain⟨h1,h2⟩:=h
  by_cases e:p.1=k
  ·have e':q.1=k:=h1.symm.trans e
   have b:valueAt (q::qs) k=some q.2:=by simp[valueAt,cJ,e']
   rw[mX e,b];exact h2
  ·have e':¬q.1=k:=λz=>e (h1.trans z)
   have b:valueAt (q::qs) k=valueAt qs k:=by simp[valueAt,cJ,e']
   rw[mY e,b];exact ih
theorem KV.any{kvs:List (κ×V)}{vs:List (κ×Value)}(r:KV kvs vs)(k:κ):(kvs.any λkv=>decide (kv.1=k))=vs.any λkv=>decide (kv.1=k):=by
 unfold KV at r
 induction r with
 |nil=>rfl
 |cons h t ih=>rw[jV,jV,ih,h.1]
theorem KV.repl{kvs:List (κ×V)}{vs:List (κ×Value)}(r:KV kvs vs)(k:κ){y:V}{u:Value}(ry:RelV y u) :
 KV (kvs.map λkv=>if kv.1=k then(kv.1,y)else kv) (vs.map λkv=>if kv.1=k then(kv.1,u)else kv):=by
 unfold KV at r⊢
 induction r with
 |nil=>exact .nil
 | @cons p q ps qs h t ih=>
  rw[aK,aK]
  refine .cons ?_ ih
  obtain⟨h1,h2⟩:=h
  by_cases e:p.1=k
  ·rw[if_pos e,if_pos (h1.symm.trans e)];exact⟨h1,ry⟩
  ·rw[if_neg e,if_neg (λz=>e (h1.trans z))];exact⟨h1,h2⟩
theorem KV.put{kvs:List (κ×V)}{vs:List (κ×Value)}(r:KV kvs vs)(k:κ){y:V}{u:Value}(ry:RelV y u):KV (dD kvs k y) (stored vs k u):=by
 unfold dD stored
 rw[r.any k]
 by_cases e:(vs.any λkv=>decide (kv.1=k))=true
 ·rw[if_pos e,if_pos e];exact r.repl k ry
 ·rw[if_neg e,if_neg e];exact Paired.snoc r ⟨rfl,ry⟩
theorem KV.keys{kvs:List (κ×V)}{vs:List (κ×Value)}(r:KV kvs vs):kvs.map (·.1)=vs.map (·.1):=by
 unfold KV at r
 induction r with
 |nil=>rfl
 |cons h t ih=>rw[aK,aK,ih,h.1]
theorem KV.length{kvs:List (κ×V)}{vs:List (κ×Value)}(r:KV kvs vs):kvs.length=vs.length:=Paired.length r
end
theorem kV_is{P:Program}{w:World}{k:Key}{u:Value}(r:RelV (kV k) u):(bP P w).is k u=true:=by
 cases k with
 |inl i=>obtain⟨t,e⟩:=(show ∃t,u=Value.int i t from r);subst e;exact Ez P w i t
 |inr x=>obtain⟨t,e⟩:=(show ∃t,u=Value.str x t from r);subst e;exact FA P w x t
theorem Au{P:Program}{w:World}:∀{ks:List Key} {us:List Value},Vals (ks.map kV) us->ItemsAre (bP P w) ks us
 |[],_,r=>by rw[pK]at r;cases r;exact .nil
 |k::ks,_,r=>by
  rw[aK]at r
  cases r with
  |cons h t=>exact .cons (kV_is h) (Au t)
noncomputable abbrev KT(H:Hp):List (List Key×V)->List (List Key×Addr×Value)->Prop:=Paired λp q=>p.1=q.1/\H q.2.1=some (.tup (p.1.map kV))/\RelV p.2 q.2.2
theorem KT.val{H:Hp}{kvs:List (List Key×V)}{xs:List (List Key×Addr×Value)}(r:KT H kvs xs)(k:List Key):RelO (eN kvs k) ((atKey xs k).map (·.2)):=by
 induction r with
 |nil=>exact True.intro
 | @cons p q ps qs h t ih=>
  obtain⟨h1,_,h2⟩:=h
  by_cases e:p.1=k
  ·have e':q.1=k:=h1.symm.trans e
   have b:atKey (q::qs) k=some q.2:=by simp[atKey,cJ,e']
   rw[mX e,b];exact h2
  ·have e':¬q.1=k:=λz=>e (h1.trans z)
   have b:atKey (q::qs) k=atKey qs k:=by simp[atKey,cJ,e']
   rw[mY e,b];exact ih
theorem KT.repl{H:Hp}{kvs:List (List Key×V)}{xs:List (List Key×Addr×Value)}(r:KT H kvs xs)(k:List Key){y:V}{u:Value}(ry:RelV y u) :
 KT H (kvs.map λkv=>if kv.1=k then(kv.1,y)else kv) (xs.map (putAt k u)):=by
 induction r with
 |nil=>exact .nil
 | @cons p q ps qs h t ih=>
  rw[aK,aK]
  refine .cons ?_ ih
  obtain⟨h1,h2,h3⟩:=h
  unfold putAt
  by_cases e:p.1=k
  ·rw[if_pos e,if_pos (h1.symm.trans e)];exact⟨h1,h2,ry⟩
  ·rw[if_neg e,if_neg (λz=>e (h1.trans z))];exact⟨h1,h2,h3⟩
theorem KT.put{H:Hp}{kvs:List (List Key×V)}{xs:List (List Key×Addr×Value)}(r:KT H kvs xs)(k:List Key){b:Addr}{y:V}{u:Value}(hb:H b=some (.tup (k.map kV)))(ry:RelV y u) :
 KT H (dD kvs k y) (storedH xs k b u):=by
 have e:(kvs.any λkv=>decide (kv.1=k))=(atKey xs k).isSome:=by
  rw[Ar,(r.val k).isSome_eq,En]
 unfold dD storedH
 rw[e]
 by_cases q:(atKey xs k).isSome=true
 ·rw[if_pos q,if_pos q];exact r.repl k ry
 ·rw[if_neg q,if_neg q];exact Paired.snoc r ⟨rfl,hb,ry⟩
theorem KT.keeps{H H':Hp}{kvs:List (List Key×V)}{xs:List (List Key×Addr×Value)}(r:KT H kvs xs)(ht:∀b ys,H b=some (.tup ys)->H' b=some (.tup ys)):KT H' kvs xs:=
 Paired.mapP r λ_ _ z=>⟨z.1,ht _ _ z.2.1,z.2.2⟩
section
variable{P:Program}{w:World}{H:Hp}{h:Heap}{a:Addr}
theorem mZ{u:HO}(ok:HOk P w H h)(e:Rd H a u):ObjOk P w H h a u:=e.ok ok
theorem lJ{kvs:List (Key×V)}(ok:HOk P w H h)(e:Rd H a (.dK kvs)):kvs.length<=sizeLine/\(a==sysModules)=false/\∃vs,KV kvs vs/\h.DictOf (bP P w) a vs:=
 show ObjOk P w H h a (.dK kvs)from mZ ok e
theorem dk_of{kvs:List (Key×V)}(ok:HOk P w H h)(e:H a=some (.dK kvs)):kvs.length<=sizeLine/\(a==sysModules)=false/\∃vs,KV kvs vs/\h.DictOf (bP P w) a vs:=lJ ok (.inl e)
theorem nA{ks:List Key}(ok:HOk P w H h)(e:H a=some (.tup (ks.map kV))):(tupleKind (bP P w)).is h ks a:=by
 obtain⟨_,its,r,o,h1,h2,n,h3⟩:=(show ObjOk P w H h a (.tup (ks.map kV))from ok a _ e)
 exact⟨o,its.toArray,n,h1,h2,h3,by simpa using Au r⟩
theorem nB{kvs:List (List Key×V)}(ok:HOk P w H h)(e:Rd H a (.dT kvs)):kvs.length<=sizeLine/\(a==sysModules)=false /\
 ∃xs,KT H kvs xs/\h.DictOfH (tupleKind (bP P w)) a xs:=by
 obtain⟨z,y,xs,r,o,es,ep,h1,h2,h3,h4,h5⟩:=(show ObjOk P w H h a (.dT kvs)from mZ ok e)
 refine⟨z,y,xs,r,o,es,ep,h1,h2,h3,h4,λx hx=>?_,h5⟩
 have all:∀{l:List (List Key×V)} {m:List (List Key×Addr×Value)},KT H l m->∀x∈m,(tupleKind (bP P w)).is h x.1 x.2.1:=by
  intro l m q
  induction q with
  |nil=>intro x hx;exact nomatch hx
  | @cons p q ps qs hq t ih=>
   intro x hx
   rcases aY.mp hx with e|hx
   ·subst e
    exact nA ok (by rw[<-hq.1];exact hq.2.1)
   ·exact ih x hx
 exact all r x hx
theorem dt_of{kvs:List (List Key×V)}(ok:HOk P w H h)(e:H a=some (.dT kvs)):kvs.length<=sizeLine/\(a==sysModules)=false /\
 ∃xs,KT H kvs xs/\h.DictOfH (tupleKind (bP P w)) a xs:=nB ok (.inl e)
end
noncomputable def kF(H:Hp)(a:Addr)(y:V)(r:Option V):Prop:=
 (∃kvs k,Rd H a (.dK kvs)/\y=kV k/\r=eN kvs k)\/∃kvs k b,Rd H a (.dT kvs)/\y=.ref b/\H b=some (.tup (k.map kV))/\r=eN kvs k
noncomputable def DPut(H:Hp)(a:Addr)(y v:V)(H':Hp):Prop:=
 (∃kvs k,H a=some (.dK kvs)/\y=kV k/\kvs.length<sizeLine/\H'=upd H a (.dK (dD kvs k v))) \/
 ∃kvs k b,H a=some (.dT kvs)/\y=.ref b/\H b=some (.tup (k.map kV))/\kvs.length<sizeLine/\H'=upd H a (.dT (dD kvs k v))
theorem DPut.k{H:Hp}{a:Addr}{kvs:List (Key×V)}{k:Key}{v:V}(e:H a=some (.dK kvs))(hl:kvs.length<sizeLine):DPut H a (kV k) v (upd H a (.dK (dD kvs k v))):=.inl ⟨kvs,k,e,rfl,hl,rfl⟩
section
variable{X:Cx}{pins:List (Addr×Obj)}{σ:St}{H:Hp}{s:Shared}{a:Addr}{y v:V}{u r:Value}{o:Option V}{A:Around}{E:Value->Shared->Prop}
theorem Inv.big(I:Inv X pins σ H s):sysModules<s.heap.objs.size:=by
 have h:mainGlobals<s.heap.objs.size:=(I.mod.glob.keeps I.bk).lt
 exact lA (by decide) h
theorem GF{Q:Value->Shared->Prop}(hu:A.units+1<cLine)(I:Inv X pins σ H s)(g:kF H a y (some v))(ry:RelV y u)(h:∀w' s',Inv X pins σ H s'->RelV v w'->Q w' s') :
 wpAny (model X.prog X.w) A (getItem (.ref a) u) Q E s:=by
 rcases g with⟨kvs,k,e,ey,l⟩|⟨kvs,k,b,e,ey,eb,l⟩
 ·subst ey
  obtain⟨z,hd,vs,rel,dd⟩:=lJ I.hok e
  obtain⟨w',hw,rw'⟩:=RelO.some_of (v:=v) (o:=valueAt vs k) (by rw[l];exact rel.val k)
  exact wpAny_getItem_of (kV_is ry) dd.mapOf hw (h w' _ (I.tok _) rw')
 ·subst ey
  cases (show u=Value.ref b from ry)
  obtain⟨z,hd,xs,rel,dd⟩:=nB I.hok e
  obtain⟨w',hw,rw'⟩:=RelO.some_of (v:=v) (o:=(atKey xs k).map (·.2)) (by rw[l];exact rel.val k)
  obtain⟨p,hp,hp2⟩:=LW.mp hw
  refine wpAny_getItem_heap (tupleKind_room_in1 hu) (nA I.hok eb) dd hp ?_
  rw[hp2]
  exact h w' _ (I.tok _) rw'
theorem d_in{Q:Value->Shared->Prop}(hu:A.units+1<cLine)(I:Inv X pins σ H s)(g:kF H a y o)(ry:RelV y u)(h:∀s',Inv X pins σ H s'->Q (.bool o.isSome) s') :
 wpAny (model X.prog X.w) A (compareOp .In u (.ref a)) Q E s:=by
 rcases g with⟨kvs,k,e,ey,l⟩|⟨kvs,k,b,e,ey,eb,l⟩
 ·subst ey
  obtain⟨z,hd,vs,rel,dd⟩:=lJ I.hok e
  refine wpAny_in_of (kV_is ry) hd dd.mapOf ?_
  rw[<-(rel.val k).isSome_eq,<-l]
  exact h _ (I.tok _)
 ·subst ey
  cases (show u=Value.ref b from ry)
  obtain⟨z,hd,xs,rel,dd⟩:=nB I.hok e
  refine wpAny_in_heap (tupleKind_room_in1 hu) (nA I.hok eb) hd dd ?_
  have q:=(rel.val k).isSome_eq
  rw[En]at q
  rw[<-q,<-l]
  exact h _ (I.tok _)
theorem Av{Q:Value->Shared->Prop}(hu:A.units+1<cLine)(I:Inv X pins σ H s)(g:kF H a y o)(ry:RelV y u)(h:∀s',Inv X pins σ H s'->Q (.bool (!o.isSome)) s') :
 wpAny (model X.prog X.w) A (compareOp .NotIn u (.ref a)) Q E s:=by
 rcases g with⟨kvs,k,e,ey,l⟩|⟨kvs,k,b,e,ey,eb,l⟩
 ·subst ey
  obtain⟨z,hd,vs,rel,dd⟩:=lJ I.hok e
  refine wpAny_notIn_of (kV_is ry) hd dd.mapOf ?_
  rw[<-(rel.val k).isSome_eq,<-l]
  exact h _ (I.tok _)
 ·subst ey
  cases (show u=Value.ref b from ry)
  obtain⟨z,hd,xs,rel,dd⟩:=nB I.hok e
  refine wpAny_notIn_heap (tupleKind_room_in1 hu) (nA I.hok eb) hd dd ?_
  have q:=(rel.val k).isSome_eq
  rw[En]at q
  rw[<-q,<-l]
  exact h _ (I.tok _)
theorem Aw{h':Heap}{t':Nat}{ob:HO}(I:Inv X pins σ H s)(mu:Mut (H a))(hs:Heap.SameBut a s.heap h')(he:∃q,h'.get? a=some q)(new:ObjOk X.prog X.w (upd H a ob) h' a ob) :
 Inv X pins σ (upd H a ob) {s with heap:=h',toks:=t' }:=
 I.write (x:=a) (e:=a) mu (.inl rfl) (λb q hb z=>(hs.2 b hb).trans z) he new
theorem dk_new{P:Program}{w:World}{H':Hp}{h':Heap}{kvs:List (Key×V)}{vs:List (Key×Value)}(z:kvs.length<=sizeLine)(hd:(a==sysModules)=false)(rel:KV kvs vs)(dd:h'.DictOf (bP P w) a vs) :
 ObjOk P w H' h' a (.dK kvs):=⟨z,hd,vs,rel,dd⟩
theorem GG{H':Hp}{Q:Unit->Shared->Prop}(hu:A.units+1<cLine)(I:Inv X pins σ H s)(g:DPut H a y v H')(ry:RelV y u)(rv:RelV v r)(h:∀s',Inv X pins σ H' s'->Q () s') :
 wpAny (model X.prog X.w) A (setItem (.ref a) u r) Q E s:=by
 rcases g with⟨kvs,k,e,ey,l,eH⟩|⟨kvs,k,b,e,ey,eb,l,eH⟩
 ·subst ey eH
  obtain⟨z,hd,vs,rel,dd⟩:=dk_of I.hok e
  have hz:vs.length<=sizeLine:=by rw[<-rel.length];exact z
  have hl:(dD kvs k v).length<=sizeLine:=by have:=As kvs k v;lia
  refine wpAny_setItem_pairs (hsz:=hz) (kV_is ry) dd λh' dd' hs=>h _ ?_
  have he:∃q,h'.get? a=some q:=let ⟨q,_,_,hq,_⟩:=dd';⟨q,hq⟩
  exact Aw I (by rw[e];exact True.intro) hs he (dk_new hl hd (rel.put k rv) dd')
 ·subst ey eH
  cases (show u=Value.ref b from ry)
  obtain⟨z,hd,xs,rel,dd⟩:=dt_of I.hok e
  have hz:xs.length<=sizeLine:=by rw[<-Paired.length rel];exact z
  have hl:(dD kvs k v).length<=sizeLine:=by have:=As kvs k v;lia
  refine wpAny_setItem_heap (hsz:=hz) (tupleKind_room_in1 hu) (nA I.hok eb) dd λh' dd' hs=>h _ ?_
  obtain⟨q,es,ep,hq,h2,h3,h4,_,h5⟩:=dd'
  refine Aw I (by rw[e];exact True.intro) hs ⟨q,hq⟩ ⟨hl,hd,_,(rel.put k eb rv).keeps λc ys ec=>?_,q,es,ep,hq,h2,h3,h4,h5⟩
  rw[aG (pU ec e (λz=>nomatch z))]
  exact ec
end
section
variable{X:Cx}{pins:List (Addr×Obj)}{σ:St}{H:Hp}{s:Shared}{a:Addr}{kvs:List (Key×V)}{k:Key}{u:Value}{A:Around}{E:Value->Shared->Prop}
theorem d_len {Q:Value->Shared->Prop} (I:Inv X pins σ H s) (e:Rd H a (.dK kvs)) (h:∀t s',Inv X pins σ H s'->Q (.int kvs.length t) s'):wpAny (model X.prog X.w) A (call (.builtin "len") [.ref a]) Q E s:=by
 obtain⟨z,hd,vs,rel,dd⟩:=lJ I.hok e
 refine call_len_dict hd dd (by rw[<-rel.length];rw[sizeLine_eq]at z;lia) ?_
 rw[<-rel.length]
 exact h _ _ (I.tok _)
end
theorem GH {X:Cx} {pins:List (Addr×Obj)} {σ:St} {H:Hp} {s:Shared} {a:Addr} {y:V} {o:Option V} (I:Inv X pins σ H s) (g:kF H a y o):s.TypeIs (.ref a) "dict" := by
 rcases g with⟨kvs,k,e,_,_⟩|⟨kvs,k,b,e,_,_,_⟩
 ·obtain⟨_,_,vs,_,dd⟩:=lJ I.hok e
  exact dd.typeIs
 ·obtain⟨_,_,xs,_,dd⟩:=nB I.hok e
  exact dd.typeIs
noncomputable def sDPut(td ty tv:TE):TS:=λD σ H=>tv σ H λv H1=>td σ H1 λx H2=>ty σ H2 λy H3=>∃a H4,x=.ref a/\DPut H3 a y v H4/\D.nx σ H4
section
variable{X:Cx}{o i e value:Expr}{pos pos' tpos:Pos}{td ty tv:TE}
theorem GI(hu:X.A.units+1<cLine)(ho:PE X o td)(hi:PE X i ty)(hv:PE X value tv)(hs:swapsWith value (some (.Subscript o i pos')) pos.line X.env=pure false) :
 PS X (.Assign [.Subscript o i pos'] value pos) (sDPut td ty tv):=by
 intro pins s σ H D I h
 refine wpAny_Assign_Subscript (thn (hv pins s σ H _ I h) λr s1 ⟨v,H1,I1,rv,q1⟩=>thn (ho pins s1 σ H1 _ I1 q1) λu s2 ⟨x,H2,I2,rx,q2⟩=>thn (hi pins s2 σ H2 _ I2 q2) λiv s3 ⟨y,H3,I3,ry,a,H4,ex,g,q3⟩=>?_) hs
 subst ex
 obtain rfl:u=Value.ref a:=rx
 exact GG hu I3 g ry rv λs4 I4=>⟨σ,H4,I4,q3⟩
end
theorem GJ {P:Program} {w:World} {H:Hp} (h:Heap) (hb:sysModules<h.objs.size):ObjOk P w H (h.push {cls:=.type "dict", data:=.dict #[] }) h.objs.size (.dK []):=
 ⟨jW _,beq_eq_false_iff_ne.mpr (Ne.symm (bM hb)),[],.nil,Heap.DictOf.new h⟩
noncomputable def tDNewK:TE:=λ_ H Q=>∀p,H p=none->Q (.ref p) (upd H p (.dK []))
section
variable{X:Cx}{pos:Pos}
theorem GK:PE X (.Dict [] [] pos) tDNewK:=λpins s σ H Q I h=>
 wpAny_Dict_empty ⟨.ref s.heap.objs.size,_,I.laid (a:=s.heap.objs.size) (o:=.dK []) (t':=s.toks) (λ_ _ q=>Heap.get?_push_of_some _ q) (aQ _) (GJ s.heap I.big),rfl,h _ (I.hok.fresh (aQ _))⟩
end
section
variable{X:Cx}{pins:List (Addr×Obj)}{σ:St}{H:Hp}{s:Shared}{a:Addr}{y d:V}{u r:Value}{o:Option V}{A:Around}{E:Value->Shared->Prop}
end
section
variable{X:Cx}{o e f:Expr}{apos cpos:Pos}{td ty tx:TE}
end
end L2
namespace Tr
open PySem
set_option genSizeOf true in
set_option genSizeOfSpec true in
inductive D where
 |non|bl (b:Bool)|int (i:Int)|str (x:Str)|tup (ds:List D)|lst (ds:List D)|dct (kvs:List (Sum Int Str×D))|tdc (kvs:List (List (Sum Int Str)×D))
 deriving Inhabited
inductive Res(α:Type) where
 |ok (a:α)|err (c:Str) (d:D)|no
 deriving Inhabited
namespace Res
@[reducible] noncomputable def bind{α β:Type}(x:Res α)(f:α->Res β):Res β:=match x with | .ok a=>f a | .err c d=>.err c d | .no=>.no
noncomputable instance:Monad Res where
 pure:=.ok
 bind:=bind
@[simp] theorem ok_bind{α β:Type}(a:α)(f:α->Res β):(Res.ok a>>=f)=f a:=id rfl
@[simp] theorem err_bind{α β:Type}(c:Str)(d:D)(f:α->Res β):((Res.err c d:Res α)>>=f)=.err c d:=id rfl
@[simp] theorem no_bind{α β:Type}(f:α->Res β):((Res.no:Res α)>>=f)=.no:=id rfl
theorem bind_ok{α β:Type}{x:Res α}{f:α->Res β}{b:β}(h:(x>>=f)=.ok b):∃a,x=.ok a/\f a=.ok b:=by
 cases x with
 |ok a=>exact⟨a,rfl,h⟩
 |err c d=>cases h
 |no=>cases h
end Res
noncomputable def aC{α:Type}(c:Bool)(r:Res α):Res α:=if c then r else .no
theorem aS{α:Type}{c:Bool}{r:Res α}{a:α}(h:aC c r=.ok a):c=true/\r=.ok a:=by
 unfold aC at h
 split at h
 ·exact⟨by assumption,h⟩
 ·cases h
@[simp] theorem Ax{α:Type}(r:Res α):aC true r=r:=id rfl
theorem bJ{α:Type}{c:Bool}(h:c=true)(r:Res α):aC c r=r:=by subst h;rfl
noncomputable def b2z(b:Bool):Int:=if b then 1 else 0
mutual
noncomputable def D.eqb:D->D->Bool
 |.non,.non=>true
 |.bl a,.bl b=>a==b
 |.bl a,.int j=>b2z a==j
 |.int i,.bl b=>i==b2z b
 |.int i,.int j=>i==j
 |.str x,.str y=>x==y
 |.tup a,.tup b=>D.eqs a b
 |.lst a,.lst b=>D.eqs a b
 |_,_=>false
noncomputable def D.eqs:List D->List D->Bool
 |[],[]=>true
 |a::r,b::q=>D.eqb a b&&D.eqs r q
 |_,_=>false
end
mutual
noncomputable def D.pl:Nat->D->Bool
 |_,.dct _=>false
 |_,.tdc _=>false
 |n,.tup a=>D.pls n a
 |n,.lst a=>D.pls n a
 |_,_=>true
noncomputable def D.pls:Nat->List D->Bool
 |_,[]=>true
 |0,_::_=>false
 |n+1,a::r=>D.pl n a&&D.pls (n+1) r
end
mutual
noncomputable def D.flat:D->Bool
 |.dct _=>false
 |.tdc _=>false
 |.lst _=>false
 |.tup a=>D.flats a
 |_=>true
noncomputable def D.flats:List D->Bool
 |[]=>true
 |a::r=>D.flat a&&D.flats r
end
theorem qD{a b:List D}:D.eqb (.tup a) (.tup b)=D.eqs a b:=rfl
theorem qE{a b:List D}:D.eqb (.lst a) (.lst b)=D.eqs a b:=rfl
theorem vE{a b:D}{r q:List D}:D.eqs (a::r) (b::q)=(D.eqb a b&&D.eqs r q):=rfl
theorem vF{n:Nat}{a:D}{r:List D}:D.pls (n+1) (a::r)=(D.pl n a&&D.pls (n+1) r):=rfl
mutual
theorem D.eqb_refl:∀(n:Nat)(d:D),D.pl n d=true->D.eqb d d=true
 |_,.non,_=>rfl
 |_,.bl a,_=>by show(a==a)=true;simp
 |_,.int i,_=>by show(i==i)=true;simp
 |_,.str x,_=>by show(x==x)=true;simp
 |n,.tup a,h=>by rw[qD];exact D.eqs_refl n a h
 |n,.lst a,h=>by rw[qE];exact D.eqs_refl n a h
 |_,.dct a,h=>by cases h
 |_,.tdc a,h=>by cases h
theorem D.eqs_refl:∀(n:Nat)(a:List D),D.pls n a=true->D.eqs a a=true
 |_,[],_=>rfl
 |0,a::r,h=>by cases h
 |n+1,a::r,h=>by
  rw[vF,aD]at h
  rw[vE,D.eqb_refl n a h.1,D.eqs_refl (n+1) r h.2];rfl
end
noncomputable def big:Nat:=16777216
noncomputable def sIx(n d:Nat):Option Int->Nat
 |none=>d
 |some v=>if v<0 then(v+(n:Int)).toNat else min v.toNat n
noncomputable def cut{α:Type}(xs:List α)(lo hi:Option Int):List α:=(xs.drop (sIx xs.length 0 lo)).take (sIx xs.length xs.length hi-sIx xs.length 0 lo)
noncomputable def ixN(n:Nat)(i:Int):Option Nat:=if 0<=i then(if i<n then some i.toNat else none)else if -(n:Int)<=i then some (i+n).toNat else none
noncomputable def atI{α:Type}(xs:List α)(i:Int):Option α:=(ixN xs.length i).bind λj=>xs[j]?
noncomputable def dM(i:Int):Bool:=decide (-(2^64)<i)&&decide (i<2^64)
noncomputable def D.bin:Operator->D->D->Res D
 |.Add,.int i,.int j=>.ok (.int (i+j))
 |.Add,.str x,.str y=>aC (decide (x.length+y.length<=big)) (.ok (.str (x++y)))
 |.Add,.lst a,.lst b=>aC (decide (a.length+b.length<=big)) (.ok (.lst (a++b)))
 |.Add,.tup a,.tup b=>aC (decide (a.length+b.length<=big)) (.ok (.tup (a++b)))
 |.Sub,.int i,.int j=>.ok (.int (i-j))
 |.Mult,.int i,.int j=>aC (dM i||dM j) (.ok (.int (i*j)))
 |.Mult,.lst a,.int j=>aC (decide (a.length=1)&&decide (0<=j)&&decide (j<=1000)) (.ok (.lst (aO j.toNat a).flatten))
 |.FloorDiv,.int i,.int j=>aC (decide (0<j)&&decide (j<1073741824)) (.ok (.int (i/j)))
 |.Mod,.int i,.int j=>aC (decide (0<j)) (.ok (.int (i%j)))
 |.Pow,.int i,.int j=>aC (decide (0<=j)&&decide (j<=1000000)&&decide (i.natAbs<2^64)) (.ok (.int (i^j.toNat)))
 |_,_,_=>.no
noncomputable def gP(c:Nat):Str:=⟨#[c]⟩
noncomputable def iJ(x:Str)(lo hi:Option Int):Str:=⟨(cut x.cps.toList lo hi).toArray⟩
noncomputable def vG(c:Nat):List Nat->List (List Nat)
 |[]=>[[]]
 |x::r=>if x=c then []::vG c r else match vG c r with
  |h::t=>(x::h)::t
  |[]=>[[x]]
noncomputable def splitS(x:Str)(c:Nat):List Str:=(vG c x.cps.toList).map λl=>⟨l.toArray⟩
noncomputable def Ay(g:List Nat):List (List Nat)->List Nat
 |[]=>[]
 |[a]=>a
 |a::b::r=>a++g++Ay g (b::r)
noncomputable def joinS(g:Str)(xs:List Str):Str:=⟨(Ay g.cps.toList (xs.map λx=>x.cps.toList)).toArray⟩
noncomputable def vH(cs:List Nat):Nat:=cs.foldl (λacc c=>acc*10+(c-48)) 0
noncomputable def vI(cs:List Nat):Bool:=!cs.isEmpty&&cs.all λc=>decide (48<=c)&&decide (c<=57)
noncomputable def Az:List D->Res (List Str)
 |[]=>.ok []
 |.str x::r=>do let q<-Az r;.ok (x::q)
 |_::_=>.no
noncomputable def vJ:List D->Res (List Bool)
 |[]=>.ok []
 |.bl x::r=>do let q<-vJ r;.ok (x::q)
 |_::_=>.no
noncomputable def vK(x y:Str):Res Bool:=match x.cps.toList with
 |[c]=>.ok (decide (c∈y.cps.toList))
 |_=>.no
noncomputable def cZ:D->Option (Sum Int Str)
 |.int i=>some (.inl i)
 |.str x=>some (.inr x)
 |_=>none
noncomputable def bB(kvs:List (Sum Int Str×D))(k:Sum Int Str):Option D:=(kvs.find? λkv=>decide (kv.1=k)).map (·.2)
noncomputable def dE(kvs:List (Sum Int Str×D))(k:Sum Int Str)(v:D):List (Sum Int Str×D):=
 if(kvs.any λkv=>decide (kv.1=k))=true then kvs.map (λkv=>if kv.1=k then(kv.1,v)else kv)else kvs++[(k,v)]
noncomputable def lK:List D->Option (List (Sum Int Str))
 |[]=>some []
 |d::r=>(cZ d).bind λk=>(lK r).map λq=>k::q
noncomputable def kG:List D->Option (List (Sum Int Str))
 |[]=>some []
 |.int i::r=>(kG r).map λq=>.inl i::q
 |_::_=>none
noncomputable def kH:Sum Int Str->D
 |.inl i=>.int i
 |.inr x=>.str x
noncomputable def iK(kvs:List (List (Sum Int Str)×D))(k:List (Sum Int Str)):Option D:=(kvs.find? λkv=>decide (kv.1=k)).map (·.2)
noncomputable def Res.of{α:Type}:Option α->Res α
 |some a=>.ok a
 |none=>.no
noncomputable def D.isNon:D->Bool
 |.non=>true
 |_=>false
noncomputable def D.eqOk(a b:D):Bool:=D.pl 30 a&&D.pl 30 b
noncomputable def D.mem(x:D):List D->Bool
 |[]=>false
 |y::r=>D.eqb y x||D.mem x r
noncomputable def D.inn(x:D):D->Res Bool
 |.lst ds=>aC (D.pls 30 ds&&D.pl 29 x) (.ok (D.mem x ds))
 |.tup ds=>aC (D.pls 30 ds&&D.pl 29 x) (.ok (D.mem x ds))
 |.dct kvs=>do let k<-Res.of (cZ x);.ok (bB kvs k).isSome
 |.tdc kvs=>match x with
  |.tup ks=>do let k<-Res.of (kG ks);.ok (iK kvs k).isSome
  |_=>.no
 |.str y=>match x with
  |.str z=>vK z y
  |_=>.no
 |_=>.no
noncomputable def D.cmp:CmpOp->D->D->Res D
 |.Eq,a,b=>aC (D.eqOk a b) (.ok (.bl (D.eqb a b)))
 |.NotEq,a,b=>aC (D.eqOk a b) (.ok (.bl (!D.eqb a b)))
 |.Lt,.int i,.int j=>.ok (.bl (decide (i<j)))
 |.LtE,.int i,.int j=>.ok (.bl (decide (i<=j)))
 |.Gt,.int i,.int j=>.ok (.bl (decide (j<i)))
 |.GtE,.int i,.int j=>.ok (.bl (decide (j<=i)))
 |.Is,a,.non=>.ok (.bl a.isNon)
 |.IsNot,a,.non=>.ok (.bl (!a.isNon))
 |.Is,.bl a,.bl b=>.ok (.bl (a==b))
 |.IsNot,.bl a,.bl b=>.ok (.bl (a != b))
 |.In,a,b=>do let k<-D.inn a b;.ok (.bl k)
 |.NotIn,a,b=>do let k<-D.inn a b;.ok (.bl (!k))
 |_,_,_=>.no
noncomputable def D.truth:D->Res Bool
 |.non=>.ok false
 |.bl b=>.ok b
 |.int i=>.ok (i != 0)
 |.str x=>aC (decide (x.length<=big)) (.ok ((x.length:Int) != 0))
 |.tup a=>.ok (!a.isEmpty)
 |.lst a=>.ok (!a.isEmpty)
 |.dct _=>.no
 |.tdc _=>.no
noncomputable def D.ix:D->D->Res D
 |.lst a,.int i=>Res.of (atI a i)
 |.tup a,.int i=>Res.of (atI a i)
 |.str x,.int i=>aC (decide (x.length<=big)) (Res.of ((atI x.cps.toList i).map λc=>.str ⟨#[c]⟩))
 |.dct kvs,y=>do let k<-Res.of (cZ y);Res.of (bB kvs k)
 |.tdc kvs,.tup ks=>do let k<-Res.of (kG ks);Res.of (iK kvs k)
 |_,_=>.no
noncomputable def D.part:D->Res (Option Int)
 |.non=>.ok none
 |.int i=>.ok (some i)
 |_=>.no
noncomputable def D.sl:D->Option Int->Option Int->Res D
 |.lst a,lo,hi=>.ok (.lst (cut a lo hi))
 |.tup a,lo,hi=>.ok (.tup (cut a lo hi))
 |.str x,lo,hi=>aC (decide (x.length<=big)) (.ok (.str (iJ x lo hi)))
 |_,_,_=>.no
noncomputable def D.items:D->Res (List D)
 |.lst a=>.ok a
 |.tup a=>.ok a
 |.str x=>.ok (x.cps.toList.map λc=>.str (gP c))
 |_=>.no
noncomputable def dA:List D->Res (List Int)
 |[]=>.ok []
 |.int i::r=>do let q<-dA r;.ok (i::q)
 |_::_=>.no
noncomputable def cG(lo:Int):Nat->List D
 |0=>[]
 |n+1=>.int lo::cG (lo+1) n
noncomputable def dB(k:Int):List D->List D
 |[]=>[]
 |d::r=>.tup [.int k,d]::dB (k+1) r
noncomputable def cT(i:Int):Bool:=decide (-(2^62)<=i)&&decide (i<2^62)
inductive Ty where
 |int|bool|str|tuple|list
 deriving DecidableEq,Inhabited
noncomputable def D.isDct:D->Bool
 |.dct _=>true
 |.tdc _=>true
 |_=>false
inductive Bt where
 |len|sum|tuple|list|int|str|bool|abs|min|max|all|any
 deriving DecidableEq,Inhabited
noncomputable def D.len:D->Res D
 |.lst a=>.ok (.int a.length)
 |.tup a=>.ok (.int a.length)
 |.str x=>aC (decide (x.length<=big)) (.ok (.int x.length))
 |.dct a=>.ok (.int a.length)
 |_=>.no
noncomputable def D.sum:D->Res D
 |.lst a=>do let ns<-dA a;.ok (.int ns.sum)
 |_=>.no
noncomputable def D.tuple:D->Res D
 |.lst a=>.ok (.tup a)
 |.tup a=>.ok (.tup a)
 |_=>.no
noncomputable def D.list:D->Res D
 |.lst a=>.ok (.lst a)
 |.tup a=>.ok (.lst a)
 |_=>.no
noncomputable def D.toInt:D->Res D
 |.int i=>.ok (.int i)
 |.bl b=>.ok (.int (b2z b))
 |.str x=>aC (vI x.cps.toList&&decide (x.length<=640)) (.ok (.int (vH x.cps.toList)))
 |_=>.no
noncomputable def D.toStr:D->Res D
 |.int i=>aC (decide (i.natAbs.log2<1920)) (.ok (.str (Str.ofString (toString i))))
 |_=>.no
noncomputable def D.toBool:D->Res D
 |.int i=>.ok (.bl (i != 0))
 |.bl b=>.ok (.bl b)
 |_=>.no
noncomputable def D.abs:D->Res D
 |.int i=>.ok (.int (if i<0 then -i else i))
 |_=>.no
noncomputable def D.all:D->Res D
 |.lst a=>do let q<-vJ a;.ok (.bl (q.all id))
 |_=>.no
noncomputable def D.any:D->Res D
 |.lst a=>do let q<-vJ a;.ok (.bl (q.any id))
 |_=>.no
noncomputable def maxI:Int->List Int->Int
 |m,[]=>m
 |m,n::r=>maxI (if n>m then n else m) r
noncomputable def minI:Int->List Int->Int
 |m,[]=>m
 |m,n::r=>minI (if n<m then n else m) r
noncomputable def D.maxL:D->Res D
 |.lst a=>do
  match<-dA a with
  |n::ns=>.ok (.int (maxI n ns))
  |[]=>.no
 |.tup a=>do
  match<-dA a with
  |n::ns=>.ok (.int (maxI n ns))
  |[]=>.no
 |_=>.no
noncomputable def D.minL:D->Res D
 |.lst a=>do
  match<-dA a with
  |n::ns=>.ok (.int (minI n ns))
  |[]=>.no
 |.tup a=>do
  match<-dA a with
  |n::ns=>.ok (.int (minI n ns))
  |[]=>.no
 |_=>.no
noncomputable def D.min2:D->D->Res D
 |.int i,.int j=>.ok (.int (if j<i then j else i))
 |_,_=>.no
noncomputable def D.max2:D->D->Res D
 |.int i,.int j=>.ok (.int (if j>i then j else i))
 |_,_=>.no
noncomputable def Bt.one:Bt->D->Res D
 |.len=>D.len
 |.sum=>D.sum
 |.tuple=>D.tuple
 |.list=>D.list
 |.int=>D.toInt
 |.str=>D.toStr
 |.bool=>D.toBool
 |.abs=>D.abs
 |.all=>D.all
 |.any=>D.any
 |.min=>D.minL
 |.max=>D.maxL
noncomputable def Bt.two:Bt->D->D->Res D
 |.min=>D.min2
 |.max=>D.max2
 |_=>λ_ _=>.no
noncomputable def Bt.run(b:Bt):List D->Res D
 |[d]=>b.one d
 |[d,d']=>b.two d d'
 |_=>.no
noncomputable def nD:D->Res (List D)
 |.tdc kvs=>.ok (kvs.map λkv=>.tup (kv.1.map kH))
 |.dct kvs=>.ok (kvs.map λkv=>kH kv.1)
 |_=>.no
noncomputable def fX(n:Int):List Int->List Int
 |[]=>[n]
 |m::r=>if n<=m then n::m::r else m::fX n r
noncomputable def dN:List Int->List Int
 |[]=>[]
 |n::r=>fX n (dN r)
noncomputable def srtR:D->Res D
 |.lst a=>do let ns<-dA a;aC (decide (ns.length<64)) (.ok (.lst ((dN ns).map D.int)))
 |_=>.no
inductive Mt where
 |split|join|index
 deriving DecidableEq,Inhabited
noncomputable def Mt.run:Mt->D->D->Res D
 |.split,.str x,.str y=>match y.cps.toList with
  |[c]=>aC (decide (x.length<big)&&decide (c<256)) (.ok (.lst ((splitS x c).map D.str)))
  |_=>.no
 |.join,.str g,.lst ds=>do
  let xs<-Az ds
  aC (decide (g.length<=64)&&decide ((xs.map (·.length)).sum+xs.length*64<=big)) (.ok (.str (joinS g xs)))
 |.index,.lst ds,.int i=>do let ns<-dA ds;aC (ns.contains i) (.ok (.int (ns.idxOf i:Nat)))
 |_,_,_=>.no
noncomputable def vQ:List D->Res (List (Sum Int Str))
 |[]=>.ok []
 |d::r=>do let k<-Res.of (cZ d);let q<-vQ r;.ok (k::q)
noncomputable def D.keys:D->Res (List (Sum Int Str))
 |.lst ds=>vQ ds
 |.tup ds=>vQ ds
 |.str x=>.ok (x.cps.toList.map λc=>.inr ⟨#[c]⟩)
 |_=>.no
noncomputable def metD(ks:List (Sum Int Str)):List (Sum Int Str):=ks.foldl (λacc k=>if acc.any (λx=>decide (x=k))then acc else acc++[k]) []
noncomputable def pairs72:List (Nat×Nat):=(aF 9).flatMap λa=>(aF 8).map λb=>(a,b)
noncomputable def vS:List Nat->List (List Nat)
 |[]=>[[]]
 |a::r=>vS r++(vS r).map (a::·)
noncomputable def keyTab:List (List Nat):=(pairs72.map λp=>[p.1,p.2])++(vS (aF 6)).filter λk=>k.length != 2
noncomputable def BA:List D->Option (List Nat)
 |[]=>some []
 |.int a::r=>if decide (0<=a)then(BA r).bind λq=>some (a.toNat::q)else none
 |_=>none
noncomputable def pairOf:D->Option (List Nat)
 |.tup ks=>(BA ks).bind λk=>if keyTab.contains k then some k else none
 |_=>none
noncomputable def BB:List D->Option (List (List Nat))
 |[]=>some []
 |d::r=>(pairOf d).bind λp=>(BB r).bind λq=>some (p::q)
noncomputable def metN(l:List (List Nat)):List (List Nat):=l.foldl (λacc k=>if acc.contains k then acc else acc++[k]) []
noncomputable def D.setN(x:D):Res D:=match x.keys with
 |.ok ks=>aC (decide (ks.length+1<4096)) (.ok (.int (metD ks).length))
 |_=>match x with
  |.lst ds=>match BB ds with
   |some ps=>aC (decide (ps.length<=72)) (.ok (.int (metN ps).length))
   |none=>.no
  |_=>.no
set_option genInjectivity false in
inductive G where
 |one (i:Nat)|many (is:List Nat)
 deriving Inhabited
set_option genInjectivity false in
inductive E where
 |var (i:Nat)|rd (i:Nat)|con (d:D)|glob (g:Nat)
 |bin (o:Operator) (a b:E)|cmp (o:CmpOp) (a b:E)
 |and (a b:E)|or (a b:E)|neg (a:E)|ife (c a b:E)
 |ix (a b:E)|sl (a lo hi:E)|omit
 |tup (a:E)|lst (a:E)|anil|acons (a r:E)
 |call (f:Nat) (a:E)|bt (b:Bt) (a:E)
 |comp (own:Nat) (caps:List Nat) (g:G) (elt src cond:E)
 |seq (a:E)|rng (a:E)|rng2 (a b:E)|enum (a:E)
 |dck (a:E)|seqD (a:E)|srt (a:E)
 deriving Inhabited
set_option genInjectivity false in
inductive S where
 |nil|cons (a r:S)
 |ret (e:E)|retO (i:Nat)
 |asg (g:G) (e:E)|asgO (i:Nat) (e:E)|sealed (i:Nat)
 |ite (c:E) (a b:S)|forS (g:G) (src:E) (b:S)
 |app (i:Nat) (e:E)
 |ext (i:Nat) (e:E)
 |lput (i:Nat) (k e:E)
 |exp (e:E)|rais (c:Str) (a:E)
 |newD (i:Nat)|asgN (i:Nat) (e:E)
 |extN (i j:Nat)|dputR (i:Nat) (k v:E)|retR (e:E) (i j:Nat)|ifR (neg:Bool) (c:E) (f:Nat) (x:E) (i j:Nat) (y:E) (a b:S)
 deriving Inhabited
inductive Sl where
 |no|v (d:D)|o (d:D)|t (ds:List D)|n (d:D)|r (a:Nat) (d:D)
 deriving Inhabited
noncomputable abbrev Nv:=List Sl
noncomputable def Nv.at(e:Nv)(i:Nat):Sl:=(e[i]?).getD .no
noncomputable def Sl.val:Sl->Res D
 |.v d=>.ok d
 |.n d=>.ok d
 |_=>.no
noncomputable def Sl.any:Sl->Res D
 |.v d=>.ok d
 |.n d=>.ok d
 |.o d=>.ok d
 |.r _ d=>.ok d
 |_=>.no
noncomputable def Sl.own:Sl->Res (List D)
 |.o (.lst a)=>.ok a
 |_=>.no
noncomputable def Sl.refD:Sl->Res (Nat×List (Sum Int Str×D))
 |.r a (.dct k)=>.ok (a,k)
 |_=>.no
noncomputable def Sl.givD:Sl->Res (List (Sum Int Str×D))
 |.o (.dct k)=>.ok k
 |.r _ (.dct k)=>.ok k
 |_=>.no
noncomputable def Sl.giv(x:Sl)(d:D):Sl:=match x with
 |.r a _=>.r a d
 |_=>.o d
noncomputable def Sl.ownA:Sl->Res D
 |.o d=>.ok d
 |_=>.no
noncomputable def cO:List Nat->List D->Nv->Res Nv
 |[],[],e=>.ok e
 |i::r,d::q,e=>cO r q (e.set i (.v d))
 |_,_,_=>.no
noncomputable def G.put:G->D->Nv->Res Nv
 |.one i,d,e=>.ok (e.set i (.v d))
 |.many is,.tup ds,e=>cO is ds e
 |_,_,_=>.no
noncomputable def aU(own:Nat)(caps:List Nat)(e:Nv):Nv:=aO own Sl.no++caps.map λi=>e.at i
noncomputable def jG:List (Sum Int Str×D)->Res (List Int)
 |[]=>.ok []
 |(.inl n,_)::r=>do let q<-jG r;.ok (n::q)
 |_=>.no
noncomputable def gQ:List D->Res (List (Sum Int Str×D))
 |[]=>.ok []
 |.tup [k,v]::r=>do let k<-Res.of (cZ k);let q<-gQ r;.ok ((k,v)::q)
 |_=>.no
noncomputable def eG(qs kvs:List (Sum Int Str×D)):List (Sum Int Str×D):=qs.foldl (λm q=>dE m q.1 q.2) kvs
noncomputable def nE:D->Res D
 |.lst ds=>do let qs<-gQ ds;.ok (.dct (eG qs []))
 |_=>.no
noncomputable def nF:D->Res D
 |.dct kvs=>do let ns<-jG kvs;aC (decide (ns.length<64)) (.ok (.lst ((dN ns).map D.int)))
 |.lst a=>srtR (.lst a)
 |_=>.no
set_option genInjectivity false in
structure Tab where
 glob:Nat->D
 fresh:Nat->Bool
 mv:Nat->Option Nat:=λ_=>none
section
variable(T:Tab)(cf:Nat->List D->Res D)
noncomputable def qF:List D->Bool
 |.lst _::_=>true
 |.int _::r=>qF r
 |_=>false
noncomputable def kI:D->Bool
 |.tup ds=>qF ds
 |_=>false
noncomputable def D.flatL:D->Bool
 |.lst ds=>D.flats ds
 |_=>false
noncomputable def bE:E->Bool
 |.lst _=>true
 |.sl _ _ _=>true
 |.bin .Add _ _=>true
 |.comp _ _ _ _ _ _=>true
 |.bt .list _=>true
 |.call f _=>T.fresh f
 |.srt _=>true
 |_=>false
noncomputable def BC:E->Nat->E
 |.acons a _,0=>a
 |.acons _ r,n+1=>BC r n
 |_,_=>.omit
noncomputable def Sl.isN:Sl->Bool
 |.n _=>true
 |_=>false
noncomputable def nG(x:E)(e:Nv):Bool:=bE T x||(match x with | .var j=>(e.at j).isN|_=>false)
noncomputable def aT(f:D->Res (Option D)):List D->Res (List D)
 |[]=>.ok []
 |d::r=>do
  let x<-f d
  let q<-aT f r
  match x with
  |some y=>.ok (y::q)
  |none=>.ok q
mutual
noncomputable def evE:E->Nv->Res D
 |.var i,e=>(e.at i).val
 |.rd i,e=>(e.at i).any
 |.con d,_=>.ok d
 |.glob g,_=>.ok (T.glob g)
 |.bin o a b,e=>do let x<-evE a e;let y<-evE b e;D.bin o x y
 |.cmp o a b,e=>do let x<-evE a e;let y<-evE b e;D.cmp o x y
 |.and a b,e=>do let x<-evE a e;let k<-x.truth;if k then evE b e else .ok x
 |.or a b,e=>do let x<-evE a e;let k<-x.truth;if k then .ok x else evE b e
 |.neg a,e=>do
  match<-evE a e with
  |.int i=>.ok (.int (-i))
  |_=>.no
 |.ife c a b,e=>do let x<-evE c e;let k<-x.truth;if k then evE a e else evE b e
 |.ix a b,e=>do let x<-evE a e;let y<-evE b e;D.ix x y
 |.sl a lo hi,e=>do let x<-evE a e;let l<-evE lo e;let l<-l.part;let h<-evE hi e;let h<-h.part;D.sl x l h
 |.omit,_=>.ok .non
 |.tup a,e=>do let xs<-evA a e;.ok (.tup xs)
 |.lst a,e=>do let xs<-evA a e;.ok (.lst xs)
 |.call f a,e=>do let xs<-evA a e;cf f xs
 |.srt a,e=>do let x<-evE a e;nF x
 |.dck a,e=>do let x<-evE a e;nE x
 |.bt b a,e=>do let xs<-evA a e;b.run xs
 |.comp own caps g elt src cond,e=>do
  let ds<-evI src e
  let ys<-aT (λd=>do
   let e1<-g.put d (aU own caps e)
   let c<-evE cond e1
   let k<-c.truth
   if k then do let y<-evE elt e1;.ok (some y)else .ok none) ds
  aC (decide (ds.length<=big)) (.ok (.lst ys))
 |_,_=>.no
noncomputable def evA:E->Nv->Res (List D)
 |.anil,_=>.ok []
 |.acons a r,e=>do let x<-evE a e;let q<-evA r e;aC (decide (q.length<1000)) (.ok (x::q))
 |_,_=>.no
noncomputable def evI:E->Nv->Res (List D)
 |.seq a,e=>do let x<-evE a e;x.items
 |.rng a,e=>do
  match<-evE a e with
  |.int n=>aC (cT n) (.ok (cG 0 n.toNat))
  |_=>.no
 |.rng2 a b,e=>do
  match<-evE a e with
  |.int n=>do
   match<-evE b e with
   |.int m=>aC (cT n&&cT m) (.ok (cG n (m-n).toNat))
   |_=>.no
  |_=>.no
 |.enum a,e=>do
  match<-evE a e with
  |.lst ds=>.ok (dB 0 ds)
  |_=>.no
 |.seqD a,e=>do let x<-evE a e;nD x
 |_,_=>.no
end
noncomputable def qG(n:Nat):D->Res Nat
 |.int v=>aC (cT v) (Res.of (ixN n v))
 |_=>.no
noncomputable def D.isInt:D->Bool
 |.int _=>true
 |_=>false
inductive Out where
 |nx (e:Nv)|rt (d:D) (fresh:Bool)|bk (e:Nv)|ct (e:Nv)|rr (d:D) (a:Nat) (j:List (Sum Int Str×D)) (b:Nat) (k:List (Sum Int Str×D))
 deriving Inhabited
noncomputable def aR(f:D->Nv->Res Out):List D->Nv->Res Out
 |[],e=>.ok (.nx e)
 |d::r,e=>do
  match<-f d e with
  |.nx e1=>aR f r e1
  |.ct e1=>aR f r e1
  |.bk e1=>.ok (.nx e1)
  |.rt x k=>.ok (.rt x k)
  |.rr x a j b k=>.ok (.rr x a j b k)
noncomputable def fG(f:Nat)(x:D)(j k:List (Sum Int Str×D))(y:D):Res (D×List (Sum Int Str×D)×List (Sum Int Str×D)):=
 open Classical in if h:∃r:D×List (Sum Int Str×D)×List (Sum Int Str×D),∀a b:Nat,a≠b->cf f [x,.tup [.int a,.dct j],.tup [.int b,.dct k],y]=.ok (.tup [r.1,.dct r.2.1,.dct r.2.2])then .ok h.choose else .no
noncomputable def exS:S->Nv->Res Out
 |.nil,e=>.ok (.nx e)
 |.cons a r,e=>do
  match<-exS a e with
  |.nx e1=>exS r e1
  |o=>.ok o
 |.ret x,e=>do let d<-evE T cf x e;.ok (.rt d (bE T x&&!kI d))
 |.retO i,e=>do let a<-(e.at i).ownA;.ok (.rt a (!a.isDct))
 |.asg g x,e=>do let d<-evE T cf x e;let e1<-g.put d e;.ok (.nx e1)
 |.asgO i x,e=>do
  match<-evE T cf x e with
  |.lst a=>aC (bE T x) (.ok (.nx (e.set i (.o (.lst a)))))
  |.dct a=>aC (bE T x) (.ok (.nx (e.set i (.o (.dct a)))))
  |.tdc a=>aC (bE T x) (.ok (.nx (e.set i (.o (.tdc a)))))
  |_=>.no
 |.sealed i,e=>do let a<-(e.at i).ownA;.ok (.nx (e.set i (.v a)))
 |.ite c a b,e=>do let x<-evE T cf c e;let k<-x.truth;if k then exS a e else exS b e
 |.forS g src b,e=>do
  let ds<-evI T cf src e
  aR (λd e0=>do let e1<-g.put d e0;exS b e1) ds e
 |.app i x,e=>do
  let d<-evE T cf x e
  let a<-(e.at i).own
  aC (decide (a.length<big)) (.ok (.nx (e.set i (.o (.lst (a++[d]))))))
 |.newD i,e=>.ok (.nx (e.set i (.o (.dct []))))
 |.ext i x,e=>do
  match<-evE T cf x e with
  |.lst b=>do
   let a<-(e.at i).own
   aC (bE T x&&decide (a.length+b.length<=big)) (.ok (.nx (e.set i (.o (.lst (a++b))))))
  |_=>.no
 |.lput i k x,e=>do
  let d<-evE T cf x e
  let a<-(e.at i).own
  let y<-evE T cf k e
  let j<-qG a.length y
  .ok (.nx (e.set i (.o (.lst (a.set j d)))))
 |.exp x,e=>do let _<-evE T cf x e;.ok (.nx e)
 |.rais _ _,_=>.no
 |.asgN i x,e=>do let d<-evE T cf x e;aC (nG T x e&&(d.isNon||d.flatL)) (.ok (.nx (e.set i (.n d))))
 |.extN i j,e=>
  match e.at j with
  |.n (.lst b)=>do
   let a<-(e.at i).own
   aC (decide (a.length+b.length<=big)) (.ok (.nx (e.set i (.o (.lst (a++b))))))
  |_=>.no
 |.dputR i k x,e=>do
  let d<-evE T cf x e
  let a<-(e.at i).refD
  let y<-evE T cf k e
  let key<-Res.of (cZ y)
  aC (decide (a.2.length<big)) (.ok (.nx (e.set i (.r a.1 (.dct (dE a.2 key d))))))
 |.retR x i j,e=>do
  let d<-evE T cf x e
  let a<-(e.at i).refD
  let b<-(e.at j).refD
  .ok (.rr d a.1 a.2 b.1 b.2)
 |.ifR neg c f x i j y a b,e=>aC (decide (T.mv f=some 1000)&&decide (i≠j)) (do
  let k0<-(if neg then .ok false else do let z<-evE T cf c e;z.truth)
  if k0 then exS a e else do
   let d1<-evE T cf x e
   let g<-(e.at i).givD
   let h<-(e.at j).givD
   let d2<-evE T cf y e
   let r<-fG cf f d1 g h d2
   let k<-r.1.truth
   let e1:=(e.set i ((e.at i).giv (.dct r.2.1))).set j ((e.at j).giv (.dct r.2.2))
   if(k != neg)then exS a e1 else exS b e1)
noncomputable def BD:E->Bool
 |.seq (.rd _)=>true
 |_=>false
noncomputable def fY(f:D->Nv->Option (Str×D))(s:D->Nv->Res Out):List D->Nv->Option (Str×D)
 |[],_=>none
 |d::r,e=>match f d e with
  |some z=>some z
  |none=>match s d e with
   |.ok (.nx e1)=>fY f s r e1
   |.ok (.ct e1)=>fY f s r e1
   |_=>none
noncomputable def exX:S->Nv->Option (Str×D)
 |.cons a r,e=>match exX a e with
  |some z=>some z
  |none=>match exS T cf a e with
   |.ok (.nx e1)=>exX r e1
   |_=>none
 |.ite c a b,e=>match evE T cf c e with
  |.ok x=>match x.truth with
   |.ok true=>exX a e
   |.ok false=>exX b e
   |_=>none
  |_=>none
 |.exp (.call f a),e=>match evA T cf a e with
  |.ok ds=>match cf f ds with
   |.err c d=>some (c,d)
   |_=>none
  |_=>none
 |.rais c a,e=>match evA T cf a e with
  |.ok [.str _]=>some (c,.non)
  |_=>none
 |.forS g src b,e=>if BD src then none else match evI T cf src e with
  |.ok ds=>fY (λd e0=>match g.put d e0 with
   |.ok e1=>exX b e1
   |_=>none) (λd e0=>do let e1<-g.put d e0;exS T cf b e1) ds e
  |_=>none
 |_,_=>none
end
noncomputable def cH:S->Bool
 |.nil=>true
 |.cons a r=>cH a&&cH r
 |.ite _ a b=>cH a&&cH b
 |.exp _=>true
 |_=>false
structure Told where
 b:S
 c:Str
 yes:D
 thr:D
 ini:D:=.non
 num:Bool:=false
 deriving Inhabited
set_option genInjectivity false in
structure Df where
 names:Nat
 pars:Nat
 body:S
 told:Option Told:=none
 deriving Inhabited
noncomputable def dF(mv:Option Nat)(ds:List D):Nv:=match mv with
 |none=>ds.map Sl.v
 |some j=>(ds.map Sl.v).set j (.n (ds.getD j .non))
noncomputable def BE:List D->Option (Nat×Nat×Nv)
 |[x,.tup [.int a,.dct j],.tup [.int b,.dct k],y]=>some (a.toNat,b.toNat,[.v x,.r a.toNat (.dct j),.r b.toNat (.dct k),.v y])
 |_=>none
noncomputable def aB(T:Tab)(defs:List Df):Nat->Nat->List D->Res D
 |0,_,_=>.no
 |n+1,f,ds=>
  match defs[f]? with
  |none=>.no
  |some d=>
   aC (ds.length==d.pars) (match d.told with
    |none=>if T.mv f=some 1000 then(match BE ds with
     |none=>.no
     |some z=>match exS T (aB T defs n) d.body (z.2.2++aO (d.names-d.pars) Sl.no)with
      |.ok (.rr x a j b k)=>aC (a==z.1&&b==z.2.1) (.ok (.tup [x,.dct j,.dct k]))
      |_=>.no)else match exX T (aB T defs n) d.body (dF (T.mv f) ds++aO (d.names-d.pars) Sl.no)with
     |some z=>.err z.1 z.2
     |none=>match exS T (aB T defs n) d.body (dF (T.mv f) ds++aO (d.names-d.pars) Sl.no)with
      |.ok (.rt x k)=>aC (k||!T.fresh f) (.ok x)
      |.ok (.nx _)=>aC (!T.fresh f) (.ok .non)
      |_=>.no
    |some t=>match exX T (aB T defs n) t.b (ds.map Sl.v++[.v t.ini,.no])with
     |some z=>aC (z.1==t.c&&!T.fresh f) (if t.num then(match z.2 with | .int v=>.ok (.int v)|_=>.no)else .ok t.yes)
     |none=>match exS T (aB T defs n) t.b (ds.map Sl.v++[.v t.ini,.no])with
      |.ok (.nx _)=>aC (!T.fresh f) (.ok t.thr)
      |_=>.no)
theorem gR{T:Tab}{defs:List Df}{n f:Nat}{ds:List D}:aB T defs (n+1) f ds=(
 match defs[f]? with
 |none=>.no
 |some d=>
  aC (ds.length==d.pars) (match d.told with
   |none=>if T.mv f=some 1000 then(match BE ds with
    |none=>.no
    |some z=>match exS T (aB T defs n) d.body (z.2.2++aO (d.names-d.pars) Sl.no)with
     |.ok (.rr x a j b k)=>aC (a==z.1&&b==z.2.1) (.ok (.tup [x,.dct j,.dct k]))
     |_=>.no)else match exX T (aB T defs n) d.body (dF (T.mv f) ds++aO (d.names-d.pars) Sl.no)with
    |some z=>.err z.1 z.2
    |none=>match exS T (aB T defs n) d.body (dF (T.mv f) ds++aO (d.names-d.pars) Sl.no)with
     |.ok (.rt x k)=>aC (k||!T.fresh f) (.ok x)
     |.ok (.nx _)=>aC (!T.fresh f) (.ok .non)
     |_=>.no
   |some t=>match exX T (aB T defs n) t.b (ds.map Sl.v++[.v t.ini,.no])with
    |some z=>aC (z.1==t.c&&!T.fresh f) (if t.num then(match z.2 with | .int v=>.ok (.int v)|_=>.no)else .ok t.yes)
    |none=>match exS T (aB T defs n) t.b (ds.map Sl.v++[.v t.ini,.no])with
     |.ok (.nx _)=>aC (!T.fresh f) (.ok t.thr)
     |_=>.no)):=rfl
section
variable{T:Tab}{cf:Nat->List D->Res D}{e:Nv}
theorem vT{i:Nat}:evE T cf (.var i) e=((e.at i).val):=rfl
theorem BF{i:Nat}:evE T cf (.rd i) e=((e.at i).any):=rfl
theorem vU{d:D}:evE T cf (.con d) e=(.ok d):=rfl
theorem GL{g:Nat}:evE T cf (.glob g) e=(.ok (T.glob g)):=rfl
theorem xE_cmp{o:CmpOp}{a:E}{b:E}:evE T cf (.cmp o a b) e=(do let x<-evE T cf a e;let y<-evE T cf b e;D.cmp o x y):=rfl
theorem BG{a:E}{b:E}:evE T cf (.and a b) e=(do let x<-evE T cf a e;let k<-x.truth;if k then evE T cf b e else .ok x):=rfl
theorem BH{a:E}{b:E}:evE T cf (.or a b) e=(do let x<-evE T cf a e;let k<-x.truth;if k then .ok x else evE T cf b e):=rfl
theorem BI{a:E}:evE T cf (.neg a) e=(do
 match<-evE T cf a e with
 |.int i=>.ok (.int (-i))
 |_=>.no):=rfl
theorem BJ{c:E}{a:E}{b:E}:evE T cf (.ife c a b) e=(do let x<-evE T cf c e;let k<-x.truth;if k then evE T cf a e else evE T cf b e):=rfl
theorem BL{a:E}{lo:E}{hi:E}:evE T cf (.sl a lo hi) e=(do let x<-evE T cf a e;let l<-evE T cf lo e;let l<-l.part;let h<-evE T cf hi e;let h<-h.part;D.sl x l h):=rfl
theorem GM  : evE T cf (.«omit») e=(.ok .non):=rfl
theorem xE_tup{a:E}:evE T cf (.tup a) e=(do let xs<-evA T cf a e;.ok (.tup xs)):=rfl
theorem nH{a:E}:evE T cf (.lst a) e=(do let xs<-evA T cf a e;.ok (.lst xs)):=rfl
theorem vV{f:Nat}{a:E}:evE T cf (.call f a) e=(do let xs<-evA T cf a e;cf f xs):=rfl
theorem GN{a:E}:evI T cf (.seqD a) e=(do let x<-evE T cf a e;nD x):=rfl
theorem xE_srt{a:E}:evE T cf (.srt a) e=(do let x<-evE T cf a e;nF x):=rfl
theorem xE_dck{a:E}:evE T cf (.dck a) e=(do let x<-evE T cf a e;nE x):=rfl
theorem xE_bt{b:Bt}{a:E}:evE T cf (.bt b a) e=(do let xs<-evA T cf a e;b.run xs):=rfl
theorem BM{own:Nat}{caps:List Nat}{g:G}{elt:E}{src:E}{cond:E}:evE T cf (.comp own caps g elt src cond) e=(do
 let ds<-evI T cf src e
 let ys<-aT (λd=>do
  let e1<-g.put d (aU own caps e)
  let c<-evE T cf cond e1
  let k<-c.truth
  if k then do let y<-evE T cf elt e1;.ok (some y)else .ok none) ds
 aC (decide (ds.length<=big)) (.ok (.lst ys))):=rfl
theorem nI  : evA T cf (.anil) e=(.ok []):=rfl
theorem qH{a:E}{r:E}:evA T cf (.acons a r) e=(do let x<-evE T cf a e;let q<-evA T cf r e;aC (decide (q.length<1000)) (.ok (x::q))):=rfl
theorem xI_seq{a:E}:evI T cf (.seq a) e=(do let x<-evE T cf a e;x.items):=rfl
theorem BN{a:E}:evI T cf (.rng a) e=(do
 match<-evE T cf a e with
 |.int n=>aC (cT n) (.ok (cG 0 n.toNat))
 |_=>.no):=rfl
theorem BO{a:E}{b:E}:evI T cf (.rng2 a b) e=(do
 match<-evE T cf a e with
 |.int n=>do
  match<-evE T cf b e with
  |.int m=>aC (cT n&&cT m) (.ok (cG n (m-n).toNat))
  |_=>.no
 |_=>.no):=rfl
theorem BP{a:E}:evI T cf (.enum a) e=(do
 match<-evE T cf a e with
 |.lst ds=>.ok (dB 0 ds)
 |_=>.no):=rfl
theorem kJ  : exS T cf (.nil) e=(.ok (.nx e)):=rfl
theorem fZ{a:S}{r:S}:exS T cf (.cons a r) e=(do
 match<-exS T cf a e with
 |.nx e1=>exS T cf r e1
 |o=>.ok o):=rfl
theorem BQ{x:E}:exS T cf (.ret x) e=(do let d<-evE T cf x e;.ok (.rt d (bE T x&&!kI d))):=rfl
theorem BR{i:Nat}:exS T cf (.retO i) e=(do let a<-(e.at i).ownA;.ok (.rt a (!a.isDct))):=rfl
theorem lL{g:G}{x:E}:exS T cf (.asg g x) e=(do let d<-evE T cf x e;let e1<-g.put d e;.ok (.nx e1)):=rfl
theorem nJ{i:Nat}{x:E}:exS T cf (.asgO i x) e=(do
 match<-evE T cf x e with
 |.lst a=>aC (bE T x) (.ok (.nx (e.set i (.o (.lst a)))))
 |.dct a=>aC (bE T x) (.ok (.nx (e.set i (.o (.dct a)))))
 |.tdc a=>aC (bE T x) (.ok (.nx (e.set i (.o (.tdc a)))))
 |_=>.no):=rfl
theorem qI{i:Nat}:exS T cf (.«sealed» i) e=(do let a<-(e.at i).ownA;.ok (.nx (e.set i (.v a)))):=rfl
theorem jH{c:E}{a:S}{b:S}:exS T cf (.ite c a b) e=(do let x<-evE T cf c e;let k<-x.truth;if k then exS T cf a e else exS T cf b e):=rfl
theorem qJ{g:G}{src:E}{b:S}:exS T cf (.forS g src b) e=(do
 let ds<-evI T cf src e
 aR (λd e0=>do let e1<-g.put d e0;exS T cf b e1) ds e):=rfl
theorem BS{i:Nat}{x:E}:exS T cf (.app i x) e=(do
 let d<-evE T cf x e
 let a<-(e.at i).own
 aC (decide (a.length<big)) (.ok (.nx (e.set i (.o (.lst (a++[d]))))))):=rfl
theorem GO{f:Nat}{x y:D}{j k:List (Sum Int Str×D)}{r:D×List (Sum Int Str×D)×List (Sum Int Str×D)}(h:fG cf f x j k y=.ok r):∀a b:Nat,a≠b->cf f [x,.tup [.int a,.dct j],.tup [.int b,.dct k],y]=.ok (.tup [r.1,.dct r.2.1,.dct r.2.2]):=by
 unfold fG at h
 split at h
 ·rename_i hx
  injection h with h
  rw[<-h]
  exact hx.choose_spec
 ·cases h
theorem BU{f:Nat}{x y:D}{j k:List (Sum Int Str×D)}{r:D×List (Sum Int Str×D)×List (Sum Int Str×D)}(h:∀a b:Nat,a≠b->cf f [x,.tup [.int a,.dct j],.tup [.int b,.dct k],y]=.ok (.tup [r.1,.dct r.2.1,.dct r.2.2])):fG cf f x j k y=.ok r:=by
 unfold fG
 have hx:∃r:D×List (Sum Int Str×D)×List (Sum Int Str×D),∀a b:Nat,a≠b->cf f [x,.tup [.int a,.dct j],.tup [.int b,.dct k],y]=.ok (.tup [r.1,.dct r.2.1,.dct r.2.2]):=⟨r,h⟩
 rw[dif_pos hx]
 have h1:=hx.choose_spec 0 1 (by lia)
 rw[h 0 1 (by lia)]at h1
 injection h1 with h1
 injection h1 with h1
 injection h1 with a1 h1
 injection h1 with a2 h1
 injection h1 with a3 _
 injection a2 with a2
 injection a3 with a3
 have:hx.choose=r:=Prod.ext a1.symm (Prod.ext a2.symm a3.symm)
 rw[this]
theorem vW{i j:Nat}:exS T cf (.extN i j) e=(
 match e.at j with
 |.n (.lst b)=>do
  let a<-(e.at i).own
  aC (decide (a.length+b.length<=big)) (.ok (.nx (e.set i (.o (.lst (a++b))))))
 |_=>.no):=rfl
theorem BV{i:Nat}{k:E}{x:E}:exS T cf (.dputR i k x) e=(do
 let d<-evE T cf x e
 let a<-(e.at i).refD
 let y<-evE T cf k e
 let key<-Res.of (cZ y)
 aC (decide (a.2.length<big)) (.ok (.nx (e.set i (.r a.1 (.dct (dE a.2 key d))))))):=rfl
theorem BW{x:E}{i j:Nat}:exS T cf (.retR x i j) e=(do
 let d<-evE T cf x e
 let a<-(e.at i).refD
 let b<-(e.at j).refD
 .ok (.rr d a.1 a.2 b.1 b.2)):=rfl
theorem kK{neg:Bool}{c x y:E}{f i j:Nat}{a b:S}:exS T cf (.ifR neg c f x i j y a b) e=aC (decide (T.mv f=some 1000)&&decide (i≠j)) (do
 let k0<-(if neg then .ok false else do let z<-evE T cf c e;z.truth)
 if k0 then exS T cf a e else do
  let d1<-evE T cf x e
  let g<-(e.at i).givD
  let h<-(e.at j).givD
  let d2<-evE T cf y e
  let r<-fG cf f d1 g h d2
  let k<-r.1.truth
  let e1:=(e.set i ((e.at i).giv (.dct r.2.1))).set j ((e.at j).giv (.dct r.2.2))
  if(k != neg)then exS T cf a e1 else exS T cf b e1):=rfl
theorem BX{i:Nat}:exS T cf (.newD i) e=.ok (.nx (e.set i (.o (.dct [])))):=rfl
theorem vY{i:Nat}{x:E}:exS T cf (.ext i x) e=(do
 match<-evE T cf x e with
 |.lst b=>do
  let a<-(e.at i).own
  aC (bE T x&&decide (a.length+b.length<=big)) (.ok (.nx (e.set i (.o (.lst (a++b))))))
 |_=>.no):=rfl
theorem BY{i:Nat}{k:E}{x:E}:exS T cf (.lput i k x) e=(do
 let d<-evE T cf x e
 let a<-(e.at i).own
 let y<-evE T cf k e
 let j<-qG a.length y
 .ok (.nx (e.set i (.o (.lst (a.set j d)))))):=rfl
theorem jI{x:E}:exS T cf (.exp x) e=(do let _<-evE T cf x e;.ok (.nx e)):=rfl
theorem vZ{i:Nat}{x:E}:exS T cf (.asgN i x) e=(do let d<-evE T cf x e;aC (nG T x e&&(d.isNon||d.flatL)) (.ok (.nx (e.set i (.n d))))):=rfl
theorem BZ{c:Str}{a:E}:exS T cf (.rais c a) e=(.no):=rfl
end
section
variable{T:Tab}{cf:Nat->List D->Res D}{e:Nv}
theorem kL:exX T cf .nil e=none:=rfl
theorem gS{a r:S}:exX T cf (.cons a r) e=(match exX T cf a e with
 |some z=>some z
 |none=>match exS T cf a e with
  |.ok (.nx e1)=>exX T cf r e1
  |_=>none):=rfl
theorem gT{c:E}{a b:S}:exX T cf (.ite c a b) e=(match evE T cf c e with
 |.ok x=>match x.truth with
  |.ok true=>exX T cf a e
  |.ok false=>exX T cf b e
  |_=>none
 |_=>none):=rfl
theorem gU{f:Nat}{a:E}:exX T cf (.exp (.call f a)) e=(match evA T cf a e with
 |.ok ds=>match cf f ds with
  |.err c d=>some (c,d)
  |_=>none
 |_=>none):=rfl
theorem B3{g:G}{src:E}{b:S}:exX T cf (.forS g src b) e=(if BD src then none else match evI T cf src e with
 |.ok ds=>fY (λd e0=>match g.put d e0 with
  |.ok e1=>exX T cf b e1
  |_=>none) (λd e0=>do let e1<-g.put d e0;exS T cf b e1) ds e
 |_=>none):=rfl
theorem jJ{c:Str}{a:E}:exX T cf (.rais c a) e=(match evA T cf a e with
 |.ok [.str _]=>some (c,.non)
 |_=>none):=rfl
end
section
variable{T:Tab}{cf:Nat->List D->Res D}
theorem wA{f:D->Nv->Option (Str×D)}{s:D->Nv->Res Out}(hf:∀d e z,f d e=some z->∀o,s d e≠.ok o):∀(ds:List D)(e:Nv){z:Str×D},fY f s ds e=some z->∀o,aR s ds e≠.ok o
 |[],_,_,h,_,_=>by cases h
 |d::r,e,z,h,o,k=>by
  unfold fY at h
  unfold aR at k
  cases ha:f d e with
  |some z'=>
   cases hs:s d e with
   |ok o'=>exact hf _ _ _ ha o' hs
   |err c d=>rw[hs]at k;cases k
   |no=>rw[hs]at k;cases k
  |none=>
   rw[ha]at h
   cases hs:s d e with
   |ok o'=>
    rw[hs]at h k
    cases o' with
    |nx e1=>exact wA hf r e1 h o k
    |ct e1=>exact wA hf r e1 h o k
    |_=>cases h
   |err c d=>rw[hs]at h;cases h
   |no=>rw[hs]at h;cases h
theorem jK:∀{x:S} {e:Nv} {z:Str×D},exX T cf x e=some z->∀o,exS T cf x e≠.ok o
 |.cons a r,e,z,h,o,k=>by
  rw[gS]at h
  rw[fZ]at k
  cases ha:exX T cf a e with
  |some z'=>
   have:=jK ha
   cases hs:exS T cf a e with
   |ok o'=>exact this o' hs
   |err c d=>rw[hs]at k;cases k
   |no=>rw[hs]at k;cases k
  |none=>
   rw[ha]at h
   cases hs:exS T cf a e with
   |ok o'=>
    rw[hs]at h k
    cases o' with
    |nx e1=>exact jK h o k
    |_=>cases h
   |err c d=>rw[hs]at h;cases h
   |no=>rw[hs]at h;cases h
 |.ite c a b,e,z,h,o,k=>by
  rw[gT]at h
  rw[jH]at k
  cases hc:evE T cf c e with
  |ok x=>
   rw[hc]at h k
   cases ht:x.truth with
   |ok q=>
    have k:(do let q<-x.truth;if q=true then exS T cf a e else exS T cf b e)=.ok o:=k
    simp only[ht]at h
    rw[ht]at k
    cases q with
    |true=>exact jK h o k
    |false=>exact jK h o k
   |err _ _=>simp only[ht]at h;cases h
   |no=>simp only[ht]at h;cases h
  |err _ _=>rw[hc]at h;cases h
  |no=>rw[hc]at h;cases h
 |.exp x,e,z,h,o,k=>by
  cases x with
  |call f a=>
   rw[gU]at h
   rw[jI,vV]at k
   cases ha:evA T cf a e with
   |ok ds=>
    rw[ha]at h k
    have k:(do let _<-cf f ds;Res.ok (Out.nx e))=.ok o:=k
    cases hf:cf f ds with
    |err c d=>rw[hf]at k;cases k
    |ok _=>simp only[hf]at h;cases h
    |no=>simp only[hf]at h;cases h
   |err _ _=>rw[ha]at h;cases h
   |no=>rw[ha]at h;cases h
  |_=>cases h
 |.rais c a,e,z,h,o,k=>by cases k
 |.forS g src b,e,z,h,o,k=>by
  rw[B3]at h
  rw[qJ]at k
  split at h
  ·cases h
  cases hc:evI T cf src e with
  |ok ds=>
   rw[hc]at h k
   refine wA (λd e0 z h o k=>?_) ds e h o k
   cases hg:g.put d e0 with
   |ok e1=>
    rw[hg]at h k
    exact jK h o k
   |err _ _=>rw[hg]at h;cases h
   |no=>rw[hg]at h;cases h
  |err _ _=>rw[hc]at h;cases h
  |no=>rw[hc]at h;cases h
 |.nil,_,_,h,_,_ | .ret _,_,_,h,_,_ | .retO _,_,_,h,_,_ | .asg _ _,_,_,h,_,_ | .asgO _ _,_,_,h,_,_ | .«sealed» _,_,_,h,_,_ | .app _ _,_,_,h,_,_ | .dputR _ _ _,_,_,h,_,_ | .extN _ _,_,_,h,_,_ | .retR _ _ _,_,_,h,_,_ | .ifR _ _ _ _ _ _ _ _ _,_,_,h,_,_ | .ext _ _,_,_,h,_,_ | .lput _ _ _,_,_,h,_,_ | .asgN _ _,_,_,h,_,_ | .newD _,_,_,h,_,_=>by cases h
end
end Tr
namespace Tr
open PySem PySem.Spec PyProof.Rows L2 Builtin.Str
theorem B4{x y:Str}(h:x.cps.toList=y.cps.toList):x=y:=by
 cases x;cases y
 simp only[Str.mk.injEq]
 exact LX.mp h
theorem GP{α:Type}(xs:List α)(a b:Nat)(hb:b<=xs.length):((aF (b-a)).map λk=>a+k).filterMap (xs[·]?)=(xs.drop a).take (b-a):=by
 generalize hn:b-a=n
 induction n generalizing a with
 |zero=>simp
 |succ n ih=>
  have ha:a<xs.length:=by lia
  rw[AC,aK,iF,bY,AD ha,List.take_succ_cons]
  simp only[Nat.add_zero,bD ha]
  congr 1
  rw[<-ih (a+1) (by lia)]
  congr 1
  apply jC
  intro k _
  simp only[Function.comp]
  lia
theorem GQ{a b:Int}{p q:Nat}(ha:a=p)(hb:b=q):sliceRange a b 1=(aF (q-p)).map λk=>p+k:=by
 subst ha hb
 unfold sliceRange
 simp only[show(1:Int)>0 by decide,if_true]
 have hc:(if(p:Int)<(q:Int)then((q:Int)-(p:Int)+1-1)/1 else 0).toNat=q-p:=by
  rw[Int.ediv_one]
  split<;>lia
 rw[hc]
 apply jC
 intro k _
 lia
theorem GR(n:Nat)(lo hi:Option Int):strSliceIndices lo hi 1 n=(aF (sIx n n hi-sIx n 0 lo)).map λk=>sIx n 0 lo+k:=by
 unfold strSliceIndices
 refine GQ ?_ ?_
 ·cases lo with
  |none=>rfl
  |some v=>
   simp only[show(1:Int)>0 by decide,if_true,sIx]
   split<;>lia
 ·cases hi with
  |none=>rfl
  |some v=>
   simp only[show(1:Int)>0 by decide,if_true,sIx]
   split<;>lia
theorem B5(n d:Nat)(hd:d<=n)(o:Option Int):sIx n d o<=n:=by
 cases o with
 |none=>exact hd
 |some v=>
  simp only[sIx]
  split<;>lia
theorem GS(x:Str)(lo hi:Option Int):Txt.slice x lo hi=iJ x lo hi:=by
 have hl:x.cps.toList.length=x.length:=by simp[Str.length]
 unfold Txt.slice
 rw[GR]
 have e:(List.filterMap (x.cps[·]?) ((aF (sIx x.length x.length hi-sIx x.length 0 lo)).map λk=>sIx x.length 0 lo+k))=cut x.cps.toList lo hi:=by
  have:=GP x.cps.toList (sIx x.length 0 lo) (sIx x.length x.length hi) (by rw[hl];exact B5 _ _ (aQ _) _)
  unfold cut
  rw[hl,<-this]
  congr 1
  funext k
  simp
 split
 ·rename_i c
  simp only[beq_self_eq_true,Eo,aE,cN,beq_iff_eq]at c
  refine B4 ?_
  show _=(cut x.cps.toList lo hi).toArray.toList
  have h1:=B5 x.length x.length (aQ _) hi
  unfold cut
  by_cases hz:x.length=0
  ·have:x.cps.toList=[]:=Ep (by lia)
   rw[this];simp
  ·have h0:sIx x.length 0 lo=0:=by lia
   have h2:sIx x.length x.length hi=x.length:=by lia
   rw[hl,h0,h2,uM,pN,<-hl,mR (aQ _)]
 ·rw[e];rfl
theorem B6{x y:Str}{b:Bool}(h:vK x y=.ok b):(!(occurrences y x 0 y.length 1).isEmpty)=b:=by
 unfold vK at h
 split at h
 ·rename_i c hc
  cases h
  have ex:x=⟨#[c]⟩:=B4 (by rw[hc])
  rw[ex]
  exact StrLaws.found_one y c
 ·cases h
section
variable{X:Cx}
theorem B7{v:Value}{o:Option Int}(h:IsPart v o):∃p:Option (Int×Tok),v=partValue p/\p.map (·.1)=o:=by
 cases h with
 |none=>exact⟨none,rfl,rfl⟩
 |int i t=>exact⟨some (i,t),rfl,rfl⟩
theorem sl_str:SlR X (λx lo hi H Q=>∃z,x=.str z/\z.length<=sizeLine/\Q (.str (iJ z lo hi)) H):=by
 intro pins s σ H x v vl vu lo hi sl Q I rx hs pl pu h
 obtain⟨z,rfl,hz,q⟩:=h
 obtain⟨t,rfl⟩:=rx
 obtain⟨p,rfl,rfl⟩:=B7 pl
 obtain⟨p',rfl,rfl⟩:=B7 pu
 refine⟨"str", _,PySem.F.slot_str_getitem.lookup,typeIs_str _ _ _,wpAny_getItem_str_slice (l:=p) (u:=p') (st:=none) hs rfl ?_⟩
 refine post_val_or_str ⟨cD (Txt.slice_le z _ _) hz,λt' k=>?_⟩
 refine⟨.str _,H,I.tok k,⟨t',?_⟩,q⟩
 rw[<-GS]
 rfl
theorem GT:cX X (.type "int") (λxs H Q=>∃z,xs=[.str z]/\vI z.cps.toList=true/\z.length<=640/\Q (.int (vH z.cps.toList)) H):=by
 intro pins s σ H xs us Q I r h
 obtain⟨z,rfl,hd,hl,q⟩:=h
 obtain⟨u,rfl,rx⟩:=fW r
 obtain⟨t,rfl⟩:=rx
 unfold vI at hd
 rw[aD,mT]at hd
 have had:PySem.NumText.AllDigits z.cps.toList:=λc hc=>by
  have:=hd.2 c hc
  simpa using this
 have hne:z.cps.toList≠[]:=by
  have:=hd.1
  intro e
  rw[e]at this
  cases this
 have hn:=PySem.intText_digits had hne (by lia)
 exact PySem.W.KIN.call_text (n:=((vH z.cps.toList:Nat):Int)) hn hl ⟨.int _,H,I.tok _,⟨_,rfl⟩,q⟩
noncomputable def Its(x:Str):It:=⟨λi _=>i<x.cps.size,λi H v H'=>H'=H/\∃c,x.cps[i]?=some c/\v=.str ⟨#[c]⟩,λi _=>x.cps.size<=i⟩
theorem B8{P:Program}{w:World}{K:PySem.W.Frag}{tg:Expr}(ty:String)(it:Addr)(x:Str)(t:Tok)
 (hty:["enumerate", "zip", "dict_itemiterator", "dict_reverseitemiterator", "odict_iterator", "itertools.zip_longest", "itertools.pairwise"].contains ty=false)
 (W:∀A:Around,A.handled=none->Walks P w A it [it] [it] x.cps.size (SignAt x) (λi h=>h.IsStrIter it ty x t i))
 (en:∀(A:Around)(s:Shared)(i:Nat)(Q:Option Value->Shared->Prop)(E:Value->Shared->Prop),A.handled=none->s.heap.IsStrIter it ty x t i->x.cps[i]?=none->(∀h',Heap.ExtBut it s.heap h'->Q none {s with heap:=h' })->wpAny (model P w) A (pyNext (.ref it)) Q E s)
 (sf:∀(A:Around)(s:Shared)(i:Nat)(Q:Value->Shared->Prop)(E:Value->Shared->Prop),s.heap.IsStrIter it ty x t i->Q (.ref it) s->wpAny (model P w) A (pyIter (.ref it)) Q E s) :
 Turn P w K tg (Its x) [it] it (λi h=>h.IsStrIter it ty x t i) where
 mem:=by simp
 obj:=λi h st b hb=>by
  have e:b=it:=by simpa using hb
  subst e
  obtain⟨o,e,c,d⟩:=st
  exact⟨o,e,λv z=>by rw[d]at z;cases z⟩
 keep:=λi h h' st k=>let ⟨o,e,c⟩:=st;⟨o,k it (by simp) o e,c⟩
 item:=by
  intro X hP hw hK hc i pins s σ H E I hf st hg
  subst hP hw hK
  obtain⟨f0,f1,f2,f3,f4,f5⟩:=hf it (by simp)
  refine(W X.A (I.ok.hd hc)).item i s _ _ hg st λv h' tk hv st' kk=>?_
  obtain⟨c,u,hx,rfl⟩:=hv
  have I1:Inv X pins σ H {s with heap:=h',toks:=tk}:=I.turned (λb o hb e=>kk b o (by simpa using hb) e) f0 f1 f3 f4 f5
  obtain⟨o,e,cc,d⟩:=id st'
  exact⟨_,rfl,mV (s:={s with heap:=h',toks:=tk}) e cc d hty ⟨.str ⟨#[c]⟩,H,I1,⟨u,rfl⟩,⟨rfl,c,hx,rfl⟩,st',λb hb=>(hf b hb).1⟩⟩
 done:=by
  intro X hP hw hK hc i pins s σ H E I hf st hg
  subst hP hw hK
  obtain⟨f0,f1,f2,f3,f4,f5⟩:=hf it (by simp)
  have hn:x.cps[i]?=none:=by
   have:x.cps.size<=i:=hg
   simpa using this
  exact en X.A s i _ _ (I.ok.hd hc) st hn λh' eb=>⟨rfl,I.turned (t':=s.toks) (λb o hb e=>eb b o hb e) f0 f1 f3 f4 f5⟩
 self:=λA i s Q E st h=>sf A s i Q E st h
theorem pi_str{pins:List (Addr×Obj)}{s:Shared}{σ:L2.St}{H:Hp}{tg:Expr}{R:It->Hp->Prop}{x:Str}{t:Tok}(I:Inv X pins σ H s)(h:R (Its x) H) :
 wpAny (model X.prog X.w) X.A (pyIter (.str x t)) (PIE X pins σ tg R) X.xe s:=by
 have fp:∀b∈[s.heap.objs.size],fU X pins H b:=λb hb=>by
  rcases aY.mp hb with rfl|hb
  ·exact I.fpOk (aQ _) (I.hok.fresh (aQ _))
  ·cases hb
 cases ha:x.cps.all (· < 128)
 ·refine wpAny_pyIter_wide ha ?_
  exact⟨s.heap.objs.size,[s.heap.objs.size],_,Its x,H,rfl,I.kept (t':=s.toks) λb u e=>Heap.get?_push_of_some _ e,B8 "str_iterator" _ x t (by decide) (λA hA=>Walks.strWide hA _ x t) (λA s i Q E hA st hx k=>wpAny_pyNext_wide_end hA st hx k) (λA s i Q E st k=>wpAny_pyIter_striter_wide st k),⟨_,Heap.get?_push_size _ rfl,rfl,rfl⟩,fp,h⟩
 ·refine wpAny_pyIter_ascii ha ?_
  exact⟨s.heap.objs.size,[s.heap.objs.size],_,Its x,H,rfl,I.kept (t':=s.toks) λb u e=>Heap.get?_push_of_some _ e,B8 "str_ascii_iterator" _ x t (by decide) (λA hA=>Walks.strAscii hA _ x t) (λA s i Q E hA st hx k=>wpAny_pyNext_ascii_end hA st hx k) (λA s i Q E st k=>wpAny_pyIter_striter_ascii st k),⟨_,Heap.get?_push_size _ rfl,rfl,rfl⟩,fp,h⟩
end
end Tr
namespace Tr
open PySem PySem.Spec PyProof.Rows L2
section
variable{prog:Program}{w:World}{A:Around}{E:Value->Shared->Prop}{s:Shared}
end
end Tr
namespace Tr
open PySem PySem.Spec PyProof.Rows L2 PySem.SeqAt
noncomputable def ModS (K:PySem.W.Frag) (a:Addr) (ss:List Str):Prop:=∃(o:Obj) (its:Array Value) (n:Nat),K.lookup a=some o/\o.cls=.type "tuple" /\ o.dict=none/\o.data=.seq its n/\Vals (ss.map V.str) its.toList
end Tr
namespace Tr
open PySem PySem.Spec PyProof.Rows L2
noncomputable def met(val:Nat->Key):Nat->List Key
 |0=>[]
 |i+1=>if(met val i).any (λx=>decide (x=val i))then met val i else met val i++[val i]
section
variable{prog:Program}{w:World}{A:Around}{R:Result->Shared->Prop}{I:Addr}{fp wr:List Addr}{G:Array GenState->Array GenState->Prop}{n:Nat}{P:Nat->Value->Prop}{St:Nat->Shared->Prop}
end
section
variable{prog:Program}{w:World}{A:Around}{E:Value->Shared->Prop}{s:Shared}
end
section
variable{prog:Program}{w:World}{A:Around}{E:Value->Shared->Prop}{s:Shared}
end
theorem vals_ints:∀{ns:List Int} {its:List Value},Vals (ns.map V.int) its->∃xs:List (Int×Tok),its=xs.map (λp=>Value.int p.1 p.2)/\xs.map (·.1)=ns
 |[],_,h=>by cases h;exact⟨[],rfl,rfl⟩
 |n::ns,_,h=>by
  cases h with
  |cons r rr=>
   obtain⟨t,rfl⟩:=r
   obtain⟨xs,rfl,e⟩:=vals_ints rr
   exact⟨(n,t)::xs,rfl,by rw[aK,e]⟩
section
variable{prog:Program}{w:World}{A:Around}{R:Result->Shared->Prop}{it:Addr}{fp wr:List Addr}{n:Nat}{P:Nat->Value->Prop}{St:Nat->Heap->Prop}
end
noncomputable def lo8(ns:List Nat)(n:Nat):List Nat:=ns.filter λi=>decide (i<n)
section
variable{prog:Program}{w:World}{A:Around}{E:Value->Shared->Prop}{s:Shared}
end
noncomputable def mk8(val:Nat->Nat):Nat->Nat
 |0=>0
 |i+1=>mk8 val i ||| 2^val i
section
variable{prog:Program}{w:World}{A:Around}{R:Result->Shared->Prop}{I:Addr}{fp wr:List Addr}{G:Array GenState->Array GenState->Prop}{n:Nat}{P:Nat->Value->Prop}{St:Nat->Shared->Prop}
end
section
variable{prog:Program}{w:World}{A:Around}{E:Value->Shared->Prop}{s:Shared}
end
section
variable{prog:Program}{w:World}{A:Around}{E:Value->Shared->Prop}{s:Shared}
end
section
variable{prog:Program}{w:World}{A:Around}{E:Value->Shared->Prop}{s:Shared}
end
section
variable{prog:Program}{w:World}{A:Around}{E:Value->Shared->Prop}{s:Shared}
end
section
variable{prog:Program}{w:World}{A:Around}{E:Value->Shared->Prop}{s:Shared}
end
section
variable{prog:Program}{w:World}{A:Around}{E:Value->Shared->Prop}{s:Shared}{l:Addr}{xs:Array (Int×Tok)}
end
noncomputable def m8(ns:List Int):Nat:=mk8 (λi=>(ns.getD i 0).toNat) ns.length
theorem wB:∀{vs:List Value} {ns:List Int},IntsAre vs ns->Vals (ns.map V.int) vs
 |_,_,.nil=>.nil
 |_,_,.cons n t h=>.cons ⟨t,rfl⟩ (wB h)
section
variable{prog:Program}{w:World}{A:Around}{E:Value->Shared->Prop}{s:Shared}{l:Addr}{its:List Value}
end
end Tr
namespace Tr
open PySem
noncomputable def GU(k:List Nat):Int:=reduceHash (Builtin.Tuple.tupleHashOf ((k.map λa:Nat=>(a:Int)).map hashInt))
end Tr
namespace Tr
open PySem PySem.Spec PyProof.Rows L2
noncomputable def PSet(h:Heap)(S:Addr)(ks:List (List Nat)):Prop:=
 ∃o es ep t,h.get? S=some o/\o.ExactSet/\o.data=.set es ep t/\t.dummies=#[]/\t.place.size=es.size/\es.size=ks.length/\(∀e∈es.toList,e.1∈ks.map λk=>GU k)/\(t.mask=7/\es.size<5\/t.mask=31/\es.size<19\/t.mask=127)
section
variable{prog:Program}{w:World}{A:Around}{E:Value->Shared->Prop}{s:Shared}
end
section
variable{prog:Program}{w:World}{A:Around}{E:Value->Shared->Prop}{s:Shared}
end
section
variable{prog:Program}{w:World}{A:Around}{E:Value->Shared->Prop}{s:Shared}
end
section
variable{prog:Program}{w:World}{A:Around}{R:Result->Shared->Prop}{I:Addr}{fp wr:List Addr}{G:Array GenState->Array GenState->Prop}{n:Nat}{P:Nat->Value->Prop}{St:Nat->Shared->Prop}
end
section
variable{prog:Program}{w:World}{A:Around}{E:Value->Shared->Prop}{s:Shared}
end
section
variable{prog:Program}{w:World}{A:Around}{E:Value->Shared->Prop}{s:Shared}
end
theorem B9:∀{as:List Addr} {its:List Value},Vals (as.map V.ref) its->its=as.map Value.ref
 |[],its,r=>by cases r;rfl
 |a::as,its,r=>by
  cases r with
  |cons r1 r=>rw[B9 r,show _=Value.ref a from r1];rfl
end Tr
namespace Tr
open PySem PySem.Spec PyProof.Rows L2 PySem.SeqAt
end Tr
namespace Tr
open PySem PySem.Spec PyProof.Rows L2
theorem B_:∀{ns:List Int} {vs:List Value},Vals (ns.map V.int) vs->IntsAre vs ns
 |[],vs,r=>by cases r;exact .nil
 |n::ns,vs,r=>by
  cases r with
  |cons r1 r=>
   obtain⟨t,rfl⟩:=r1
   exact .cons _ _ (B_ r)
theorem GV {X:Cx}:cX X (.builtin "sorted") (λvs H Q=>∃(a:Addr) (ns:List Int),vs=[.ref a]/\SqL X.K H a (ns.map V.int)/\ns.length<64/\∀(l:Addr) (ns':List Int),H l=none->ns'.Perm ns->ns'.Pairwise (·<=·)->Q (.ref l) (upd H l (.lst (ns'.map V.int)))):=by
 intro pins s σ H vs us Q I rv h
 obtain⟨a,ns,rfl,hS,h64,q⟩:=h
 obtain⟨u,rfl,ru⟩:=rv.one
 cases ru
 obtain⟨its,r,pl,hz⟩:=I.list hS
 have hI:=B_ r
 have hl:its.length=ns.length:=by rw[<-r.length,aE]
 refine sorted_ints pl.isList hI (by lia) λout ns' a1 a2 a3=>?_
 obtain⟨e,he⟩:=sortedAll_at s.heap its out
 have hge:s.heap.objs.size<=s.heap.objs.size+1:=uN _
 refine⟨.ref (s.heap.objs.size+1),_,I.laid (t':=s.toks) (λb o x=>sortedAll_old x) hge ?_,rfl,q _ ns' (I.hok.fresh hge) a2 a3⟩
 have hv:=wB a1
 refine⟨by rw[aE,a2.length_eq,sizeLine_eq];lia,out.toList,e,hv,by simpa using he⟩
theorem kv_get{ps:List (Key×V)}{vs:List (Key×Value)}(r:KV ps vs){i:Nat}{k:Key}{v:V}(h:ps[i]?=some (k,v)):∃u,vs[i]?=some (k,u):=by
 have e:=congrArg (λl=>l[i]?) r.keys
 simp only[bO,h]at e
 cases hv:vs[i]? with
 |none=>rw[hv]at e;cases e
 |some q=>
  rw[hv]at e
  injection e with e
  exact⟨q.2,by rw[show k=q.1 from e]⟩
theorem GW{P:Program}{w:World}{k:Key}{u:Value}(h:(bP P w).is k u=true):RelV (kV k) u:=by
 rcases gO h with⟨i,t,rfl,rfl⟩|⟨x,t,rfl,rfl⟩
 ·exact⟨t,rfl⟩
 ·exact⟨t,rfl⟩
theorem Ba{X:Cx}{pins:List (Addr×Obj)}{σ:L2.St}{H:Hp}{s:Shared}{a:Addr}{ps:List (Key×V)}(I:Inv X pins σ H s)(h:H a=some (.dK ps)) :
 ∃o es ep,o.data=.dict es ep/\Inv X pins σ (L2.upd H a (.frz o (.dK ps))) s:=by
 have hk:=(show ObjOk X.prog X.w H s.heap a (.dK ps)from I.hok a _ h)
 obtain⟨e2,e3,vs,e4,o,es,ep,g1,g2,g3,g4⟩:=id hk
 have ne:∀{b u},H b=some u->u≠.dK ps->b≠a:=λx1 x2 z=>by rw[z,h]at x1;cases x1;exact x2 rfl
 refine⟨o,es,ep,g3,?_⟩
 refine I.step (h':=s.heap) (g':=s.gens) (d':=s.drawn) (t':=s.toks) (ch:=[]) (λb hb=>by cases hb) (λb u _ _ _ x1 _=>x1) (λb u _ _ _ x1 _=>⟨u.slots,x1⟩) (λb u _ x1 x2=>?_) (λb u _ x1=>⟨u,x1⟩) (λb xs x1=>?_) (λb v w x1=>?_) (λb ps x1=>⟨#[],?_⟩) (λm x1=>x1) (λb v x1=>?_) I.bare
 ·rw[aG (λz=>by rw[z,h]at x2;cases x2)];exact x2
 ·rw[aG (ne x1 (λz=>by cases z))];exact x1
 ·rw[aG (ne x1 (λz=>by cases z))];exact x1
 ·rw[aG (ne x1 (λz=>by cases z))];simpa using x1
 ·by_cases z:b=a
  ·rw[z,bQ]at x1
   cases x1
   rw[z]
   exact⟨g1,e2,e3,vs,e4,o,es,ep,g1,g2,g3,g4⟩
  ·rw[aG z]at x1
   exact(I.hok b v x1).stay (λc u _ y1=>y1) (λc y1=>by rw[aG (ne y1 (λz=>by cases z))];exact y1) λc xs y1=>by rw[aG (ne y1 (λz=>by cases z))];exact y1
noncomputable def RawD(h:Heap)(d:Addr)(es:Array DictEntry)(ep:Nat):Prop:=∃o,h.get? d=some o/\o.ExactDict/\o.data=.dict es ep
section
variable{prog:Program}{w:World}{A:Around}{E:Value->Shared->Prop}{s:Shared}{d it:Addr}{es:Array DictEntry}{ep i:Nat}
theorem RawD.ty (h:RawD s.heap d es ep):s.TypeIs (.ref d) "dict" := let ⟨o,a,b,_⟩:=h;⟨o,a,b.1⟩
theorem GX{Q:Value->Shared->Prop}(nd:(d==sysModules)=false)(h:RawD s.heap d es ep)
 (q:Q (.ref s.heap.objs.size) {s with heap:=s.heap.push {cls:=.type "dict_keyiterator", data:=.fields #[.ref d,.int 0 0,.int es.size 0,.int ep 0] } }):wpAny (model prog w) A (pyIter (.ref d)) Q E s:=by
 have ty:=h.ty
 obtain⟨o,g1,g2,g3⟩:=h
 apply wpAny_pyIter_slot ty F.slot_dict_iter
 apply wpAny_call_entry F.slot_dict_iter ty F.entry_dict_iter _ (F.args_dict_iter_1 _)
 unfold Builtin.«dict.__iter__»;apply wpAny_bind;unfold Builtin.Dict.dictSlotNone;apply wpAny_bind;apply wpAny_notOrdered_dict ty
 apply(wpAny_pure _:wpAny _ _ (pure (Value.ref d)) _ _ s);show wpAny _ _ (Builtin.Dict.showsAll d>>=_) _ _ s
 unfold Builtin.Dict.showsAll;rw[if_neg (by rw[nd];exact aP)];apply wpAny_bind;apply wpAny_pure
 apply wpAny_bind;apply wpAny_dictEntries g1 g3;apply wpAny_bind;apply wpAny_dictEpoch g1 g3
 refine wpAny_bind (wpAny_newObj_type ?_ (by size_fits));apply wpAny_pure
 exact⟨_,rfl, "dict_keyiterator", _,⟨_,Heap.get?_push_size _ rfl,rfl⟩,F.slot_dict_keyiterator_next.lookup,by simpa[rawInt]using q⟩
theorem GY{Q:Option Value->Shared->Prop}{en:DictEntry}(hi:s.heap.IsKeyIter it d i es.size ep)(h:RawD s.heap d es ep)(hx:es[i]?=some en)
 (q:∀h',h'.IsKeyIter it d (i+1) es.size ep->Heap.SameBut it s.heap h'->Q (some en.key) {s with heap:=h' }):wpAny (model prog w) A (pyNext (.ref it)) Q E s:=by
 obtain⟨u,k1,k2,k3⟩:=id hi
 obtain⟨o,g1,g2,g3⟩:=h
 unfold pyNext;apply wpAny_bind;apply wpAny_attempt;apply wpAny_callSpecial?_slot (name:=Str.ofString "__next__") hi.typeIs F.slot_dict_keyiterator_next
 apply wpAny_call_entry F.slot_dict_keyiterator_next hi.typeIs F.entry_dict_keyiterator_next _ (F.args_dict_keyiterator_next_1 _)
 apply wpAny_bind;apply wpAny_pure;apply wpAny_bind;apply wpAny_bind
 first|(apply wpAny_bind;apply wpAny_typeNameOfWhole_keyiter hi.typeIs;apply wpAny_pure)|(apply wpAny_bind;apply wpAny_typeNameOf_keyiter hi.typeIs;apply wpAny_pure)
 apply wpAny_bind;apply wpAny_fieldsOf k1 k3
 have no:Builtin.Dict_items.ownsTuple "dict_keyiterator" = false:=by decide
 simp only[no,AE,if_false];show wpAny _ _ (if(Value.ref d==Value.none)=true then _ else _) _ _ s
 rw[if_neg (show ¬((Value.ref d==Value.none)=true)from aP)];apply wpAny_bind;apply wpAny_pure
 apply wpAny_bind;apply wpAny_dictEntries g1 g3;rw[if_neg (by simp)];apply wpAny_bind;apply wpAny_pure
 apply wpAny_bind;apply wpAny_dictEpoch g1 g3;rw[if_neg (by simp)];apply wpAny_pure
 simp only[show ¬((i:Int)<0)from by lia,if_false,lB,hx]
 apply wpAny_bind
 first|(apply wpAny_bind;apply wpAny_typeNameOfWhole_keyiter hi.typeIs;apply wpAny_pure)|(apply wpAny_bind;apply wpAny_typeNameOf_keyiter hi.typeIs;apply wpAny_pure)
 apply wpAny_bind;apply wpAny_isOneOf_keyiter hi.typeIs;show wpAny _ _ (setField (.ref it) 1 (rawInt ((i:Int)+1))>>=_) _ _ s
 apply wpAny_bind;apply wpAny_setField k1 k3 (by simp)
 have hi2:(s.heap.update it (Obj.mapFields (·.setIfInBounds 1 (rawInt ((i:Int)+1))))).IsKeyIter it d (i+1) es.size ep:=⟨_,Heap.get?_update_self _ k1 (Obj.isFreed_of_fields (Obj.data_mapFields k3 _)),(Obj.cls_mapFields ..).trans k2,by rw[Obj.data_mapFields k3];simp[rawInt]⟩
 apply wpAny_bind;apply wpAny_holding;apply wpAny_bind
 apply wpAny_isOneOf_keyiter (s:={s with heap:=s.heap.update it (Obj.mapFields (·.setIfInBounds 1 (rawInt ((i:Int)+1)))) }) hi2.typeIs
 show wpAny _ _ (pure en.key) _ _ _;apply wpAny_pure;apply wpAny_pure;exact⟨_,rfl,wpAny_pure (q _ hi2 (Heap.SameBut.update ..))⟩
theorem GZ{Q:Option Value->Shared->Prop}(hh:A.handled=none)(hi:s.heap.IsKeyIter it d i es.size ep)(h:RawD s.heap d es ep)(hx:es[i]?=none)
 (q:∀h',Heap.ExtBut it s.heap h'->Q none {s with heap:=h' }):wpAny (model prog w) A (pyNext (.ref it)) Q E s:=by
 obtain⟨u,k1,k2,k3⟩:=id hi
 obtain⟨o,g1,g2,g3⟩:=h
 unfold pyNext;apply wpAny_bind;apply wpAny_attempt;apply wpAny_callSpecial?_slot (name:=Str.ofString "__next__") hi.typeIs F.slot_dict_keyiterator_next
 apply wpAny_call_entry F.slot_dict_keyiterator_next hi.typeIs F.entry_dict_keyiterator_next _ (F.args_dict_keyiterator_next_1 _)
 apply wpAny_bind;apply wpAny_pure;apply wpAny_bind;apply wpAny_bind
 first|(apply wpAny_bind;apply wpAny_typeNameOfWhole_keyiter hi.typeIs;apply wpAny_pure)|(apply wpAny_bind;apply wpAny_typeNameOf_keyiter hi.typeIs;apply wpAny_pure)
 apply wpAny_bind;apply wpAny_fieldsOf k1 k3
 have no:Builtin.Dict_items.ownsTuple "dict_keyiterator" = false:=by decide
 simp only[no,AE,if_false];show wpAny _ _ (if(Value.ref d==Value.none)=true then _ else _) _ _ s
 rw[if_neg (show ¬((Value.ref d==Value.none)=true)from aP)];apply wpAny_bind;apply wpAny_pure
 apply wpAny_bind;apply wpAny_dictEntries g1 g3;rw[if_neg (by simp)];apply wpAny_bind;apply wpAny_pure
 apply wpAny_bind;apply wpAny_dictEpoch g1 g3;rw[if_neg (by simp)];apply wpAny_pure
 simp only[show ¬((i:Int)<0)from by lia,if_false,lB,hx]
 apply wpAny_bind
 first|(apply wpAny_bind;apply wpAny_typeNameOfWhole_keyiter hi.typeIs;apply wpAny_pure)|(apply wpAny_bind;apply wpAny_typeNameOf_keyiter hi.typeIs;apply wpAny_pure)
 show wpAny _ _ (setField (.ref it) 0 .none>>=_) _ _ s;apply wpAny_bind;apply wpAny_setField k1 k3 (by simp)
 show wpAny _ _ (newExc (.type "StopIteration") []>>=_) _ _ _;apply wpAny_bind;simp only[newExc,newTuple]
 refine wpAny_bind (wpAny_newObj_type ?_ (by size_fits));refine wpAny_bind (m:=firstArgMember _ _) (wpAny_of_eq (a:=Value.none) (by first|rfl|(simp only[firstArgMember];rfl)) ?_)
 refine wpAny_newObj_type ?_ (by size_fits);simp only[raiseNew];apply wpAny_bind;apply wpAny_handled;rw[show A.in1.handled=none from hh]
 refine wpAny_bind (wpAny_pure (wpAny_throw ?_));refine wpAny_bind (wpAny_isInstance (b:=true) (T := "StopIteration") ⟨_,Heap.get?_push_size _ rfl,rfl⟩ isSubtype_stop ?_)
 exact wpAny_pure (q _ (((Heap.SameBut.update ..).extBut.push _).push _))
end
theorem G0{X:Cx}{pins:List (Addr×Obj)}{σ:L2.St}{H:Hp}{s:Shared}{a:Addr}{ps:List (List Key×V)}(I:Inv X pins σ H s)(h:H a=some (.dT ps)) :
 ∃o es ep,o.data=.dict es ep/\Inv X pins σ (L2.upd H a (.frz o (.dT ps))) s:=by
 have hk:=(show ObjOk X.prog X.w H s.heap a (.dT ps)from I.hok a _ h)
 obtain⟨e2,e3,xs,e4,o,es,ep,g1,g2,g3,g4⟩:=id hk
 have ne:∀{b u},H b=some u->u≠.dT ps->b≠a:=λx1 x2 z=>by rw[z,h]at x1;cases x1;exact x2 rfl
 refine⟨o,es,ep,g3,?_⟩
 refine I.step (h':=s.heap) (g':=s.gens) (d':=s.drawn) (t':=s.toks) (ch:=[]) (λb hb=>by cases hb) (λb u _ _ _ x1 _=>x1) (λb u _ _ _ x1 _=>⟨u.slots,x1⟩) (λb u _ x1 x2=>?_) (λb u _ x1=>⟨u,x1⟩) (λb xs x1=>?_) (λb v w x1=>?_) (λb ps x1=>⟨#[],?_⟩) (λm x1=>x1) (λb v x1=>?_) I.bare
 ·rw[aG (λz=>by rw[z,h]at x2;cases x2)];exact x2
 ·rw[aG (ne x1 (λz=>by cases z))];exact x1
 ·rw[aG (ne x1 (λz=>by cases z))];exact x1
 ·rw[aG (ne x1 (λz=>by cases z))];simpa using x1
 ·by_cases z:b=a
  ·rw[z,bQ]at x1
   cases x1
   rw[z]
   exact⟨g1,e2,e3,xs,KT.keeps e4 λc ys ec=>by rw[aG (ne ec (λz=>by cases z))];exact ec,o,es,ep,g1,g2,g3,g4⟩
  ·rw[aG z]at x1
   exact(I.hok b v x1).stay (λc u _ y1=>y1) (λc y1=>by rw[aG (ne y1 (λz=>by cases z))];exact y1) λc xs y1=>by rw[aG (ne y1 (λz=>by cases z))];exact y1
noncomputable def Bb(H:Hp)(a:Addr)(o:Obj)(n:Nat)(i:Nat)(x:Option V):Prop:=
 (∃ps:List (Key×V),H a=some (.frz o (.dK ps))/\ps.length=n/\x=(ps[i]?).map λq=>kV q.1) \/
 (∃ps:List (List Key×V),H a=some (.frz o (.dT ps))/\ps.length=n/\((ps[i]?=none/\x=none)\/∃q b,ps[i]?=some q/\x=some (.ref b)/\H b=some (.tup (q.1.map kV))))
noncomputable def Itk(a:Addr)(o:Obj)(n:Nat):It:=
 ⟨λi H=>(∃ps:List (Key×V),H a=some (.frz o (.dK ps))/\ps.length=n/\i<n)\/∃ps:List (List Key×V),H a=some (.frz o (.dT ps))/\ps.length=n/\i<n,λi H x H'=>H'=H/\Bb H a o n i (some x),
  λi H=>((∃ps:List (Key×V),H a=some (.frz o (.dK ps))/\ps.length=n)\/∃ps:List (List Key×V),H a=some (.frz o (.dT ps))/\ps.length=n)/\n<=i⟩
section
variable{X:Cx}{pins:List (Addr×Obj)}{σ:L2.St}{H:Hp}{s:Shared}{a:Addr}{o:Obj}{es:Array DictEntry}{ep:Nat}
theorem wC{ps:List (Key×V)}(I:Inv X pins σ H s)(h:H a=some (.frz o (.dK ps)))(hd:o.data=.dict es ep):RawD s.heap a es ep/\(a==sysModules)=false/\es.size=ps.length/\∀(i:Nat)(q:Key×V),ps[i]?=some q->∃en:DictEntry,es[i]?=some en/\RelV (kV q.1) en.key:=by
 obtain⟨e1,e2,e3,vs,e4,o',es',ep',g1,g2,g3,g4,g5,g6⟩:=(show ObjOk X.prog X.w H s.heap a (.frz o (.dK ps))from I.hok a _ h)
 rw[e1]at g1
 cases g1
 rw[hd]at g3
 cases g3
 have hl:=e4.length
 have hs:es.size=ps.length:=by rw[hl,<-g5.length];simp
 refine⟨⟨o,e1,g2,hd⟩,e3,hs,λi q hq=>?_⟩
 obtain⟨u,hu⟩:=kv_get e4 (k:=q.1) (v:=q.2) hq
 have hi:i<es.size:=by
  rw[hs]
  by_cases z:i<ps.length
  ·exact z
  ·rw[pO (by lia)]at hq;cases hq
 exact⟨es[i],Array.getElem?_eq_getElem hi,GW (g5.get? (e:=es[i]) (by simp[hi]) hu).1⟩
theorem wD{ps:List (List Key×V)}(I:Inv X pins σ H s)(h:H a=some (.frz o (.dT ps)))(hd:o.data=.dict es ep):RawD s.heap a es ep/\(a==sysModules)=false/\es.size=ps.length/\∀(i:Nat)(q:List Key×V),ps[i]?=some q->∃(en:DictEntry)(b:Addr),es[i]?=some en/\en.key=.ref b/\H b=some (.tup (q.1.map kV)):=by
 obtain⟨e1,e2,e3,xs,e4,o',es',ep',g1,g2,g3,g4,g5⟩:=(show ObjOk X.prog X.w H s.heap a (.frz o (.dT ps))from I.hok a _ h)
 rw[e1]at g1
 cases g1
 rw[hd]at g3
 cases g3
 have hl:=Paired.length e4
 have hs:es.size=ps.length:=by rw[hl,<-uK,g4,aE]
 refine⟨⟨o,e1,g2,hd⟩,e3,hs,λi q hq=>?_⟩
 have get:∀{l:List (List Key×V)} {m:List (List Key×Addr×Value)},KT H l m->∀{i:Nat} {q:List Key×V},l[i]?=some q->∃z,m[i]?=some z/\H z.2.1=some (.tup (q.1.map kV)):=by
  intro l m k
  induction k with
  |nil=>intro i q z;simp at z
  |cons hq t ih=>
   intro i q z
   cases i with
   |zero=>cases z;exact⟨_,rfl,hq.2.1⟩
   |succ j=>exact ih (by simpa using z)
 obtain⟨z,hz,ht⟩:=get e4 hq
 refine⟨entryOfKey (tupleKind (bP X.prog X.w)) z,z.2.1,?_,rfl,ht⟩
 rw[<-LY,g4,bO,hz];rfl
end
theorem G1{P:Program}{w:World}{K:PySem.W.Frag}{tg:Expr}{o:Obj}{es:Array DictEntry}{ep:Nat}(hd:o.data=.dict es ep)(a it:Addr)(n:Nat)(hn:es.size=n) :
 Turn P w K tg (Itk a o n) [it] it (λi h=>h.IsKeyIter it a i n ep) where
 mem:=by simp
 obj:=λi h st b hb=>by
  have e:b=it:=by simpa using hb
  subst e
  obtain⟨o,e,c,d⟩:=st
  exact⟨o,e,λv z=>by rw[d]at z;cases z⟩
 keep:=λi h h' st k=>by
  obtain⟨u,h1,h2⟩:=st
  exact⟨u,k it (by simp) u h1,h2⟩
 item:=by
  intro X hP hw hK hc i pins s σ H E I hf st hg
  subst hP hw hK hn
  obtain⟨f0,f1,f2,f3,f4,f5⟩:=hf it (by simp)
  have fin:∀en,RawD s.heap a es ep->es[i]?=some en->(∃x,RelV x en.key/\Bb H a o es.size i (some x))->wpAny (model X.prog X.w) X.A (pyNext (.ref it)) (λr s1=>∃u,r=some u /\
   wpAny (model X.prog X.w) X.A (letOwnedTupleGo tg (.ref it) u) (λ_ s2=>∃x H',Inv X pins σ H' s2/\RelV x u/\(Itk a o es.size).yld i H x H'/\s2.heap.IsKeyIter it a (i+1) es.size ep/\∀b∈[it],H' b=none) E s1) E s:=by
   intro en rw' hx ⟨x,r1,r2⟩
   refine GY st rw' hx λh' st2 sb=>?_
   have I1:Inv X pins σ H {s with heap:=h' }:=I.turned (t':=s.toks) (λb o hb e=>(sb.2 b hb).trans e) f0 f1 f3 f4 f5
   obtain⟨o',e,c,d⟩:=id st2
   exact⟨_,rfl,mV (s:={s with heap:=h' }) e c d (by decide) ⟨x,H,I1,r1,⟨rfl,r2⟩,st2,λb hb=>(hf b hb).1⟩⟩
  rcases hg with⟨ps,h1,h2,h3⟩|⟨ps,h1,h2,h3⟩
  ·obtain⟨x1,x2,x3,x4⟩:=wC I h1 hd
   obtain⟨en,y1,y2⟩:=x4 i ps[i] (bD (by lia))
   exact fin en x1 y1 ⟨_,y2,.inl ⟨ps,h1,h2,by rw[bD (by lia)];rfl⟩⟩
  ·obtain⟨x1,x2,x3,x4⟩:=wD I h1 hd
   obtain⟨en,b,y1,y2,y3⟩:=x4 i ps[i] (bD (by lia))
   exact fin en x1 y1 ⟨.ref b,by rw[y2];rfl,.inr ⟨ps,h1,h2,.inr ⟨_,b,bD (by lia),rfl,y3⟩⟩⟩
 done:=by
  intro X hP hw hK hc i pins s σ H E I hf st hg
  subst hP hw hK hn
  obtain⟨f0,f1,f2,f3,f4,f5⟩:=hf it (by simp)
  obtain⟨hg,hi⟩:=hg
  have rw':RawD s.heap a es ep:=by
   rcases hg with⟨ps,h1,h2⟩|⟨ps,h1,h2⟩
   ·exact(wC I h1 hd).1
   ·exact(wD I h1 hd).1
  exact GZ (I.ok.hd hc) st rw' (Array.getElem?_eq_none hi) λh' eb=>⟨rfl,I.turned (t':=s.toks) (λb o hb e=>eb b o hb e) f0 f1 f3 f4 f5⟩
 self:=λ_ _ _ _ _ st h=>wpAny_pyIter_keyiter st h
section
variable{prog:Program}{w:World}{A:Around}{E:Value->Shared->Prop}{s:Shared}{l:Addr}{its:List Value}{n:Nat}
theorem G2 {k:Int} {t:Tok} {Q:Value->Shared->Prop} {dd:Option Addr} {sl:Array (Option Value)} (hl:s.heap.get? l=some {cls:=.type "list", dict:=dd,data:=.seq its.toArray n,slots:=sl}) (h1:its.length=1) (hk:0<=k/\k<=1000)
 (h:Q (.ref s.heap.objs.size) {s with heap:=s.heap.push {cls:=.type "list", data:=.seq (aO k.toNat its).flatten.toArray} }):wpAny (model prog w) A (binaryOp .Mult (.ref l) (.int k t)) Q E s:=by
 have hsz:its.toArray.size=1:=by rw[bK];exact h1
 have hne:its.toArray.isEmpty=false:=by
  cases its with
  |nil=>cases h1
  |cons _ _=>rfl
 have hf:List.foldl (λx1 x2=>x1++x2) #[] (aO (if its.toArray.isEmpty=true then 0 else k.toNat) its.toArray)=(aO k.toNat its).flatten.toArray:=by
  rw[hne,if_neg aP]
  have:=An its k.toNat []
  rw[Er]at this
  exact this
 have ty:s.TypeIs (.ref l) "list" := ⟨_,hl,rfl⟩
 apply wpAny_binaryOp_repeat_ref (T := "list") (U := "int") (by decide) ty (λs'=>typeIs_int s' k t) PySem.noFill_list_mul PySem.F.fills_int_mul PySem.F.slot_int_rmul PySem.repeat_list PySem.F.slot_int_index.lookup
 apply call_meets PySem.F.slot_int_rmul (typeIs_int s k t) PySem.F.entry_int_rmul (PySem.F.args_int_rmul_2 _ _) (lm_int_rmul_list_any k t l its.toArray n dd sl)
 refine⟨hl,rfl,ty,call_meets PySem.F.slot_list_mul ty PySem.F.entry_list_mul (PySem.F.args_list_mul_2 _ _) (lm_list_mul_any l its.toArray n dd sl k t (by simp[Builtin.List.listFitsIndex];lia) (by rw[hsz];lia) (by rw[hsz];simp[Builtin.List.listTooLong,sizeLine];lia)) ⟨hl,?_⟩⟩
 rw[hf]
 exact h
end
section
variable{prog:Program}{w:World}{A:Around}{E:Value->Shared->Prop}{s:Shared}{r:Addr}{a b c:Int}{t u v:Tok}{n:Nat}
end
end Tr
namespace Tr
open PySem PySem.Spec PyProof.Rows L2 PySem.W
noncomputable def DkF(f:Obj->Obj):Prop:=∀o,(f o).dict=o.dict/\(f o).isFreed=o.isFreed
noncomputable def Dk{α:Type}:Sem α->Prop
 |.rule _ k=>Dk (k ())
 |.at _ k=>Dk (k ())
 |.point _ k=>Dk (k ())
 |.load _ _ k=>∀o,Dk (k o)
 |.loadIfAlive _ k=>∀o,Dk (k o)
 |.update _ _ f k=>DkF f/\Dk (k ())
 |.alloc _ k=>∀a,Dk (k a)
 |.fresh k=>∀x,Dk (k x)
 |.ask k=>∀x,Dk (k x)
 |.handled _ k=>∀x,Dk (k x)
 |.stack k=>∀x,Dk (k x)
 |.thread k=>∀x,Dk (k x)
 |.choose _ _ _=>False
 |.os _ _ _=>False
 |.call _ _ _ _ _=>False
 |.genState _ _=>False
 |.newGen _ _=>False
 |.resume _ _ _ _=>False
 |_=>True
noncomputable def DkH(h h':Heap):Prop:=∀b o,h.get? b=some o->∃o',h'.get? b=some o'/\o'.dict=o.dict
theorem DkH.refl(h:Heap):DkH h h:=λ_ o e=>⟨o,e,rfl⟩
theorem DkH.trans{h1 h2 h3:Heap}(x:DkH h1 h2)(y:DkH h2 h3):DkH h1 h3:=λb o e=>by
 obtain⟨o2,e2,d2⟩:=x b o e
 obtain⟨o3,e3,d3⟩:=y b o2 e2
 exact⟨o3,e3,d3.trans d2⟩
theorem DkH.push(h:Heap)(o:Obj):DkH h (h.push o):=λb u e=>⟨u,Heap.get?_push_of_some _ e,rfl⟩
theorem DkH.upd{h:Heap}{a:Addr}{f:Obj->Obj}(hf:DkF f):DkH h (h.update a f):=λb u e=>by
 by_cases hb:a=b
 ·subst hb
  obtain⟨d,z⟩:=hf u
  have alive:u.isFreed=false:=(Heap.get?_some_iff.mp e).2
  exact⟨f u,Heap.get?_update_self f e (by rw[z];exact alive),d⟩
 ·exact⟨u,(Heap.get?_update_other h f hb).trans e,rfl⟩
theorem G3{α β:Type}{f:α->Sem β}(hf:∀a,Dk (f a)):∀{m:Sem α},Dk m->Dk (m.bind f):=by
 intro m
 induction m with
 |pure a=>exact λ_=>hf a
 |rule _ k ih | «at» _ k ih|point _ k ih=>exact λh=>ih () h
 |load _ _ k ih|loadIfAlive _ k ih|alloc _ k ih|fresh k ih|ask k ih|handled _ k ih|stack k ih|thread k ih=>exact λh x=>ih x (h x)
 |update _ _ g k ih=>exact λh=>⟨h.1,ih () h.2⟩
 |choose _ _ _ _|os _ _ _ _|call _ _ _ _ _ _|genState _ _ _|newGen _ _ _|resume _ _ _ _ _=>exact λh=>h.elim
 |raise _|unsupported _|finish _|register _ _ _|yield _ _ _ _ _|fork _ _ _|await _ _ _ _ _ _=>exact λ_=>trivial
theorem wp_dk{α:Type}{M:Model}{Γ:PySem.Ctx}{Q:α->Pos->Shared->Prop}{E:Value->Pos->Shared->Prop}{h0:Heap}:∀(t:Sem α)(p:Pos)(s:Shared),Dk t->DkH h0 s.heap->Sem.wp M Γ t Q E p s ->
 Sem.wp M Γ t (λa p' s'=>Q a p' s'/\DkH h0 s'.heap) (λe p' s'=>E e p' s'/\DkH h0 s'.heap) p s:=by
 intro t
 induction t with
 |pure a=>exact λp s _ k h=>⟨h,k⟩
 |raise e=>exact λp s _ k h=>⟨h,k⟩
 |unsupported _|finish _|register _ _ _|yield _ _ _ _ _|fork _ _ _|await _ _ _ _ _ _=>exact λp s _ _ h=>h.elim
 |rule _ k ih|point _ k ih=>exact λp s d kk h=>ih () p s d kk h
 | «at» q k ih=>exact λp s d kk h=>ih () q s d kk h
 |load a _ k ih=>exact λp s d kk ⟨o,ho,h⟩=>⟨o,ho,ih o p s (d o) kk h⟩
 |loadIfAlive a k ih=>exact λp s d kk h=>ih _ p s (d _) kk h
 |update a _ f k ih=>exact λp s d kk ⟨ha,h⟩=>⟨ha,ih () p _ d.2 (kk.trans (DkH.upd d.1)) h⟩
 |alloc o k ih=>exact λp s d kk h=>ih _ p _ (d _) (kk.trans (DkH.push _ o)) h
 |fresh k ih=>exact λp s d kk h=>ih _ p {s with toks:=s.toks+1} (d _) kk h
 |ask k ih=>exact λp s d kk h=>ih _ p s (d _) kk h
 |handled _ k ih=>exact λp s d kk h=>ih _ p s (d _) kk h
 |stack k ih=>exact λp s d kk h=>ih _ p s (d _) kk h
 |thread k ih=>exact λp s d kk h=>ih _ p s (d _) kk h
 |choose _ _ _ _|os _ _ _ _|call _ _ _ _ _ _|genState _ _ _|newGen _ _ _|resume _ _ _ _ _=>exact λp s d=>d.elim
theorem nK{α:Type}{M:Model}{A:Around}{t:Sem α}{Q:α->Shared->Prop}{E:Value->Shared->Prop}{s:Shared}(d:Dk t)(h:wpAny M A t Q E s):wpAny M A t (λa s'=>Q a s'/\DkH s.heap s'.heap) (λe s'=>E e s'/\DkH s.heap s'.heap) s:=
 λΓ p hΓ=>wp_dk t p s d (DkH.refl _) (h Γ p hΓ)
section
variable{α β:Type}
theorem dkb{m:Sem α}{f:α->Sem β}(hm:Dk m)(hf:∀a,Dk (f a)):Dk (m>>=f):=G3 hf hm
theorem dkp{a:α}:Dk (pure a:Sem α):=trivial
theorem dku{w:String}:Dk (unsupported w:Sem α):=trivial
theorem wF(a:Addr):Dk (load a):=λ_=>trivial
theorem wG:Dk stack:=λ_=>trivial
theorem G4(v:Value):Dk (fieldsOf v):=by
 unfold fieldsOf
 repeat(first|exact wF _|exact dkp|exact dku|exact trivial|assumption|(refine dkb ?_ ?_)|(intro _)|split)
theorem wH(v:Value)(i:Nat):Dk (PySem.field v i):=by
 unfold PySem.field
 repeat(first|exact G4 _|exact dkp|exact dku|exact trivial|assumption|(refine dkb ?_ ?_)|(intro _)|split)
theorem Bc{a:Addr}{f:Obj->Obj}(hf:DkF f):Dk (update a f):=⟨hf,trivial⟩
theorem G5(g:Array Value->Array Value):DkF (Obj.mapFields g):=λo=>by
 obtain⟨c,d,x,s⟩:=o
 cases x<;>exact⟨rfl,rfl⟩
theorem G6(g:Obj->Array (Option Value)):DkF (λo=>{o with slots:=g o}):=λo=>⟨rfl,by obtain⟨c,d,x,s⟩:=o;cases x<;>rfl⟩
theorem Bd(v:Value)(i:Nat)(x:Value):Dk (setField v i x):=by
 unfold setField
 split
 ·unfold updateField
  repeat(first|exact wF _|exact Bc (G5 _)|exact dkp|exact dku|exact trivial|assumption|(refine dkb ?_ ?_)|(intro _)|split)
 ·exact trivial
theorem wI(e:Value)(f:Option Addr):Dk (setFlight e f):=by
 unfold setFlight
 repeat(first|exact wH _ _|exact Bd _ _ _|exact dkp|exact dku|exact trivial|assumption|(refine dkb ?_ ?_)|(intro _)|split)
theorem G7:Dk frameEnvs:=by
 unfold frameEnvs
 repeat(first|exact wG|exact dkp|exact dku|exact trivial|assumption|(refine dkb ?_ ?_)|(intro _)|split)
theorem Be:∀l:List Env,Dk (readyFrames l)
 |[]=>trivial
 |env::outer=>by
  have ih:=Be outer
  unfold readyFrames behindIsImport keptBack
  repeat(first|exact wF _|exact wH _ _|exact ih|exact wG|exact Bc (G6 _)|exact dkp|exact dku|exact trivial|assumption|(refine dkb ?_ ?_)|(intro _)|split)
theorem G8(l:List Env):Dk (frameObject l):=by
 cases l with
 |nil=>exact trivial
 |cons env outer=>
  unfold frameObject
  repeat(first|exact Be _|exact dkp|exact dku|exact trivial|assumption|(refine dkb ?_ ?_)|(intro _)|split)
theorem G9(env:Env):Dk (PySem.frameOf env):=by
 unfold PySem.frameOf
 repeat(first|exact G7|exact G8 _|exact dkp|exact dku|exact trivial|assumption|(refine dkb ?_ ?_)|(intro _)|split)
theorem G_(f:Addr)(b:Bool):Dk (entryPlaceOf f b):=by
 unfold entryPlaceOf
 repeat(first|exact wG|exact dkp|exact dku|exact trivial|assumption|(refine dkb ?_ ?_)|(intro _)|split)
theorem Ga(t:String)(vs:List Value):Dk (newFields t vs):=by
 unfold newFields newObj newObjAsIs
 repeat(first|(exact λ_=>trivial)|exact dkp|exact dku|exact trivial|assumption|(refine dkb ?_ ?_)|(intro _)|split)
theorem Gb(a b c d e:Value)(l:List Value):Dk (EntryCells.newEntry a b c d e l):=by
 unfold EntryCells.newEntry
 exact Ga _ _
theorem Bf(e:Value)(env:Env):Dk (noteFrame e env):=by
 unfold noteFrame
 repeat(first|exact wH _ _|exact Bd _ _ _|exact G9 _|exact G_ _ _|exact Gb _ _ _ _ _ _|exact dkp|exact dku|exact trivial|assumption|(refine dkb ?_ ?_)|(intro _)|split)
theorem Bg(env:Env)(e:Value):Dk (leaving env e):=by
 unfold leaving
 exact dkb (Bf _ _) λ_=>wI _ _
end
section
variable{P:Program}{w:World}{H H':Hp}{h h':Heap}{a:Addr}{o:HO}
theorem Bh(x:ObjOk P w H h a o):∃u,h.get? a=some u:=by
 cases o with
 |lst xs=>obtain⟨_,_,_,_,e⟩:=x;exact⟨_,e⟩
 |tup xs=>obtain⟨_,_,_,u,e,_⟩:=x;exact⟨_,e⟩
 |dK kvs=>obtain⟨_,_,_,_,o,_,_,e,_⟩:=x;exact⟨_,e⟩
 |dT kvs=>obtain⟨_,_,_,_,o,_,_,e,_⟩:=x;exact⟨_,e⟩
 |set S n=>obtain⟨o,_,_,_,e,_⟩:=x;exact⟨_,e⟩
 |ins C dx fs=>obtain⟨_,_,_,e,_⟩:=x;exact⟨_,e⟩
 |own y=>obtain⟨_,e⟩:=x;exact⟨_,e⟩
 |xd fs=>obtain⟨_,⟨_,_,_,e,_⟩,_⟩:=x;exact⟨_,e⟩
 |rng lo hi=>obtain⟨_,_,_,e⟩:=x;exact⟨_,e⟩
 |frz ob u=>obtain⟨e,_⟩:=x;exact⟨_,e⟩
 |tbl ps=>exact⟨_,(show h.get? a=some _ from x)⟩
 |met f y=>exact⟨_,(show h.get? a=some _ from x)⟩
 |ext φ=>obtain⟨_,⟨_,e⟩,_⟩:=x;exact⟨_,e⟩
theorem qK(x:HOk P w H h)(k:∀b u o,H b=some o->h.get? b=some u->h'.get? b=some u):HOk P w H h':=λa o e=>
 (x a o e).stay (λb u hb q=>by
  rcases hb with rfl|hb
  ·exact k _ u _ e q
  ·exact k b u _ hb q) (λ_ q=>q) λ_ _ q=>q
end
noncomputable def CXE(P:Program)(w:World):CXT:=λouter H s E ev s'=>∃(ea:Addr)(cls a0:Value)(H':Hp)(B:Heap),ev=.ref ea/\s'.os=s.os/\AllBare s'.gens/\Un (frs outer) [] H H' s.heap s'.heap/\HOk P w H' s'.heap /\
 s.heap.get? ea=none/\H' ea=none/\Heap.FlyingW B outer ea cls a0 s'.heap/\(∀b o,s.heap.get? b=some o->b∉frs outer->∃u,B.get? b=some u)/\(∀b o,H' b=some o->∃u,B.get? b=some u)/\∃od,(∃oe,s'.heap.get? ea=some oe/\oe.dict=od)/\E cls od H'
theorem qL{P:Program}{w:World}{X:Cx}:lI (CXE P w) X E0:=by
 intro _ _ _ _ _ _ _ h
 obtain⟨_,_,_,_,_,_,_,_,_,_,_,_,_,_,_,_,_,z⟩:=h
 exact z.elim
section
variable{P:Program}{w:World}{K:PySem.W.Frag}{mg:Str->Option Value}{base:Heap}{N:List Str}{qual:Str}{scope:Scope}{f:Addr}{cd:Value}{A:Around}{outer:List Env}{s₀:Shared}{H₀:Hp}{E:XK}
theorem qM{X:Cx}{pins:List (Addr×Obj)}{σ:L2.St}{H:Hp}{s:Shared}(I:Inv X pins σ H s){b:Addr}{o:Obj}(e:X.s₀.heap.get? b=some o)(hb:b∉X.fs):b∉frs X.stack:=λz=>by
 rcases aY.mp (I.stkSub b z)with q|q
 ·have:=cR (Heap.lt_size e) I.ok.above
  rw[q]at this
  exact absurd this (jS _)
 ·exact hb q
theorem Bi{pins:List (Addr×Obj)}{σ:L2.St}{H:Hp}{s:Shared}{e:Addr}{oe:Obj}{vs:Array Value}{a0:Value}
 (I:Inv (aV (CXE P w) P w K mg base N qual scope f cd A outer s₀ H₀ E) pins σ H s) (he:s.heap.get? e=some oe) (hd:oe.data=.fields vs) (h1:vs[1]?=some .none) (h0:vs[0]?=some a0) (hn:H e=none) (hs:s₀.heap.get? e=none) (hE:E oe.cls oe.dict H) :
 (aV (CXE P w) P w K mg base N qual scope f cd A outer s₀ H₀ E).xe (.ref e) s:=by
 have hst:=I.stack
 have enf:e∉frs (aV (CXE P w) P w K mg base N qual scope f cd A outer s₀ H₀ E).stack:=λz=>by
  obtain⟨_,o2,ho2,hd2⟩:=hst.mem z
  rw[he]at ho2;cases ho2
  exact hd2 vs hd
 obtain⟨hid,ehid⟩:∃l:List Addr,l=e::frs (aV (CXE P w) P w K mg base N qual scope f cd A outer s₀ H₀ E).stack:=⟨_,rfl⟩
 have hin:∀env∈(aV (CXE P w) P w K mg base N qual scope f cd A outer s₀ H₀ E).stack,∀a,env.frame=some a->a∈hid:=λenv hm a ha=>by
  rw[ehid];exact bG _ (jU.mpr ⟨env,hm,ha⟩)
 have there:∀b o,s₀.heap.get? b=some o->∃o',s.heap.get? b=some o':=λb o q=>I.base.there b o q (λz=>by cases z)
 have eh:e∈hid:=by rw[ehid];exact bR
 have first:=wpAny_leaving_firstW (M:=model P w) (E:=λe' s''=>CXE P w outer H₀ s₀ E e' s'') (base:=hideAll s.heap hid) (s:=s) (Q:=λ_ s''=>∃h',s''={s with heap:=h' }/\Heap.LeftW (hideAll s.heap hid) (aV (CXE P w) P w K mg base N qual scope f cd A outer s₀ H₀ E).stack e oe.cls a0 s.heap h')
  I.ok.frames (funFrames_hide hst hin) rfl he (λb o q=>of_hideAll _ q) (hideAll_none _ eh) hd h1 h0 λh' hL=>⟨h',rfl,hL⟩
 refine wpAny_mono (nK (Bg _ _) first) (λ_ s'' hq=>?_) λ_ _ z=>z.1
 obtain⟨⟨h'',rfl,k1,k2,k3,k4⟩,dk⟩:=hq
 have keep:∀b u,s.heap.get? b=some u->b∉hid->h''.get? b=some u:=λb u q hb=>k1 b u (hideAll_get _ q hb)
 have nin:∀b,b≠e->b∉frs (aV (CXE P w) P w K mg base N qual scope f cd A outer s₀ H₀ E).stack->b∉hid:=λb x1 x2 z=>by
  rw[ehid]at z
  rcases aY.mp z with z|z
  ·exact x1 z
  ·exact x2 z
 have trk:∀b o,H b=some o->b∉hid:=λb o q=>nin b (λz=>by rw[z,hn]at q;cases q) λz=>by rw[I.stkFree b z]at q;cases q
 have slots:∀b u,s.heap.get? b=some u->b∈frs (aV (CXE P w) P w K mg base N qual scope f cd A outer s₀ H₀ E).stack->∃sl,h''.get? b=some {u with slots:=sl}:=λb u q hb=>by
  obtain⟨_,o2,ho2,hd2⟩:=hst.mem hb
  rw[q]at ho2;cases ho2
  exact k4 b u q hd2
 have old:∀b o,s₀.heap.get? b=some o->b≠e:=λb o q z=>by rw[z,hs]at q;cases q
 have fl:Heap.FlyingW (hideAll s.heap hid) outer e oe.cls a0 h'':=⟨k1,hideAll_none _ eh,k2.2.2,k3⟩
 refine⟨e,oe.cls,a0,H,_,rfl,I.os,I.bare,⟨?_,?_,?_,?_,?_,?_,?_⟩,?_,hs,hn,fl,?_,?_,oe.dict,dk e oe he,hE⟩
 ·intro b o q n hb _
  exact keep b o (I.base.keep b o q n hb (λz=>by cases z)) (nin b (old b o q) (qM I q hb))
 ·intro b o q n hb _
  obtain⟨sl,q2⟩:=I.base.slot b o q n hb (λz=>by cases z)
  obtain⟨sl',q3⟩:=slots b _ q2 (jU.mpr (by
   obtain⟨env,hm,ha⟩:=jU.mp hb
   exact⟨env,bG _ hm,ha⟩))
  exact⟨sl',q3⟩
 ·intro b o q n _
  exact I.base.free b o q n (λz=>by cases z)
 ·intro b o q _
  obtain⟨o',q2⟩:=there b o q
  by_cases hb:b∈frs (aV (CXE P w) P w K mg base N qual scope f cd A outer s₀ H₀ E).stack
  ·obtain⟨sl',q3⟩:=slots b _ q2 hb
   exact⟨_,q3⟩
  ·exact⟨o',keep b o' q2 (nin b (old b o q) hb)⟩
 ·exact I.base.tups
 ·exact I.base.frzs
 ·exact I.base.tbls
 ·exact qK I.hok λb u o q1 q2=>keep b u q2 (trk b o q1)
 ·intro b o q hb
  obtain⟨o',q2⟩:=there b o q
  exact⟨o',hideAll_get _ q2 (nin b (old b o q) (qM I q hb))⟩
 ·intro b o q
  obtain⟨u,q2⟩:=Bh (I.hok b o q)
  exact⟨u,hideAll_get _ q2 (trk b o q)⟩
theorem Gc{pins:List (Addr×Obj)}{σ:L2.St}{H:Hp}{s:Shared}{h':Heap}{e:Addr}{cls:Value}{args:List Value}
 (I:Inv (aV (CXE P w) P w K mg base N qual scope f cd A outer s₀ H₀ E) pins σ H s) (hx:Heap.MadeExcOf s.heap h' e cls args) (hE:E cls none H) :
 (aV (CXE P w) P w K mg base N qual scope f cd A outer s₀ H₀ E).xe (.ref e) {s with heap:=h' }:=by
 obtain⟨t,ht,_,_⟩:=hx.there
 refine Bi (s:={s with heap:=h' }) (I.kept (t':=s.toks) hx.keeps) ht rfl rfl rfl ?_ ?_ hE
 ·cases q:H e with
  |none=>rfl
  |some o=>obtain⟨u,q2⟩:=Bh (I.hok e o q);rw[hx.new]at q2;cases q2
 ·cases q:s₀.heap.get? e with
  |none=>rfl
  |some o=>obtain⟨o',q2⟩:=I.base.there e o q (λz=>by cases z);rw[hx.new]at q2;cases q2
theorem Gd:lI (CXE P w) (aV (CXE P w) P w K mg base N qual scope f cd A outer s₀ H₀ E) E:=by
 rintro pins σ H s ev s' I ⟨ea,cls,a0,H',B,rfl,os,bare,un,hok,new,free,fl,hB,hT,od,dO,hE⟩
 have there:∀b o,s₀.heap.get? b=some o->∃o',s.heap.get? b=some o':=λb o q=>I.base.there b o q (λz=>by cases z)
 have first:=wpAny_leaves_onW (M:=model P w) (E:=λe' s''=>CXE P w outer H₀ s₀ E e' s'') (Q:=λ_ s''=>∃h',s''={s' with heap:=h' }/\Heap.FlyingW B outer ea cls a0 h'/\s'.heap.UpToSlots h') I.ok.frames rfl fl λh' y1 y2=>⟨h',rfl,y1,y2⟩
 refine wpAny_mono (nK (Bg _ _) first) (λ_ s'' hq=>?_) λ_ _ z=>z.1
 obtain⟨⟨h'',rfl,x1,x4⟩,dk⟩:=hq
 have dO':∃oe,h''.get? ea=some oe/\oe.dict=od:=by
  obtain⟨oe,y1,y2⟩:=dO
  obtain⟨o2,y3,y4⟩:=dk ea oe y1
  exact⟨o2,y3,y4.trans y2⟩
 have keepB:∀b u,s'.heap.get? b=some u->(∃v,B.get? b=some v)->h''.get? b=some u:=λb u q ⟨v,hv⟩=>by
  have:=fl.1 b v hv
  rw[q]at this;cases this
  exact x1.1 b u hv
 have slots:∀b u,s'.heap.get? b=some u->b∈frs (aV (CXE P w) P w K mg base N qual scope f cd A outer s₀ H₀ E).stack->∃sl,h''.get? b=some {u with slots:=sl}:=λb u q hb=>by
  obtain⟨_,o',ho',hd⟩:=fl.2.2.1.mem hb
  rw[q]at ho';cases ho'
  exact x4 b u q hd
 have sub:∀b,b∈frs outer->b∈frs (aV (CXE P w) P w K mg base N qual scope f cd A outer s₀ H₀ E).stack:=λb hb=>by
  obtain⟨env,he,hf⟩:=jU.mp hb
  exact jU.mpr ⟨env,bG _ he,hf⟩
 refine⟨ea,cls,a0,H',B,rfl,os.trans I.os,bare,⟨?_,?_,?_,?_,?_,?_,?_⟩,?_,?_,free,x1,?_,hT,od,dO',hE⟩
 ·intro b o q n hb _
  have q1:=I.base.keep b o q n hb (λz=>by cases z)
  have n1:=I.base.free b o q n (λz=>by cases z)
  have hb2:=qM I q hb
  exact keepB b o (un.keep b o q1 n1 hb2 (λz=>by cases z)) (hB b o q1 hb2)
 ·intro b o q n hb _
  obtain⟨sl,q1⟩:=I.base.slot b o q n hb (λz=>by cases z)
  have n1:=I.base.free b o q n (λz=>by cases z)
  obtain⟨sl2,q2⟩:=un.slot b _ q1 n1 (sub b hb) (λz=>by cases z)
  obtain⟨sl3,q3⟩:=slots b _ q2 (sub b hb)
  exact⟨sl3,q3⟩
 ·intro b o q n _
  obtain⟨o',q1⟩:=there b o q
  exact un.free b o' q1 (I.base.free b o q n (λz=>by cases z)) (λz=>by cases z)
 ·intro b o q _
  obtain⟨o',q1⟩:=there b o q
  obtain⟨o2,q2⟩:=un.there b o' q1 (λz=>by cases z)
  by_cases hb:b∈frs (aV (CXE P w) P w K mg base N qual scope f cd A outer s₀ H₀ E).stack
  ·obtain⟨sl,q3⟩:=slots b o2 q2 hb
   exact⟨_,q3⟩
  ·exact⟨o2,keepB b o2 q2 (hB b o' q1 hb)⟩
 ·exact λb xs q=>un.tups b xs (I.base.tups b xs q)
 ·exact λb o u q=>un.frzs b o u (I.base.frzs b o u q)
 ·intro b ps q
  obtain⟨m1,e1⟩:=I.base.tbls b ps q
  obtain⟨m2,e2⟩:=un.tbls b _ e1
  exact⟨m1++m2,by rw[e2,LN]⟩
 ·exact qK hok λb u o q1 q2=>keepB b u q2 (hT b o q1)
 ·cases q:s₀.heap.get? ea with
  |none=>rfl
  |some o=>obtain⟨o',q2⟩:=there ea o q;rw[new]at q2;cases q2
 ·intro b o q hb
  obtain⟨o',q2⟩:=there b o q
  exact hB b o' q2 (qM I q hb)
end
noncomputable abbrev bmV:List Value:=[.type "ValueError", .type "Exception", .type "BaseException", .type "object"]
noncomputable abbrev OwnV (x:Str) (C:Addr) (mg:Str->Option Value) (h:Heap):Prop:=OwnCls x C bmV "ValueError.__new__" mg h
theorem Ge{X:Cx}{x:Str}{C:Addr}{np cpos pos:Pos}{e:Expr}{es:List Expr}{t:TA}{ER:Hp->Prop}(OC:OwnV x C X.mg X.base)(hg:Gl X x)(hc:X.calm=true)(ha:PA X (e::es) t)
 (hxe:∀(pins:List (Addr×Obj))(σ:L2.St)(H:Hp)(s:Shared)(h':Heap)(a:Addr)(args:List Value),Inv X pins σ H s->Heap.MadeExcOf s.heap h' a (.ref C) args->ER H->X.xe (.ref a) {s with heap:=h' })
 (hdb:(x==("__debug__" : Str))=false) (he:starEach (e::es) X.env=(false,eval e X.env)::starEach es X.env) (hpl:(backTo cpos (starEach es X.env)).any (·.1)=false) :
 PS X (.Raise (some (.Call (.Name x np) (e::es) [] cpos)) none pos) (λ_ σ H=>t σ H λvs H1=>vs.length<=sizeLine/\ER H1):=by
 intro pins s σ H D I h
 obtain⟨bm,N,nm,q,bs,hdct,sn,sub,ab,col,dd,k0,k1,k2,k3,k5,mN,hC,hN,hni,TL⟩:=OC.obj
 refine wpAny_Raise_call_subT (C:=C) (N:=N) (nm:=nm) (q:=q) (bs:=bs) (bm:=bm) (hdct:=hdct) (sn:=sn) (sub:=sub) (ab:=ab) (col:=col) (dd:=dd) (k0:=k0) (k1:=k1) (k2:=k2) (k3:=k3) (k5:=k5) (mN:=mN) PySem.F.excBase_ValueError (TL.hasType (by decide)) (I.ok.hd hc) ?_ hni ?_
 ·rw[he]
  show(false||(backTo cpos (starEach es X.env)).any (·.1))=false
  rw[hpl];rfl
 ·refine pW I hg OC.bound ⟨rfl,?_⟩ hdb
  have hA:=ha cpos pins s σ H _ I h
  rw[he]at hA⊢
  refine Calls.evalArgs_plain (thn hA λus s1 ⟨vs,H1,I1,r,hl,hE⟩=>?_)
  refine⟨rfl,by rw[<-r.length];exact hl,I1.bk _ _ hC,hN.keeps I1.bk,TL.keeps I1.bk,λh' a hm=>?_⟩
  exact hxe pins σ H1 s1 h' a _ I1 hm hE
section
variable{M:Model}{A:Around}{E:Value->Shared->Prop}{h:Heap}{g:Array GenState}{d:Drawn}{t:Nat}{os:OsState}
variable{nm q:Str}{C N:Addr}{bs bm:List Value}{hdct:Bool}{sn:List Str}{sub:List Value}{ab:Bool}{col:Option Bool}{dd:Option Addr}{k0 k1 k2 k3 k5:Option Value}{newId:String}
variable{nm' q':Str}{C' N':Addr}{bs' bm':List Value}{hdct':Bool}{sn':List Str}{sub':List Value}{ab':Bool}{col':Option Bool}{dd':Option Addr}{k0' k1' k2' k3' k5':Option Value}{newId':String}
theorem Gf{e:Addr}{oe:Obj}{b:Bool}{Q:Bool->Shared->Prop}
 (hC:h.get? C=some (excClassObj nm q C N bs bm hdct sn sub ab col dd k0 k1 k2 k3 k5 newId))
 (hC':h.get? C'=some (excClassObj nm' q' C' N' bs' bm' hdct' sn' sub' ab' col' dd' k0' k1' k2' k3' k5' newId'))
 (he:h.get? e=some oe) (hcls:oe.cls=.ref C) (hb':bm'.contains (.type "BaseException")=true) (hb:(Value.ref C::bm).contains (.ref C')=b)
 (hq:Q b ⟨h,g,d,t,os⟩):wpAny M A (excMatches (.ref e) (.ref C')) Q E ⟨h,g,d,t,os⟩:=by
 have w1:(Value.ref C'::bm').contains (.type "BaseException")=true:=by
  rw[List.contains_cons,hb',AF]
 have w2:=tc_notTuple
 unfold excMatches
 repeat(first
  | (with_reducible refine wpAny_loadPart_at he ?_
     rw[hcls])
  |with_reducible refine wpAny_loadPart_at hC' ?_
  | (with_reducible refine wpAny_isSubtype_exc hC' ?_
     rw[w1])
  | (with_reducible refine wpAny_isSubtype_exc hC ?_
     rw[hb])
  |wp_step)
 all_goals(cases b<;>first|exact hq|(wp_walk;exact hq))
end
section
variable{X:Cx}{pins:List (Addr×Obj)}{σ:L2.St}{H:Hp}{s:Shared}
theorem Gg{M:Model}{A:Around}{E:Value->Shared->Prop}{j:Nat}{n:Str}{pos:Pos}{Q:Unit->Shared->Prop}(I:Inv X pins σ H s)(hN:X.N.Nodup)(hj:X.N[j]?=some n)(hk:X.env.scope.names.lookup n=some .local)
 (h:∀s',Inv X pins (σ.set j none) H s'->Q () s'):wpAny M A (do bindName X.env n .none;unbindBehindTheSuite X.env n pos) Q E s:=by
 obtain⟨m,hn,hl⟩:=id I.loc
 have hcls:(X.env.scope.kind==.class||(X.env.scope.kind==.module&&X.env.locals != X.env.globals))=false:=by rw[I.ok.kind];rfl
 have hjσ:j<σ.length:=by rw[I.len];exact(eT.mp hj).1
 refine wpAny_nameGoes_keeps hk hn hcls λh' v hn' hs=>?_
 obtain⟨oL,_,_,hoL,_⟩:=id hn
 have far:∀{b:Addr} {o:Obj},X.s₀.heap.get? b=some o->b≠X.env.locals:=λe=>bM (cR (Heap.lt_size e) I.ok.above)
 refine h _ ⟨I.ok,I.os,I.bare,⟨λb o e n hb hx=>?_,λb o e n hb hx=>?_,I.base.free,λb o e hx=>?_,I.base.tups,I.base.frzs,I.base.tbls⟩,⟨_,hn',λi y v' e1 e2 e3=>?_⟩,λy c e=>?_,I.free,I.freeC,λp hp=>?_,?_,by simpa using I.len⟩
 ·exact(hs.2 b (far e)).trans (I.base.keep b o e n hb hx)
 ·obtain⟨sl,e1⟩:=I.base.slot b o e n hb hx
  exact⟨sl,(hs.2 b (far e)).trans e1⟩
 ·obtain⟨o',e1⟩:=I.base.there b o e hx
  exact⟨o',(hs.2 b (far e)).trans e1⟩
 ·by_cases hi:i=j
  ·subst hi
   rw[iZ hjσ]at e2
   cases e2
  ·rw[kZ (Ne.symm hi)]at e2
   obtain⟨u',r',q⟩:=hl i y v' e1 e2 e3
   refine⟨u',r',?_⟩
   rcases q with⟨k,e⟩|⟨k,c,e,z⟩
   ·refine .inl ⟨k,?_⟩
    have:y≠n:=λe=>hi (uS hN e1 (e▸hj))
    simp[this,e]
   ·exact .inr ⟨k,c,e,z.sameBut hs (I.cne y c e)⟩
 ·obtain⟨w',z⟩:=I.cell y c e
  exact⟨w',z.sameBut hs (I.cne y c e)⟩
 ·obtain⟨e,n,ne,nf,d⟩:=I.pin p hp
  exact⟨(hs.2 p.1 ne).trans e,n,ne,nf,d⟩
 ·refine qK I.hok λb u o q1 q2=>(hs.2 b λz=>?_).trans q2
  rw[z,I.free]at q1;cases q1
theorem track{a:Addr}{o:HO}{u:Obj}(I:Inv X pins σ H s)(hn:H a=none)(h0:X.s₀.heap.get? a=none)(ha:s.heap.get? a=some u)(hl:a≠X.env.locals)(hc:∀x c,X.env.cells.lookup x=some c->c≠a)(hp:∀p∈X.pn++pins,p.1≠a)
 (new:ObjOk X.prog X.w (L2.upd H a o) s.heap a o):Inv X pins σ (L2.upd H a o) s where
 ok:=I.ok
 os:=I.os
 bare:=I.bare
 base:=⟨I.base.keep,I.base.slot,λb v e n hx=>by
  rw[aG (λz=>by rw[z,h0]at e;cases e)];exact I.base.free b v e n hx,I.base.there,
  λb xs q=>by
   have:=I.base.tups b xs q
   rw[aG (eF this hn)];exact this,
  λb v w q=>by
   have:=I.base.frzs b v w q
   rw[aG (eF this hn)];exact this,
  λb ps q=>by
   obtain⟨m,e⟩:=I.base.tbls b ps q
   exact⟨m,by rw[aG (eF e hn)];exact e⟩⟩
 loc:=I.loc
 cell:=I.cell
 free:=by rw[aG (Ne.symm hl)];exact I.free
 freeC:=λx c e=>by rw[aG (hc x c e)];exact I.freeC x c e
 pin:=λp hq=>by
  obtain⟨e,n,r⟩:=I.pin p hq
  exact⟨e,by rw[aG (hp p hq)];exact n,r⟩
 hok:=λb v q=>by
  by_cases hb:b=a
  ·subst hb;rw[bQ]at q;cases q;exact new
  ·rw[aG hb]at q
   exact(I.hok b v q).stay (λ_ _ _ r=>r) (λc r=>by rw[aG (eF r hn)];exact r) λc xs r=>by rw[aG (eF r hn)];exact r
 len:=I.len
noncomputable def kM(X:Cx)(v:Value):Cx:={X with A:=X.A.mark (some v),calm:=false}
theorem Gh(I:Inv X pins σ H s)(v:Value):Inv (kM X v) pins σ H s where
 ok:=⟨I.ok.mod,I.ok.kind,I.ok.glob,I.ok.blt,I.ok.above,I.ok.inj,I.ok.has,I.ok.cab,(λz=>by cases z),I.ok.frames,I.ok.stk,I.ok.exf,I.ok.bs,I.ok.bsz,I.ok.noex,I.ok.exfs,I.ok.funs,I.ok.frf⟩
 os:=I.os
 bare:=I.bare
 base:=I.base
 loc:=I.loc
 cell:=I.cell
 free:=I.free
 freeC:=I.freeC
 pin:=I.pin
 hok:=I.hok
 len:=I.len
theorem Gi{v:Value}(I:Inv (kM X v) pins σ H s)(hd:X.calm=true->X.A.handled=none):Inv X pins σ H s where
 ok:=⟨I.ok.mod,I.ok.kind,I.ok.glob,I.ok.blt,I.ok.above,I.ok.inj,I.ok.has,I.ok.cab,hd,I.ok.frames,I.ok.stk,I.ok.exf,I.ok.bs,I.ok.bsz,I.ok.noex,I.ok.exfs,I.ok.funs,I.ok.frf⟩
 os:=I.os
 bare:=I.bare
 base:=I.base
 loc:=I.loc
 cell:=I.cell
 free:=I.free
 freeC:=I.freeC
 pin:=I.pin
 hok:=I.hok
 len:=I.len
theorem landed{E:XK}{s':Shared}{h6:Heap}{ea:Addr}{H':Hp}{B:Heap}(I:Inv X pins σ H s)(os:s'.os=s.os)(bare:AllBare s'.gens)(un:Un (frs X.stack) [] H H' s.heap s'.heap)(hok:HOk X.prog X.w H' s'.heap)
 (hB:∀b o,s.heap.get? b=some o->b∉frs X.stack->∃u,B.get? b=some u) (hT:∀b o,H' b=some o->∃u,B.get? b=some u) (k1:B.StaysIn s'.heap) (k6:B.StaysIn h6) (ff:s'.heap.FunFrames B X.stack) (up:s'.heap.UpToSlots h6):Inv X pins σ H' {s' with heap:=h6}:=by
 have keepB:∀b u,s'.heap.get? b=some u->(∃v,B.get? b=some v)->h6.get? b=some u:=λb u q ⟨v,hv⟩=>by
  have:=k1 b v hv
  rw[q]at this;cases this
  exact k6 b u hv
 have slots:∀b u,s'.heap.get? b=some u->b∈frs X.stack->∃sl,h6.get? b=some {u with slots:=sl}:=λb u q hb=>by
  obtain⟨_,o',ho',hd⟩:=ff.mem hb
  rw[q]at ho';cases ho'
  exact up b u q hd
 refine I.call' (s':={s' with heap:=h6}) (ch:=[]) os ⟨?_,?_,un.free,?_,un.tups,un.frzs,un.tbls⟩ ?_ bare (λb z=>by cases z)
 ·exact λb o q n hb hx=>keepB b o (un.keep b o q n hb hx) (hB b o q hb)
 ·intro b o q n hb hx
  obtain⟨sl,e⟩:=un.slot b o q n hb hx
  obtain⟨sl2,e2⟩:=slots b _ e hb
  exact⟨sl2,e2⟩
 ·intro b o q hx
  obtain⟨o2,e⟩:=un.there b o q hx
  by_cases hb:b∈frs X.stack
  ·obtain⟨sl,e2⟩:=slots b o2 e hb
   exact⟨_,e2⟩
  ·exact⟨o2,keepB b o2 e (hB b o q hb)⟩
 ·exact qK hok λb u o q1 q2=>keepB b u q2 (hT b o q1)
end
structure OwnW(x:Str)(C:Addr)(mg:Str->Option Value)(h:Heap):Prop where
 bound:mg x=some (.ref C)
 obj:∃bm N nm q bs hdct sn sub ab col dd k0 k1 k2 k3 k5,h.get? C=some (excClassObj nm q C N bs bm hdct sn sub ab col dd k0 k1 k2 k3 k5 "ValueError.__new__")/\OwnTail h bmV bm
theorem OwnW.keeps{x:Str}{C:Addr}{mg:Str->Option Value}{h h':Heap}(O:OwnW x C mg h)(k:∀b o,h.get? b=some o->h'.get? b=some o):OwnW x C mg h':=by
 obtain⟨bm,N,nm,q,bs,hdct,sn,sub,ab,col,dd,k0,k1,k2,k3,k5,hC,T⟩:=O.obj
 exact⟨O.bound,bm,N,nm,q,bs,hdct,sn,sub,ab,col,dd,k0,k1,k2,k3,k5,k _ _ hC,T.keeps k⟩
theorem OwnW.of{x:Str}{C:Addr}{mg:Str->Option Value}{h:Heap}(O:OwnV x C mg h):OwnW x C mg h:=by
 obtain⟨bm,N,nm,q,bs,hdct,sn,sub,ab,col,dd,k0,k1,k2,k3,k5,_,hC,_,_,T⟩:=O.obj
 exact⟨O.bound,bm,N,nm,q,bs,hdct,sn,sub,ab,col,dd,k0,k1,k2,k3,k5,hC,T⟩
noncomputable def gA(C a:Addr)(od:Option Addr):HO:=.ext λh=>∃o,h.get? a=some o/\o.cls=.ref C/\o.dict=od/\∀c,o.data≠.cls c
noncomputable def wJ(h:Heap)(C CT:Addr):Prop:=∀nm q N bs bm hdct sn sub ab col dd k0 k1 k2 k3 k5 nid,h.get? C=some (excClassObj nm q C N bs bm hdct sn sub ab col dd k0 k1 k2 k3 k5 nid)->(Value.ref C::bm).contains (.ref CT)=true
theorem Gj{P:Program}{w:World}{H:Hp}{h:Heap}{C a:Addr}{o:Obj}{od:Option Addr}(e:h.get? a=some o)(c:o.cls=.ref C)(d:o.dict=od)(n:∀c,o.data≠.cls c):ObjOk P w H h a (gA C a od):=
 ⟨⟨o,e,c,d,n⟩,⟨o,e⟩,λh1 h2 ⟨o,e,c⟩ k=>⟨o,k o e,c⟩⟩
section
variable{X:Cx}{pins:List (Addr×Obj)}{σ:L2.St}{H:Hp}{s s':Shared}
theorem Gk{Eh:XK}{ev:Value}{n cxn:Str}{j:Nat}{np hpos:Pos}{b₀:Stmt}{suite:List Stmt}{rest:List ExceptHandler}{Q:Flow->Shared->Prop}{EX:Value->Shared->Prop}{CT:Addr}
 (hex:X.ex=[]) (hst:X.stack=X.env::X.outer) (hfr:X.env.frame=some X.env.locals) (I:Inv X pins σ H s) (hc:CXE X.prog X.w X.stack H s Eh ev s') (OT:OwnW cxn CT X.mg X.base) (hg:Gl X cxn) (hdb:(cxn==("__debug__" : Str))=false)
 (hE:∀cls od H',Eh cls od H'->∃y C,cls=.ref C/\OwnW y C X.mg X.base/\wJ X.base C CT) (hN:X.N.Nodup) (hj:X.N[j]?=some n) (hk:X.env.scope.names.lookup n=some .local)
 (k:∀(ea C:Addr)(od:Option Addr)(H':Hp)(s7:Shared),Eh (.ref C) od H'->Inv (kM X (.ref ea)) pins (σ.set j (some (.ref ea))) (L2.upd H' ea (gA C ea od)) s7->H' ea=none ->
  wpAny (model X.prog X.w) (X.A.mark (some (.ref ea))) (execs (b₀::suite) X.env) (λf s₃=>wpAny (model X.prog X.w) X.A (do bindName X.env n .none;unbindBehindTheSuite X.env n hpos) (λ_ s₄=>Q f s₄) EX s₃) (λ_ _=>False) s7) :
 wpAny (model X.prog X.w) X.A (noteFrame ev X.env) (λ_ s₂=>wpAny (model X.prog X.w) X.A (setFlight ev none) (λ_ s₃=>
  wpAny (model X.prog X.w) X.A (handleBy ev X.env (.ExceptHandler (some (.Name cxn np)) (some n) (b₀::suite) hpos::rest)) Q EX s₃) EX s₂) EX s':=by
 obtain⟨ea,cls,a0,H',B,rfl,os,bare,un,hok,new,free,fl,hB,hT,od,dO,hE'⟩:=hc
 obtain⟨y,C,rfl,OC,mro⟩:=hE cls od H' hE'
 have fl0:=fl
 rw[hst]at fl
 have frm:X.A.frames=some (X.env::X.outer):=by rw[<-hst];exact I.ok.frames
 have g4:=wpAny_looks_onW (M:=model X.prog X.w) (E:=EX) (Q:=λ_ s4=>∃h4,s4={s' with heap:=h4}/\Heap.HeldW B (X.env::X.outer) ea (.ref C) a0 X.env.locals h4/\s'.heap.UpToSlots h4) frm hfr fl λh4 y1 y2=>⟨h4,rfl,y1,y2⟩
 refine wpAny_mono (nK (Bf _ _) g4) (λ_ s4 hq4=>?_) λ_ _ z=>z.1
 obtain⟨⟨h4,rfl,held4,up4⟩,dk4⟩:=hq4
 have g5:=wpAny_landsW (M:=model X.prog X.w) (A:=X.A) (E:=EX) (s:={s' with heap:=h4}) (Q:=λ_ s5=>∃h5,s5={s' with heap:=h5}/\Heap.FlyingW B (X.env::X.outer) ea (.ref C) a0 h5/\h4.UpToSlots h5) held4 λh5 y1 y2=>⟨h5,rfl,y1,y2⟩
 refine wpAny_mono (nK (wI _ _) g5) (λ_ s5 hq5=>?_) λ_ _ z=>z.1
 obtain⟨⟨h5,rfl,fl5,up5⟩,dk5⟩:=hq5
 have up45:=up4.trans up5
 have stays:∀h6,B.StaysIn h6->∀b o,X.base.get? b=some o->h6.get? b=some o:=λh6 k6 b o q=>by
  have q1:=I.bk b o q
  have nf:b∉frs X.stack:=λz=>by
   have:=(fl0.2.2.1.mem z).1
   have n2:=(I.stack.mem z).1
   rw[n2]at q;cases q
  obtain⟨u,hu⟩:=hB b o q1 nf
  have q2:=un.keep b o q1 (I.bs b o q).2 nf (λz=>by cases z)
  have q3:=fl0.1 b u hu
  rw[q2]at q3;cases q3
  exact k6 b _ hu
 obtain⟨ob,hob,hobc⟩:=fl5.there
 obtain⟨bmT,NT,nmT,qT,bsT,hdT,snT,subT,abT,colT,ddT,t0,t1,t2,t3,t5,hCT,TT⟩:=(OT.keeps (stays h5 fl5.1)).obj
 obtain⟨bm,N,nm,q,bs,hdct,sn,sub,ab,col,dd,k0,k1,k2,k3,k5,hC0,TL⟩:=OC.obj
 have hC:=stays h5 fl5.1 _ _ hC0
 refine wpAny_handleBy_cons (codeAny_handlers_test ?_) (by intro z;cases z)
 refine Calls.Name_function_global I.ok.kind hg (Calls.loadGlobal_global (by rw[I.ok.glob];exact I.mod.glob.keeps (stays h5 fl5.1)) OT.bound ?_) hdb
 refine Gf hC hCT hob hobc (TT.hasType (by decide)) (mro _ _ _ _ _ _ _ _ _ _ _ _ _ _ _ _ _ hC0) ?_
 refine codeAny_handlers_suite_as ?_
 have g6:=λEZ=>lands_againW (M:=model X.prog X.w) (A:=X.A.mark (some (.ref ea))) (E:=EZ) (s:={s' with heap:=h5}) (Q:=λ_ s6=>∃h6,s6={s' with heap:=h6}/\Heap.FlyingW B (X.env::X.outer) ea (.ref C) a0 h6/\h5.UpToSlots h6) fl5 λh6 y1 y2=>⟨h6,rfl,y1,y2⟩
 refine wpAny_mono (nK (wI _ _) (g6 _)) (λ_ s6 hq6=>?_) λ_ _ z=>z.1
 obtain⟨⟨h6,rfl,fl6,up6⟩,dk6⟩:=hq6
 have up:=up45.trans up6
 have J:Inv X pins σ H' {s' with heap:=h6}:=landed (E:=Eh) (ea:=ea) I os bare un hok hB hT fl0.1 fl6.1 fl0.2.2.1 up
 obtain⟨o6,v6,ho6,hc6,hf6,_⟩:=fl6.first
 have hd6:o6.dict=od:=by
  obtain⟨q0,y1,y2⟩:=dO
  obtain⟨q1,y3,y4⟩:=dk4 ea q0 y1
  obtain⟨q2,y5,y6⟩:=dk5 ea q1 y3
  obtain⟨q3,y7,y8⟩:=dk6 ea q2 y5
  have y9:h6.get? ea=some q3:=y7
  rw[ho6]at y9
  cases y9
  rw[y8,y6,y4,y2]
 have old:X.s₀.heap.get? ea=none:=by
  cases z:X.s₀.heap.get? ea with
  |none=>rfl
  |some o=>
   obtain⟨o',z2⟩:=I.base.there ea o z (λq=>by rw[hex]at q;cases q)
   rw[new]at z2;cases z2
 have nL:ea≠X.env.locals:=λz=>by
  obtain⟨m,⟨o,_,_,e,_⟩,_⟩:=I.loc
  rw[<-z,new]at e;cases e
 have nC:∀x c,X.env.cells.lookup x=some c->c≠ea:=λx c e z=>by
  obtain⟨v,o,e2,_⟩:=I.cell x c e
  rw[z,new]at e2;cases e2
 have nP:∀p∈X.pn++pins,p.1≠ea:=λp hp z=>by
  have e:=(I.pin p hp).1
  rw[z,new]at e;cases e
 have J2:=track (o:=gA C ea od) J free old ho6 nL nC nP (Gj ho6 hc6 hd6 λc z=>by rw[hf6]at z;cases z)
 refine uT (X:=kM X (.ref ea)) (v:=.ref ea) (Gh J2 (.ref ea)) hN hj (.inl hk) rfl (λs7 J7=>?_) (.inr hk)
 exact wpAny_mono (k ea C od H' s7 hE' J7 free) (λf s₃ hq=>hq) λ_ _ z=>z.elim
end
noncomputable abbrev kN:String := "ValueError.__new__"
noncomputable def cvK(K:PySem.W.Frag)(c:Str):Value:=match nsIn K mainGlobals c with
 |some (some v)=>v
 |_=>.none
theorem ownObj{K:PySem.W.Frag}{h:Heap}{C:Addr}(Y:K.In h)(e:excIn K C bmV kN=true) :
 ∃bm N nm q bs hdct sn sub ab col dd k0 k1 k2 k3 k5 mN,h.get? C=some (excClassObj nm q C N bs bm hdct sn sub ab col dd k0 k1 k2 k3 k5 kN)/\h.Ns N mN/\mN "__init__" = none/\OwnTail h bmV bm:=by
 unfold excIn at e
 split at e
 ·rename_i dd cd sl ho
  split at e
  ·rename_i C' bm k0 k1 k2 k3 n k5 hm hs
   rw[aD,aD,aD,aD,aD,beq_iff_eq,beq_iff_eq,beq_iff_eq,bV]at e
   obtain⟨⟨⟨⟨⟨e1,e2⟩,e3⟩,e4⟩,e5⟩,e6⟩:=e
   subst e1
   subst e2
   obtain⟨nm,bs,mro,ns,qn,hd,sn,sub,ab,col,del⟩:=cd
   have z1:mro=.ref C'::bm:=hm
   have z2:del=false:=e3
   subst z1
   subst z2
   have z3:sl=#[k0,k1,k2,k3,some (.builtin kN),k5]:=by
    cases sl
    exact congrArg Array.mk hs
   subst z3
   exact⟨bm,ns,nm,qn,bs,hd,sn,sub,ab,col,dd,k0,k1,k2,k3,k5,_,Y _ _ ho,.of_isNs (isNs_of_in Y e5),nsMap_none_of_in Y e5 e6,tail_of_in Y e4⟩
  ·cases e
 ·cases e
structure ClsIs(K:PySem.W.Frag)(mg:Str->Option Value)(c:Str)(C:Addr):Prop where
 bound:mg c=some (.ref C)
 cv:cvK K c=.ref C
 exc:excIn K C bmV kN=true
theorem ClsIs.own{K:PySem.W.Frag}{mg:Str->Option Value}{c:Str}{C:Addr}{h:Heap}(x:ClsIs K mg c C)(Y:K.In h):OwnV c C mg h:=⟨x.bound,ownObj Y x.exc⟩
noncomputable def mroIn(K:PySem.W.Frag)(C CT:Addr):Bool:=match K.lookup C with
 |some ⟨_,_,.cls cd,_⟩=>cd.mro.contains (.ref CT)
 |_=>false
theorem Gm{K:PySem.W.Frag}{h:Heap}{C CT:Addr}(Y:K.In h)(e:mroIn K C CT=true):wJ h C CT:=by
 intro nm q N bs bm hdct sn sub ab col dd k0 k1 k2 k3 k5 nid ho
 unfold mroIn at e
 split at e
 ·rename_i z
  have:=Y _ _ z
  rw[ho]at this
  cases this
  exact e
 ·cases e
end Tr
namespace Tr
open PySem PySem.Spec PyProof.Rows L2 PySem.W Builtin Builtin.ObjectAttr Builtin.Getset_descriptor
section
variable{prog:Program}{w:World}{A:Around}{E:Value->Shared->Prop}{K:PySem.W.Frag}{a C:Addr}{o:Obj}
structure ExcCls(K:PySem.W.Frag)(C:Addr):Prop where
 ga:findIn K (.ref C) "__getattribute__" = some (some (.builtin "BaseException.__getattribute__"))
 hook:findIn K (.ref C) "__getattr__" = some none
 cl:findIn K (.ref C) "__class__" = some (some (.builtin "object.__class__"))
 gt:specialIn K (.builtin "object.__class__") "__get__" = some (some (.builtin "getset_descriptor.__get__"))
 tk:takesIn K (.builtin "object.__class__")=some true
 ob:PySem.W.mroIn K C (.type "object")=some true
 be:PySem.W.mroIn K C (.type "BaseException")=some true
theorem nM{M:Model}{h:Heap}(hx:h.get? a=some o)(hc:o.cls=.ref C):Looks M h (typeOf (.ref a)) (.ref C):=hc▸(Looks.ld hx).andThen .now
theorem Gn{s:Shared}{tp:Value}{R:Result->Shared->Prop}(Y:K.In s.heap)(Z:ExcCls K C)(hx:s.heap.get? a=some o)(hc:o.cls=.ref C)(h:R (.ok (.ret (.ref C))) s) :
 codeAny (model prog w) A (.call (.builtin "getset_descriptor.__get__") ⟨[.builtin "object.__class__", .ref a,tp],[]⟩) R s:=by
 obtain⟨hh,g,d,t,os⟩:=s
 have T0:=nM (M:=model prog w) hx hc
 have T1:=looks_mroIn (M:=model prog w) Y Z.ob
 refine codeAny_call_builtin KF.slot_gs.plain KF.entry_gs ?_
 refine KF.slot_gs.check _ _ _ _ _ _ _ _ KF.type_class (KF.args_gs _ _ _) ?_
 unfold Builtin.«getset_descriptor.__get__»
 unfold descrGet
 rw[dga_obj]
 refine wpAny_bind ?_
 refine wpAny_pure ?_
 unfold descrGetter descrCheckInstance
 unfold descrNameAndClass isInstance
 simp only[KF.owner_class]
 repeat lk
 refine⟨Code.quiet_builtin _ (by decide +kernel),?_⟩
 refine codeAny_builtin KF.entry_class ?_
 unfold Builtin.«object.__class__»
 unfold shownTypeOf
 repeat lk
 exact h
theorem Gp {M:Model} {h:Heap} (Y:K.In h) (Z:ExcCls K C):Looks M h (find (.ref a) (.ref C) "__class__") (.bind (.builtin "getset_descriptor.__get__") (.builtin "object.__class__")):=by
 refine(looks_findIn (M:=M) Y Z.cl).andThen ?_
 refine(looks_specialIn (M:=M) Y Z.gt).andThen ?_
 have T3:=looks_takesIn (M:=M) Y Z.tk
 have T4:Looks M h (dataDescriptor? (some (.builtin "object.__class__")) (some (.builtin "getset_descriptor.__get__"))) (some (.builtin "getset_descriptor.__get__", .builtin "object.__class__")):=T3.andThen .now
 exact T4.andThen (Looks.tag .now)
theorem Gq{M:Model}{s:Shared}{nv:Value}{Q:Unit->Shared->Prop}(Y:K.In s.heap)(Z:ExcCls K C)(hx:s.heap.get? a=some o)(hc:o.cls=.ref C)(h:Q () s) :
 wpAny M A (checkBuiltinCall "BaseException.__getattribute__" ⟨[.ref a,nv],[]⟩) Q E s:=by
 obtain⟨hh,g,d,t,os⟩:=s
 have T0:=nM (M:=M) hx hc
 have T1:=looks_mroIn (M:=M) Y Z.be
 have k1:builtinKind "BaseException.__getattribute__" = some .slot:=by decide +kernel
 have k2:splitId "BaseException.__getattribute__" = some ("BaseException", "__getattribute__"):=by decide +kernel
 have k3:=F.args_bexc_ga (.ref a) nv
 simp only[checkBuiltinCall,k1,k2]
 refine wpAny_bind ?_
 unfold isInstance
 repeat lk
 repeat(first|exact h|wp_step)
theorem Gr{s:Shared}{tk:Tok}{Q:Fin->Shared->Prop}(Y:K.In s.heap)(Z:ExcCls K C)(hx:s.heap.get? a=some o)(hc:o.cls=.ref C)(h:Q (.done (.ret (.ref C))) s) :
 wpAny (model prog w) A (Builtin.«object.__getattribute__» ⟨[.ref a,.str "__class__" tk],[]⟩) Q E s:=by
 obtain⟨hh,g,d,t,os⟩:=s
 have T0:=nM (M:=model prog w) hx hc
 have T1:=Gp (M:=model prog w) (a:=a) Y Z
 repeat(first|with_reducible refine wpAny_call (Gn Y Z hx hc ?_)|lk)
 exact h
theorem Gs{s:Shared}{Q:Option Value->Shared->Prop}(Y:K.In s.heap)(Z:ExcCls K C)(hx:s.heap.get? a=some o)(hc:o.cls=.ref C)(h:Q (some (.ref C)) {s with toks:=s.toks+1}) :
 wpAny (model prog w) A (getAttr? (.ref a) "__class__") Q E s:=by
 obtain⟨hh,g,d,t,os⟩:=s
 have T0:=nM (M:=model prog w) hx hc
 have T1:=looks_findIn (M:=model prog w) Y Z.ga
 have T2:=looks_findIn (M:=model prog w) Y Z.hook
 have hb:=PySem.F.excAttr_ValueError.ga.bind (.ref a)
 have n1:(onTheHeap (Value.ref C)&&Value.builtin "BaseException.__getattribute__" == Value.builtin "object.__getattribute__")=false:=by
  have:(Value.builtin "BaseException.__getattribute__" == Value.builtin "object.__getattribute__")=false:=by decide +kernel
  rw[this];rfl
 have n2:(false&&onTheHeap (Value.builtin "BaseException.__getattribute__"))=false:=rfl
 unfold getAttr? getAttrBy? getAttrBy
 refine wpAny_bind (wpAny_mkText (wpAny_bind (wpAny_attempt (wpAny_holding ?_))))
 refine wpAny_bind (T0.at (wpAny_bind (T1.at ?_)))
 dsimp only
 rw[n1]
 unfold getAttrByItsOwn hookBefore
 rw[if_neg aP]
 have n3:onTheHeap (Value.ref C)=true:=rfl
 rw[n3,if_pos rfl]
 refine wpAny_bind (T2.at (wpAny_bind (wpAny_attempt (wpAny_holding ?_))))
 unfold callGetattribute
 rw[n2,if_neg aP]
 unfold boundAndCalled
 rw[hb]
 refine wpAny_bind (wpAny_pure ?_)
 refine wpAny_call (codeAny_call_builtin PySem.F.excAttr_ValueError.ga.plain PySem.F.entry_bexc_ga ?_)
 refine Gq Y Z hx hc ?_
 refine Gr Y Z hx hc ?_
 exact handed_on rfl (wpAny_pure h)
theorem Gu(Z:ExcCls K C):KitX K (.ref a) (.ref C) (λh=>∃o,h.get? a=some o/\o.cls=.ref C) where
 ty:=λ_ _ _ ⟨_,hx,hc⟩=>nM hx hc
 it:=λM h Y _=>by
  obtain⟨cd,hcd,_⟩:=LZ.mp Z.ob
  unfold clsIn at hcd
  split at hcd
  ·rename_i ho
   intro A' Q' E' s' k q
   unfold isType loadHead
   exact wpAny_bind (wpAny_loadPart (k _ _ (Y _ _ ho)) (wpAny_pure q))
  ·cases hcd
 ne:=λh tp dd its n sl Y htp=>by
  obtain⟨cd,hcd,_⟩:=LZ.mp Z.ob
  cases e:(Value.ref C==Value.ref tp)with
  |false=>rfl
  |true=>
   obtain rfl:C=tp:=Value.ref.inj (beq_iff_eq.mp e)
   unfold clsIn at hcd
   split at hcd
   ·rename_i ho
    have z:=Y _ _ ho
    rw[htp]at z
    cases z
   ·cases hcd
 ca:=λ{_ _ _ _ _ s} Y ⟨_,hx,hc⟩ k=>Gs Y Z hx hc k
end
end Tr
namespace Tr
open PySem PySem.Spec PyProof.Rows L2 PySem.W
section
variable{X:Cx}{pins:List (Addr×Obj)}{σ:L2.St}{H:Hp}{s:Shared}
noncomputable def nN(X:Cx)(pins:List (Addr×Obj))(E:Value->Shared->Prop):Cx:={X with pn:=X.pn++pins,xe:=E}
theorem Gv{E:Value->Shared->Prop}(I:Inv X pins σ H s):Inv (nN X pins E) [] σ H s:=
 ⟨⟨I.ok.mod,I.ok.kind,I.ok.glob,I.ok.blt,I.ok.above,I.ok.inj,I.ok.has,I.ok.cab,I.ok.hd,I.ok.frames,I.ok.stk,I.ok.exf,I.ok.bs,I.ok.bsz,I.ok.noex,I.ok.exfs,I.ok.funs,I.ok.frf⟩,
  I.os,I.bare,I.base,I.loc,I.cell,I.free,I.freeC,λp hp=>I.pin p (by rw[mM]at hp;exact hp),I.hok,I.len⟩
theorem Gw{E:Value->Shared->Prop}{ps:List (Addr×Obj)}(I:Inv (nN X pins E) ps σ H s):Inv X pins σ H s:=
 ⟨⟨I.ok.mod,I.ok.kind,I.ok.glob,I.ok.blt,I.ok.above,I.ok.inj,I.ok.has,I.ok.cab,I.ok.hd,I.ok.frames,I.ok.stk,I.ok.exf,I.ok.bs,I.ok.bsz,I.ok.noex,I.ok.exfs,I.ok.funs,I.ok.frf⟩,
  I.os,I.bare,I.base,I.loc,I.cell,I.free,I.freeC,λp hp=>I.pin p (pI _ hp),I.hok,I.len⟩
end
section
variable{X:Cx}{body:List Stmt}{pos:Pos}{h₀:ExceptHandler}{hs:List ExceptHandler}
theorem Gx{t:TS}(h:PSs X.nox body t):PS X (.Try body (h₀::hs) [] [] pos) t:=λpins s σ H D I hw=>by
 refine wpAny_Try_except (wpAny_mono (h pins s σ H D (I.wish _) hw) (λf s1 q=>?_) λ_ _ z=>False.elim z)
 have q:=q.unwish
 cases f with
 |next=>exact wpAny_execs_nil q
 |brk=>exact q
 |cont=>exact q
 |ret u=>exact q
theorem Gy{Eh:XK}{tb:TS}{n cxn wr:Str}{j jw:Nat}{CT:Addr}{np hpos p1 p2 p3:Pos}(hex:X.ex=[])(hst:X.stack=X.env::X.outer)(hfr:X.env.frame=some X.env.locals)
 (hb:∀pins,PSs (nN X pins (λev s'=>∃σ' H1 s1,Inv X pins σ' H1 s1/\CXE X.prog X.w X.stack H1 s1 Eh ev s')) body tb)
 (OT:X.K.In X.base->OwnW cxn CT X.mg X.base) (hg:Gl X cxn) (hdb:(cxn==("__debug__" : Str))=false) (hE:X.K.In X.base->∀cls od H',Eh cls od H'->∃y C,cls=.ref C/\OwnW y C X.mg X.base/\wJ X.base C CT)
 (hN:X.N.Nodup) (hj:X.N[j]?=some n) (hk:X.env.scope.names.lookup n=some .local) (hjw:X.N[jw]?=some wr) (hkw:X.env.scope.names.lookup wr=some .local) (hne:j≠jw)
 (nd1:(n==("__debug__" : Str))=false) (nd2:(n==("__classdict__" : Str))=false) (hsw:swapsWith (.Name n p2) (some (.Name wr p1)) p3.line X.env=pure false) :
 PS X (.Try body [.ExceptHandler (some (.Name cxn np)) (some n) [.Assign [.Name wr p1] (.Name n p2) p3] hpos] [] [] pos)
  (λD σ H=>tb {nx:=λ_ _=>False,rt:=λ_ _=>False} σ H/\∀(ea C:Addr)(od:Option Addr)(τ:L2.St)(H':Hp),Eh (.ref C) od H'->H' ea=none->τ[jw]?=some (some (.ref ea))->D.nx τ (L2.upd H' ea (gA C ea od))):=by
 rintro pins s σ H D I ⟨hb0,hk0⟩
 refine wpAny_Try_except (wpAny_mono (hb pins [] s σ H _ (Gv I) hb0) (λf s1 q=>?_) λev s1 z=>?_)
 ·cases f with
  |next=>obtain⟨_,_,_,z⟩:=q;exact z.elim
  |brk=>obtain⟨_,_,_,z⟩:=q;exact z.elim
  |cont=>obtain⟨_,_,_,z⟩:=q;exact z.elim
  |ret u=>obtain⟨_,_,_,_,_,z⟩:=q;exact z.elim
 ·obtain⟨σ',H1,s0,I1,hc⟩:=z
  refine Gk hex hst hfr I1 hc (OT I.mod.kin) hg hdb (λcls od H' z=>hE I.mod.kin cls od H' z) hN hj hk λea C od H' s7 hE' J free=>?_
  have pa:PS (kM X (.ref ea)).nox (.Assign [.Name wr p1] (.Name n p2) p3) (tAsg (pV j) (uX jw)):=
   kC (X:=(kM X (.ref ea)).nox) hN hjw (.inl hkw) (dZ (X:=(kM X (.ref ea)).nox) hj (.inl hk) nd1 nd2) hsw (.inr hkw)
  have hjl:j<σ'.length:=by rw[I1.len];exact(eT.mp hj).1
  have hjwl:jw<σ'.length:=by rw[I1.len];exact(eT.mp hjw).1
  refine wpAny_execs_cons (wpAny_mono (pa pins s7 _ _ {nx:=λτ H2=>τ=(σ'.set j (some (.ref ea))).set jw (some (.ref ea))/\H2=L2.upd H' ea (gA C ea od),rt:=λ_ _=>False} (J.wish _) ?_) (λf s3 q=>?_) λ_ _ z=>z)
  ·exact⟨.ref ea,by rw[iZ hjl],rfl,rfl⟩
  ·cases f with
   |next=>
    obtain⟨τ,H2,I2,rfl,rfl⟩:=q
    have I3:=Gi I2.unwish I.ok.hd
    refine wpAny_execs_nil (Gg I3 hN hj hk λs4 I4=>⟨_,_,I4,hk0 ea C od _ H' hE' free ?_⟩)
    rw[kZ hne,iZ (by simpa using hjwl)]
   |brk=>obtain⟨_,_,_,z⟩:=q;exact z.elim
   |cont=>obtain⟨_,_,_,z⟩:=q;exact z.elim
   |ret u=>obtain⟨_,_,_,_,_,z⟩:=q;exact z.elim
theorem Gz{b:Bool}{C:Addr}{cv:V}{c:Value}(Z:ExcCls X.K C)(hcv:∀u,RelV cv u->u=c)(e:PySem.W.kitOne X.K (.ref C) c=some b) :
 cX X (.builtin "isinstance") (λxs H Q=>∃a od,xs=[.ref a,cv]/\H a=some (gA C a od)/\Q (.bl b) H):=by
 intro pins s σ H xs us Q I rv h
 obtain⟨a,od,rfl,ha,q⟩:=h
 obtain⟨u,w,rfl,r1,r2⟩:=vals2 rv
 cases (show u=Value.ref a from r1)
 cases hcv w r2
 obtain⟨⟨o,ho,hc,_⟩,_⟩:=I.hok a _ ha
 exact PySem.W.kia_one (Gu Z) I.kIn ⟨o,ho,hc⟩ e (λz=>nomatch z) λtk=>⟨.bl b,H,I.tok tk,rfl,q⟩
end
noncomputable abbrev excO(C t:Addr)(dx:Option Addr):Obj:={cls:=.ref C,dict:=dx,data:=.fields #[.ref t,.none,.none,.none,.bool false,.none] }
section
variable{prog:Program}{w:World}{A:Around}{E:Value->Shared->Prop}{h:Heap}{g:Array GenState}{d:Drawn}{t:Nat}{os:OsState}
variable{nm q:Str}{C N:Addr}{bs bm bmB:List Value}{hdct:Bool}{sn:List Str}{sub:List Value}{ab:Bool}{col:Option Bool}{dd:Option Addr}{k0 k1 k2 k3 k5:Option Value}{B Bn newId nid initId inN:String}{bmN:List Value}
end
section
variable{prog:Program}{w:World}{A:Around}{E:Value->Shared->Prop}{s:Shared}{env:Env}
variable{nm q:Str}{C N:Addr}{bs bm bmB:List Value}{hdct:Bool}{sn:List Str}{sub:List Value}{ab:Bool}{col:Option Bool}{dd:Option Addr}{k0 k1 k2 k3 k5:Option Value}{B Bn newId nid initId inN:String}{bmN:List Value}
end
end Tr
namespace Tr
open PySem PySem.Spec PyProof.Rows L2 PySem.W Builtin Builtin.ObjectAttr
section
variable{prog:Program}{w:World}{A:Around}{E:Value->Shared->Prop}{K:PySem.W.Frag}{h:Heap}{g:Array GenState}{d:Drawn}{tok:Nat}{os:OsState}
variable{nm q:Str}{C N x t:Addr}{bs bm:List Value}{sn:List Str}{sub:List Value}{ab:Bool}{col:Option Bool}{dd:Option Addr}{k0 k1 k2 k3 k5:Option Value}{newId:String}{name:Str}{v:Value}
end
end Tr
namespace Tr
open PySem PySem.Spec PyProof.Rows L2 PySem.W Builtin Builtin.ObjectAttr Builtin.Getset_descriptor
section
variable{prog:Program}{w:World}{A:Around}{E:Value->Shared->Prop}{K:PySem.W.Frag}{a C dx:Addr}{o:Obj}{name:Str}{v:Value}{m:Str->Option Value}
variable{nm q:Str}{N:Addr}{bs bm:List Value}{sn:List Str}{sub:List Value}{ab:Bool}{col:Option Bool}{dd:Option Addr}{k0 k1 k2 k3 k5:Option Value}{newId:String}
end
end Tr
namespace Tr
open PySem PySem.Spec PyProof.Rows L2 PySem.W
noncomputable def initIn(K:PySem.W.Frag)(C fI:Addr):Bool:=match K.lookup C with
 |some ⟨.type "type", _,.cls cd,sl⟩=>(match cd.mro,sl.toList with
  |.ref C'::bm,[_,_,_,_,some (.builtin n),_]=>C'==C&&(n==kN&&(!cd.hasDel&&(tailIn K bmV bm&&(nsOkIn K cd.ns&&(nsIn K cd.ns "__init__" == some (some (.ref fI))&&cd.hasDict)))))
  |_,_=>false)
 |_=>false
structure InitCls(K:PySem.W.Frag)(C fI:Addr)(f:Str):Prop where
 obj:initIn K C fI=true
 sa:findIn K (.ref C) "__setattr__" = some (some (.builtin "object.__setattr__"))
 no:findIn K (.ref C) f=some none
section
variable{X:Cx}
end
end Tr
namespace Tr
open PySem PySem.Spec PyProof.Rows L2
noncomputable def ModL(K:PySem.W.Frag)(a:Addr)(xs:List V):Prop:=
 ∃(o:Obj) (its:Array Value) (n:Nat),K.lookup a=some o/\o.cls=.type "list" /\ o.dict=none/\o.data=.seq its n/\its.size<=sizeLine/\Vals xs its.toList
noncomputable def ModT(K:PySem.W.Frag)(a:Addr)(xs:List V):Prop:=(∃ss:List Str,ss≠[]/\xs=ss.map V.str) /\
 ∃(o:Obj) (its:Array Value) (n:Nat),K.lookup a=some o/\o.cls=.type "tuple" /\ o.data=.seq its n/\its.size<=sizeLine/\Vals xs its.toList
noncomputable def TupV(K:PySem.W.Frag)(H:Hp)(a:Addr)(xs:List V):Prop:=H a=some (.tup xs)\/ModT K a xs
theorem TupV.sq{K:PySem.W.Frag}{H:Hp}{a:Addr}{xs:List V}(h:TupV K H a xs):SqT K H a xs:=h.imp (λq=>.inl q) λq=>q.2
mutual
noncomputable def RD(K:PySem.W.Frag)(H:Hp)(O:Addr->Prop):D->V->Prop
 |.non,v=>v=.non
 |.bl b,v=>v=.bl b
 |.int i,v=>v=.int i
 |.str x,v=>v=.str x
 |.tup ds,v=>∃a xs,v=.ref a/\TupV K H a xs/\RDs K H O ds xs
 |.lst ds,v=>∃a xs,v=.ref a/\((¬O a/\Rd H a (.lst xs))\/ModL K a xs)/\RDs K H O ds xs
 |.dct kvs,v=>∃a ps,v=.ref a/\(∃o,H a=some (.frz o (.dK ps)))/\RDk K H O kvs ps
 |.tdc kvs,v=>∃a ps,v=.ref a/\(∃o,H a=some (.frz o (.dT ps)))/\RDt K H O kvs ps
noncomputable def RDs(K:PySem.W.Frag)(H:Hp)(O:Addr->Prop):List D->List V->Prop
 |[],xs=>xs=[]
 |d::ds,xs=>∃v r,xs=v::r/\RD K H O d v/\RDs K H O ds r
noncomputable def RDk(K:PySem.W.Frag)(H:Hp)(O:Addr->Prop):List (Sum Int Str×D)->List (Key×V)->Prop
 |[],xs=>xs=[]
 |(k,d)::ds,xs=>∃v r,xs=(k,v)::r/\RD K H O d v/\RDk K H O ds r
noncomputable def RDt(K:PySem.W.Frag)(H:Hp)(O:Addr->Prop):List (List (Sum Int Str)×D)->List (List Key×V)->Prop
 |[],xs=>xs=[]
 |(k,d)::ds,xs=>∃v r,xs=(k,v)::r/\RD K H O d v/\RDt K H O ds r
end
noncomputable def OwnAt(K:PySem.W.Frag)(H:Hp)(O:Addr->Prop)(a:Addr):D->Prop
 |.lst ds=>∃xs,H a=some (.lst xs)/\RDs K H O ds xs
 |.dct kvs=>∃ps,H a=some (.dK ps)/\RDk K H O kvs ps
 |.tdc kvs=>∃ps,H a=some (.dT ps)/\RDt K H O kvs ps
 |_=>False
noncomputable def RR(K:PySem.W.Frag)(H:Hp)(O:Addr->Prop)(d:D)(v:V):Prop:=
 RD K H O d v\/∃a,v=.ref a/\OwnAt K H O a d
noncomputable def RRs(K:PySem.W.Frag)(H:Hp)(O:Addr->Prop):List D->List V->Prop
 |[],xs=>xs=[]
 |d::ds,xs=>∃v r,xs=v::r/\RR K H O d v/\RRs K H O ds r
section
variable{K:PySem.W.Frag}{H H':Hp}{O O':Addr->Prop}
mutual
theorem RD.map(ht:∀a xs,TupV K H a xs->TupV K H' a xs)(hl:∀a xs,¬O a->Rd H a (.lst xs)->¬O' a/\Rd H' a (.lst xs))(hd:∀a o u,H a=some (.frz o u)->H' a=some (.frz o u)):∀{d:D} {v:V},RD K H O d v->RD K H' O' d v
 |.non,_,h=>h
 |.bl _,_,h=>h
 |.int _,_,h=>h
 |.str _,_,h=>h
 |.tup ds,v,h=>by
  obtain⟨a,xs,e,s,r⟩:=h
  exact⟨a,xs,e,ht a xs s,RDs.map ht hl hd r⟩
 |.lst ds,v,h=>by
  obtain⟨a,xs,e,s,r⟩:=h
  refine⟨a,xs,e,?_,RDs.map ht hl hd r⟩
  rcases s with⟨s1,s2⟩|s
  ·exact .inl (hl a xs s1 s2)
  ·exact .inr s
 |.dct kvs,v,h=>by
  obtain⟨a,ps,e,⟨o,s⟩,r⟩:=h
  exact⟨a,ps,e,⟨o,hd a _ _ s⟩,RDk.map ht hl hd r⟩
 |.tdc kvs,v,h=>by
  obtain⟨a,ps,e,⟨o,s⟩,r⟩:=h
  exact⟨a,ps,e,⟨o,hd a _ _ s⟩,RDt.map ht hl hd r⟩
theorem RDs.map(ht:∀a xs,TupV K H a xs->TupV K H' a xs)(hl:∀a xs,¬O a->Rd H a (.lst xs)->¬O' a/\Rd H' a (.lst xs))(hd:∀a o u,H a=some (.frz o u)->H' a=some (.frz o u)):∀{ds:List D} {vs:List V},RDs K H O ds vs->RDs K H' O' ds vs
 |[],_,h=>h
 |d::ds,vs,h=>by
  obtain⟨v,r,e,h1,h2⟩:=h
  exact⟨v,r,e,RD.map ht hl hd h1,RDs.map ht hl hd h2⟩
theorem RDk.map(ht:∀a xs,TupV K H a xs->TupV K H' a xs)(hl:∀a xs,¬O a->Rd H a (.lst xs)->¬O' a/\Rd H' a (.lst xs))(hd:∀a o u,H a=some (.frz o u)->H' a=some (.frz o u)):∀{ds:List (Sum Int Str×D)} {vs:List (Key×V)},RDk K H O ds vs->RDk K H' O' ds vs
 |[],_,h=>h
 |(k,d)::ds,vs,h=>by
  obtain⟨v,r,e,h1,h2⟩:=h
  exact⟨v,r,e,RD.map ht hl hd h1,RDk.map ht hl hd h2⟩
theorem RDt.map(ht:∀a xs,TupV K H a xs->TupV K H' a xs)(hl:∀a xs,¬O a->Rd H a (.lst xs)->¬O' a/\Rd H' a (.lst xs))(hd:∀a o u,H a=some (.frz o u)->H' a=some (.frz o u)):∀{ds:List (List (Sum Int Str)×D)} {vs:List (List Key×V)},RDt K H O ds vs->RDt K H' O' ds vs
 |[],_,h=>h
 |(k,d)::ds,vs,h=>by
  obtain⟨v,r,e,h1,h2⟩:=h
  exact⟨v,r,e,RD.map ht hl hd h1,RDt.map ht hl hd h2⟩
end
theorem Rd.same(s:Same H H'){a:Addr}{u:HO}(h:Rd H a u):Rd H' a u:=by
 rcases h with h|⟨o,h⟩
 ·exact .inl (s _ _ h)
 ·exact .inr ⟨o,s _ _ h⟩
theorem TupV.same(s:Same H H'){a:Addr}{xs:List V}(h:TupV K H a xs):TupV K H' a xs:=h.imp (λq=>s _ _ q) id
theorem RD.same(s:Same H H'){d:D}{v:V}(h:RD K H O d v):RD K H' O d v:=RD.map (λ_ _ q=>TupV.same s q) (λ_ _ n q=>⟨n,Rd.same s q⟩) (λ_ _ _ q=>s _ _ q) h
theorem RDk.same(s:Same H H'){d:List (Sum Int Str×D)}{v:List (Key×V)}(h:RDk K H O d v):RDk K H' O d v:=RDk.map (λ_ _ q=>TupV.same s q) (λ_ _ n q=>⟨n,Rd.same s q⟩) (λ_ _ _ q=>s _ _ q) h
theorem RDt.same(s:Same H H'){d:List (List (Sum Int Str)×D)}{v:List (List Key×V)}(h:RDt K H O d v):RDt K H' O d v:=RDt.map (λ_ _ q=>TupV.same s q) (λ_ _ n q=>⟨n,Rd.same s q⟩) (λ_ _ _ q=>s _ _ q) h
theorem RDs.same(s:Same H H'){d:List D}{v:List V}(h:RDs K H O d v):RDs K H' O d v:=RDs.map (λ_ _ q=>TupV.same s q) (λ_ _ n q=>⟨n,Rd.same s q⟩) (λ_ _ _ q=>s _ _ q) h
theorem RD.weak(s:∀a,O' a->O a){d:D}{v:V}(h:RD K H O d v):RD K H O' d v:=RD.map (λ_ _ q=>q) (λa _ n q=>⟨λz=>n (s a z),q⟩) (λ_ _ _ q=>q) h
theorem RDk.weak(s:∀a,O' a->O a){d:List (Sum Int Str×D)}{v:List (Key×V)}(h:RDk K H O d v):RDk K H O' d v:=RDk.map (λ_ _ q=>q) (λa _ n q=>⟨λz=>n (s a z),q⟩) (λ_ _ _ q=>q) h
theorem RDt.weak(s:∀a,O' a->O a){d:List (List (Sum Int Str)×D)}{v:List (List Key×V)}(h:RDt K H O d v):RDt K H O' d v:=RDt.map (λ_ _ q=>q) (λa _ n q=>⟨λz=>n (s a z),q⟩) (λ_ _ _ q=>q) h
theorem RDs.weak(s:∀a,O' a->O a){d:List D}{v:List V}(h:RDs K H O d v):RDs K H O' d v:=RDs.map (λ_ _ q=>q) (λa _ n q=>⟨λz=>n (s a z),q⟩) (λ_ _ _ q=>q) h
noncomputable def cU(O:Addr->Prop)(p:Addr):Addr->Prop:=λa=>O a\/a=p
noncomputable def qN(O:Addr->Prop)(p:Addr):Addr->Prop:=λa=>O a/\a≠p
theorem Rd.ne{p a:Addr}{u:HO}(hp:H p=none)(h:Rd H a u):a≠p:=by
 rcases h with h|⟨o,h⟩<;>exact eF h hp
theorem RD.new{p:Addr}(hp:H p=none){d:D}{v:V}(h:RD K H O d v):RD K H (cU O p) d v:=
 RD.map (λ_ _ q=>q) (λa _ n q=>⟨λz=>z.elim n (Rd.ne hp q),q⟩) (λ_ _ _ q=>q) h
theorem RDk.new{p:Addr}(hp:H p=none){d:List (Sum Int Str×D)}{v:List (Key×V)}(h:RDk K H O d v):RDk K H (cU O p) d v:=
 RDk.map (λ_ _ q=>q) (λa _ n q=>⟨λz=>z.elim n (Rd.ne hp q),q⟩) (λ_ _ _ q=>q) h
theorem RDt.new{p:Addr}(hp:H p=none){d:List (List (Sum Int Str)×D)}{v:List (List Key×V)}(h:RDt K H O d v):RDt K H (cU O p) d v:=
 RDt.map (λ_ _ q=>q) (λa _ n q=>⟨λz=>z.elim n (Rd.ne hp q),q⟩) (λ_ _ _ q=>q) h
theorem RDs.new{p:Addr}(hp:H p=none){d:List D}{v:List V}(h:RDs K H O d v):RDs K H (cU O p) d v:=
 RDs.map (λ_ _ q=>q) (λa _ n q=>⟨λz=>z.elim n (Rd.ne hp q),q⟩) (λ_ _ _ q=>q) h
noncomputable def gB:HO->Prop
 |.lst _=>True
 |.dK _=>True
 |.dT _=>True
 |_=>False
theorem dP{p:Addr}{o o':HO}(hO:O p)(hp:H p=some o)(hm:gB o):(∀a xs,TupV K H a xs->TupV K (upd H p o') a xs)/\(∀a xs,¬O a->Rd H a (.lst xs)->¬O a/\Rd (upd H p o') a (.lst xs))/\∀a o1 u,H a=some (.frz o1 u)->upd H p o' a=some (.frz o1 u):=by
 refine⟨λa xs h=>?_,λa xs n h=>⟨n,?_⟩,λa o1 u h=>?_⟩
 ·rcases h with h|h
  ·exact .inl (by rw[aG (pU h hp (by intro z;subst z;exact hm))];exact h)
  ·exact .inr h
 ·have e:a≠p:=λz=>n (z▸hO)
  rcases h with h|⟨o,h⟩
  ·exact .inl (by rw[aG e];exact h)
  ·exact .inr ⟨o,by rw[aG e];exact h⟩
 ·rw[aG (pU h hp (by intro z;subst z;exact hm))];exact h
theorem RD.updM{p:Addr}{o o':HO}(hO:O p)(hp:H p=some o)(hm:gB o){d:D}{v:V}(h:RD K H O d v):RD K (L2.upd H p o') O d v:=RD.map (dP (K:=K) hO hp hm).1 (dP (K:=K) hO hp hm).2.1 (dP (K:=K) hO hp hm).2.2 h
theorem RDs.updM{p:Addr}{o o':HO}(hO:O p)(hp:H p=some o)(hm:gB o){d:List D}{v:List V}(h:RDs K H O d v):RDs K (L2.upd H p o') O d v:=RDs.map (dP (K:=K) hO hp hm).1 (dP (K:=K) hO hp hm).2.1 (dP (K:=K) hO hp hm).2.2 h
theorem RDk.updM{p:Addr}{o o':HO}(hO:O p)(hp:H p=some o)(hm:gB o){d:List (Sum Int Str×D)}{v:List (Key×V)}(h:RDk K H O d v):RDk K (L2.upd H p o') O d v:=RDk.map (dP (K:=K) hO hp hm).1 (dP (K:=K) hO hp hm).2.1 (dP (K:=K) hO hp hm).2.2 h
theorem RDt.updM{p:Addr}{o o':HO}(hO:O p)(hp:H p=some o)(hm:gB o){d:List (List (Sum Int Str)×D)}{v:List (List Key×V)}(h:RDt K H O d v):RDt K (L2.upd H p o') O d v:=RDt.map (dP (K:=K) hO hp hm).1 (dP (K:=K) hO hp hm).2.1 (dP (K:=K) hO hp hm).2.2 h
theorem RD.upd{p:Addr}{ys zs:List V}(hO:O p)(hp:H p=some (.lst ys)){d:D}{v:V}(h:RD K H O d v):RD K (L2.upd H p (.lst zs)) O d v:=RD.updM hO hp trivial h
theorem RDs.upd{p:Addr}{ys zs:List V}(hO:O p)(hp:H p=some (.lst ys)){d:List D}{v:List V}(h:RDs K H O d v):RDs K (L2.upd H p (.lst zs)) O d v:=RDs.updM hO hp trivial h
mutual
theorem RD.flat:∀{d:D} {v:V},d.flat=true->RD K H O d v->RD K H O' d v
 |.non,_,_,h=>h
 |.bl _,_,_,h=>h
 |.int _,_,_,h=>h
 |.str _,_,_,h=>h
 |.tup ds,v,f,h=>by
  obtain⟨a,xs,e,s,r⟩:=h
  rw[D.flat]at f
  exact⟨a,xs,e,s,RDs.flat f r⟩
 |.lst ds,v,f,_=>by rw[D.flat]at f;cases f
 |.dct _,_,f,_=>by rw[D.flat]at f;cases f
 |.tdc _,_,f,_=>by rw[D.flat]at f;cases f
theorem RDs.flat:∀{ds:List D} {vs:List V},D.flats ds=true->RDs K H O ds vs->RDs K H O' ds vs
 |[],_,_,h=>h
 |d::ds,vs,f,h=>by
  obtain⟨v,r,e,h1,h2⟩:=h
  rw[D.flats,aD]at f
  exact⟨v,r,e,RD.flat f.1 h1,RDs.flat f.2 h2⟩
end
theorem RDs.length:∀{ds:List D} {vs:List V},RDs K H O ds vs->vs.length=ds.length
 |[],_,h=>by rw[RDs]at h;rw[h];rfl
 |d::ds,vs,h=>by
  obtain⟨v,r,e,_,h2⟩:=h
  rw[e,aX,aX,RDs.length h2]
theorem RDs.get:∀{ds:List D} {vs:List V} {i:Nat} {d:D},RDs K H O ds vs->ds[i]?=some d->∃v,vs[i]?=some v/\RD K H O d v
 |[],_,_,_,_,e=>by simp at e
 |d::ds,vs,0,d',h,e=>by
  obtain⟨v,r,rfl,h1,_⟩:=h
  simp at e;subst e
  exact⟨v,rfl,h1⟩
 |d::ds,vs,i+1,d',h,e=>by
  obtain⟨v,r,rfl,_,h2⟩:=h
  obtain⟨w,h3,h4⟩:=RDs.get (i:=i) h2 (by simpa using e)
  exact⟨w,by simpa using h3,h4⟩
theorem RDs.append:∀{ds es:List D} {vs ws:List V},RDs K H O ds vs->RDs K H O es ws->RDs K H O (ds++es) (vs++ws)
 |[],_,_,_,h,g=>by rw[RDs]at h;subst h;exact g
 |d::ds,es,vs,ws,h,g=>by
  obtain⟨v,r,rfl,h1,h2⟩:=h
  exact⟨v,r++ws,rfl,h1,RDs.append h2 g⟩
theorem RDs.drop:∀{ds:List D} {vs:List V} (n:Nat),RDs K H O ds vs->RDs K H O (ds.drop n) (vs.drop n)
 |_,_,0,h=>h
 |[],_,n+1,h=>by rw[RDs]at h;subst h;exact rfl
 |d::ds,vs,n+1,h=>by
  obtain⟨v,r,rfl,_,h2⟩:=h
  exact RDs.drop n h2
theorem RDs.take:∀{ds:List D} {vs:List V} (n:Nat),RDs K H O ds vs->RDs K H O (ds.take n) (vs.take n)
 |_,_,0,_=>by simp[RDs]
 |[],_,n+1,h=>by rw[RDs]at h;subst h;simp[RDs]
 |d::ds,vs,n+1,h=>by
  obtain⟨v,r,rfl,h1,h2⟩:=h
  exact⟨v,r.take n,rfl,h1,RDs.take n h2⟩
theorem RDs.cut{ds:List D}{vs:List V}(lo hi:Option Int)(h:RDs K H O ds vs):RDs K H O (Tr.cut ds lo hi) (jF vs lo hi):=by
 have e:=RDs.length h
 unfold Tr.cut jF
 rw[e]
 exact RDs.take _ (RDs.drop _ h)
theorem RDs.cons{d:D}{v:V}{ds:List D}{vs:List V}(h:RD K H O d v)(r:RDs K H O ds vs):RDs K H O (d::ds) (v::vs):=⟨v,vs,rfl,h,r⟩
theorem RDs.nil:RDs K H O [] []:=rfl
theorem RDk.length:∀{ds:List (Sum Int Str×D)} {vs:List (Key×V)},RDk K H O ds vs->vs.length=ds.length
 |[],_,h=>by rw[RDk]at h;rw[h];rfl
 |(k,d)::ds,vs,h=>by
  obtain⟨v,r,e,_,h2⟩:=h
  rw[e,aX,aX,RDk.length h2]
theorem RDt.length:∀{ds:List (List (Sum Int Str)×D)} {vs:List (List Key×V)},RDt K H O ds vs->vs.length=ds.length
 |[],_,h=>by rw[RDt]at h;rw[h];rfl
 |(k,d)::ds,vs,h=>by
  obtain⟨v,r,e,_,h2⟩:=h
  rw[e,aX,aX,RDt.length h2]
theorem RD.rr{d:D}{v:V}(h:RD K H O d v):RR K H O d v:=.inl h
theorem RDs.rr:∀{ds:List D} {vs:List V},RDs K H O ds vs->RRs K H O ds vs
 |[],_,h=>h
 |d::ds,vs,h=>by
  obtain⟨v,r,e,h1,h2⟩:=h
  exact⟨v,r,e,.inl h1,RDs.rr h2⟩
theorem OwnAt.map(hs:∀{d v},RDs K H O d v->RDs K H' O' d v)(hk:∀{d v},RDk K H O d v->RDk K H' O' d v)(hk2:∀{d v},RDt K H O d v->RDt K H' O' d v){a:Addr}(ho:∀o,gB o->H a=some o->H' a=some o):∀{d:D},OwnAt K H O a d->OwnAt K H' O' a d
 |.lst ds,⟨xs,h1,h2⟩=>⟨xs,ho _ trivial h1,hs h2⟩
 |.dct ds,⟨xs,h1,h2⟩=>⟨xs,ho _ trivial h1,hk h2⟩
 |.tdc ds,⟨xs,h1,h2⟩=>⟨xs,ho _ trivial h1,hk2 h2⟩
 |.non,h | .bl _,h | .int _,h | .str _,h | .tup _,h=>h.elim
theorem OwnAt.same(s:Same H H'){a:Addr}{d:D}(h:OwnAt K H O a d):OwnAt K H' O a d:=OwnAt.map (λq=>q.same s) (λq=>q.same s) (λq=>q.same s) (λ_ _ q=>s _ _ q) h
theorem OwnAt.new{p:Addr}(hp:H p=none){a:Addr}{d:D}(h:OwnAt K H O a d):OwnAt K H (cU O p) a d:=OwnAt.map (λq=>q.new hp) (λq=>q.new hp) (λq=>q.new hp) (λ_ _ q=>q) h
theorem OwnAt.weak(s:∀a,O' a->O a){a:Addr}{d:D}(h:OwnAt K H O a d):OwnAt K H O' a d:=OwnAt.map (λq=>q.weak s) (λq=>q.weak s) (λq=>q.weak s) (λ_ _ q=>q) h
theorem OwnAt.updM{p:Addr}{o o':HO}(hO:O p)(hp:H p=some o)(hm:gB o){a:Addr}(hne:a≠p){d:D}(h:OwnAt K H O a d):OwnAt K (L2.upd H p o') O a d:=OwnAt.map (λq=>q.updM hO hp hm) (λq=>q.updM hO hp hm) (λq=>q.updM hO hp hm) (λ_ _ q=>by rw[aG hne];exact q) h
theorem OwnAt.obj{a:Addr}:∀{d:D},OwnAt K H O a d->∃o,H a=some o/\gB o
 |.lst ds,⟨xs,h1,h2⟩=>⟨_,h1,trivial⟩
 |.dct ds,⟨xs,h1,h2⟩=>⟨_,h1,trivial⟩
 |.tdc ds,⟨xs,h1,h2⟩=>⟨_,h1,trivial⟩
 |.non,h | .bl _,h | .int _,h | .str _,h | .tup _,h=>h.elim
theorem OwnAt.rd{a:Addr}(hn:¬O a):∀{d:D},d.isDct=false->OwnAt K H O a d->RD K H O d (.ref a)
 |.lst ds,_,⟨xs,h1,h2⟩=>⟨a,xs,rfl,.inl ⟨hn,.inl h1⟩,h2⟩
 |.dct ds,z,_=>by cases z
 |.tdc ds,z,_=>by cases z
 |.non,_,h | .bl _,_,h | .int _,_,h | .str _,_,h | .tup _,_,h=>h.elim
theorem RR.same(s:Same H H'){d:D}{v:V}(h:RR K H O d v):RR K H' O d v:=by
 rcases h with h|⟨a,e,h⟩
 ·exact .inl (h.same s)
 ·exact .inr ⟨a,e,h.same s⟩
theorem RR.lst{ds:List D}{v:V}(h:RR K H O (.lst ds) v):∃a xs,v=.ref a/\SqL K H a xs/\RDs K H O ds xs:=by
 rcases h with⟨a,xs,e,s,r⟩|⟨a,e,xs,h1,h2⟩
 ·refine⟨a,xs,e,?_,r⟩
  rcases s with⟨_,s⟩|s
  ·exact .inl s
  ·exact .inr s
 ·exact⟨a,xs,e,.of h1,h2⟩
theorem RR.dct{kvs:List (Sum Int Str×D)}{v:V}(h:RR K H O (.dct kvs) v):∃a ps,v=.ref a/\Rd H a (.dK ps)/\RDk K H O kvs ps:=by
 rcases h with⟨a,ps,e,s,r⟩|⟨a,e,ps,h1,h2⟩
 ·exact⟨a,ps,e,.inr s,r⟩
 ·exact⟨a,ps,e,.inl h1,h2⟩
theorem RR.tdc{kvs:List (List (Sum Int Str)×D)}{v:V}(h:RR K H O (.tdc kvs) v):∃a ps,v=.ref a/\Rd H a (.dT ps)/\RDt K H O kvs ps:=by
 rcases h with⟨a,ps,e,s,r⟩|⟨a,e,ps,h1,h2⟩
 ·exact⟨a,ps,e,.inr s,r⟩
 ·exact⟨a,ps,e,.inl h1,h2⟩
theorem RR.tupV{ds:List D}{v:V}(h:RR K H O (.tup ds) v):∃a xs,v=.ref a/\TupV K H a xs/\RDs K H O ds xs:=by
 rcases h with h|⟨a,e,h⟩
 ·exact h
 ·exact h.elim
theorem RR.tup{ds:List D}{v:V}(h:RR K H O (.tup ds) v):∃a xs,v=.ref a/\SqT K H a xs/\RDs K H O ds xs:=by
 obtain⟨a,xs,e,q,r⟩:=h.tupV
 exact⟨a,xs,e,q.sq,r⟩
noncomputable def D.still:D->Bool
 |.lst _=>false
 |.dct _=>false
 |.tdc _=>false
 |_=>true
theorem RR.rd{d:D}{v:V}(h:RR K H O d v)(n:d.still=true):RD K H O d v:=by
 rcases h with h|⟨a,e,h⟩
 ·exact h
 ·cases d with
  |lst _=>cases n
  |dct _=>cases n
  |tdc _=>cases n
  |non=>exact h.elim
  |bl _=>exact h.elim
  |int _=>exact h.elim
  |str _=>exact h.elim
  |tup _=>exact h.elim
end
noncomputable def NV(K:PySem.W.Frag)(H:Hp)(O:Addr->Prop)(d:D)(v:V):Prop:=(d=.non/\v=.non)\/∃ds a xs,d=.lst ds/\D.flats ds=true/\v=.ref a/\H a=some (.lst xs)/\¬O a/\RDs K H O ds xs
theorem NV.map{K:PySem.W.Frag}{H H':Hp}{O O':Addr->Prop}(hs:∀{d v},RDs K H O d v->RDs K H' O' d v)(hn:∀a xs,¬O a->H a=some (.lst xs)->¬O' a/\H' a=some (.lst xs)){d:D}{v:V}(h:NV K H O d v):NV K H' O' d v:=by
 rcases h with h|⟨ds,a,xs,h1,h2,h3,h4,h5,h6⟩
 ·exact .inl h
 ·obtain⟨h7,h8⟩:=hn a xs h5 h4
  exact .inr ⟨ds,a,xs,h1,h2,h3,h8,h7,hs h6⟩
theorem NV.rd{K:PySem.W.Frag}{H:Hp}{O:Addr->Prop}{d:D}{v:V}(h:NV K H O d v):RD K H O d v:=by
 rcases h with⟨rfl,rfl⟩|⟨ds,a,xs,rfl,h2,rfl,h4,h5,h6⟩
 ·exact rfl
 ·exact⟨a,xs,rfl,.inl ⟨h5,.inl h4⟩,h6⟩
noncomputable def RS(K:PySem.W.Frag)(H:Hp)(O:Addr->Prop)(own:Option Addr):Sl->Option V->Prop
 |.no,_=>True
 |.v d,ov=>∃v,ov=some v/\RD K H O d v
 |.o d,ov=>∃a,own=some a/\ov=some (.ref a)/\OwnAt K H O a d
 |.t ds,ov=>∃t p ys vs a r,own=some p/\ov=some (.ref t)/\(∃ks:List Int,ds=ks.map D.int++.lst a::r/\TupV K H t (ks.map V.int++.ref p::vs))/\H p=some (.lst ys)/\RDs K H O a ys/\RDs K H O r vs
 |.n d,ov=>∃v,ov=some v/\NV K H O d v
 |.r a d,ov=>own=some a/\ov=some (.ref a)/\OwnAt K H O a d
noncomputable def bW(σ:L2.St)(i:Nat):Option V:=(σ[i]?).join
set_option genInjectivity false in
structure Fm(K:PySem.W.Frag)(H₀:Hp)(O₀:Addr->Prop)(H:Hp)(O:Addr->Prop)(own:Nat->Option Addr)(e:Nv)(σ:L2.St):Prop where
 len:e.length=σ.length
 sl:∀i,RS K H O (own i) (e.at i) (bW σ i)
 inj:∀i j a,own i=some a->own j=some a->i=j
 same:Same H₀ H
 sub:∀a,O₀ a->O a
 trk0:∀a,O₀ a->∃o,H₀ a=some o
 trk:∀a,O a->∃o,H a=some o
 new:∀i a,own i=some a->O a/\H₀ a=none
 nw:∀i d a,e.at i=.n d->bW σ i=some (.ref a)->H₀ a=none
section
variable{K:PySem.W.Frag}{H₀ H H':Hp}{O₀ O O':Addr->Prop}{own:Nat->Option Addr}{e:Nv}{σ:L2.St}
theorem RS.same(s:Same H H'){o:Option Addr}{x:Sl}{ov:Option V}(h:RS K H O o x ov):RS K H' O o x ov:=by
 cases x with
 |no=>trivial
 |v d=>obtain⟨v,e,r⟩:=h;exact⟨v,e,r.same s⟩
 |o d=>obtain⟨a,e1,e2,h⟩:=h;exact⟨a,e1,e2,h.same s⟩
 |r a d=>exact⟨h.1,h.2.1,h.2.2.same s⟩
 |t ds=>obtain⟨t,p,ys,vs,a,r,e1,e2,⟨ks,e3,h1⟩,h2,h3,h4⟩:=h;exact⟨t,p,ys,vs,a,r,e1,e2,⟨ks,e3,TupV.same s h1⟩,s _ _ h2,h3.same s,h4.same s⟩
 |n d=>obtain⟨v,e,r⟩:=h;exact⟨v,e,r.map (λq=>q.same s) λa xs z q=>⟨z,s _ _ q⟩⟩
theorem Fm.grow(F:Fm K H₀ O₀ H O own e σ)(s:Same H H'):Fm K H₀ O₀ H' O own e σ:=
 ⟨F.len,λi=>(F.sl i).same s,F.inj,F.same.trans s,F.sub,F.trk0,λa h=>let ⟨xs,q⟩:=F.trk a h;⟨xs,s _ _ q⟩,F.new,F.nw⟩
end
section
variable{K:PySem.W.Frag}{H₀ H H':Hp}{O₀ O O':Addr->Prop}{own:Nat->Option Addr}{e:Nv}{σ:L2.St}
theorem iL{e:Nv}{i:Nat}{x:Sl}(h:i<e.length):Nv.at (e.set i x) i=x:=by
 unfold Nv.at;rw[iZ h];rfl
theorem eX{e:Nv}{i j:Nat}{x:Sl}(h:i≠j):Nv.at (e.set i x) j=Nv.at e j:=by
 unfold Nv.at;rw[kZ h]
theorem gW{e:Nv}{i:Nat}(h:¬i<e.length):Nv.at e i=.no:=by
 unfold Nv.at;rw[pO (by lia)];rfl
theorem qO{σ:L2.St}{i:Nat}{v:V}(h:i<σ.length):bW (σ.set i (some v)) i=some v:=by
 unfold bW;rw[iZ h];rfl
theorem nQ{σ:L2.St}{i j:Nat}{v:Option V}(h:i≠j):bW (σ.set i v) j=bW σ j:=by
 unfold bW;rw[kZ h]
theorem Bj{H₀:Hp}{e:Nv}{σ:L2.St}{i:Nat}{x:Sl}{ov:Option V}(hx:∀d,x≠.n d)(h:∀j d a,e.at j=.n d->bW σ j=some (.ref a)->H₀ a=none):∀j d a,Nv.at (e.set i x) j=.n d->bW (σ.set i ov) j=some (.ref a)->H₀ a=none:=λj d a h1 h2=>by
 by_cases z:i=j
 ·subst z
  by_cases hi:i<e.length
  ·rw[iL hi]at h1;exact absurd h1 (hx d)
  ·rw[gW (by rw[cI];exact hi)]at h1;cases h1
 ·rw[eX z]at h1;rw[nQ z]at h2;exact h j d a h1 h2
theorem qP{H₀:Hp}{e:Nv}{σ:L2.St}{i:Nat}{x:Sl}(hx:∀d,x≠.n d)(h:∀j d a,e.at j=.n d->bW σ j=some (.ref a)->H₀ a=none):∀j d a,Nv.at (e.set i x) j=.n d->bW σ j=some (.ref a)->H₀ a=none:=λj d a h1 h2=>by
 by_cases z:i=j
 ·subst z
  by_cases hi:i<e.length
  ·rw[iL hi]at h1;exact absurd h1 (hx d)
  ·rw[gW (by rw[cI];exact hi)]at h1;cases h1
 ·rw[eX z]at h1;exact h j d a h1 h2
theorem dQ{σ:L2.St}{i:Nat}{v:V}(h:bW σ i=some v):σ[i]?=some (some v):=by
 unfold bW at h
 cases q:σ[i]? with
 |none=>rw[q]at h;cases h
 |some o=>rw[q]at h;cases o with
  |none=>cases h
  |some w=>cases h;rfl
theorem RS.map(ht:∀{d v},RD K H O d v->RD K H' O' d v)(hs:∀{d v},RDs K H O d v->RDs K H' O' d v)(hk:∀{d v},RDk K H O d v->RDk K H' O' d v)(hk2:∀{d v},RDt K H O d v->RDt K H' O' d v){o:Option Addr}(ho:∀a u,o=some a->gB u->H a=some u->H' a=some u){x:Sl}{ov:Option V}(h:RS K H O o x ov)(hn:∀a xs,¬O a->H a=some (.lst xs)->¬O' a/\H' a=some (.lst xs))(hq:∀a xs,TupV K H a xs->TupV K H' a xs:=by first|exact λ_ _ q=>q|exact λ_ _ q=>TupV.same (by assumption) q):RS K H' O' o x ov:=by
 cases x with
 |no=>trivial
 |v d=>obtain⟨v,e,r⟩:=h;exact⟨v,e,ht r⟩
 |o d=>obtain⟨a,e1,e2,h⟩:=h;exact⟨a,e1,e2,h.map hs hk hk2 λu hm q=>ho a u e1 hm q⟩
 |t ds=>obtain⟨t,p,ys,vs,a,r,e1,e2,⟨ks,e3,h1⟩,h2,h3,h4⟩:=h;exact⟨t,p,ys,vs,a,r,e1,e2,⟨ks,e3,hq _ _ h1⟩,ho p _ e1 trivial h2,hs h3,hs h4⟩
 |n d=>obtain⟨v,e,r⟩:=h;exact⟨v,e,r.map hs hn⟩
 |r a d=>exact⟨h.1,h.2.1,h.2.2.map hs hk hk2 λu hm q=>ho a u h.1 hm q⟩
theorem Bk{p:Addr}(hp:H p=none)(s:Same H H'):∀a xs,¬O a->H a=some (.lst xs)->¬cU O p a/\H' a=some (.lst xs):=λa xs n q=>⟨λz=>z.elim n (eF q hp),s _ _ q⟩
theorem qQ{p:Addr}{o':HO}(hO:O p):∀a xs,¬O a->H a=some (.lst xs)->¬O a/\upd H p o' a=some (.lst xs):=λa xs n q=>⟨n,by
 have ne:a≠p:=λz=>n (z▸hO)
 rw[aG ne];exact q⟩
theorem HA(w:∀a,O' a->O a):∀a xs,¬O a->H a=some (.lst xs)->¬O' a/\H a=some (.lst xs):=λa xs n q=>⟨λz=>n (w a z),q⟩
theorem Fm.setV(F:Fm K H₀ O₀ H O own e σ)(i:Nat){d:D}{v:V}(r:RD K H O d v):Fm K H₀ O₀ H O (λj=>if j=i then none else own j) (e.set i (.v d)) (σ.set i (some v)) where
 len:=by rw[cI,cI];exact F.len
 sl:=λj=>by
  by_cases h:i=j
  ·subst h
   by_cases hi:i<e.length
   ·rw[iL hi,qO (by rw[<-F.len];exact hi)];exact⟨v,rfl,r⟩
   ·rw[gW (by rw[cI];exact hi)];trivial
  ·rw[eX h,nQ h,if_neg (Ne.symm h)];exact F.sl j
 inj:=λj k a h1 h2=>by
  by_cases h:j=i
  ·rw[if_pos h]at h1;cases h1
  ·by_cases h':k=i
   ·rw[if_pos h']at h2;cases h2
   ·rw[if_neg h]at h1;rw[if_neg h']at h2;exact F.inj j k a h1 h2
 same:=F.same
 sub:=F.sub
 trk0:=F.trk0
 trk:=F.trk
 new:=λj a h1=>by
  by_cases h:j=i
  ·rw[if_pos h]at h1;cases h1
  ·rw[if_neg h]at h1;exact F.new j a h1
 nw:=Bj (λ_ z=>by cases z) F.nw
theorem Fm.setN(F:Fm K H₀ O₀ H O own e σ)(i:Nat){d:D}{v:V}(r:NV K H O d v)(h0:∀a,v=.ref a->H₀ a=none):Fm K H₀ O₀ H O (λj=>if j=i then none else own j) (e.set i (.n d)) (σ.set i (some v)) where
 len:=by rw[cI,cI];exact F.len
 sl:=λj=>by
  by_cases h:i=j
  ·subst h
   by_cases hi:i<e.length
   ·rw[iL hi,qO (by rw[<-F.len];exact hi)];exact⟨v,rfl,r⟩
   ·rw[gW (by rw[cI];exact hi)];trivial
  ·rw[eX h,nQ h,if_neg (Ne.symm h)];exact F.sl j
 inj:=(F.setV i r.rd).inj
 same:=F.same
 sub:=F.sub
 trk0:=F.trk0
 trk:=F.trk
 new:=(F.setV i r.rd).new
 nw:=λj d' a h1 h2=>by
  by_cases z:i=j
  ·subst z
   by_cases hi:i<e.length
   ·rw[qO (by rw[<-F.len];exact hi)]at h2
    exact h0 a (eM.inj h2)
   ·rw[gW (by rw[cI];exact hi)]at h1;cases h1
  ·rw[eX z]at h1;rw[nQ z]at h2;exact F.nw j d' a h1 h2
theorem Fm.setO(F:Fm K H₀ O₀ H O own e σ)(s:Same H H')(i:Nat){d:D}{p:Addr}(hp:H p=none)(r:OwnAt K H' (cU O p) p d) :
 Fm K H₀ O₀ H' (cU O p) (λj=>if j=i then some p else own j) (e.set i (.o d)) (σ.set i (some (.ref p))) where
 len:=by rw[cI,cI];exact F.len
 sl:=λj=>by
  by_cases h:i=j
  ·subst h
   rw[if_pos rfl]
   by_cases hi:i<e.length
   ·rw[iL hi,qO (by rw[<-F.len];exact hi)];exact⟨p,rfl,rfl,r⟩
   ·rw[gW (by rw[cI];exact hi)];trivial
  ·rw[eX h,nQ h,if_neg (Ne.symm h)]
   exact RS.map (λq=>(q.new hp).same s) (λq=>(q.new hp).same s) (λq=>(q.new hp).same s) (λq=>(q.new hp).same s) (λa u _ _ q=>s _ _ q) (F.sl j) (Bk hp s)
 inj:=λj k a h1 h2=>by
  have no:∀j,own j≠some p:=λj q=>by
   obtain⟨xs,w⟩:=F.trk p (F.new j p q).1
   rw[hp]at w;cases w
  by_cases h:j=i
  ·rw[if_pos h]at h1
   cases h1
   by_cases h':k=i
   ·rw[h,h']
   ·rw[if_neg h']at h2;exact absurd h2 (no k)
  ·rw[if_neg h]at h1
   by_cases h':k=i
   ·rw[if_pos h']at h2;cases h2;exact absurd h1 (no j)
   ·rw[if_neg h']at h2;exact F.inj j k a h1 h2
 same:=F.same.trans s
 sub:=λa h=>.inl (F.sub a h)
 trk0:=F.trk0
 trk:=λa h=>by
  rcases h with h|h
  ·obtain⟨ys,q⟩:=F.trk a h
   exact⟨ys,s _ _ q⟩
  ·subst h
   obtain⟨o,h1,_⟩:=r.obj
   exact⟨o,h1⟩
 new:=λj a h1=>by
  by_cases h:j=i
  ·rw[if_pos h]at h1;cases h1;exact⟨.inr rfl,F.same.free hp⟩
  ·rw[if_neg h]at h1;exact⟨.inl (F.new j a h1).1,(F.new j a h1).2⟩
 nw:=Bj (λ_ z=>by cases z) F.nw
theorem Fm.mutA(F:Fm K H₀ O₀ H O own e σ)(i:Nat){d:D}(hi:e.at i=.o d):∃p,bW σ i=some (.ref p)/\OwnAt K H O p d/\O p /\
 ∀d' o',(∀o,H p=some o->OwnAt K (upd H p o') O p d')->Fm K H₀ O₀ (upd H p o') O own (e.set i (.o d')) σ:=by
 have q:=F.sl i
 rw[hi]at q
 obtain⟨p,e1,e2,h1⟩:=q
 obtain⟨o,ho,hm⟩:=h1.obj
 have hn:=F.new i p e1
 refine⟨p,e2,h1,hn.1,λd' o' r=>?_⟩
 have hlen:i<e.length:=by
  by_cases h:i<e.length
  ·exact h
  ·rw[gW h]at hi;cases hi
 refine⟨by rw[cI];exact F.len,λj=>?_,F.inj,λb u hb=>?_,F.sub,F.trk0,λa ha=>?_,F.new,qP (λ_ z=>by cases z) F.nw⟩
 ·by_cases h:i=j
  ·subst h
   rw[iL hlen,e2]
   exact⟨p,e1,rfl,r o ho⟩
  ·rw[eX h]
   refine RS.map (λq=>q.updM hn.1 ho hm) (λq=>q.updM hn.1 ho hm) (λq=>q.updM hn.1 ho hm) (λq=>q.updM hn.1 ho hm) (λa u ea _ q=>?_) (F.sl j) (qQ hn.1) (dP (K:=K) hn.1 ho hm).1
   have:a≠p:=λz=>h (F.inj i j p e1 (z▸ea))
   rw[aG this];exact q
 ·rw[aG (λz=>by rw[z,hn.2]at hb;cases hb)];exact F.same b u hb
 ·by_cases h:a=p
  ·subst h;exact⟨_,bQ⟩
  ·obtain⟨ys,q⟩:=F.trk a ha
   exact⟨ys,by rw[aG h];exact q⟩
theorem Fm.mut(F:Fm K H₀ O₀ H O own e σ)(i:Nat){ds:List D}(hi:e.at i=.o (.lst ds)):∃p xs,bW σ i=some (.ref p)/\H p=some (.lst xs)/\RDs K H O ds xs/\O p /\
 ∀ds' xs',RDs K H O ds' xs'->Fm K H₀ O₀ (upd H p (.lst xs')) O own (e.set i (.o (.lst ds'))) σ:=by
 obtain⟨p,e2,⟨xs,h1,h2⟩,hO,k⟩:=F.mutA i hi
 exact⟨p,xs,e2,h1,h2,hO,λds' xs' r=>k (.lst ds') (.lst xs') λ_ _=>⟨xs',bQ,r.upd hO h1⟩⟩
theorem Fm.seal(F:Fm K H₀ O₀ H O own e σ)(i:Nat){d:D}(hi:e.at i=.o d)(hd:d.isDct=false):∃O' own',Fm K H₀ O₀ H O' own' (e.set i (.v d)) σ/\∀a,O' a->O a:=by
 have q:=F.sl i
 rw[hi]at q
 obtain⟨p,e1,e2,h1⟩:=q
 have hn:=F.new i p e1
 have hlen:i<e.length:=by
  by_cases h:i<e.length
  ·exact h
  ·rw[gW h]at hi;cases hi
 refine⟨qN O p,λj=>if j=i then none else own j,⟨by rw[cI];exact F.len,λj=>?_,λj k a q1 q2=>?_,F.same,λa ha=>⟨F.sub a ha,λz=>?_⟩,F.trk0,λa ha=>F.trk a ha.1,λj a q1=>?_,qP (λ_ z=>by cases z) F.nw⟩,λa ha=>ha.1⟩
 ·by_cases h:i=j
  ·subst h
   rw[iL hlen,e2]
   exact⟨.ref p,rfl,OwnAt.rd (λz=>z.2 rfl) hd (h1.weak λ_ z=>z.1)⟩
  ·rw[eX h,if_neg (Ne.symm h)]
   exact RS.map (λq=>q.weak λ_ z=>z.1) (λq=>q.weak λ_ z=>z.1) (λq=>q.weak λ_ z=>z.1) (λq=>q.weak λ_ z=>z.1) (λa ys _ _ q=>q) (F.sl j) (HA λ_ z=>z.1)
 ·by_cases h:j=i
  ·rw[if_pos h]at q1;cases q1
  ·by_cases h':k=i
   ·rw[if_pos h']at q2;cases q2
   ·rw[if_neg h]at q1;rw[if_neg h']at q2;exact F.inj j k a q1 q2
 ·obtain⟨o,w⟩:=F.trk0 a ha
  rw[z,hn.2]at w;cases w
 ·by_cases h:j=i
  ·rw[if_pos h]at q1;cases q1
  ·rw[if_neg h]at q1
   exact⟨⟨(F.new j a q1).1,λz=>h (F.inj j i p (z▸q1) e1)⟩,(F.new j a q1).2⟩
theorem Fm.sealD(F:Fm K H₀ O₀ H O own e σ)(i:Nat){d:D}(hi:e.at i=.o d)(hd:d.isDct=true):∃p u,H p=some u/\((∃ps,u=.dK ps)\/∃ps,u=.dT ps)/\bW σ i=some (.ref p)/\(O p/\gB u) /\
 ∀ob,(∃own',Fm K H₀ O₀ (upd H p (.frz ob u)) (qN O p) own' (e.set i (.v d)) σ)/\RD K (upd H p (.frz ob u)) (qN O p) d (.ref p):=by
 have q:=F.sl i
 rw[hi]at q
 obtain⟨p,e1,e2,h1⟩:=q
 have hn:=F.new i p e1
 have hlen:i<e.length:=by
  by_cases h:i<e.length
  ·exact h
  ·rw[gW h]at hi;cases hi
 obtain⟨u,hu,hm⟩:=h1.obj
 have hk:((∃ps,u=.dK ps)\/∃ps,u=.dT ps)/\∀ob,RD K (upd H p (.frz ob u)) (qN O p) d (.ref p):=by
  cases d with
  |dct kvs=>
   obtain⟨ps,g1,g2⟩:=h1
   rw[g1]at hu
   cases hu
   exact⟨.inl ⟨ps,rfl⟩,λob=>⟨p,ps,rfl,⟨ob,bQ⟩,(g2.updM hn.1 g1 trivial).weak λ_ z=>z.1⟩⟩
  |tdc kvs=>
   obtain⟨ps,g1,g2⟩:=h1
   rw[g1]at hu
   cases hu
   exact⟨.inr ⟨ps,rfl⟩,λob=>⟨p,ps,rfl,⟨ob,bQ⟩,(g2.updM hn.1 g1 trivial).weak λ_ z=>z.1⟩⟩
  |_=>cases hd
 refine⟨p,u,hu,hk.1,e2,⟨hn.1,hm⟩,λob=>⟨⟨λj=>if j=i then none else own j,⟨by rw[cI];exact F.len,λj=>?_,λj k a q1 q2=>?_,λb w hb=>?_,λa ha=>⟨F.sub a ha,λz=>?_⟩,F.trk0,λa ha=>?_,λj a q1=>?_,qP (λ_ z=>by cases z) F.nw⟩⟩,hk.2 ob⟩⟩
 ·by_cases h:i=j
  ·subst h
   rw[iL hlen,e2]
   exact⟨.ref p,rfl,hk.2 ob⟩
  ·rw[eX h,if_neg (Ne.symm h)]
   refine RS.map (λq=>(q.updM hn.1 hu hm).weak λ_ z=>z.1) (λq=>(q.updM hn.1 hu hm).weak λ_ z=>z.1) (λq=>(q.updM hn.1 hu hm).weak λ_ z=>z.1) (λq=>(q.updM hn.1 hu hm).weak λ_ z=>z.1) (λa w ea _ q=>?_) (F.sl j) (λa xs n q=>?_) (dP (K:=K) hn.1 hu hm).1
   ·have:a≠p:=λz=>h (F.inj i j p e1 (z▸ea))
    rw[aG this];exact q
   ·obtain⟨_,z2⟩:=qQ (o':=.frz ob u) hn.1 a xs n q
    exact⟨λz=>n z.1,z2⟩
 ·by_cases h:j=i
  ·rw[if_pos h]at q1;cases q1
  ·by_cases h':k=i
   ·rw[if_pos h']at q2;cases q2
   ·rw[if_neg h]at q1;rw[if_neg h']at q2;exact F.inj j k a q1 q2
 ·rw[aG (λz=>by rw[z,hn.2]at hb;cases hb)];exact F.same b w hb
 ·obtain⟨o,w⟩:=F.trk0 a ha
  rw[z,hn.2]at w;cases w
 ·obtain⟨o,w⟩:=F.trk a ha.1
  exact⟨o,by rw[aG ha.2];exact w⟩
 ·by_cases h:j=i
  ·rw[if_pos h]at q1;cases q1
  ·rw[if_neg h]at q1
   exact⟨⟨(F.new j a q1).1,λz=>h (F.inj j i p (z▸q1) e1)⟩,(F.new j a q1).2⟩
theorem Fm.val(F:Fm K H₀ O₀ H O own e σ){i:Nat}{d:D}(h:(e.at i).val=.ok d):∃v,σ[i]?=some (some v)/\RD K H O d v:=by
 have q:=F.sl i
 cases z:e.at i with
 |no=>rw[z]at h;cases h
 |o d=>rw[z]at h;cases h
 |t d=>rw[z]at h;cases h
 |r a d=>rw[z]at h;cases h
 |n d'=>
  rw[z]at h q
  cases h
  obtain⟨v,e1,r⟩:=q
  exact⟨v,dQ e1,r.rd⟩
 |v d'=>
  rw[z]at h q
  cases h
  obtain⟨v,e1,r⟩:=q
  exact⟨v,dQ e1,r⟩
theorem Fm.any(F:Fm K H₀ O₀ H O own e σ){i:Nat}{d:D}(h:(e.at i).any=.ok d):∃v,σ[i]?=some (some v)/\RR K H O d v:=by
 have q:=F.sl i
 cases z:e.at i with
 |no=>rw[z]at h;cases h
 |t d=>rw[z]at h;cases h
 |o d'=>
  rw[z]at h q
  cases h
  obtain⟨a,e1,e2,h1⟩:=q
  exact⟨.ref a,dQ e2,.inr ⟨a,rfl,h1⟩⟩
 |r a d'=>
  rw[z]at h q
  cases h
  exact⟨.ref a,dQ q.2.1,.inr ⟨a,rfl,q.2.2⟩⟩
 |n d'=>
  rw[z]at h q
  cases h
  obtain⟨v,e1,r⟩:=q
  exact⟨v,dQ e1,.inl r.rd⟩
 |v d'=>
  rw[z]at h q
  cases h
  obtain⟨v,e1,r⟩:=q
  exact⟨v,dQ e1,.inl r⟩
theorem Sl.own_ok{x:Sl}{a:List D}(h:x.own=.ok a):x=.o (.lst a):=by
 unfold Sl.own at h
 split at h
 ·cases h;rfl
 ·cases h
theorem Sl.ownA_ok{x:Sl}{a:D}(h:x.ownA=.ok a):x=.o a:=by
 unfold Sl.ownA at h
 split at h
 ·cases h;rfl
 ·cases h
end
noncomputable def NewL(K:PySem.W.Frag)(H H':Hp)(O:Addr->Prop)(d:D)(v:V):Prop:=d.still=false->∃a,v=.ref a/\H a=none/\OwnAt K H' (cU O a) a d
theorem NewL.back{K:PySem.W.Frag}{H1 H H':Hp}{O:Addr->Prop}{d:D}{v:V}(s:Same H1 H)(n:NewL K H H' O d v):NewL K H1 H' O d v:=λz=>by
 obtain⟨a,h1,h2,h3⟩:=n z
 exact⟨a,h1,s.free h2,h3⟩
theorem NewL.same{K:PySem.W.Frag}{H H1 H':Hp}{O:Addr->Prop}{d:D}{v:V}(s:Same H1 H')(n:NewL K H H1 O d v):NewL K H H' O d v:=λz=>by
 obtain⟨a,h1,h2,h3⟩:=n z
 exact⟨a,h1,h2,h3.same s⟩
theorem NewL.weak{K:PySem.W.Frag}{H H':Hp}{O O':Addr->Prop}{d:D}{v:V}(s:∀a,O' a->O a)(n:NewL K H H' O d v):NewL K H H' O' d v:=λz=>by
 obtain⟨a,h1,h2,h3⟩:=n z
 exact⟨a,h1,h2,h3.weak λb hb=>hb.imp (s b) id⟩
theorem NewL.still{K:PySem.W.Frag}{H H':Hp}{O:Addr->Prop}{d:D}{v:V}(h:d.still=true):NewL K H H' O d v:=λz=>by rw[h]at z;cases z
noncomputable def NewR(K:PySem.W.Frag)(H H':Hp)(O:Addr->Prop)(d:D)(v:V):Prop:=NewL K H H' O d v/\∀(ks:List Int)(a r:List D),d=.tup (ks.map D.int++.lst a::r)->∃t p ys vs,v=.ref t/\TupV K H' t (ks.map V.int++.ref p::vs)/\H p=none/\H' p=some (.lst ys)/\RDs K H' (cU O p) a ys/\RDs K H' (cU O p) r vs
theorem HB(ks:List Int)(a r:List D):qF (ks.map D.int++.lst a::r)=true:=by
 induction ks with
 |nil=>rfl
 |cons k ks ih=>exact ih
theorem NewR.of{K:PySem.W.Frag}{H H':Hp}{O:Addr->Prop}{d:D}{v:V}(n:NewL K H H' O d v)(h:kI d=false):NewR K H H' O d v:=⟨n,λks a r z=>by
 subst z
 have h:qF _=false:=h
 rw[HB]at h;cases h⟩
section
variable(T:Tab)(cf:Nat->List D->Res D)(K:PySem.W.Frag)(H₀:Hp)(O₀:Addr->Prop)
noncomputable def tE(x:E):TE:=λσ H Q=>∃O own e d,Fm K H₀ O₀ H O own e σ/\evE T cf x e=.ok d/\∀v H',Same H H'->RD K H' O d v->(bE T x=true->NewL K H H' O d v)->Q v H'
noncomputable def tR(x:E):TE:=λσ H Q=>∃O own e d,Fm K H₀ O₀ H O own e σ/\evE T cf x e=.ok d/\∀v H',Same H H'->RR K H' O d v->Q v H'
noncomputable def tT(x:E):TT:=λσ H Q=>∃O own e d k,Fm K H₀ O₀ H O own e σ/\evE T cf x e=.ok d/\d.truth=.ok k/\∀H',Same H H'->Q k H'
noncomputable def NewAs(H H':Hp)(O:Addr->Prop)(x:E)(ds:List D)(vs:List V):Prop:=∀j d v,bE T (BC x j)=true->ds[j]?=some d->vs[j]?=some v->NewL K H H' O d v
noncomputable def tAv(x:E):TA:=λσ H Q=>∃O own e ds,Fm K H₀ O₀ H O own e σ/\evA T cf x e=.ok ds/\∀vs H',Same H H'->RDs K H' O ds vs->NewAs T K H H' O x ds vs->Q vs H'
noncomputable def tAr(x:E):TA:=λσ H Q=>∃O own e ds,Fm K H₀ O₀ H O own e σ/\evA T cf x e=.ok ds/\∀vs H',Same H H'->RRs K H' O ds vs->Q vs H'
end
section
variable(T:Tab)(cf:Nat->List D->Res D)(X:Cx)
noncomputable def SE(x:E)(p:Expr):Prop:=∀H₀ O₀,PE X p (tE T cf X.K H₀ O₀ x)
noncomputable def SR(x:E)(p:Expr):Prop:=∀H₀ O₀,PE X p (tR T cf X.K H₀ O₀ x)
noncomputable def ST(x:E)(p:Expr):Prop:=∀H₀ O₀,PT X p (tT T cf X.K H₀ O₀ x)
noncomputable def SAv(x:E)(p:List Expr):Prop:=∀H₀ O₀,PA X p (tAv T cf X.K H₀ O₀ x)
noncomputable def SAr(x:E)(p:List Expr):Prop:=∀H₀ O₀,PA X p (tAr T cf X.K H₀ O₀ x)
end
section
variable{T:Tab}{cf:Nat->List D->Res D}{X:Cx}{x y z:E}{p q r:Expr}{pos:Pos}
theorem PE.imp{t t':TE}(h:∀σ H Q,t' σ H Q->t σ H Q)(hp:PE X p t):PE X p t':=λpins s σ H Q I q=>hp pins s σ H Q I (h σ H Q q)
theorem PT.imp{t t':TT}(h:∀σ H Q,t' σ H Q->t σ H Q)(hp:PT X p t):PT X p t':=λpins s σ H Q I q=>hp pins s σ H Q I (h σ H Q q)
theorem SE.sr(h:SE T cf X x p):SR T cf X x p:=λH₀ O₀=>PE.imp (λσ H Q ⟨O,own,e,d,F,ev,q⟩=>⟨O,own,e,d,F,ev,λv H' s r _=>q v H' s r.rr⟩) (h H₀ O₀)
theorem SAv.sr{ps:List Expr}(h:SAv T cf X x ps):SAr T cf X x ps:=λH₀ O₀ pos pins s σ H Q I ⟨O,own,e,ds,F,ev,q⟩=>h H₀ O₀ pos pins s σ H Q I ⟨O,own,e,ds,F,ev,λvs H' s r _=>q vs H' s r.rr⟩
theorem se_var {i:Nat} {n:Str} (hN:X.N[i]?=some n) (hv:Vis X.env.scope n) (hd:(n==("__debug__" : Str))=false) (hc:(n==("__classdict__" : Str))=false):SE T cf X (.var i) (.Name n pos):=λH₀ O₀=>
 PE.imp (λσ H Q ⟨O,own,e,d,F,ev,q⟩=>by
  obtain⟨v,h1,h2⟩:=F.val (i:=i) (by rw[vT]at ev;exact ev)
  exact⟨v,h1,q v H (Same.refl H) h2 (λz=>by cases z)⟩) (dZ hN hv hd hc)
theorem Bl {i:Nat} {n:Str} (hN:X.N[i]?=some n) (hv:Vis X.env.scope n) (hd:(n==("__debug__" : Str))=false) (hc:(n==("__classdict__" : Str))=false):SR T cf X (.rd i) (.Name n pos):=λH₀ O₀=>
 PE.imp (λσ H Q ⟨O,own,e,d,F,ev,q⟩=>by
  obtain⟨v,h1,h2⟩:=F.any (i:=i) (by rw[BF]at ev;exact ev)
  exact⟨v,h1,q v H (Same.refl H) h2⟩) (dZ hN hv hd hc)
noncomputable def wK:D->Const->Bool
 |.non,.none=>true
 |.bl a,.bool b=>a==b
 |.int i,.int j=>i==j
 |.str a,.str b=>a==b
 |_,_=>false
theorem se_con{d:D}{c:Const}{k:Nat}(h:wK d c=true):SE T cf X (.con d) (.Constant c k pos):=λH₀ O₀=>by
 have fin:∀{v:V} {σ:L2.St} {H:Hp} {Q:VK},(∀H O,RD X.K H O d v)->tE T cf X.K H₀ O₀ (.con d) σ H Q->Q v H:=λhv ⟨O,own,e,d',F,ev,q⟩=>by
  rw[vU]at ev;cases ev
  exact q _ _ (Same.refl _) (hv _ _) (λz=>by cases z)
 cases d<;>cases c<;>first
  |(exact absurd (show false=true from h) aP)
  |(exact PE.imp (λσ H Q w=>fin (v:=.non) (λ_ _=>rfl) w) pe_non)
  |(have e:=eq_of_beq (show _==_ from h);subst e;first
   |exact PE.imp (λσ H Q w=>fin (λ_ _=>rfl) w) pe_bl
   |exact PE.imp (λσ H Q w=>fin (λ_ _=>rfl) w) pe_int
   |exact PE.imp (λσ H Q w=>fin (λ_ _=>rfl) w) uU)
noncomputable def Bm(X:Cx)(n:Str)(d:D):Prop:=∃v u,X.mg n=some u/\RelV v u/\∀H O,RD X.K H O d v
theorem HC {g:Nat} {n:Str} (hg:Gl X n) (h:Bm X n (T.glob g)) (hd:(n==("__debug__" : Str))=false):SE T cf X (.glob g) (.Name n pos):=λH₀ O₀=>by
 obtain⟨v,u,hm,r,hv⟩:=h
 refine PE.imp (λσ H Q hq=>?_) (AR (v:=v) hg hm r hd)
 obtain⟨O,own,e,d,F,ev,q⟩:=hq
 rw[GL]at ev;cases ev
 exact q v H (Same.refl H) (hv H O) (λz=>by cases z)
noncomputable def rD2(K:PySem.W.Frag)(f:D->D->Res D)(fr:Bool):R2:=λx y H Q=>∃O d1 d2 d,RR K H O d1 x/\RR K H O d2 y/\f d1 d2=.ok d/\(∀a,O a->∃o,H a=some o)/\∀v H',Same H H'->RD K H' O d v->(fr=true->NewL K H H' O d v)->Q v H'
theorem wL{w:E}{pe:Expr}{f:D->D->Res D}(hw:∀e,evE T cf w e=(do let a<-evE T cf x e;let b<-evE T cf y e;f a b))
 (hop:∀{ta tb:TE},PE X p ta->PE X q tb->PE X pe (tOp (rD2 X.K f (bE T w)) ta tb)) (ha:SR T cf X x p) (hb:SR T cf X y q):SE T cf X w pe:=λH₀ O₀=>by
 refine PE.imp (λσ H Q hq=>?_) (hop (ha H₀ O₀) (hb H₀ O₀))
 obtain⟨O,own,e,d,F,ev,k⟩:=hq
 rw[hw]at ev
 obtain⟨d1,e1,ev⟩:=Res.bind_ok ev
 obtain⟨d2,e2,ev⟩:=Res.bind_ok ev
 refine⟨O,own,e,d1,F,e1,λv1 H1 s1 r1=>?_⟩
 refine⟨O,own,e,d2,F.grow s1,e2,λv2 H2 s2 r2=>?_⟩
 refine⟨O,d1,d2,d,r1.same s2,r2,ev,λa ha=>?_,λv H' s3 r3 n3=>?_⟩
 ·exact(F.grow (s1.trans s2)).trk a ha
 ·exact k v H' ((s1.trans s2).trans s3) r3 λfr=>(n3 fr).back (s1.trans s2)
end
noncomputable abbrev no:Addr->Prop:=λ_=>False
section
variable{X:Cx}{pins:List (Addr×Obj)}{σ:L2.St}{H:Hp}{s:Shared}
theorem qR(I:Inv X pins σ H s){a:Addr}{xs ys:List V}(h1:SqL X.K H a xs)(h2:SqT X.K H a ys):False:=by
 obtain⟨its,_,pl,_⟩:=I.list h1
 obtain⟨its',_,pt,_⟩:=I.tuple h2
 exact SeqAt.ne_of_list_tuple pl.isList pt rfl
theorem RD.sql{K:PySem.W.Frag}{O:Addr->Prop}{ds:List D}{v:V}(h:RD K H O (.lst ds) v):∃a xs,v=.ref a/\SqL K H a xs/\RDs K H O ds xs:=RR.lst (.inl h)
theorem Bo (I:Inv X pins σ H s) {a:Addr} {ps:List (Key×V)} (h:Rd H a (.dK ps)):∃o,s.heap.get? a=some o/\o.cls=.type "dict" := by
 obtain⟨_,_,vs,_,o,es,ep,e,c,_⟩:=(show ObjOk X.prog X.w H s.heap a (.dK ps)from mZ I.hok h)
 exact⟨o,e,c.1⟩
theorem qS(I:Inv X pins σ H s){a:Addr}{ps:List (Key×V)}{xs:List V}(h:Rd H a (.dK ps))(h2:SqL X.K H a xs):False:=by
 obtain⟨its,_,pl,_⟩:=I.list h2
 obtain⟨o,e,c⟩:=Bo I h
 obtain⟨o',e',c',_⟩:=pl.isList
 rw[e]at e';cases e'
 rw[c]at c'
 injection c' with z
 exact absurd z (by decide)
theorem qU(I:Inv X pins σ H s){a:Addr}{ps:List (Key×V)}{xs:List V}(h:Rd H a (.dK ps))(h2:SqT X.K H a xs):False:=by
 obtain⟨its,_,pl,_⟩:=I.tuple h2
 obtain⟨o,e,c⟩:=Bo I h
 obtain⟨o',e',c',_⟩:=pl
 rw[e]at e';cases e'
 rw[c]at c'
 injection c' with z
 exact absurd z (by decide)
theorem Bp (I:Inv X pins σ H s) {a:Addr} {ps:List (List Key×V)} (h:Rd H a (.dT ps)):∃o,s.heap.get? a=some o/\o.cls=.type "dict" := by
 obtain⟨_,_,vs,_,o,es,ep,e,c,_⟩:=(show ObjOk X.prog X.w H s.heap a (.dT ps)from mZ I.hok h)
 exact⟨o,e,c.1⟩
theorem qV(I:Inv X pins σ H s){a:Addr}{ps:List (List Key×V)}{xs:List V}(h:Rd H a (.dT ps))(h2:SqL X.K H a xs):False:=by
 obtain⟨its,_,pl,_⟩:=I.list h2
 obtain⟨o,e,c⟩:=Bp I h
 obtain⟨o',e',c',_⟩:=pl.isList
 rw[e]at e';cases e'
 rw[c]at c'
 injection c' with z
 exact absurd z (by decide)
theorem qW(I:Inv X pins σ H s){a:Addr}{ps:List (List Key×V)}{xs:List V}(h:Rd H a (.dT ps))(h2:SqT X.K H a xs):False:=by
 obtain⟨its,_,pl,_⟩:=I.tuple h2
 obtain⟨o,e,c⟩:=Bp I h
 obtain⟨o',e',c',_⟩:=pl
 rw[e]at e';cases e'
 rw[c]at c'
 injection c' with z
 exact absurd z (by decide)
mutual
theorem RD.inj(I:Inv X pins σ H s):∀{d d':D} {v:V},RD X.K H no d v->RD X.K H no d' v->d=d'
 |.non,d',v,h,h'=>by cases (show v=.non from h);cases d'<;>first|(obtain⟨a,xs,e,_⟩:=h';cases e;done)|rfl|(cases h';done)
 |.bl b,d',v,h,h'=>by cases (show v=.bl b from h);cases d'<;>first|(obtain⟨a,xs,e,_⟩:=h';cases e;done)|rfl|(cases h';rfl)|(cases h';done)
 |.int b,d',v,h,h'=>by cases (show v=.int b from h);cases d'<;>first|(obtain⟨a,xs,e,_⟩:=h';cases e;done)|rfl|(cases h';rfl)|(cases h';done)
 |.str b,d',v,h,h'=>by cases (show v=.str b from h);cases d'<;>first|(obtain⟨a,xs,e,_⟩:=h';cases e;done)|rfl|(cases h';rfl)|(cases h';done)
 |.tup ds,d',v,h,h'=>by
  obtain⟨a,xs,e,q,r⟩:=h
  subst e
  cases d' with
  |tup ds'=>
   obtain⟨a',xs',e,q',r'⟩:=h'
   cases e
   have:=I.tuple_inj q.sq q'.sq
   subst this
   rw[RDs.inj I r r']
  |lst ds'=>
   obtain⟨a',xs',e,q',r'⟩:=RD.sql h'
   cases e
   exact(qR I q' q.sq).elim
  |non=>cases h'
  |bl _=>cases h'
  |int _=>cases h'
  |str _=>cases h'
  |dct _=>
   obtain⟨a',xs',e,q',r'⟩:=h'
   cases e
   exact(qU I (.inr q') q.sq).elim
  |tdc _=>
   obtain⟨a',xs',e,q',r'⟩:=h'
   cases e
   exact(qW I (.inr q') q.sq).elim
 |.lst ds,d',v,h,h'=>by
  obtain⟨a,xs,e,q,r⟩:=RD.sql h
  subst e
  cases d' with
  |lst ds'=>
   obtain⟨a',xs',e,q',r'⟩:=RD.sql h'
   cases e
   have:=I.list_inj q q'
   subst this
   rw[RDs.inj I r r']
  |tup ds'=>
   obtain⟨a',xs',e,q',r'⟩:=h'
   cases e
   exact(qR I q q'.sq).elim
  |non=>cases h'
  |bl _=>cases h'
  |int _=>cases h'
  |str _=>cases h'
  |dct _=>
   obtain⟨a',xs',e,q',r'⟩:=h'
   cases e
   exact(qS I (.inr q') q).elim
  |tdc _=>
   obtain⟨a',xs',e,q',r'⟩:=h'
   cases e
   exact(qV I (.inr q') q).elim
 |.dct kvs,d',v,h,h'=>by
  obtain⟨a,xs,e,q,r⟩:=h
  subst e
  cases d' with
  |dct kvs'=>
   obtain⟨a',xs',e,q',r'⟩:=h'
   cases e
   obtain⟨o1,q⟩:=q
   obtain⟨o2,q'⟩:=q'
   have:=q.symm.trans q'
   cases this
   rw[RDk.inj I r r']
  |tup ds'=>
   obtain⟨a',xs',e,q',r'⟩:=h'
   cases e
   exact(qU I (.inr q) q'.sq).elim
  |lst ds'=>
   obtain⟨a',xs',e,q',r'⟩:=RD.sql h'
   cases e
   exact(qS I (.inr q) q').elim
  |non=>cases h'
  |bl _=>cases h'
  |int _=>cases h'
  |str _=>cases h'
  |tdc _=>
   obtain⟨a',xs',e,q',r'⟩:=h'
   cases e
   obtain⟨o1,q⟩:=q
   obtain⟨o2,q'⟩:=q'
   have:=q.symm.trans q'
   cases this
 |.tdc kvs,d',v,h,h'=>by
  obtain⟨a,xs,e,q,r⟩:=h
  subst e
  cases d' with
  |tdc kvs'=>
   obtain⟨a',xs',e,q',r'⟩:=h'
   cases e
   obtain⟨o1,q⟩:=q
   obtain⟨o2,q'⟩:=q'
   have:=q.symm.trans q'
   cases this
   rw[RDt.inj I r r']
  |tup ds'=>
   obtain⟨a',xs',e,q',r'⟩:=h'
   cases e
   exact(qW I (.inr q) q'.sq).elim
  |lst ds'=>
   obtain⟨a',xs',e,q',r'⟩:=RD.sql h'
   cases e
   exact(qV I (.inr q) q').elim
  |non=>cases h'
  |bl _=>cases h'
  |int _=>cases h'
  |str _=>cases h'
  |dct _=>
   obtain⟨a',xs',e,q',r'⟩:=h'
   cases e
   obtain⟨o1,q⟩:=q
   obtain⟨o2,q'⟩:=q'
   have:=q.symm.trans q'
   cases this
theorem RDs.inj(I:Inv X pins σ H s):∀{ds ds':List D} {vs:List V},RDs X.K H no ds vs->RDs X.K H no ds' vs->ds=ds'
 |[],[],_,_,_=>rfl
 |[],_::_,_,h,h'=>by
  rw[RDs]at h;subst h
  obtain⟨_,_,e,_⟩:=h';cases e
 |_::_,[],_,h,h'=>by
  rw[RDs]at h';subst h'
  obtain⟨_,_,e,_⟩:=h;cases e
 |d::ds,d'::ds',vs,h,h'=>by
  obtain⟨v,r,rfl,h1,h2⟩:=h
  obtain⟨v',r',e,h1',h2'⟩:=h'
  cases e
  rw[RD.inj I h1 h1',RDs.inj I h2 h2']
theorem RDk.inj(I:Inv X pins σ H s):∀{ds ds':List (Sum Int Str×D)} {vs:List (Key×V)},RDk X.K H no ds vs->RDk X.K H no ds' vs->ds=ds'
 |[],[],_,_,_=>rfl
 |[],_::_,_,h,h'=>by
  rw[RDk]at h;subst h
  obtain⟨_,_,e,_⟩:=h';cases e
 |_::_,[],_,h,h'=>by
  rw[RDk]at h';subst h'
  obtain⟨_,_,e,_⟩:=h;cases e
 |(k,d)::ds,(k',d')::ds',vs,h,h'=>by
  obtain⟨v,r,rfl,h1,h2⟩:=h
  obtain⟨v',r',e,h1',h2'⟩:=h'
  cases e
  rw[RD.inj I h1 h1',RDk.inj I h2 h2']
theorem RDt.inj(I:Inv X pins σ H s):∀{ds ds':List (List (Sum Int Str)×D)} {vs:List (List Key×V)},RDt X.K H no ds vs->RDt X.K H no ds' vs->ds=ds'
 |[],[],_,_,_=>rfl
 |[],_::_,_,h,h'=>by
  rw[RDt]at h;subst h
  obtain⟨_,_,e,_⟩:=h';cases e
 |_::_,[],_,h,h'=>by
  rw[RDt]at h';subst h'
  obtain⟨_,_,e,_⟩:=h;cases e
 |(k,d)::ds,(k',d')::ds',vs,h,h'=>by
  obtain⟨v,r,rfl,h1,h2⟩:=h
  obtain⟨v',r',e,h1',h2'⟩:=h'
  cases e
  rw[RD.inj I h1 h1',RDt.inj I h2 h2']
end
noncomputable def fH(xs ys:List D)(j:Nat):Bool:=match xs[j]?,ys[j]? with
 |some x,some y=>D.eqb x y
 |_,_=>false
theorem HD(x y:D)(xs ys:List D)(j:Nat):fH (x::xs) (y::ys) (j+1)=fH xs ys j:=by simp[fH]
theorem nR:∀xs ys:List D,xs.length=ys.length->(aF xs.length).all (fH xs ys)=D.eqs xs ys
 |[],[],_=>rfl
 |[],_::_,h=>by simp at h
 |_::_,[],h=>by simp at h
 |x::xs,y::ys,h=>by
  rw[aX,AC,lC,List.all_map,vE,<-nR xs ys (by simpa using h)]
  congr 1
theorem nS:∀xs ys:List D,xs.length≠ys.length->D.eqs xs ys=false
 |[],[],h=>by simp at h
 |[],_::_,_=>rfl
 |_::_,[],_=>rfl
 |x::xs,y::ys,h=>by rw[vE,nS xs ys (by simpa using h),LV]
theorem wM{xs ys:List D}:((aF (min xs.length ys.length)).all (fH xs ys)&&xs.length==ys.length)=D.eqs xs ys:=by
 by_cases h:xs.length=ys.length
 ·rw[<-nR xs ys h,h,Nat.min_self];simp
 ·rw[nS xs ys h];simp[h]
class Fr1 (u:HO):Prop where
 no:∀o v,u≠.frz o v
noncomputable instance{ps:List (Key×V)}:Fr1 (.dK ps):=⟨λo v z=>by cases z⟩
noncomputable instance{ps:List (List Key×V)}:Fr1 (.dT ps):=⟨λo v z=>by cases z⟩
inductive Sees(X:Cx)(H:Hp)(s:Shared):D->Value->Prop
 |non:Sees X H s .non .none
 |bl (b):Sees X H s (.bl b) (.bool b)
 |int (i t):Sees X H s (.int i) (.int i t)
 |str (x t):Sees X H s (.str x) (.str x t)
 |tup (ds:List D) (a:Addr) (xs:List V) (its:List Value):SqT X.K H a xs->RDs X.K H no ds xs->Vals xs its->IsTup s.heap a its.toArray->Sees X H s (.tup ds) (.ref a)
 |lst (ds:List D) (a:Addr) (xs:List V) (its:List Value):SqL X.K H a xs->RDs X.K H no ds xs->Vals xs its->PlainL s.heap a its.toArray->Sees X H s (.lst ds) (.ref a)
 |dct (ds:List (Sum Int Str×D)) (a:Addr) (ps:List (Key×V)):Rd H a (.dK ps)->RDk X.K H no ds ps->Sees X H s (.dct ds) (.ref a)
 |tdc (ds:List (List (Sum Int Str)×D)) (a:Addr) (ps:List (List Key×V)):Rd H a (.dT ps)->RDt X.K H no ds ps->Sees X H s (.tdc ds) (.ref a)
theorem nT(I:Inv X pins σ H s){d:D}{v:V}{u:Value}(h:RD X.K H no d v)(r:RelV v u):Sees X H s d u:=by
 cases d with
 |non=>cases (show v=.non from h);cases r;exact .non
 |bl b=>cases (show v=.bl b from h);cases r;exact .bl b
 |int i=>cases (show v=.int i from h);obtain⟨t,rfl⟩:=r;exact .int i t
 |str x=>cases (show v=.str x from h);obtain⟨t,rfl⟩:=r;exact .str x t
 |tup ds=>
  obtain⟨a,xs,rfl,q,w⟩:=h
  cases r
  obtain⟨its,r1,p1,_⟩:=I.tuple q.sq
  exact .tup ds a xs its q.sq w r1 p1
 |lst ds=>
  obtain⟨a,xs,rfl,q,w⟩:=RD.sql h
  cases r
  obtain⟨its,r1,p1,_⟩:=I.list q
  exact .lst ds a xs its q w r1 p1
 |dct ds=>
  obtain⟨a,ps,rfl,q,w⟩:=h
  cases r
  exact .dct ds a ps (.inr q) w
 |tdc ds=>
  obtain⟨a,ps,rfl,q,w⟩:=h
  cases r
  exact .tdc ds a ps (.inr q) w
theorem Bq(I:Inv X pins σ H s){O:Addr->Prop}{d:D}{v:V}{u:Value}(h:RR X.K H O d v)(r:RelV v u):Sees X H s d u:=by
 have w:∀{a:Addr},no a->O a:=λz=>z.elim
 rcases h with h|⟨a,rfl,h⟩
 ·exact nT I (h.weak λ_ z=>z.elim) r
 ·cases r
  cases d with
  |lst ds=>exact nT I (OwnAt.rd (O:=no) (λz=>z) rfl (h.weak λ_ z=>z.elim)) rfl
  |dct ds=>
   obtain⟨ps,h1,h2⟩:=h
   exact .dct ds a ps (.inl h1) (h2.weak λ_ z=>z.elim)
  |tdc ds=>
   obtain⟨ps,h1,h2⟩:=h
   exact .tdc ds a ps (.inl h1) (h2.weak λ_ z=>z.elim)
  |_=>exact h.elim
theorem qX{a:Addr}{u u':HO}[Fr1 u][Fr1 u'](h:Rd H a u)(h':Rd H a u'):u=u':=by
 rcases h with h|⟨o,h⟩
 ·rcases h' with h'|⟨o',h'⟩
  ·exact eM.inj (h.symm.trans h')
  ·have e:=eM.inj (h.symm.trans h')
   exact(Fr1.no (u:=u) o' u' e).elim
 ·rcases h' with h'|⟨o',h'⟩
  ·have e:=eM.inj (h'.symm.trans h)
   exact(Fr1.no (u:=u') o u e).elim
  ·have e:=eM.inj (h.symm.trans h')
   cases e;rfl
theorem fJ{ds:List D}{xs:List V}{its:List Value}(w:RDs X.K H no ds xs)(r:Vals xs its):its.length=ds.length:=by rw[<-r.length,w.length]
noncomputable def nU(X:Cx)(H:Hp)(s:Shared)(n:Nat):Prop:=∀(ds1 ds2:List D)(A:Around)(us1 us2:List Value)(xs1 xs2:List V),RDs X.K H no ds1 xs1->Vals xs1 us1->RDs X.K H no ds2 xs2->Vals xs2 us2->D.pls n ds1=true->D.pls n ds2=true->A.units+n<cLine ->
 ∀j (h1:j<us1.length) (h2:j<us2.length),SeqAt.EqAt A.in1 s us1[j] us2[j] (fH ds1 ds2 j)
noncomputable def wN(X:Cx)(H:Hp)(s:Shared)(n:Nat):Prop:=∀(d1 d2:D)(A:Around)(u1 u2:Value),Sees X H s d1 u1->Sees X H s d2 u2->D.pl n d1=true->D.pl n d2=true->A.units+n<cLine->SeqAt.EqAt A s u1 u2 (D.eqb d1 d2)
theorem Br(I:Inv X pins σ H s){n:Nat}(it:nU X H s n):wN X H s n:=by
 intro d1 d2 A u1 u2 h1 h2 f1 f2 hu
 have hu':A.units<cLine:=by lia
 have nd2:∀ds,d2≠.dct ds:=λds z=>by rw[z]at f2;cases f2
 have nt2:∀ds,d2≠.tdc ds:=λds z=>by rw[z]at f2;cases f2
 cases h1 with
 |dct ds a ps q w=>cases f1
 |tdc ds a ps q w=>cases f1
 |non=>cases h2 with
  |non=>exact SeqAt.EqAt.same _
  |bl b=>exact SeqAt.EqAt.none_bool b
  |int b t=>exact SeqAt.EqAt.none_int b t
  |str b t=>exact SeqAt.EqAt.none_str b t
  |tup ds a xs its q w r p=>exact SeqAt.EqAt.none_tuple p hu'
  |lst ds a xs its q w r p=>exact SeqAt.EqAt.none_list p.isList hu'
  |dct ds a ps q w=>exact absurd rfl (nd2 ds)
  |tdc ds a ps q w=>exact absurd rfl (nt2 ds)
 |bl x=>cases h2 with
  |non=>exact SeqAt.EqAt.bool_none x
  |bl b=>exact SeqAt.EqAt.bool_bool x b
  |int b t=>exact SeqAt.EqAt.bool_int x b t
  |str b t=>exact SeqAt.EqAt.bool_str x b t
  |tup ds a xs its q w r p=>exact SeqAt.EqAt.bool_tuple x p hu'
  |lst ds a xs its q w r p=>exact SeqAt.EqAt.bool_list x p.isList hu'
  |dct ds a ps q w=>exact absurd rfl (nd2 ds)
  |tdc ds a ps q w=>exact absurd rfl (nt2 ds)
 |int x t'=>cases h2 with
  |non=>exact SeqAt.EqAt.int_none x t'
  |bl b=>exact SeqAt.EqAt.int_bool x t' b
  |int b t=>exact SeqAt.EqAt.int_int x t' b t
  |str b t=>exact SeqAt.EqAt.int_str x t' b t
  |tup ds a xs its q w r p=>exact SeqAt.EqAt.int_tuple x t' p hu'
  |lst ds a xs its q w r p=>exact SeqAt.EqAt.int_list x t' p.isList hu'
  |dct ds a ps q w=>exact absurd rfl (nd2 ds)
  |tdc ds a ps q w=>exact absurd rfl (nt2 ds)
 |str x t'=>cases h2 with
  |non=>exact SeqAt.EqAt.str_none x t'
  |bl b=>exact SeqAt.EqAt.str_bool x t' b
  |int b t=>exact SeqAt.EqAt.str_int x t' b t
  |str b t=>exact SeqAt.EqAt.str_str x t' b t
  |tup ds a xs its q w r p=>exact SeqAt.EqAt.str_tuple x t' p hu'
  |lst ds a xs its q w r p=>exact SeqAt.EqAt.str_list x t' p.isList hu'
  |dct ds a ps q w=>exact absurd rfl (nd2 ds)
  |tdc ds a ps q w=>exact absurd rfl (nt2 ds)
 |tup ds1 a1 xs1 its1 q1 w1 r1 p1=>cases h2 with
  |non=>exact SeqAt.EqAt.tuple_none p1 hu'
  |bl b=>exact SeqAt.EqAt.tuple_bool b p1 hu'
  |int b t=>exact SeqAt.EqAt.tuple_int b t p1 hu'
  |str b t=>exact SeqAt.EqAt.tuple_str b t p1 hu'
  |lst ds a xs its q w r p=>exact SeqAt.EqAt.tuple_list p1 p.isList hu'
  |dct ds a ps q w=>exact absurd rfl (nd2 ds)
  |tdc ds a ps q w=>exact absurd rfl (nt2 ds)
  |tup ds2 a2 xs2 its2 q2 w2 r2 p2=>
   by_cases ha:a1=a2
   ·subst ha
    have:=I.tuple_inj q1 q2
    subst this
    have:=RDs.inj I w1 w2
    subst this
    rw[D.eqb_refl n _ f1]
    exact SeqAt.EqAt.same _
   ·rw[qD,<-wM,<-fJ w1 r1,<-fJ w2 r2]
    have z:=SeqAt.EqAt.of_refs ha (SeqAt.RcAt.tuples (A:=A) (e:=fH ds1 ds2) p1 p2 hu' λj j1 j2=>by
     have:=it ds1 ds2 A its1 its2 xs1 xs2 w1 r1 w2 r2 f1 f2 hu j (by simpa using j1) (by simpa using j2)
     simpa using this)
    simpa using z
 |lst ds1 a1 xs1 its1 q1 w1 r1 p1=>cases h2 with
  |non=>exact SeqAt.EqAt.list_none p1.isList hu'
  |bl b=>exact SeqAt.EqAt.list_bool b p1.isList hu'
  |int b t=>exact SeqAt.EqAt.list_int b t p1.isList hu'
  |str b t=>exact SeqAt.EqAt.list_str b t p1.isList hu'
  |tup ds a xs its q w r p=>exact SeqAt.EqAt.list_tuple p1.isList p hu'
  |dct ds a ps q w=>exact absurd rfl (nd2 ds)
  |tdc ds a ps q w=>exact absurd rfl (nt2 ds)
  |lst ds2 a2 xs2 its2 q2 w2 r2 p2=>
   by_cases ha:a1=a2
   ·subst ha
    have:=I.list_inj q1 q2
    subst this
    have:=RDs.inj I w1 w2
    subst this
    rw[D.eqb_refl n _ f1]
    exact SeqAt.EqAt.same _
   ·have l1:=fJ w1 r1
    have l2:=fJ w2 r2
    rw[qE]
    by_cases hl:ds1.length=ds2.length
    ·rw[<-nR ds1 ds2 hl,<-l1]
     have z:=SeqAt.EqAt.of_refs ha (SeqAt.RcAt.lists (A:=A) (e:=fH ds1 ds2) p1.isList p2.isList (by simp only[bK];lia) hu' λj j1 j2=>by
      have:=it ds1 ds2 A its1 its2 xs1 xs2 w1 r1 w2 r2 f1 f2 hu j (by simpa using j1) (by simpa using j2)
      simpa using this)
     simpa using z
    ·rw[nS ds1 ds2 hl]
     exact SeqAt.EqAt.of_refs ha (SeqAt.RcAt.lists_lengths p1.isList p2.isList (by simp only[bK,bne_iff_ne,ne_eq];lia) hu')
theorem HE:nU X H s 0:=by
 intro ds1 ds2 A us1 us2 xs1 xs2 w1 r1 w2 r2 f1 f2 hu j h1 h2
 cases ds1 with
 |nil=>
  rw[RDs]at w1;subst w1
  cases r1
  exact absurd h1 (AG _)
 |cons d ds=>cases f1
theorem HF(I:Inv X pins σ H s){n:Nat}(ih:wN X H s n):nU X H s (n+1):=by
 intro ds1
 induction ds1 with
 |nil=>
  intro ds2 A us1 us2 xs1 xs2 w1 r1 w2 r2 f1 f2 hu j h1 h2
  rw[RDs]at w1;subst w1
  cases r1
  exact absurd h1 (AG _)
 |cons d1 ds1 ih2=>
  intro ds2 A us1 us2 xs1 xs2 w1 r1 w2 r2 f1 f2 hu j h1 h2
  cases ds2 with
  |nil=>
   rw[RDs]at w2;subst w2
   cases r2
   exact absurd h2 (AG _)
  |cons d2 ds2=>
   obtain⟨v1,y1,rfl,e1,w1⟩:=w1
   obtain⟨v2,y2,rfl,e2,w2⟩:=w2
   cases r1 with
   |cons a1 r1=>
    cases r2 with
    |cons a2 r2=>
     rw[vF,aD]at f1 f2
     cases j with
     |zero=>exact ih d1 d2 A.in1 _ _ (nT I e1 a1) (nT I e2 a2) f1.1 f2.1 (by show A.units+1+n<cLine;lia)
     |succ j=>
      rw[HD]
      exact ih2 ds2 A _ _ _ _ w1 r1 w2 r2 f1.2 f2.2 hu j (L0 h1) (L0 h2)
theorem wO(I:Inv X pins σ H s):∀n,nU X H s n
 |0=>HE
 |n+1=>HF I (Br I (wO I n))
theorem eqAt_D(I:Inv X pins σ H s)(n:Nat):wN X H s n:=Br I (wO I n)
theorem qY(I:Inv X pins σ H s)(n:Nat):nU X H s n:=wO I n
end
theorem bZ{H:Hp}{p:Addr}(h:H p=none)(o:HO):Same H (upd H p o):=λb u q=>by rw[aG (eF q h)];exact q
section
variable{K:PySem.W.Frag}{H:Hp}{O:Addr->Prop}{p:Addr}{ds:List D}{xs:List V}
theorem jL(w:RDs K H O ds xs)(hp:H p=none)(tr:∀a,O a->∃o,H a=some o):RD K (upd H p (.lst xs)) O (.lst ds) (.ref p)/\NewL K H (upd H p (.lst xs)) O (.lst ds) (.ref p):=by
 have nO:¬O p:=λz=>by
  obtain⟨o,q⟩:=tr p z
  rw[hp]at q;cases q
 exact⟨⟨p,xs,rfl,.inl ⟨nO,.inl bQ⟩,w.same (bZ hp _)⟩,λ_=>⟨p,rfl,hp,xs,bQ,(w.new hp).same (bZ hp _)⟩⟩
theorem HG{ds:List (Sum Int Str×D)}{ps:List (Key×V)}(w:RDk K H O ds ps)(hp:H p=none):OwnAt K (upd H p (.dK ps)) (cU O p) p (.dct ds):=⟨ps,bQ,(w.new hp).same (bZ hp _)⟩
theorem nV(w:RDs K H O ds xs)(hp:H p=none):RD K (upd H p (.tup xs)) O (.tup ds) (.ref p):=⟨p,xs,rfl,.inl bQ,w.same (bZ hp _)⟩
end
section
variable{X:Cx}{pins:List (Addr×Obj)}{σ:L2.St}{H:Hp}{s:Shared}
theorem rcAt_D(I:Inv X pins σ H s){n:Nat}{d1 d2:D}{A:Around}{u1 u2:Value}(h1:Sees X H s d1 u1)(h2:Sees X H s d2 u2)(f1:D.pl n d1=true)(f2:D.pl n d2=true)(hu:A.units+n<cLine):SeqAt.RcAt A s u1 u2 (D.eqb d1 d2):=by
 have hu':A.units<cLine:=by lia
 have nd2:∀ds,d2≠.dct ds:=λds z=>by rw[z]at f2;cases f2
 have nt2:∀ds,d2≠.tdc ds:=λds z=>by rw[z]at f2;cases f2
 cases h1 with
 |dct ds a ps q w=>cases f1
 |tdc ds a ps q w=>cases f1
 |non=>cases h2 with
  |non=>exact SeqAt.RcAt.none_none
  |bl b=>exact SeqAt.RcAt.none_bool b
  |int b t=>exact SeqAt.RcAt.none_int b t
  |str b t=>exact SeqAt.RcAt.none_str b t
  |tup ds a xs its q w r p=>exact SeqAt.RcAt.none_tuple p hu'
  |lst ds a xs its q w r p=>exact SeqAt.RcAt.none_list p.isList hu'
  |dct ds a ps q w=>exact absurd rfl (nd2 ds)
  |tdc ds a ps q w=>exact absurd rfl (nt2 ds)
 |bl x=>cases h2 with
  |non=>exact SeqAt.RcAt.bool_none x
  |bl b=>exact SeqAt.RcAt.bool_bool x b
  |int b t=>exact SeqAt.RcAt.bool_int x b t
  |str b t=>exact SeqAt.RcAt.bool_str x b t
  |tup ds a xs its q w r p=>exact SeqAt.RcAt.bool_tuple x p hu'
  |lst ds a xs its q w r p=>exact SeqAt.RcAt.bool_list x p.isList hu'
  |dct ds a ps q w=>exact absurd rfl (nd2 ds)
  |tdc ds a ps q w=>exact absurd rfl (nt2 ds)
 |int x t'=>cases h2 with
  |non=>exact SeqAt.RcAt.int_none x t'
  |bl b=>exact SeqAt.RcAt.int_bool x t' b
  |int b t=>exact SeqAt.RcAt.int_int x t' b t
  |str b t=>exact SeqAt.RcAt.int_str x t' b t
  |tup ds a xs its q w r p=>exact SeqAt.RcAt.int_tuple x t' p hu'
  |lst ds a xs its q w r p=>exact SeqAt.RcAt.int_list x t' p.isList hu'
  |dct ds a ps q w=>exact absurd rfl (nd2 ds)
  |tdc ds a ps q w=>exact absurd rfl (nt2 ds)
 |str x t'=>cases h2 with
  |non=>exact SeqAt.RcAt.str_none x t'
  |bl b=>exact SeqAt.RcAt.str_bool x t' b
  |int b t=>exact SeqAt.RcAt.str_int x t' b t
  |str b t=>exact SeqAt.RcAt.str_str x t' b t
  |tup ds a xs its q w r p=>exact SeqAt.RcAt.str_tuple x t' p hu'
  |lst ds a xs its q w r p=>exact SeqAt.RcAt.str_list x t' p.isList hu'
  |dct ds a ps q w=>exact absurd rfl (nd2 ds)
  |tdc ds a ps q w=>exact absurd rfl (nt2 ds)
 |tup ds1 a1 xs1 its1 q1 w1 r1 p1=>cases h2 with
  |non=>exact SeqAt.RcAt.tuple_none p1 hu'
  |bl b=>exact SeqAt.RcAt.tuple_bool b p1 hu'
  |int b t=>exact SeqAt.RcAt.tuple_int b t p1 hu'
  |str b t=>exact SeqAt.RcAt.tuple_str b t p1 hu'
  |lst ds a xs its q w r p=>exact SeqAt.RcAt.tuple_list p1 p.isList hu'
  |dct ds a ps q w=>exact absurd rfl (nd2 ds)
  |tdc ds a ps q w=>exact absurd rfl (nt2 ds)
  |tup ds2 a2 xs2 its2 q2 w2 r2 p2=>
   rw[qD,<-wM,<-fJ w1 r1,<-fJ w2 r2]
   have z:=SeqAt.RcAt.tuples (A:=A) (e:=fH ds1 ds2) p1 p2 hu' λj j1 j2=>by
    have:=qY I n ds1 ds2 A its1 its2 xs1 xs2 w1 r1 w2 r2 f1 f2 hu j (by simpa using j1) (by simpa using j2)
    simpa using this
   simpa using z
 |lst ds1 a1 xs1 its1 q1 w1 r1 p1=>cases h2 with
  |non=>exact SeqAt.RcAt.list_none p1.isList hu'
  |bl b=>exact SeqAt.RcAt.list_bool b p1.isList hu'
  |int b t=>exact SeqAt.RcAt.list_int b t p1.isList hu'
  |str b t=>exact SeqAt.RcAt.list_str b t p1.isList hu'
  |tup ds a xs its q w r p=>exact SeqAt.RcAt.list_tuple p1.isList p hu'
  |dct ds a ps q w=>exact absurd rfl (nd2 ds)
  |tdc ds a ps q w=>exact absurd rfl (nt2 ds)
  |lst ds2 a2 xs2 its2 q2 w2 r2 p2=>
   have l1:=fJ w1 r1
   have l2:=fJ w2 r2
   rw[qE]
   by_cases hl:ds1.length=ds2.length
   ·rw[<-nR ds1 ds2 hl,<-l1]
    have z:=SeqAt.RcAt.lists (A:=A) (e:=fH ds1 ds2) p1.isList p2.isList (by simp only[bK];lia) hu' λj j1 j2=>by
     have:=qY I n ds1 ds2 A its1 its2 xs1 xs2 w1 r1 w2 r2 f1 f2 hu j (by simpa using j1) (by simpa using j2)
     simpa using this
    simpa using z
   ·rw[nS ds1 ds2 hl]
    exact SeqAt.RcAt.lists_lengths p1.isList p2.isList (by simp only[bK,bne_iff_ne,ne_eq];lia) hu'
theorem HH(I:Inv X pins σ H s){n:Nat}{d1 d2:D}{A:Around}{u1 u2:Value}(h1:Sees X H s d1 u1)(h2:Sees X H s d2 u2)(f1:D.pl n d1=true)(f2:D.pl n d2=true)(hu:A.units+n<cLine):SeqAt.RcNeAt A s u1 u2 (!D.eqb d1 d2):=by
 have hu':A.units<cLine:=by lia
 have nd2:∀ds,d2≠.dct ds:=λds z=>by rw[z]at f2;cases f2
 have nt2:∀ds,d2≠.tdc ds:=λds z=>by rw[z]at f2;cases f2
 cases h1 with
 |dct ds a ps q w=>cases f1
 |tdc ds a ps q w=>cases f1
 |non=>cases h2 with
  |non=>exact SeqAt.RcNeAt.none_none
  |bl b=>exact SeqAt.RcNeAt.none_bool b
  |int b t=>exact SeqAt.RcNeAt.none_int b t
  |str b t=>exact SeqAt.RcNeAt.none_str b t
  |tup ds a xs its q w r p=>exact SeqAt.RcNeAt.none_tuple p hu'
  |lst ds a xs its q w r p=>exact SeqAt.RcNeAt.none_list p.isList hu'
  |dct ds a ps q w=>exact absurd rfl (nd2 ds)
  |tdc ds a ps q w=>exact absurd rfl (nt2 ds)
 |bl x=>cases h2 with
  |non=>exact SeqAt.RcNeAt.bool_none x
  |bl b=>exact SeqAt.RcNeAt.bool_bool x b
  |int b t=>exact SeqAt.RcNeAt.bool_int x b t
  |str b t=>exact SeqAt.RcNeAt.bool_str x b t
  |tup ds a xs its q w r p=>exact SeqAt.RcNeAt.bool_tuple x p hu'
  |lst ds a xs its q w r p=>exact SeqAt.RcNeAt.bool_list x p.isList hu'
  |dct ds a ps q w=>exact absurd rfl (nd2 ds)
  |tdc ds a ps q w=>exact absurd rfl (nt2 ds)
 |int x t'=>cases h2 with
  |non=>exact SeqAt.RcNeAt.int_none x t'
  |bl b=>exact SeqAt.RcNeAt.int_bool x t' b
  |int b t=>exact SeqAt.RcNeAt.int_int x t' b t
  |str b t=>exact SeqAt.RcNeAt.int_str x t' b t
  |tup ds a xs its q w r p=>exact SeqAt.RcNeAt.int_tuple x t' p hu'
  |lst ds a xs its q w r p=>exact SeqAt.RcNeAt.int_list x t' p.isList hu'
  |dct ds a ps q w=>exact absurd rfl (nd2 ds)
  |tdc ds a ps q w=>exact absurd rfl (nt2 ds)
 |str x t'=>cases h2 with
  |non=>exact SeqAt.RcNeAt.str_none x t'
  |bl b=>exact SeqAt.RcNeAt.str_bool x t' b
  |int b t=>exact SeqAt.RcNeAt.str_int x t' b t
  |str b t=>exact SeqAt.RcNeAt.str_str x t' b t
  |tup ds a xs its q w r p=>exact SeqAt.RcNeAt.str_tuple x t' p hu'
  |lst ds a xs its q w r p=>exact SeqAt.RcNeAt.str_list x t' p.isList hu'
  |dct ds a ps q w=>exact absurd rfl (nd2 ds)
  |tdc ds a ps q w=>exact absurd rfl (nt2 ds)
 |tup ds1 a1 xs1 its1 q1 w1 r1 p1=>cases h2 with
  |non=>exact SeqAt.RcNeAt.tuple_none p1 hu'
  |bl b=>exact SeqAt.RcNeAt.tuple_bool b p1 hu'
  |int b t=>exact SeqAt.RcNeAt.tuple_int b t p1 hu'
  |str b t=>exact SeqAt.RcNeAt.tuple_str b t p1 hu'
  |lst ds a xs its q w r p=>exact SeqAt.RcNeAt.tuple_list p1 p.isList hu'
  |dct ds a ps q w=>exact absurd rfl (nd2 ds)
  |tdc ds a ps q w=>exact absurd rfl (nt2 ds)
  |tup ds2 a2 xs2 its2 q2 w2 r2 p2=>
   rw[qD,<-wM,<-fJ w1 r1,<-fJ w2 r2]
   have z:=SeqAt.RcNeAt.tuples (A:=A) (e:=fH ds1 ds2) p1 p2 hu' λj j1 j2=>by
    have:=qY I n ds1 ds2 A its1 its2 xs1 xs2 w1 r1 w2 r2 f1 f2 hu j (by simpa using j1) (by simpa using j2)
    simpa using this
   simpa using z
 |lst ds1 a1 xs1 its1 q1 w1 r1 p1=>cases h2 with
  |non=>exact SeqAt.RcNeAt.list_none p1.isList hu'
  |bl b=>exact SeqAt.RcNeAt.list_bool b p1.isList hu'
  |int b t=>exact SeqAt.RcNeAt.list_int b t p1.isList hu'
  |str b t=>exact SeqAt.RcNeAt.list_str b t p1.isList hu'
  |tup ds a xs its q w r p=>exact SeqAt.RcNeAt.list_tuple p1.isList p hu'
  |dct ds a ps q w=>exact absurd rfl (nd2 ds)
  |tdc ds a ps q w=>exact absurd rfl (nt2 ds)
  |lst ds2 a2 xs2 its2 q2 w2 r2 p2=>
   have l1:=fJ w1 r1
   have l2:=fJ w2 r2
   rw[qE]
   by_cases hl:ds1.length=ds2.length
   ·rw[<-nR ds1 ds2 hl,<-l1]
    have z:=SeqAt.RcNeAt.lists (A:=A) (e:=fH ds1 ds2) p1.isList p2.isList (by simp only[bK];lia) hu' λj j1 j2=>by
     have:=qY I n ds1 ds2 A its1 its2 xs1 xs2 w1 r1 w2 r2 f1 f2 hu j (by simpa using j1) (by simpa using j2)
     simpa using this
    simpa using z
   ·rw[nS ds1 ds2 hl]
    exact SeqAt.RcNeAt.lists_lengths p1.isList p2.isList (by simp only[bK,bne_iff_ne,ne_eq];lia) hu'
end
section
variable{X:Cx}
theorem eY:big=sizeLine:=by rw[sizeLine_eq];rfl
theorem HI:OpR X (binaryOp .Add) (λx y H Q=>∃l b xs zs,x=.ref l/\y=.ref b/\SqL X.K H l xs/\SqL X.K H b zs/\xs.length+zs.length<=sizeLine/\∀p,H p=none->Q (.ref p) (upd H p (.lst (xs++zs)))):=by
 intro pins s σ H x y v u Q I rx ry h
 obtain⟨l,b,xs,zs,rfl,rfl,hH,hB,hz,q⟩:=h
 cases rx
 cases ry
 obtain⟨its,r,pl,z⟩:=I.list hH
 obtain⟨its2,r2,pl2,z2⟩:=I.list hB
 have hl:=r.length
 have hl2:=r2.length
 obtain⟨⟨cls,dd,data,sl⟩,ho,hc,n,hd⟩:=pl.isList
 obtain⟨⟨cls2,dd2,data2,sl2⟩,ho2,hc2,n2,hd2⟩:=pl2.isList
 simp only at hc hd hc2 hd2
 subst hc hd hc2 hd2
 have ea:its.toArray++its2.toArray=(its++its2).toArray:=by simp
 refine concat_meets ⟨_,ho,rfl⟩ ⟨_,ho2,rfl⟩ noFill_list_add seq_list_add PySem.F.slot_list_add PySem.F.entry_list_add (PySem.F.args_list_add_2 _ _) (list_addW l b its.toArray its2.toArray n n2 dd dd2 sl sl2 (by simp only[bK];lia)) ⟨ho,ho2,?_⟩
 rw[ea]
 exact⟨.ref _,_,I.lnew (t':=s.toks) (r.append r2) (by rw[cE];lia),rfl,q _ I.fresh⟩
theorem HJ:OpR X (binaryOp .Add) (λx y H Q=>∃a b xs ys,x=.ref a/\y=.ref b/\SqT X.K H a xs/\SqT X.K H b ys/\xs.length+ys.length<=sizeLine /\
 (xs=[]->Q (.ref b) H)/\(ys=[]->Q (.ref a) H)/\∀p,H p=none->Q (.ref p) (upd H p (.tup (xs++ys)))):=by
 intro pins s σ H x y v u Q I rx ry h
 obtain⟨a,b,xs,ys,rfl,rfl,ha,hb,hz,q0,q1,q2⟩:=h
 by_cases hx:xs=[]
 ·cases rx
  cases ry
  obtain⟨its,r1,p1,_⟩:=I.tuple ha
  obtain⟨its2,r2,p2,_⟩:=I.tuple hb
  obtain⟨⟨cls,dd,data,sl⟩,ho,hc,n,hd⟩:=id p1
  obtain⟨⟨cls2,dd2,data2,sl2⟩,ho2,hc2,n2,hd2⟩:=id p2
  simp only at hc hd hc2 hd2
  subst hc hd hc2 hd2
  have hv:its=[]:=r1.nil_iff.mpr hx
  exact concat_meets ⟨_,ho,rfl⟩ ⟨_,ho2,rfl⟩ noFill_tuple_add seq_tuple_add PySem.F.slot_tuple_add PySem.F.entry_tuple_add (PySem.F.args_tuple_add_2 _ _)
   (tuple_addW0 a b its.toArray its2.toArray n n2 dd dd2 sl sl2 (by simp[hv])) ⟨ho,ho2,⟨.ref b,H,I,rfl,q0 hx⟩⟩
 ·exact Ff pins s σ H _ _ v u Q I rx ry ⟨a,b,xs,ys,rfl,rfl,ha,hb,hx,hz,q1,λ_=>q2⟩
end
section
variable{X:Cx}
noncomputable def iM(X:Cx):Prop:=X.A.units+64<cLine
theorem RDs.rep{K:PySem.W.Frag}{H:Hp}{O:Addr->Prop}{ds:List D}{vs:List V}(h:RDs K H O ds vs):∀n:Nat,RDs K H O (aO n ds).flatten (aO n vs).flatten
 |0=>rfl
 |n+1=>by
  rw[mQ,mQ,pL,pL]
  exact RDs.append h (RDs.rep h n)
theorem HK(o:Operator)(fr:Bool)(hfr:fr=true->o=.Add):OpR X (binaryOp o) (rD2 X.K (D.bin o) fr):=by
 intro pins s σ H x y v u Q I rx ry h
 obtain⟨O,d1,d2,d,r1,r2,ev,tr,k⟩:=h
 have kk:∀w,d.still=true->RD X.K H O d w->Q w H:=λw n r=>k w H (Same.refl H) r λ_=>NewL.still n
 unfold D.bin at ev
 split at ev
 ·cases ev
  cases (show x=_ from r1.rd rfl)
  cases (show y=_ from r2.rd rfl)
  exact op_add pins s σ H _ _ v u Q I rx ry ⟨_,_,rfl,rfl,kk _ rfl rfl⟩
 ·obtain⟨c,ev⟩:=aS ev
  cases ev
  cases (show x=_ from r1.rd rfl)
  cases (show y=_ from r2.rd rfl)
  exact FX pins s σ H _ _ v u Q I rx ry ⟨_,_,rfl,rfl,by rw[<-eY];exact of_decide_eq_true c,kk _ rfl rfl⟩
 ·obtain⟨c,ev⟩:=aS ev
  cases ev
  obtain⟨a1,xs1,rfl,q1,w1⟩:=r1.lst
  obtain⟨a2,xs2,rfl,q2,w2⟩:=r2.lst
  refine HI pins s σ H _ _ v u Q I rx ry ⟨a1,a2,xs1,xs2,rfl,rfl,q1,q2,by rw[<-eY,w1.length,w2.length];exact of_decide_eq_true c,λp hp=>?_⟩
  have z:=jL (w1.append w2) hp tr
  exact k _ _ (bZ hp _) z.1 λ_=>z.2
 ·obtain⟨c,ev⟩:=aS ev
  cases ev
  obtain⟨a1,xs1,rfl,q1,w1⟩:=r1.tupV
  obtain⟨a2,xs2,rfl,q2,w2⟩:=r2.tupV
  refine HJ pins s σ H _ _ v u Q I rx ry ⟨a1,a2,xs1,xs2,rfl,rfl,q1.sq,q2.sq,by rw[<-eY,w1.length,w2.length];exact of_decide_eq_true c,λz=>?_,λz=>?_,λp hp=>?_⟩
  ·subst z
   have e:=w1.length
   have e':_=[]:=Ep e.symm
   subst e'
   exact kk _ rfl ⟨a2,xs2,rfl,q2,by simpa using w2⟩
  ·subst z
   have e:=w2.length
   have e':_=[]:=Ep e.symm
   subst e'
   exact kk _ rfl ⟨a1,xs1,rfl,q1,by simpa using w1⟩
  ·have z:=nV (w1.append w2) hp
   exact k _ _ (bZ hp _) z λ_=>NewL.still rfl
 ·cases ev
  cases (show x=_ from r1.rd rfl)
  cases (show y=_ from r2.rd rfl)
  exact op_sub pins s σ H _ _ v u Q I rx ry ⟨_,_,rfl,rfl,kk _ rfl rfl⟩
 ·obtain⟨c,ev⟩:=aS ev
  cases ev
  cases (show x=_ from r1.rd rfl)
  cases (show y=_ from r2.rd rfl)
  refine op_mul pins s σ H _ _ v u Q I rx ry ⟨_,_,rfl,rfl,?_,kk _ rfl rfl⟩
  simp only[dM,fE,aD,decide_eq_true_eq]at c
  exact c
 ·rename_i aa jj
  obtain⟨c,ev⟩:=aS ev
  cases ev
  simp only[aD,decide_eq_true_eq]at c
  obtain⟨a1,xs1,rfl,q1,w1⟩:=r1.lst
  cases (show y=_ from r2.rd rfl)
  cases rx
  obtain⟨t,rfl⟩:=ry
  obtain⟨its,r,⟨⟨cls0,dd0,dat0,sl0⟩,n0,pl,pc,_,pd⟩,hz⟩:=I.list q1
  dsimp only at pc pd
  subst pc pd
  have hl1:its.length=1:=by rw[<-r.length,w1.length];exact c.1.1
  refine G2 pl hl1 ⟨c.1.2,c.2⟩ ?_
  have hp:=I.hok.fresh (aQ s.heap.objs.size)
  have hlen:(aO jj.toNat xs1).flatten.length<=sizeLine:=by
   rw[Fy,w1.length,c.1.1,sizeLine_eq]
   have:=c.2
   lia
  refine⟨.ref s.heap.objs.size,_,I.laid (o:=.lst (aO jj.toNat xs1).flatten) (t':=s.toks) (λb u e=>Heap.get?_push_of_some _ e) (aQ _) ⟨hlen,_,0,r.rep _,Heap.get?_push_size _ rfl⟩,rfl,?_⟩
  have z:=jL (w1.rep jj.toNat) hp tr
  exact k _ _ (bZ hp _) z.1 λ_=>z.2
 ·obtain⟨c,ev⟩:=aS ev
  cases ev
  cases (show x=_ from r1.rd rfl)
  cases (show y=_ from r2.rd rfl)
  refine FQ pins s σ H _ _ v u Q I rx ry ⟨_,_,rfl,rfl,?_,kk _ rfl rfl⟩
  simp only[aD,decide_eq_true_eq]at c
  exact c
 ·obtain⟨c,ev⟩:=aS ev
  cases ev
  cases (show x=_ from r1.rd rfl)
  cases (show y=_ from r2.rd rfl)
  exact op_mod pins s σ H _ _ v u Q I rx ry ⟨_,_,rfl,rfl,of_decide_eq_true c,kk _ rfl rfl⟩
 ·obtain⟨c,ev⟩:=aS ev
  cases ev
  cases (show x=_ from r1.rd rfl)
  cases (show y=_ from r2.rd rfl)
  refine op_pow pins s σ H _ _ v u Q I rx ry ⟨_,_,rfl,rfl,?_,kk _ rfl rfl⟩
  simp only[aD,decide_eq_true_eq]at c
  exact⟨c.1.1,c.1.2,c.2⟩
 ·cases ev
theorem qZ{K:PySem.W.Frag}{H:Hp}{O:Addr->Prop}{k:Key}:∀{ds:List (Sum Int Str×D)} {ps:List (Key×V)},RDk K H O ds ps->(∀d,bB ds k=some d->∃v,eN ps k=some v/\RD K H O d v)/\(bB ds k).isSome=(eN ps k).isSome
 |[],ps,h=>by
  rw[RDk]at h;subst h
  exact⟨λd e=>(by cases e),rfl⟩
 |(k',d')::ds,ps,h=>by
  obtain⟨v,r,rfl,h1,h2⟩:=h
  have ih:=qZ (k:=k) h2
  by_cases e:k'=k
  ·subst e
   have e1:bB ((k',d')::ds) k'=some d':=by simp[bB,cJ]
   rw[e1,mX (p:=(k',v)) rfl]
   exact⟨λd z=>(by cases z;exact⟨v,rfl,h1⟩),rfl⟩
  ·have e1:bB ((k',d')::ds) k=bB ds k:=by simp[bB,cJ,e]
   rw[e1,mY (p:=(k',v)) e]
   exact ih
theorem Bs{K:PySem.W.Frag}{H:Hp}{O:Addr->Prop}{k:Key}{d:D}{v:V}(hv:RD K H O d v){ds:List (Sum Int Str×D)}{ps:List (Key×V)}(h:RDk K H O ds ps):RDk K H O (dE ds k d) (dD ps k v):=by
 have any:∀{ds:List (Sum Int Str×D)} {ps:List (Key×V)},RDk K H O ds ps->(ds.any λkv=>decide (kv.1=k))=(ps.any λkv=>decide (kv.1=k)):=by
  intro ds
  induction ds with
  |nil=>intro ps h;rw[RDk]at h;subst h;rfl
  |cons p ds ih=>
   intro ps h
   obtain⟨k',d'⟩:=p
   obtain⟨v',r,rfl,h1,h2⟩:=h
   rw[jV,jV,ih h2]
 have mp:∀{ds:List (Sum Int Str×D)} {ps:List (Key×V)},RDk K H O ds ps->RDk K H O (ds.map (λkv=>if kv.1=k then(kv.1,d)else kv)) (ps.map (λkv=>if kv.1=k then(kv.1,v)else kv)):=by
  intro ds
  induction ds with
  |nil=>intro ps h;rw[RDk]at h;subst h;exact rfl
  |cons p ds ih=>
   intro ps h
   obtain⟨k',d'⟩:=p
   obtain⟨v',r,rfl,h1,h2⟩:=h
   rw[aK,aK]
   by_cases e:k'=k
   ·rw[if_pos e,if_pos e];exact⟨v,_,rfl,hv,ih h2⟩
   ·rw[if_neg e,if_neg e];exact⟨v',_,rfl,h1,ih h2⟩
 have ap:∀{ds:List (Sum Int Str×D)} {ps:List (Key×V)},RDk K H O ds ps->RDk K H O (ds++[(k,d)]) (ps++[(k,v)]):=by
  intro ds
  induction ds with
  |nil=>intro ps h;rw[RDk]at h;subst h;exact⟨v,[],rfl,hv,rfl⟩
  |cons p ds ih=>
   intro ps h
   obtain⟨k',d'⟩:=p
   obtain⟨v',r,rfl,h1,h2⟩:=h
   exact⟨v',_,rfl,h1,ih h2⟩
 unfold dE dD
 rw[any h]
 split
 ·exact mp h
 ·exact ap h
theorem rA{K:PySem.W.Frag}{H:Hp}{O:Addr->Prop}{k:List Key}:∀{ds:List (List (Sum Int Str)×D)} {ps:List (List Key×V)},RDt K H O ds ps->(∀d,iK ds k=some d->∃v,eN ps k=some v/\RD K H O d v)/\(iK ds k).isSome=(eN ps k).isSome
 |[],ps,h=>by
  rw[RDt]at h;subst h
  exact⟨λd e=>(by cases e),rfl⟩
 |(k',d')::ds,ps,h=>by
  obtain⟨v,r,rfl,h1,h2⟩:=h
  have ih:=rA (k:=k) h2
  by_cases e:k'=k
  ·subst e
   have e1:iK ((k',d')::ds) k'=some d':=by simp[iK,cJ]
   rw[e1,mX (p:=(k',v)) rfl]
   exact⟨λd z=>(by cases z;exact⟨v,rfl,h1⟩),rfl⟩
  ·have e1:iK ((k',d')::ds) k=iK ds k:=by simp[iK,cJ,e]
   rw[e1,mY (p:=(k',v)) e]
   exact ih
theorem lM{K:PySem.W.Frag}{H:Hp}{O:Addr->Prop}{d:D}{v:V}{k:Key}(h:cZ d=some k)(r:RR K H O d v):v=kV k:=by
 cases d with
 |int i=>cases h;exact r.rd rfl
 |str i=>cases h;exact r.rd rfl
 |non=>cases h
 |bl _=>cases h
 |tup _=>cases h
 |lst _=>cases h
 |dct _=>cases h
 |tdc _=>cases h
theorem Bu:∀{ds:List D} {ks:List Key},kG ds=some ks->lK ds=some ks/\∀k∈ks,∃i,k=.inl i
 |[],ks,h=>by cases h;exact⟨rfl,λk hk=>by cases hk⟩
 |.int i::r,ks,h=>by
  rw[kG]at h
  cases e:kG r with
  |none=>rw[e]at h;cases h
  |some q=>
   rw[e]at h
   cases h
   obtain⟨h1,h2⟩:=Bu e
   refine⟨by rw[lK,h1];rfl,λk hk=>?_⟩
   rcases aY.mp hk with rfl|hk
   ·exact⟨i,rfl⟩
   ·exact h2 k hk
 |.non::_,_,h | .bl _::_,_,h | .str _::_,_,h | .tup _::_,_,h | .lst _::_,_,h | .dct _::_,_,h | .tdc _::_,_,h=>by cases h
theorem Bv{K:PySem.W.Frag}{H:Hp}{O:Addr->Prop}:∀{ds:List D} {ks:List Key} {vs:List V},lK ds=some ks->RDs K H O ds vs->vs=ks.map kV
 |[],ks,vs,h,r=>by
  cases h
  rw[RDs]at r;subst r;rfl
 |d::ds,ks,vs,h,r=>by
  obtain⟨v,q,rfl,r1,r2⟩:=r
  rw[lK]at h
  cases e1:cZ d with
  |none=>rw[e1]at h;cases h
  |some k=>
   rw[e1]at h
   cases e2:lK ds with
   |none=>rw[e2]at h;cases h
   |some ks'=>
    rw[e2]at h
    cases h
    rw[lM e1 r1.rr,Bv e2 r2];rfl
theorem wQ{K:PySem.W.Frag}{H:Hp}{O:Addr->Prop}{ds:List D}{ks:List Key}{xs:List V}{b:Addr}(h:kG ds=some ks)(w:RDs K H O ds xs)(q:TupV K H b xs):H b=some (.tup (ks.map kV)):=by
 obtain⟨h1,h2⟩:=Bu h
 have e:=Bv h1 w
 subst e
 rcases q with q|⟨⟨ss,hne,e⟩,_⟩
 ·exact q
 ·exfalso
  cases ss with
  |nil=>exact hne rfl
  |cons x ss=>
   cases ks with
   |nil=>cases e
   |cons k ks=>
    obtain⟨i,rfl⟩:=h2 k bR
    injection e with e _
    cases e
theorem gC{α:Type}{o:Option α}{a:α}(h:Res.of o=.ok a):o=some a:=by
 cases o with
 |none=>cases h
 |some b=>cases h;rfl
theorem Sees.inj{H:Hp}{s:Shared}{pins:List (Addr×Obj)}{σ:L2.St}(I:Inv X pins σ H s){d d':D}{w:Value}(h:Sees X H s d w)(h':Sees X H s d' w):d=d':=by
 cases h with
 |non=>cases h';rfl
 |bl b=>cases h';rfl
 |int i t=>cases h';rfl
 |str x t=>cases h';rfl
 |tup ds a xs its q w r p=>
  cases h' with
  |tup ds' _ xs' its' q' w' r' p'=>have:=I.tuple_inj q q';subst this;rw[RDs.inj I w w']
  |lst ds' _ xs' its' q' w' r' p'=>exact(qR I q' q).elim
  |dct ds' _ ps' q' w'=>exact(qU I q' q).elim
  |tdc ds' _ ps' q' w'=>exact(qW I q' q).elim
 |dct ds a ps q w=>
  cases h' with
  |dct ds' _ ps' q' w'=>have:=qX q q';cases this;rw[RDk.inj I w w']
  |tup ds' _ xs' its' q' w' r' p'=>exact(qU I q q').elim
  |lst ds' _ xs' its' q' w' r' p'=>exact(qS I q q').elim
  |tdc ds' _ ps' q' w'=>have:=qX q q';cases this
 |tdc ds a ps q w=>
  cases h' with
  |tdc ds' _ ps' q' w'=>have:=qX q q';cases this;rw[RDt.inj I w w']
  |tup ds' _ xs' its' q' w' r' p'=>exact(qW I q q').elim
  |lst ds' _ xs' its' q' w' r' p'=>exact(qV I q q').elim
  |dct ds' _ ps' q' w'=>have:=qX q q';cases this
 |lst ds a xs its q w r p=>
  cases h' with
  |lst ds' _ xs' its' q' w' r' p'=>have:=I.list_inj q q';subst this;rw[RDs.inj I w w']
  |tup ds' _ xs' its' q' w' r' p'=>exact(qR I q q').elim
  |dct ds' _ ps' q' w'=>exact(qS I q' q).elim
  |tdc ds' _ ps' q' w'=>exact(qV I q' q).elim
open Classical in
noncomputable def eA(X:Cx)(H:Hp)(s:Shared)(x:D)(w:Value):Bool:=decide (∃d,Sees X H s d w/\D.eqb d x=true)
theorem Bw{H:Hp}{s:Shared}{pins:List (Addr×Obj)}{σ:L2.St}(I:Inv X pins σ H s){d x:D}{w:Value}(sd:Sees X H s d w):eA X H s x w=D.eqb d x:=by
 classical
 unfold eA
 by_cases h:D.eqb d x=true
 ·rw[h];simp only[decide_eq_true_eq];exact⟨d,sd,h⟩
 ·have h':D.eqb d x=false:=by simpa using h
  rw[h']
  simp only[decide_eq_false_iff_not]
  rintro⟨d',sd',h''⟩
  rw[Sees.inj I sd' sd]at h''
  exact h h''
theorem nW{H:Hp}{s:Shared}{pins:List (Addr×Obj)}{σ:L2.St}(I:Inv X pins σ H s){x:D}{ux:Value}{n:Nat}{A:Around}(hx:Sees X H s x ux)(fx:D.pl n x=true)(hu:A.units+n<cLine) :
 ∀{ds:List D} {xs:List V} {us:List Value},RDs X.K H no ds xs->Vals xs us->D.pls (n+1) ds=true->(∀w∈us,SeqAt.EqAt A s w ux (eA X H s x w))/\us.any (eA X H s x)=D.mem x ds
 |[],xs,us,w,r,f=>by
  rw[RDs]at w;subst w;cases r
  exact⟨λw h=>absurd h pP,rfl⟩
 |d::ds,xs,us,w,r,f=>by
  obtain⟨v,ys,rfl,e1,e2⟩:=w
  rw[vF,aD]at f
  cases r with
  |cons a1 r1=>
   have ih:=nW I hx fx hu e2 r1 f.2
   have sd:=nT I e1 a1
   refine⟨λw hw=>?_,?_⟩
   ·rcases aY.mp hw with rfl|hw
    ·rw[Bw I sd]
     exact eqAt_D I n d x A w ux sd hx f.1 fx hu
    ·exact ih.1 w hw
   ·rw[jV,D.mem,ih.2,Bw I sd]
theorem HL{K:PySem.W.Frag}{H:Hp}{d:D}{x:V}(r:RD K H no d x):decide (x=.non)=D.isNon d:=by
 cases d with
 |non=>cases (show x=.non from r);rfl
 |bl b=>cases (show x=.bl b from r);rfl
 |int b=>cases (show x=.int b from r);rfl
 |str b=>cases (show x=.str b from r);rfl
 |tup ds=>obtain⟨a,xs,rfl,_⟩:=r;rfl
 |lst ds=>obtain⟨a,xs,rfl,_⟩:=r;rfl
 |dct ds=>obtain⟨a,xs,rfl,_⟩:=r;rfl
 |tdc ds=>obtain⟨a,xs,rfl,_⟩:=r;rfl
theorem Bx{K:PySem.W.Frag}{H:Hp}{O:Addr->Prop}{d:D}{x:V}(r:RR K H O d x):decide (x=.non)=D.isNon d:=by
 rcases r with r|⟨a,rfl,h⟩
 ·exact HL (r.weak λ_ z=>z.elim)
 ·cases d<;>first|rfl|exact h.elim
theorem By(o:CmpOp)(hroom:iM X):OpR X (compareOp o) (rD2 X.K (D.cmp o) false):=by
 intro pins s σ H x y v u Q I rx ry h
 obtain⟨O,d1,d2,d,r1,r2,ev,tr,k⟩:=h
 have hroom':X.A.units+64<cLine:=hroom
 have kk:∀b,d=.bl b->Q (.bl b) H:=λb e=>k _ H (Same.refl H) (by subst e;exact rfl) λz=>by cases z
 have s1:=Bq I r1 rx
 have s2:=Bq I r2 ry
 unfold D.cmp at ev
 split at ev
 ·obtain⟨c,ev⟩:=aS ev
  cases ev
  unfold D.eqOk at c
  rw[aD]at c
  exact rcAt_D I s1 s2 c.1 c.2 (by lia) X.prog X.w X.xe _ ⟨.bl _,H,I,rfl,kk _ rfl⟩
 ·obtain⟨c,ev⟩:=aS ev
  cases ev
  unfold D.eqOk at c
  rw[aD]at c
  exact HH I s1 s2 c.1 c.2 (by lia) X.prog X.w X.xe _ ⟨.bl _,H,I,rfl,kk _ rfl⟩
 ·cases ev
  cases (show x=_ from r1.rd rfl)
  cases (show y=_ from r2.rd rfl)
  exact op_lt pins s σ H _ _ v u Q I rx ry ⟨_,_,rfl,rfl,kk _ rfl⟩
 ·cases ev
  cases (show x=_ from r1.rd rfl)
  cases (show y=_ from r2.rd rfl)
  exact op_le pins s σ H _ _ v u Q I rx ry ⟨_,_,rfl,rfl,kk _ rfl⟩
 ·cases ev
  cases (show x=_ from r1.rd rfl)
  cases (show y=_ from r2.rd rfl)
  exact op_gt pins s σ H _ _ v u Q I rx ry ⟨_,_,rfl,rfl,kk _ rfl⟩
 ·cases ev
  cases (show x=_ from r1.rd rfl)
  cases (show y=_ from r2.rd rfl)
  exact op_ge pins s σ H _ _ v u Q I rx ry ⟨_,_,rfl,rfl,kk _ rfl⟩
 ·cases ev
  cases (show y=_ from r2.rd rfl)
  have e:decide (x=.non)=D.isNon d1:=Bx r1
  exact op_isN pins s σ H _ _ v u Q I rx ry ⟨rfl,by rw[e];exact kk _ rfl⟩
 ·cases ev
  cases (show y=_ from r2.rd rfl)
  have e:decide (x=.non)=D.isNon d1:=Bx r1
  exact FS pins s σ H _ _ v u Q I rx ry ⟨rfl,by rw[e];exact kk _ rfl⟩
 ·cases ev
  cases (show x=_ from r1.rd rfl)
  cases (show y=_ from r2.rd rfl)
  cases rx
  cases ry
  exact is_bool (lH I (kk _ rfl) rfl)
 ·cases ev
  cases (show x=_ from r1.rd rfl)
  cases (show y=_ from r2.rd rfl)
  cases rx
  cases ry
  exact isnot_bool (lH I (kk _ rfl) rfl)
 ·obtain⟨b,e1,ev⟩:=Res.bind_ok ev
  cases ev
  unfold D.inn at e1
  split at e1
  ·obtain⟨c,e1⟩:=aS e1
   cases e1
   rw[aD]at c
   cases s2 with
   |lst ds a xs its q w r p=>
    have t:=nW I (n:=29) (A:=X.A.in1) s1 c.2 (by show X.A.units+1+29<cLine;lia) w r c.1
    refine SeqAt.in_listAt (eA X H s d1) p.isList (λw hw=>t.1 w (by simpa using hw)) ⟨.bl _,H,I,rfl,?_⟩
    rw[show its.toArray.any (eA X H s d1)=its.any (eA X H s d1) by simp,t.2]
    exact kk _ rfl
  ·obtain⟨c,e1⟩:=aS e1
   cases e1
   rw[aD]at c
   cases s2 with
   |tup ds a xs its q w r p=>
    have t:=nW I (n:=29) (A:=X.A.in1) s1 c.2 (by show X.A.units+1+29<cLine;lia) w r c.1
    refine SeqAt.in_tupleAt (eA X H s d1) p (λw hw=>t.1 w (by simpa using hw)) ⟨.bl _,H,I,rfl,?_⟩
    rw[show its.toArray.any (eA X H s d1)=its.any (eA X H s d1) by simp,t.2]
    exact kk _ rfl
  ·obtain⟨key,e2,e1⟩:=Res.bind_ok e1
   cases e1
   obtain⟨a,ps,rfl,q,w⟩:=r2.dct
   cases ry
   have ex:=lM (gC e2) r1
   subst ex
   refine d_in (by lia) I (.inl ⟨ps,key,q,rfl,rfl⟩) rx λs' I'=>⟨.bl _,H,I',rfl,?_⟩
   rw[<-(qZ (k:=key) w).2]
   exact kk _ rfl
  ·split at e1
   ·obtain⟨key,e2,e1⟩:=Res.bind_ok e1
    cases e1
    obtain⟨a,ps,rfl,q,w⟩:=r2.tdc
    cases ry
    obtain⟨b',xs,rfl,tq,w1⟩:=r1.tupV
    refine d_in (by lia) I (.inr ⟨ps,key,b',q,rfl,wQ (gC e2) w1 tq,rfl⟩) rx λs' I'=>⟨.bl _,H,I',rfl,?_⟩
    rw[<-(rA (k:=key) w).2]
    exact kk _ rfl
   ·cases e1
  ·split at e1
   ·cases (show x=_ from r1.rd rfl)
    cases (show y=_ from r2.rd rfl)
    exact FR pins s σ H _ _ v u Q I rx ry ⟨_,_,rfl,rfl,by rw[B6 e1];exact kk _ rfl⟩
   ·cases e1
  ·cases e1
 ·obtain⟨b,e1,ev⟩:=Res.bind_ok ev
  cases ev
  unfold D.inn at e1
  split at e1
  ·obtain⟨c,e1⟩:=aS e1
   cases e1
   rw[aD]at c
   cases s2 with
   |lst ds a xs its q w r p=>
    have t:=nW I (n:=29) (A:=X.A.in1) s1 c.2 (by show X.A.units+1+29<cLine;lia) w r c.1
    refine SeqAt.notIn_listAt (eA X H s d1) p.isList (λw hw=>t.1 w (by simpa using hw)) ⟨.bl _,H,I,rfl,?_⟩
    rw[show its.toArray.any (eA X H s d1)=its.any (eA X H s d1) by simp,t.2]
    exact kk _ rfl
  ·obtain⟨c,e1⟩:=aS e1
   cases e1
   rw[aD]at c
   cases s2 with
   |tup ds a xs its q w r p=>
    have t:=nW I (n:=29) (A:=X.A.in1) s1 c.2 (by show X.A.units+1+29<cLine;lia) w r c.1
    refine SeqAt.notIn_tupleAt (eA X H s d1) p (λw hw=>t.1 w (by simpa using hw)) ⟨.bl _,H,I,rfl,?_⟩
    rw[show its.toArray.any (eA X H s d1)=its.any (eA X H s d1) by simp,t.2]
    exact kk _ rfl
  ·obtain⟨key,e2,e1⟩:=Res.bind_ok e1
   cases e1
   obtain⟨a,ps,rfl,q,w⟩:=r2.dct
   cases ry
   have ex:=lM (gC e2) r1
   subst ex
   refine Av (by lia) I (.inl ⟨ps,key,q,rfl,rfl⟩) rx λs' I'=>⟨.bl _,H,I',rfl,?_⟩
   rw[<-(qZ (k:=key) w).2]
   exact kk _ rfl
  ·split at e1
   ·obtain⟨key,e2,e1⟩:=Res.bind_ok e1
    cases e1
    obtain⟨a,ps,rfl,q,w⟩:=r2.tdc
    cases ry
    obtain⟨b',xs,rfl,tq,w1⟩:=r1.tupV
    refine Av (by lia) I (.inr ⟨ps,key,b',q,rfl,wQ (gC e2) w1 tq,rfl⟩) rx λs' I'=>⟨.bl _,H,I',rfl,?_⟩
    rw[<-(rA (k:=key) w).2]
    exact kk _ rfl
   ·cases e1
  ·split at e1
   ·cases (show x=_ from r1.rd rfl)
    cases (show y=_ from r2.rd rfl)
    exact FT pins s σ H _ _ v u Q I rx ry ⟨_,_,rfl,rfl,by rw[B6 e1];exact kk _ rfl⟩
   ·cases e1
  ·cases e1
 ·cases ev
theorem Bz(n:Nat)(i:Int):Tr.ixN n i=L2.ixN n i:=rfl
theorem CA{K:PySem.W.Frag}{H:Hp}{O:Addr->Prop}{ds:List D}{xs:List V}{i:Int}{d:D}(w:RDs K H O ds xs)(h:Tr.atI ds i=some d):∃v,L2.atI xs i=some v/\RD K H O d v:=by
 unfold Tr.atI at h
 unfold L2.atI
 rw[w.length]
 rw[Bz]at h
 cases e:L2.ixN ds.length i with
 |none=>rw[e]at h;cases h
 |some j=>
  rw[e]at h
  exact w.get h
theorem d_ix{value slice:Expr}{pins:List (Addr×Obj)}{s:Shared}{σ:L2.St}{H:Hp}{a:Addr}{y v0:V}{u:Value}{Q:VK}(I:Inv X pins σ H s)(g:kF H a y (some v0))(ry:RelV y u)(hroom:iM X)(q:Q v0 H)
 (hs:subscripted slice false (.ref a) u=operate [.ref a,u] (getItem (.ref a) u)):wpAny (model X.prog X.w) X.A (subscriptTail value slice (.ref a) u) (EP X pins σ Q) X.xe s:=by
 have hroom':X.A.units+64<cLine:=hroom
 have hT:=GH I g
 unfold subscriptTail
 refine wpAny_bind ?_
 rw[getitemInPython_of_ne hT.not_modules]
 refine wpAny_bind (wpAny_specialOf hT PySem.F.slot_dict_getitem.lookup ?_)
 have fin:wpAny (model X.prog X.w) X.A (subscripted slice false (.ref a) u) (λr s₃=>wpAny (model X.prog X.w) X.A (letTemporaryGo value (.ref a) r>>=λ_=>pure r) (EP X pins σ Q) X.xe s₃) X.xe s:=by
  rw[hs]
  exact wpAny_operating (GF (by lia) I g ry λw' s3 I3 rw'=>wpAny_bind (wpAny_letTemporaryGo (wpAny_pure ⟨v0,H,I3,rw',q⟩)))
 first
  |exact wpAny_pure (wpAny_bind fin)
  |exact wpAny_bind (wpAny_pure (wpAny_bind fin))
  |exact wpAny_bind fin
theorem ixr(hroom:iM X):IxR X (rD2 X.K D.ix false):=by
 intro value slice pins s σ H x y v u Q I rx ry h hs
 obtain⟨O,d1,d2,d,r1,r2,ev,tr,k⟩:=h
 have kk:∀w,RD X.K H O d w->Q w H:=λw r=>k w H (Same.refl H) r λz=>by cases z
 unfold D.ix at ev
 split at ev
 ·obtain⟨a1,xs1,rfl,q1,w1⟩:=r1.lst
  cases (show y=_ from r2.rd rfl)
  rename_i ds i
  cases e:Tr.atI ds i with
  |none=>rw[e]at ev;cases ev
  |some d0=>
   rw[e]at ev;cases ev
   obtain⟨w,h1,h2⟩:=CA w1 e
   exact Fg value slice pins s σ H _ _ v u Q I rx ry ⟨a1,xs1,_,w,rfl,rfl,q1,h1,kk w h2⟩ hs
 ·obtain⟨a1,xs1,rfl,q1,w1⟩:=r1.tup
  cases (show y=_ from r2.rd rfl)
  rename_i ds i
  cases e:Tr.atI ds i with
  |none=>rw[e]at ev;cases ev
  |some d0=>
   rw[e]at ev;cases ev
   obtain⟨w,h1,h2⟩:=CA w1 e
   exact ix_tup value slice pins s σ H _ _ v u Q I rx ry ⟨a1,xs1,_,w,rfl,rfl,q1,h1,kk w h2⟩ hs
 ·rename_i z i
  obtain⟨c,ev⟩:=aS ev
  cases (show x=.str z from r1.rd rfl)
  cases (show y=.int i from r2.rd rfl)
  cases e:Tr.atI z.cps.toList i with
  |none=>rw[e]at ev;cases ev
  |some c0=>
   rw[e]at ev;cases ev
   exact ix_str value slice pins s σ H _ _ v u Q I rx ry ⟨z,i,c0,rfl,rfl,by rw[<-eY];exact of_decide_eq_true c,e,kk _ rfl⟩ hs
 ·rename_i kvs y0
  obtain⟨key,e2,ev⟩:=Res.bind_ok ev
  obtain⟨a,ps,rfl,q,w⟩:=r1.dct
  cases rx
  have ex:=lM (gC e2) r2
  subst ex
  have hroom':X.A.units+64<cLine:=hroom
  obtain⟨v0,h1,h2⟩:=(qZ (k:=key) w).1 _ (gC ev)
  have g:kF H a (kV key) (some v0):=.inl ⟨ps,key,q,rfl,h1.symm⟩
  exact d_ix I g ry hroom (kk v0 h2) hs
 ·rename_i kvs ks
  obtain⟨key,e2,ev⟩:=Res.bind_ok ev
  obtain⟨a,ps,rfl,q,w⟩:=r1.tdc
  cases rx
  obtain⟨b',xs,rfl,tq,w1⟩:=r2.tupV
  obtain⟨v0,h1,h2⟩:=(rA (k:=key) w).1 _ (gC ev)
  have g:kF H a (.ref b') (some v0):=.inr ⟨ps,key,b',q,rfl,wQ (gC e2) w1 tq,h1.symm⟩
  exact d_ix I g ry hroom (kk v0 h2) hs
 ·cases ev
end
noncomputable def aZ:Expr->Bool
 |.Starred _ _=>false
 |.Slice _ _ _ _=>false
 |.Set _ _ _=>false
 |_=>true
theorem HM{e:Expr}(h:aZ e=true):Aj e:=by
 intro o i
 cases e<;>first|rfl|(cases h)
theorem bC{e:Expr}{es:List Expr}{env:Env}(h:aZ e=true):starEach (e::es) env=(false,eval e env)::starEach es env:=by
 cases e<;>first|rfl|(cases h)
theorem fK{pos:Pos}{env:Env}:∀{es:List Expr},es.all aZ=true->(backTo pos (starEach es env)).any (·.1)=false
 |[],_=>rfl
 |e::es,h=>by
  rw[lC,aD]at h
  have ih:=fK (pos:=pos) (env:=env) h.2
  rw[bC h.1]
  show(false||(backTo pos (starEach es env)).any (·.1))=false
  rw[ih];rfl
theorem CB{o:CmpOp}{e:Expr}(h:aZ e=true):behindInMarks o e=false:=by
 cases e<;>first|rfl|(cases h)
theorem wR{e:Expr}{env:Env}(h:aZ e=true):∀x,foldedSetIterable e env x=pure x:=by
 intro x
 cases e<;>first|rfl|(cases h)
section
variable{T:Tab}{cf:Nat->List D->Res D}{X:Cx}{x y z:E}{p q r:Expr}{pos:Pos}{es:List Expr}
theorem se_bin{o:Operator}(ha:SR T cf X x p)(hb:SR T cf X y q):SE T cf X (.bin o x y) (.BinOp p o q pos):=
 wL (f:=D.bin o) (λe=>rfl) (λh1 h2=>pe_op (HK o _ (by cases o<;>first|(intro _;rfl)|(intro z;cases z))) h1 h2) ha hb
theorem se_cmp{o:CmpOp}(hR:iM X)(hm:aZ q=true)(ha:SR T cf X x p)(hb:SR T cf X y q):SE T cf X (.cmp o x y) (.Compare p [o] [q] pos):=
 wL (f:=D.cmp o) (λe=>rfl) (λh1 h2=>FU (By o hR) h1 h2 (CB hm)) ha hb
theorem se_ix(hR:iM X)(hm:aZ q=true)(ha:SR T cf X x p)(hb:SR T cf X y q):SE T cf X (.ix x y) (.Subscript p q pos):=
 wL (f:=D.ix) (λe=>rfl) (λh1 h2=>pe_ix (ixr hR) h1 h2 (HM hm)) ha hb
theorem HN{X:Cx}:SlR X (λx lo hi H Q=>∃a xs,x=.ref a/\SqT X.K H a xs/\(HT.sIx xs.length 0 lo=0/\HT.sIx xs.length xs.length hi=xs.length)/\Q (.ref a) H):=by
 intro pins s σ H x v vl vu lo hi sl Q I rx hs pl pu h
 obtain⟨a,xs,rfl,hx,hw,q⟩:=h
 cases rx
 obtain⟨its,r,ht,hz⟩:=I.tuple hx
 have hlen:its.toArray.size=xs.length:=by rw[bK];exact r.length.symm
 refine⟨"tuple", _,PyProof.Rows.slot_tuple_getitem.lookup,ht.typeIs,?_⟩
 obtain⟨os,hos,hcs,hds⟩:=id hs
 have hTs:s.TypeIs (.ref sl) "slice" := ⟨os,hos,hcs⟩
 have fin:EP X pins σ Q (.ref a) s:=⟨.ref a,H,I,rfl,q⟩
 unfold getItem
 try with_reducible refine wpAny_holding ?_
 first|refine wpAny_bind (wpAny_pure ?_)|skip
 refine wpAny_bind (wpAny_sequenceKey ht.typeIs (by decide) ?_)
 refine wpAny_bind (wpAny_callSpecial?_slot (name:=Str.ofString "__getitem__") ht.typeIs PyProof.Rows.slot_tuple_getitem
  (wpAny_call_entry PyProof.Rows.slot_tuple_getitem ht.typeIs entry_tuple_getitem ?_ (args_tuple_getitem _ _)))
 show wpAny _ _ (Builtin.Tuple.tupleItemsOf (.ref a)>>=_) _ _ s
 refine wpAny_bind (tupleItemsOf_ ht ?_)
 refine wpAny_bind (wpAny_typeOf hTs ?_)
 rw[if_pos (by decide)]
 refine wpAny_bind (HT.sliceApplied_gen hs pl pu ?_)
 have hyes:(((HT.sIx its.toArray.size 0 lo:Nat):Int)==0&&(1:Int)==1&&(HT.sIx its.toArray.size its.toArray.size hi-HT.sIx its.toArray.size 0 lo)==its.toArray.size)=true:=by
  rw[hlen,hw.1,hw.2];simp
 show wpAny _ _ (if(((HT.sIx its.toArray.size 0 lo:Nat):Int)==0&&(1:Int)==1&&(HT.sIx its.toArray.size its.toArray.size hi-HT.sIx its.toArray.size 0 lo)==its.toArray.size)=true then _ else _) _ _ s
 rw[if_pos hyes]
 refine wpAny_bind (m:=Builtin.Tuple.tupleIsExact (.ref a)) ?_
 unfold Builtin.Tuple.tupleIsExact
 refine wpAny_bind (wpAny_typeOf ht.typeIs (wpAny_pure ?_))
 rw[if_pos (by decide)]
 refine wpAny_bind (wpAny_rule ?_)
 first
  |exact wpAny_pure ⟨_,rfl,wpAny_pure fin⟩
  |exact wpAny_bind (wpAny_pure ⟨_,rfl,wpAny_pure fin⟩)
  |exact wpAny_bind (wpAny_pure (wpAny_pure ⟨_,rfl,wpAny_pure fin⟩))
  |trace_state
end
section
variable{T:Tab}{cf:Nat->List D->Res D}{X:Cx}{x y z:E}{p q r:Expr}{pos pos':Pos}{es:List Expr}
theorem CC(n d:Nat)(o:Option Int):Tr.sIx n d o=HT.sIx n d o:=by cases o<;>rfl
theorem slr:SlR X (λv lo hi H Q=>∃O d0 d,RR X.K H O d0 v/\D.sl d0 lo hi=.ok d/\(∀a,O a->∃o,H a=some o)/\∀w H',Same H H'->RD X.K H' O d w->NewL X.K H H' O d w->Q w H'):=by
 intro pins s σ H x v vl vu lo hi sl Q I rx hs pl pu h
 obtain⟨O,d0,d,r0,ev,tr,k⟩:=h
 unfold D.sl at ev
 split at ev
 ·cases ev
  obtain⟨a,xs,rfl,q0,w0⟩:=r0.lst
  refine Fq pins s σ H _ v vl vu _ _ sl Q I rx hs pl pu ⟨a,xs,rfl,q0,λp hp=>?_⟩
  have z:=jL (w0.cut lo hi) hp tr
  exact k _ _ (bZ hp _) z.1 z.2
 ·cases ev
  obtain⟨a,xs,rfl,qv,w0⟩:=r0.tupV
  have q0:=qv.sq
  by_cases hw:HT.sIx xs.length 0 lo=0/\HT.sIx xs.length xs.length hi=xs.length
  ·refine HN pins s σ H _ v vl vu _ _ sl Q I rx hs pl pu ⟨a,xs,rfl,q0,hw,?_⟩
   refine k _ _ (Same.refl H) ⟨a,xs,rfl,qv,?_⟩ (NewL.still rfl)
   unfold Tr.cut
   rw[<-w0.length,CC,CC,hw.1,hw.2,uM,pN,mR (by rw[w0.length];exact aQ _)]
   exact w0
  ·refine sl_tup pins s σ H _ v vl vu _ _ sl Q I rx hs pl pu ⟨a,xs,rfl,q0,hw,λp hp=>?_⟩
   exact k _ _ (bZ hp _) (nV (w0.cut lo hi) hp) (NewL.still rfl)
 ·obtain⟨c,ev⟩:=aS ev
  cases ev
  cases (show x=_ from r0.rd rfl)
  exact sl_str pins s σ H _ v vl vu _ _ sl Q I rx hs pl pu ⟨_,rfl,by rw[<-eY];exact of_decide_eq_true c,k _ H (Same.refl H) rfl (NewL.still rfl)⟩
 ·cases ev
noncomputable def SO(T:Tab)(cf:Nat->List D->Res D)(X:Cx)(x:E)(p:Option Expr):Prop:=∀H₀ O₀,PO X p (λσ H Q=>∃O own e d o,Fm X.K H₀ O₀ H O own e σ/\evE T cf x e=.ok d/\d.part=.ok o/\∀H',Same H H'->Q o H')
theorem HQ:SO T cf X .omit none:=λH₀ O₀ pins s σ H Q I ⟨O,own,e,d,o,F,ev,ep,k⟩=>by
 rw[GM]at ev;cases ev;cases ep
 exact Fd pins s σ H Q I (k H (Same.refl H))
theorem HR(h:SE T cf X x p):SO T cf X x (some p):=λH₀ O₀ pins s σ H Q I ⟨O,own,e,d,o,F,ev,ep,k⟩=>by
 rw[evalPart_some]
 refine thn (h H₀ O₀ pins s σ H (λv H'=>Same H H'/\RD X.K H' O d v) I ⟨O,own,e,d,F,ev,λv H' s' r _=>⟨s',r⟩⟩) λu s1 ⟨v,H1,I1,r1,s',r⟩=>?_
 unfold D.part at ep
 split at ep
 ·cases ep
  cases (show v=_ from r)
  cases r1
  exact⟨none,H1,I1,.none,k H1 s'⟩
 ·cases ep
  cases (show v=_ from r)
  obtain⟨t,rfl⟩:=r1
  exact⟨_,H1,I1,.int _ t,k H1 s'⟩
 ·cases ep
theorem se_sl{lo hi:Option Expr}(ha:SR T cf X x p)(hl:SO T cf X y lo)(hh:SO T cf X z hi):SE T cf X (.sl x y z) (.Subscript p (.Slice lo hi none pos') pos):=λH₀ O₀=>by
 refine PE.imp (λσ H Q hq=>?_) (Fe slr (ha H₀ O₀) (hl H₀ O₀) (hh H₀ O₀))
 obtain⟨O,own,e,d,F,ev,k⟩:=hq
 rw[BL]at ev
 obtain⟨d1,e1,ev⟩:=Res.bind_ok ev
 obtain⟨d2,e2,ev⟩:=Res.bind_ok ev
 obtain⟨o2,e2',ev⟩:=Res.bind_ok ev
 obtain⟨d3,e3,ev⟩:=Res.bind_ok ev
 obtain⟨o3,e3',ev⟩:=Res.bind_ok ev
 refine⟨O,own,e,d1,F,e1,λv1 H1 s1 r1=>⟨O,own,e,d2,o2,F.grow s1,e2,e2',λH2 s2=>⟨O,own,e,d3,o3,(F.grow s1).grow s2,e3,e3',λH3 s3=>?_⟩⟩⟩
 refine⟨O,d1,d,(r1.same s2).same s3,ev,((F.grow s1).grow (s2.trans s3)).trk,λw H' s4 r4 n4=>?_⟩
 exact k w H' ((s1.trans (s2.trans s3)).trans s4) r4 λ_=>n4.back (s1.trans (s2.trans s3))
theorem CD{a:E}{e:Nv}{ds:List D}(h:evA T cf a e=.ok ds):ds.length<=1000:=by
 cases a with
 |anil=>(first|rw[nI]at h|rw[qH]at h);cases h;exact jW _
 |acons a r=>
  (first|rw[nI]at h|rw[qH]at h)
  obtain⟨d1,e1,h⟩:=Res.bind_ok h
  obtain⟨d2,e2,h⟩:=Res.bind_ok h
  obtain⟨c,h⟩:=aS h
  cases h
  have:=of_decide_eq_true c
  rw[aX];lia
 |_=>exact absurd (show(Res.no:Res (List D))=Res.ok ds from h) (λz=>by cases z)
theorem sav_nil:SAv T cf X .anil []:=λH₀ O₀ pos pins s σ H Q I ⟨O,own,e,ds,F,ev,k⟩=>by
 rw[nI]at ev;cases ev
 exact eV pos pins s σ H Q I (k [] H (Same.refl H) rfl λj d v _ z=>by cases z)
theorem HS(hp:aZ p=true)(ha:SE T cf X x p)(hr:SAv T cf X y es):SAv T cf X (.acons x y) (p::es):=λH₀ O₀ pos pins s σ H Q I ⟨O,own,e,ds,F,ev,k⟩=>by
 rw[qH]at ev
 obtain⟨d1,e1,ev⟩:=Res.bind_ok ev
 obtain⟨d2,e2,ev⟩:=Res.bind_ok ev
 obtain⟨c,ev⟩:=aS ev
 cases ev
 refine cY (ha H₀ O₀) (hr H₀ O₀) (bC hp) pos pins s σ H Q I ⟨O,own,e,d1,F,e1,λv1 H1 s1 r1 n1=>⟨O,own,e,d2,F.grow s1,e2,λvs H2 s2 r2 n2=>?_⟩⟩
 refine k (v1::vs) H2 (s1.trans s2) ⟨v1,vs,rfl,r1.same s2,r2⟩ λj d v hf hd hv=>?_
 cases j with
 |zero=>cases hd;cases hv;exact(n1 hf).same s2
 |succ j=>exact(n2 j d v hf hd hv).back s1
theorem HU:SAr T cf X .anil []:=sav_nil.sr
theorem HV(hp:aZ p=true)(ha:SR T cf X x p)(hr:SAr T cf X y es):SAr T cf X (.acons x y) (p::es):=λH₀ O₀ pos pins s σ H Q I ⟨O,own,e,ds,F,ev,k⟩=>by
 rw[qH]at ev
 obtain⟨d1,e1,ev⟩:=Res.bind_ok ev
 obtain⟨d2,e2,ev⟩:=Res.bind_ok ev
 obtain⟨c,ev⟩:=aS ev
 cases ev
 refine cY (ha H₀ O₀) (hr H₀ O₀) (bC hp) pos pins s σ H Q I ⟨O,own,e,d1,F,e1,λv1 H1 s1 r1=>⟨O,own,e,d2,F.grow s1,e2,λvs H2 s2 r2=>?_⟩⟩
 exact k (v1::vs) H2 (s1.trans s2) ⟨v1,vs,rfl,r1.same s2,r2⟩
theorem CF{n:Nat}(h:n<=1000):n<=sizeLine:=jT (GE h)
theorem se_tup{k:Nat}(ha:SAv T cf X x es):SE T cf X (.tup x) (.Tuple es k pos):=λH₀ O₀=>by
 refine PE.imp (λσ H Q hq=>?_) (pe_tup (ha H₀ O₀))
 obtain⟨O,own,e,d,F,ev,k⟩:=hq
 rw[xE_tup]at ev
 obtain⟨ds,e1,ev⟩:=Res.bind_ok ev
 cases ev
 refine⟨O,own,e,ds,F,e1,λvs H1 s1 r1 _=>⟨by rw[r1.length];exact CF (CD e1),λp hp=>?_⟩⟩
 exact k _ _ (s1.trans (bZ hp _)) (nV r1 hp) (λz=>by cases z)
theorem se_lst(ha:SAv T cf X x es):SE T cf X (.lst x) (.List es pos):=λH₀ O₀=>by
 refine PE.imp (λσ H Q hq=>?_) (pe_lst (ha H₀ O₀))
 obtain⟨O,own,e,d,F,ev,k⟩:=hq
 rw[nH]at ev
 obtain⟨ds,e1,ev⟩:=Res.bind_ok ev
 cases ev
 refine⟨O,own,e,ds,F,e1,λvs H1 s1 r1 _=>⟨by rw[r1.length];exact CF (CD e1),λp hp=>?_⟩⟩
 have z:=jL r1 hp (F.grow s1).trk
 exact k _ _ (s1.trans (bZ hp _)) z.1 λ_=>z.2.back s1
theorem CG{α β:Type}{xs:List α}{ds:List β}(h:xs.length=ds.length):(!ds.isEmpty)=!xs.isEmpty:=by
 cases xs<;>cases ds<;>first|rfl|(simp at h)
theorem rC{K:PySem.W.Frag}{H:Hp}{O:Addr->Prop}{d:D}{v:V}{k:Bool}(r:RR K H O d v)(h:d.truth=.ok k):mW K v H k:=by
 unfold D.truth at h
 split at h
 ·cases h;cases (show v=_ from r.rd rfl);exact(rfl:false=false)
 ·cases h;cases (show v=_ from r.rd rfl);exact(rfl:k=k)
 ·cases h;cases (show v=_ from r.rd rfl);exact rfl
 ·obtain⟨c,h⟩:=aS h
  cases h;cases (show v=_ from r.rd rfl);exact⟨by rw[<-eY];exact of_decide_eq_true c,rfl⟩
 ·cases h
  obtain⟨a,xs,rfl,q,w⟩:=r.tup
  refine .inr (.inl ⟨xs,q,?_⟩)
  exact CG w.length
 ·cases h
  obtain⟨a,xs,rfl,q,w⟩:=r.lst
  refine .inl ⟨xs,q,?_⟩
  exact CG w.length
 ·cases h
 ·cases h
theorem CI(ha:SR T cf X x p)(he:∀whole,isTrue p X.env whole=(do let v<-whole;standAt p.pos;holding [v] (truthy v))):ST T cf X x p:=λH₀ O₀=>
 PT.imp (λσ H Q ⟨O,own,e,d,k,F,ev,et,q⟩=>⟨O,own,e,d,F,ev,λv H' s r=>⟨k,rC r et,q H' s⟩⟩) (A6 (ha H₀ O₀) he)
theorem cmp_bl{o:CmpOp}{a b d:D}(h:D.cmp o a b=.ok d):∃k,d=.bl k:=by
 unfold D.cmp at h
 split at h<;>first
  |(obtain⟨_,h⟩:=aS h;cases h;exact⟨_,rfl⟩)
  |(cases h;exact⟨_,rfl⟩)
  |(obtain⟨_,_,h⟩:=Res.bind_ok h;cases h;exact⟨_,rfl⟩)
  |cases h
theorem st_cmp{o:CmpOp}(hR:iM X)(hm:aZ q=true)(ha:SR T cf X x p)(hb:SR T cf X y q):ST T cf X (.cmp o x y) (.Compare p [o] [q] pos):=λH₀ O₀=>by
 refine PT.imp (λσ H Q hq=>?_) (FV (By o hR) (ha H₀ O₀) (hb H₀ O₀) (CB hm))
 obtain⟨O,own,e,d,k,F,ev,et,qk⟩:=hq
 rw[xE_cmp]at ev
 obtain⟨d1,e1,ev⟩:=Res.bind_ok ev
 obtain⟨d2,e2,ev⟩:=Res.bind_ok ev
 obtain⟨k',rfl⟩:=cmp_bl ev
 cases et
 refine⟨O,own,e,d1,F,e1,λv1 H1 s1 r1=>⟨O,own,e,d2,F.grow s1,e2,λv2 H2 s2 r2=>?_⟩⟩
 refine⟨O,d1,d2,_,r1.same s2,r2,ev,(F.grow (s1.trans s2)).trk,λv H' s3 r3 _=>?_⟩
 exact⟨k,r3,qk H' ((s1.trans s2).trans s3)⟩
theorem HW{a b:Expr}{rest:List Expr}{ta tb:TE}(ha:PE X a ta)(hb:PE X (.BoolOp .And (b::rest) pos) tb) :
 PE X (.BoolOp .And (a::b::rest) pos) (λσ H Q=>ta σ H λx H1=>∃c,mW X.K x H1 c/\if c=true then tb σ H1 Q else Q x H1):=by
 intro pins s σ H Q I h
 refine BoolOp_and (thn (ha pins s σ H _ I h) λv s1 ⟨x,H1,I1,r1,c,tc,q1⟩=>?_)
 refine thn (uY pins s1 σ H1 x v (λb H2=>b=c/\H2=H1) I1 r1 ⟨c,tc,rfl,rfl⟩) λb s2 ⟨H2,I2,e1,e2⟩=>?_
 subst e1 e2
 cases b with
 |true=>exact hb pins s2 σ H2 Q I2 q1
 |false=>exact⟨x,H2,I2,r1,q1⟩
theorem pe_orV{a b:Expr}{rest:List Expr}{ta tb:TE}(ha:PE X a ta)(hb:PE X (.BoolOp .Or (b::rest) pos) tb) :
 PE X (.BoolOp .Or (a::b::rest) pos) (λσ H Q=>ta σ H λx H1=>∃c,mW X.K x H1 c/\if c=true then Q x H1 else tb σ H1 Q):=by
 intro pins s σ H Q I h
 refine BoolOp_or (thn (ha pins s σ H _ I h) λv s1 ⟨x,H1,I1,r1,c,tc,q1⟩=>?_)
 refine thn (uY pins s1 σ H1 x v (λb H2=>b=c/\H2=H1) I1 r1 ⟨c,tc,rfl,rfl⟩) λb s2 ⟨H2,I2,e1,e2⟩=>?_
 subst e1 e2
 cases b with
 |false=>exact hb pins s2 σ H2 Q I2 q1
 |true=>exact⟨x,H2,I2,r1,q1⟩
theorem CJ{rest:List Expr}(ha:SE T cf X x p)(hb:SE T cf X y (.BoolOp .And (q::rest) pos)):SE T cf X (.and x y) (.BoolOp .And (p::q::rest) pos):=λH₀ O₀=>by
 refine PE.imp (λσ H Q hq=>?_) (HW (ha H₀ O₀) (hb H₀ O₀))
 obtain⟨O,own,e,d,F,ev,k⟩:=hq
 rw[BG]at ev
 obtain⟨d1,e1,ev⟩:=Res.bind_ok ev
 obtain⟨c,e2,ev⟩:=Res.bind_ok ev
 refine⟨O,own,e,d1,F,e1,λv1 H1 s1 r1 _=>⟨c,rC r1.rr e2,?_⟩⟩
 cases c with
 |true=>
  rw[if_pos rfl]at ev⊢
  exact⟨O,own,e,d,F.grow s1,ev,λv H' s' r _=>k v H' (s1.trans s') r (λz=>by cases z)⟩
 |false=>
  rw[if_neg aP]at ev⊢
  cases ev
  exact k v1 H1 s1 r1 (λz=>by cases z)
theorem CK{rest:List Expr}(ha:SE T cf X x p)(hb:SE T cf X y (.BoolOp .Or (q::rest) pos)):SE T cf X (.or x y) (.BoolOp .Or (p::q::rest) pos):=λH₀ O₀=>by
 refine PE.imp (λσ H Q hq=>?_) (pe_orV (ha H₀ O₀) (hb H₀ O₀))
 obtain⟨O,own,e,d,F,ev,k⟩:=hq
 rw[BH]at ev
 obtain⟨d1,e1,ev⟩:=Res.bind_ok ev
 obtain⟨c,e2,ev⟩:=Res.bind_ok ev
 refine⟨O,own,e,d1,F,e1,λv1 H1 s1 r1 _=>⟨c,rC r1.rr e2,?_⟩⟩
 cases c with
 |false=>
  rw[if_neg aP]at ev⊢
  exact⟨O,own,e,d,F.grow s1,ev,λv H' s' r _=>k v H' (s1.trans s') r (λz=>by cases z)⟩
 |true=>
  rw[if_pos rfl]at ev⊢
  cases ev
  exact k v1 H1 s1 r1 (λz=>by cases z)
theorem CL{op:BoolOp}(h:SE T cf X x p):SE T cf X x (.BoolOp op [p] pos):=λH₀ O₀=>AZ (h H₀ O₀)
noncomputable def SW(T:Tab)(cf:Nat->List D->Res D)(X:Cx)(x:E)(p:Expr):Prop:=∀H₀ O₀,PW X p (tT T cf X.K H₀ O₀ x)
theorem SW.st(h:SW T cf X x p):ST T cf X x p:=λH₀ O₀=>(h H₀ O₀).pt
theorem PW.imp{t t':TT}(h:∀σ H Q,t' σ H Q->t σ H Q)(hp:PW X p t):PW X p t':=λw pins s σ H Q I q=>hp w pins s σ H Q I (h σ H Q q)
theorem HX(ha:ST T cf X x p):SW T cf X x (.BoolOp .And [p] pos):=λH₀ O₀=>AV (ha H₀ O₀)
theorem sw_or1(ha:ST T cf X x p):SW T cf X x (.BoolOp .Or [p] pos):=λH₀ O₀=>AW (ha H₀ O₀)
theorem CM{rest:List Expr}(ha:ST T cf X x p)(hb:SW T cf X y (.BoolOp .And (q::rest) pos)):SW T cf X (.and x y) (.BoolOp .And (p::q::rest) pos):=λH₀ O₀=>by
 refine PW.imp (λσ H Q hq=>?_) (uW (ha H₀ O₀) (hb H₀ O₀))
 obtain⟨O,own,e,d,k,F,ev,et,qk⟩:=hq
 rw[BG]at ev
 obtain⟨d1,e1,ev⟩:=Res.bind_ok ev
 obtain⟨c,e2,ev⟩:=Res.bind_ok ev
 refine⟨O,own,e,d1,c,F,e1,e2,λH1 s1=>?_⟩
 cases c with
 |true=>
  rw[if_pos rfl]at ev⊢
  exact⟨O,own,e,d,k,F.grow s1,ev,et,λH' s'=>qk H' (s1.trans s')⟩
 |false=>
  rw[if_neg aP]at ev⊢
  cases ev
  rw[e2]at et;cases et
  exact qk H1 s1
theorem CN{rest:List Expr}(ha:ST T cf X x p)(hb:SW T cf X y (.BoolOp .Or (q::rest) pos)):SW T cf X (.or x y) (.BoolOp .Or (p::q::rest) pos):=λH₀ O₀=>by
 refine PW.imp (λσ H Q hq=>?_) (AX (ha H₀ O₀) (hb H₀ O₀))
 obtain⟨O,own,e,d,k,F,ev,et,qk⟩:=hq
 rw[BH]at ev
 obtain⟨d1,e1,ev⟩:=Res.bind_ok ev
 obtain⟨c,e2,ev⟩:=Res.bind_ok ev
 refine⟨O,own,e,d1,c,F,e1,e2,λH1 s1=>?_⟩
 cases c with
 |false=>
  rw[if_neg aP]at ev⊢
  exact⟨O,own,e,d,k,F.grow s1,ev,et,λH' s'=>qk H' (s1.trans s')⟩
 |true=>
  rw[if_pos rfl]at ev⊢
  cases ev
  rw[e2]at et;cases et
  exact qk H1 s1
theorem se_ife(hc:ST T cf X x p)(ha:SE T cf X y q)(hb:SE T cf X z r):SE T cf X (.ife x y z) (.IfExp p q r pos):=λH₀ O₀=>by
 refine PE.imp (λσ H Q hq=>?_) (FH (hc H₀ O₀) (ha H₀ O₀) (hb H₀ O₀))
 obtain⟨O,own,e,d,F,ev,k⟩:=hq
 rw[BJ]at ev
 obtain⟨d1,e1,ev⟩:=Res.bind_ok ev
 obtain⟨c,e2,ev⟩:=Res.bind_ok ev
 refine⟨O,own,e,d1,c,F,e1,e2,λH1 s1=>?_⟩
 cases c with
 |true=>
  rw[if_pos rfl]at ev⊢
  exact⟨O,own,e,d,F.grow s1,ev,λv H' s' r _=>k v H' (s1.trans s') r (λz=>by cases z)⟩
 |false=>
  rw[if_neg aP]at ev⊢
  exact⟨O,own,e,d,F.grow s1,ev,λv H' s' r _=>k v H' (s1.trans s') r (λz=>by cases z)⟩
theorem HY{c a b:Expr}{tA ta tb:TT}(hc:PT X c tA)(ha:PT X a ta)(hb:PT X b tb):PT X (.IfExp c a b pos) (λσ H Q=>tA σ H λk H1=>if k=true then ta σ H1 Q else tb σ H1 Q):=by
 intro pins s σ H Q I h
 show wpAny _ _ (isTrue c X.env (eval c X.env)>>=λk=>if k=true then isTrue a X.env (eval a X.env)else isTrue b X.env (eval b X.env)) _ _ s
 refine wpAny_bind (thn (hc pins s σ H _ I h) λk s1 ⟨H1,I1,q1⟩=>?_)
 cases k with
 |true=>exact ha pins s1 σ H1 Q I1 q1
 |false=>exact hb pins s1 σ H1 Q I1 q1
theorem st_ife(hc:ST T cf X x p)(ha:ST T cf X y q)(hb:ST T cf X z r):ST T cf X (.ife x y z) (.IfExp p q r pos):=λH₀ O₀=>by
 refine PT.imp (λσ H Q hq=>?_) (HY (hc H₀ O₀) (ha H₀ O₀) (hb H₀ O₀))
 obtain⟨O,own,e,d,k,F,ev,et,qk⟩:=hq
 rw[BJ]at ev
 obtain⟨d1,e1,ev⟩:=Res.bind_ok ev
 obtain⟨c,e2,ev⟩:=Res.bind_ok ev
 refine⟨O,own,e,d1,c,F,e1,e2,λH1 s1=>?_⟩
 cases c with
 |true=>
  rw[if_pos rfl]at ev⊢
  exact⟨O,own,e,d,k,F.grow s1,ev,et,λH' s'=>qk H' (s1.trans s')⟩
 |false=>
  rw[if_neg aP]at ev⊢
  exact⟨O,own,e,d,k,F.grow s1,ev,et,λH' s'=>qk H' (s1.trans s')⟩
theorem se_neg(ha:SR T cf X x p):SE T cf X (.neg x) (.UnaryOp .USub p pos):=λH₀ O₀=>by
 refine PE.imp (λσ H Q hq=>?_) (pe_un un_neg (ha H₀ O₀))
 obtain⟨O,own,e,d,F,ev,k⟩:=hq
 (first|rw[BF]at ev|rw[BI]at ev)
 obtain⟨d1,e1,ev⟩:=Res.bind_ok ev
 split at ev
 ·cases ev
  refine⟨O,own,e,_,F,e1,λv1 H1 s1 r1=>⟨_,r1.rd rfl,k _ H1 s1 rfl λz=>by cases z⟩⟩
 ·cases ev
end
section
variable{T:Tab}{cf:Nat->List D->Res D}{X:Cx}{x y z:E}{p q r:Expr}{pos pos':Pos}{es:List Expr}
noncomputable def nX(d:D)(od:Option Addr)(H:Hp):Prop:=match d with
 |.int v=>∃dx,od=some dx/\H dx=some (.xd [("at", .int v)])
 |_=>od=none
noncomputable def spD(K:PySem.W.Frag)(F:List D->Res D)(fr:Bool):Sp:=λvs H Q E=>∃O ds,(∀a,O a->∃o,H a=some o)/\RDs K H O ds vs /\
 ((∃d,F ds=.ok d/\∀v H',Same H H'->RD K H' O d v->(fr=true->NewR K H H' O d v)->Q v H')\/∃c d,F ds=.err c d/\∀od H',Same H H'->nX d od H'->E (cvK K c) od H')
noncomputable def nY(T:Tab)(cf:Nat->List D->Res D)(X:Cx)(f:Nat)(n:Str):Prop:=
 ∃k a fd ps,FnOk X.prog X.w X.K X.mg X.base (CXE X.prog X.w) k a fd ps (spD X.K (cf f) (T.fresh f))/\Room k X.A/\X.mg n=some (.ref a)/\PySem.W.keepIn X.K (.ref a)=true/\Binds X.K fd ps []
theorem HZ{f:Nat}{H₀:Hp}{O₀:Addr->Prop}{σ:L2.St}{H:Hp}{Q:VK}(h:tE T cf X.K H₀ O₀ (.call f x) σ H Q):pZ (spD X.K (cf f) (T.fresh f)) [] E0 (tAv T cf X.K H₀ O₀ x) σ H Q:=by
 obtain⟨O,own,e,d,F,ev,k⟩:=h
 rw[vV]at ev
 obtain⟨ds,e1,ev⟩:=Res.bind_ok ev
 refine⟨O,own,e,ds,F,e1,λvs H1 s1 r1 _=>?_⟩
 dsimp only
 rw[mM]
 refine⟨O,ds,(F.grow s1).trk,r1,.inl ⟨d,ev,λv H' s2 r2 n2=>k v H' (s1.trans s2) r2 λfr=>(n2 fr).1.back s1⟩⟩
theorem H0 {f:Nat} {n:Str} {pn:Pos} (hd:nY T cf X f n) (hg:Gl X n) (hdb:(n==("__debug__" : Str))=false) (hp:(p::es).all aZ=true) (ha:SAv T cf X x (p::es)):SE T cf X (.call f x) (.Call (.Name n pn) (p::es) [] pos):=λH₀ O₀=>by
 obtain⟨k,a,fd,ps,Fk,hr,hm,hk,hb⟩:=hd
 rw[lC,aD]at hp
 exact PE.imp (λσ H Q h=>HZ h) (qA Fk hr hg hm hk hb .nil qL (ha H₀ O₀) hdb (bC hp.1) (fK hp.2))
theorem H_ {f:Nat} {n:Str} {pn:Pos} (hd:nY T cf X f n) (hg:Gl X n) (hdb:(n==("__debug__" : Str))=false):SE T cf X (.call f .anil) (.Call (.Name n pn) [] [] pos):=λH₀ O₀=>by
 obtain⟨k,a,fd,ps,Fk,hr,hm,hk,hb⟩:=hd
 refine PE.imp (λσ H Q h=>?_) (A_ Fk hr hg hm hk hb .nil qL hdb)
 obtain⟨O,own,e,d,F,ev,k⟩:=h
 rw[vV]at ev
 obtain⟨ds,e1,ev⟩:=Res.bind_ok ev
 rw[nI]at e1;cases e1
 exact⟨O,[],F.trk,rfl,.inl ⟨d,ev,λv H' s2 r2 n2=>k v H' s2 r2 λfr=>(n2 fr).1⟩⟩
noncomputable def TabF(T:Tab)(cf:Nat->List D->Res D)(X:Cx)(n:Str)(fs:List Nat):Prop:=
 ∃(a:Addr)(xs:List V),X.mg n=some (.ref a)/\(∀H,SqT X.K H a xs)/\xs.length=fs.length/\∀(j f:Nat),fs[j]?=some f->∃(ad:Addr)(m:Str),xs[j]?=some (V.ref ad)/\X.mg m=some (.ref ad)/\nY T cf X f m
noncomputable def TabS(X:Cx)(n:Str)(ss:List Str):Prop:=∃a,X.mg n=some (.ref a)/\ModS X.K a ss
theorem wU{K:PySem.W.Frag}{H:Hp}{O:Addr->Prop}:∀{ds:List D} {ns:List Int} {xs:List V},dA ds=.ok ns->RDs K H O ds xs->xs=ns.map V.int
 |[],ns,xs,h,w=>by
  rw[dA]at h;cases h
  rw[RDs]at w;subst w;rfl
 |.int i::r,ns,xs,h,w=>by
  rw[dA]at h
  obtain⟨q,h1,h⟩:=Res.bind_ok h
  cases h
  obtain⟨v,ys,rfl,e1,e2⟩:=w
  cases (show v=_ from e1)
  rw[wU h1 e2];rfl
 |.non::_,_,_,h,_ | .bl _::_,_,_,h,_ | .str _::_,_,_,h,_ | .tup _::_,_,_,h,_ | .lst _::_,_,_,h,_ | .dct _::_,_,_,h,_ | .tdc _::_,_,_,h,_=>by
  rw[dA]at h<;>first|cases h|(intros;rename_i z;cases z)
noncomputable def rB(K:PySem.W.Frag)(f:List D->Res D)(fr:Bool):List V->Hp->VK->Prop:=λvs H Q=>∃O ds d,RRs K H O ds vs/\f ds=.ok d/\(∀a,O a->∃o,H a=some o)/\∀v H',Same H H'->RD K H' O d v->(fr=true->NewL K H H' O d v)->Q v H'
theorem rr1{K:PySem.W.Frag}{H:Hp}{O:Addr->Prop}{d:D}{vs:List V}(h:RRs K H O [d] vs):∃v,vs=[v]/\RR K H O d v:=by
 obtain⟨v,r,rfl,h1,h2⟩:=h
 rw[RRs]at h2;subst h2
 exact⟨v,rfl,h1⟩
theorem Ha (hh:X.calm=true):cX X (.builtin "sum") (λxs H Q=>∃(a:Addr) (ns:List Int),xs=[.ref a]/\SqL X.K H a (ns.map V.int)/\Q (.int ns.sum) H):=by
 intro pins s σ H xs us Q I r h
 obtain⟨a,ns,rfl,hq,q⟩:=h
 obtain⟨u,rfl,rx⟩:=fW r
 cases rx
 obtain⟨its,r',pl,hz⟩:=I.list hq
 have hi:IntsAre its ns:=intsAre_of r'
 have hall:=hi.allInts
 obtain⟨ys,hys⟩:=hall.items
 have hn:(numsOf its.toArray.toList)=ns:=by rw[show its.toArray.toList=its by simp];exact hi.numsOf
 refine sum_intListG (xs:=ys) (I.ok.hd hh) (by rw[<-hys];exact pl.isList) λh' tk t' hk=>?_
 refine⟨.int ns.sum,H,I.kept (t':=tk) hk,⟨t',?_⟩,q⟩
 rw[hys,nums_intItems]at hn
 rw[preSum_eq,mR (by simp),<-hn]
noncomputable def Bt.val:Bt->Value
 |.len=>.builtin "len"
 |.sum=>.builtin "sum"
 |.tuple=>.type "tuple"
 |.list=>.type "list"
 |.int=>.type "int"
 |.str=>.type "str"
 |.bool=>.type "bool"
 |.abs=>.builtin "abs"
 |.min=>.builtin "min"
 |.max=>.builtin "max"
 |.all=>.builtin "all"
 |.any=>.builtin "any"
noncomputable def Bt.nm:Bt->Str
 |.len => "len"
 |.sum => "sum"
 |.tuple => "tuple"
 |.list => "list"
 |.int => "int"
 |.str => "str"
 |.bool => "bool"
 |.abs => "abs"
 |.min => "min"
 |.max => "max"
 |.all => "all"
 |.any => "any"
theorem nZ{b:Bt}{ds:List D}{d:D}(h:b.run ds=.ok d)(hb:∀d1 d2,b.two d1 d2=.no):∃d0,ds=[d0]/\b.one d0=.ok d:=by
 unfold Bt.run at h
 split at h
 ·exact⟨_,rfl,h⟩
 ·rw[hb]at h;cases h
 ·cases h
theorem bt_len:cX X (.builtin "len") (rB X.K (Bt.run .len) false):=by
 intro pins s σ H xs us Q I rv h
 obtain⟨O,ds,d,rr,ev,tr,k⟩:=h
 obtain⟨d0,rfl,ev⟩:=nZ ev (λ_ _=>rfl)
 obtain⟨v,rfl,r1⟩:=rr1 rr
 have ev:D.len d0=.ok d:=ev
 unfold D.len at ev
 split at ev
 ·cases ev
  obtain⟨a,ys,rfl,q1,w1⟩:=r1.lst
  exact Ak pins s σ H _ us Q I rv ⟨a,ys,rfl,.inl q1,k _ H (Same.refl H) (by rw[w1.length];exact rfl) (λz=>by cases z)⟩
 ·cases ev
  obtain⟨a,ys,rfl,q1,w1⟩:=r1.tup
  exact Ak pins s σ H _ us Q I rv ⟨a,ys,rfl,.inr q1,k _ H (Same.refl H) (by rw[w1.length];exact rfl) (λz=>by cases z)⟩
 ·obtain⟨c,ev⟩:=aS ev
  cases ev
  cases (show v=_ from r1.rd rfl)
  exact Fu pins s σ H _ us Q I rv ⟨_,rfl,by rw[<-eY];exact of_decide_eq_true c,k _ H (Same.refl H) rfl (λz=>by cases z)⟩
 ·cases ev
  obtain⟨a,ps,rfl,q1,w1⟩:=r1.dct
  obtain⟨u,rfl,ru⟩:=fW rv
  cases ru
  exact d_len I q1 λt s' I'=>⟨.int _,H,I',⟨t,rfl⟩,k _ H (Same.refl H) (by rw[w1.length];exact rfl) (λz=>by cases z)⟩
 ·cases ev
theorem bt_sum (hh:X.calm=true):cX X (.builtin "sum") (rB X.K (Bt.run .sum) false):=by
 intro pins s σ H xs us Q I rv h
 obtain⟨O,ds,d,rr,ev,tr,k⟩:=h
 obtain⟨d0,rfl,ev⟩:=nZ ev (λ_ _=>rfl)
 obtain⟨v,rfl,r1⟩:=rr1 rr
 have ev:D.sum d0=.ok d:=ev
 unfold D.sum at ev
 split at ev
 ·obtain⟨ns,e1,ev⟩:=Res.bind_ok ev
  cases ev
  obtain⟨a,ys,rfl,q1,w1⟩:=r1.lst
  have e:=wU e1 w1
  subst e
  exact Ha hh pins s σ H _ us Q I rv ⟨a,ns,rfl,q1,k _ H (Same.refl H) rfl (λz=>by cases z)⟩
 ·cases ev
theorem Hc:cX X (.type "tuple") (rB X.K (Bt.run .tuple) false):=by
 intro pins s σ H xs us Q I rv h
 obtain⟨O,ds,d,rr,ev,tr,k⟩:=h
 obtain⟨d0,rfl,ev⟩:=nZ ev (λ_ _=>rfl)
 obtain⟨v,rfl,r1⟩:=rr1 rr
 have ev:D.tuple d0=.ok d:=ev
 unfold D.tuple at ev
 split at ev
 ·cases ev
  obtain⟨a,ys,rfl,q1,w1⟩:=r1.lst
  exact Am pins s σ H _ us Q I rv ⟨a,ys,rfl,.inl ⟨q1,λl hl=>k _ _ (bZ hl _) (nV w1 hl) (λz=>by cases z)⟩⟩
 ·cases ev
  obtain⟨a,ys,rfl,q1,w1⟩:=r1.tupV
  exact Am pins s σ H _ us Q I rv ⟨a,ys,rfl,.inr ⟨q1.sq,k _ H (Same.refl H) ⟨a,ys,rfl,q1,w1⟩ (λz=>by cases z)⟩⟩
 ·cases ev
theorem Hd:cX X (.type "list") (rB X.K (Bt.run .list) true):=by
 intro pins s σ H xs us Q I rv h
 obtain⟨O,ds,d,rr,ev,tr,k⟩:=h
 obtain⟨d0,rfl,ev⟩:=nZ ev (λ_ _=>rfl)
 obtain⟨v,rfl,r1⟩:=rr1 rr
 have ev:D.list d0=.ok d:=ev
 unfold D.list at ev
 split at ev
 ·cases ev
  obtain⟨a,ys,rfl,q1,w1⟩:=r1.lst
  refine Al pins s σ H _ us Q I rv ⟨a,ys,rfl,.inl q1,λl hl=>?_⟩
  have z:=jL w1 hl tr
  exact k _ _ (bZ hl _) z.1 (λ_=>z.2)
 ·cases ev
  obtain⟨a,ys,rfl,q1,w1⟩:=r1.tup
  refine Al pins s σ H _ us Q I rv ⟨a,ys,rfl,.inr q1,λl hl=>?_⟩
  have z:=jL w1 hl tr
  exact k _ _ (bZ hl _) z.1 (λ_=>z.2)
 ·cases ev
theorem bt_int:cX X (.type "int") (rB X.K (Bt.run .int) false):=by
 intro pins s σ H xs us Q I rv h
 obtain⟨O,ds,d,rr,ev,tr,k⟩:=h
 obtain⟨d0,rfl,ev⟩:=nZ ev (λ_ _=>rfl)
 obtain⟨v,rfl,r1⟩:=rr1 rr
 have ev:D.toInt d0=.ok d:=ev
 unfold D.toInt at ev
 split at ev
 ·cases ev
  cases (show v=_ from r1.rd rfl)
  exact A7 pins s σ H _ us Q I rv (.inl ⟨_,rfl,k _ H (Same.refl H) rfl (λz=>by cases z)⟩)
 ·cases ev
  cases (show v=_ from r1.rd rfl)
  exact A7 pins s σ H _ us Q I rv (.inr ⟨_,rfl,k _ H (Same.refl H) rfl (λz=>by cases z)⟩)
 ·obtain⟨c,ev⟩:=aS ev
  cases ev
  rw[aD,decide_eq_true_eq]at c
  cases (show v=_ from r1.rd rfl)
  exact GT pins s σ H _ us Q I rv ⟨_,rfl,c.1,c.2,k _ H (Same.refl H) rfl (λz=>by cases z)⟩
 ·cases ev
theorem tcb_of{b:Bt}{H₀:Hp}{O₀:Addr->Prop}{σ:L2.St}{H:Hp}{Q:VK}(h:tE T cf X.K H₀ O₀ (.bt b x) σ H Q):tCB (rB X.K (Bt.run b) (bE T (.bt b x))) (tAr T cf X.K H₀ O₀ x) σ H Q:=by
 obtain⟨O,own,e,d,F,ev,k⟩:=h
 rw[xE_bt]at ev
 obtain⟨ds,e1,ev⟩:=Res.bind_ok ev
 refine⟨O,own,e,ds,F,e1,λvs H1 s1 r1=>?_⟩
 refine⟨O,ds,d,r1,ev,(F.grow s1).trk,λv H' s2 r2 n2=>k v H' (s1.trans s2) r2 λfr=>(n2 fr).back s1⟩
noncomputable def Bt.use:Bt->Bool
 |.str=>false
 |.bool=>false
 |.abs=>false
 |.min=>false
 |.max=>false
 |.all=>false
 |.any=>false
 |_=>true
theorem se_bt{b:Bt}{n:Str}{pn:Pos}(hu:b.use=true)(hh:X.calm=true)(hn:n=b.nm)(hm:X.mg b.nm=none)(hg:Gl X n)(hp:(p::es).all aZ=true)(ha:SAr T cf X x (p::es)):SE T cf X (.bt b x) (.Call (.Name n pn) (p::es) [] pos):=λH₀ O₀=>by
 subst hn
 rw[lC,aD]at hp
 refine PE.imp (λσ H Q h=>tcb_of h) ?_
 cases b with
 |len=>exact qB bt_len hg hm PySem.boot_len (ha H₀ O₀) (by decide) (by decide) (bC hp.1) (fK hp.2)
 |sum=>exact qB (bt_sum hh) hg hm PyProof.Rows.boot_sum (ha H₀ O₀) (by decide) (by decide) (bC hp.1) (fK hp.2)
 |tuple=>exact qC Hc hg hm PyProof.Rows.boot_tuple (ha H₀ O₀) (by decide) (by decide) (bC hp.1) (fK hp.2)
 |list=>exact qC Hd hg hm PyProof.Rows.boot_list (ha H₀ O₀) (by decide) (by decide) (bC hp.1) (fK hp.2)
 |int=>exact qC bt_int hg hm PyProof.Rows.boot_int (ha H₀ O₀) (by decide) (by decide) (bC hp.1) (fK hp.2)
 |str=>cases hu
 |bool=>cases hu
 |abs=>cases hu
 |min=>cases hu
 |max=>cases hu
 |all=>cases hu
 |any=>cases hu
noncomputable def Ty.nm:Ty->String
 |.int => "int"
 |.bool => "bool"
 |.str => "str"
 |.tuple => "tuple"
 |.list => "list"
noncomputable def Mt.nm:Mt->Str
 |.split => "split"
 |.join => "join"
 |.index => "index"
noncomputable def baseX:Expr->Bool
 |.Name _ _=>true
 |.Constant _ _ _=>true
 |.Subscript _ _ _=>true
 |.BinOp _ _ _ _=>true
 |_=>false
theorem base_of {e:Expr} {nm:Str} {env:Env} (h:baseX e=true) (hn:(nm==("__class__" : Str))=false):attributeBase e nm env (eval e env)=eval e env:=by
 cases e<;>first|(cases h;done)|rfl
end
inductive Pin where
 |dv (d:D) (v:V)|fr (a:Addr) (o:Obj) (u:HO)
noncomputable def PinOk(K:PySem.W.Frag)(H:Hp)(O:Addr->Prop):Pin->Prop
 |.dv d v=>RD K H O d v
 |.fr a o u=>H a=some (.frz o u)
noncomputable def lN(K:PySem.W.Frag)(H:Hp)(O:Addr->Prop):Pin->Prop
 |.dv d v=>RR K H O d v
 |.fr a o u=>H a=some (.frz o u)
section
variable{K:PySem.W.Frag}{H H':Hp}{O O':Addr->Prop}{p:Addr}{t:Pin}
theorem PinOk.rr(h:PinOk K H O t):lN K H O t:=by
 cases t with
 |dv d v=>exact RD.rr h
 |fr a o u=>exact h
theorem PinOk.same(h:PinOk K H O t)(s:Same H H'):PinOk K H' O t:=by
 cases t with
 |dv d v=>exact RD.same s h
 |fr a o u=>exact s _ _ h
theorem PinOk.new(h:PinOk K H O t)(hp:H p=none):PinOk K H (cU O p) t:=by
 cases t with
 |dv d v=>exact RD.new hp h
 |fr a o u=>exact h
theorem PinOk.weak(h:PinOk K H O t)(s:∀a,O' a->O a):PinOk K H O' t:=by
 cases t with
 |dv d v=>exact RD.weak s h
 |fr a o u=>exact h
theorem PinOk.updM{o o':HO}(h:PinOk K H O t)(hO:O p)(hp:H p=some o)(hm:gB o):PinOk K (L2.upd H p o') O t:=by
 cases t with
 |dv d v=>exact RD.updM hO hp hm h
 |fr a o1 u=>exact(dP (K:=K) hO hp hm).2.2 a o1 u h
theorem PinOk.upd{ys zs:List V}(h:PinOk K H O t)(hO:O p)(hp:H p=some (.lst ys)):PinOk K (L2.upd H p (.lst zs)) O t:=h.updM hO hp trivial
end
noncomputable def Wk1(K:PySem.W.Frag)(J:It)(d0:D)(v0:V)(ds:List D):Prop:=∀i H O,RR K H O d0 v0 ->
 (i<ds.length->J.go i H)/\(ds.length<=i->J.stop i H)/\∀x H' d,ds[i]?=some d->J.yld i H x H'->Same H H'/\RD K H' O d x
noncomputable def Wk(K:PySem.W.Frag)(J:It)(srs:List Pin)(ds:List D):Prop:=∀i H O,(∀t∈srs,lN K H O t) ->
 (i<ds.length->J.go i H)/\(ds.length<=i->J.stop i H)/\∀x H' d,ds[i]?=some d->J.yld i H x H'->Same H H'/\RD K H' O d x
theorem Wk1.wk{K:PySem.W.Frag}{J:It}{d0:D}{v0:V}{ds:List D}(h:Wk1 K J d0 v0 ds):Wk K J [.dv d0 v0] ds:=λi H O r=>h i H O (r (.dv d0 v0) (cS.mpr rfl))
theorem rD{K:PySem.W.Frag}{H:Hp}{O:Addr->Prop}{rd:Bool}{ds:List D}{R:It->Hp->Prop}(k:∀J H' srs,Same H H'->(∀t∈srs,lN K H' O t)->(rd=false->∀t∈srs,PinOk K H' O t)->Wk K J srs ds->R J H') :
 ∀J H' d0 v0,Same H H'->RR K H' O d0 v0->(rd=false->RD K H' O d0 v0)->Wk1 K J d0 v0 ds->R J H':=λJ H' d0 v0 s r rv w=>
 k J H' [.dv d0 v0] s (λt ht=>by rw[cS.mp ht];exact r) (λz t ht=>by rw[cS.mp ht];exact rv z) w.wk
noncomputable def tI(T:Tab)(cf:Nat->List D->Res D)(K:PySem.W.Frag)(H₀:Hp)(O₀:Addr->Prop)(x:E)(rd:Bool):TI:=λσ H R=>∃O own e ds,Fm K H₀ O₀ H O own e σ/\evI T cf x e=.ok ds /\
 ∀J H' srs,Same H H'->(∀t∈srs,lN K H' O t)->(rd=false->∀t∈srs,PinOk K H' O t)->Wk K J srs ds->R J H'
noncomputable def SI(T:Tab)(cf:Nat->List D->Res D)(X:Cx)(tg:Expr)(x:E)(rd:Bool)(p:Expr):Prop:=∀H₀ O₀,PI X tg p (tI T cf X.K H₀ O₀ x rd)
section
variable{T:Tab}{cf:Nat->List D->Res D}{X:Cx}{x y z:E}{p q r tg:Expr}{pos pos':Pos}{es:List Expr}
theorem He{K:PySem.W.Frag}{a:Addr}{ds:List D}:Wk1 K (Itl K a) (.lst ds) (.ref a) ds:=by
 intro i H O r
 obtain⟨a',xs,e,q,w⟩:=r.lst
 cases e
 have hl:=w.length
 refine⟨λh=>?_,λh=>⟨xs,q,by lia⟩,λx H' d hd y=>?_⟩
 ·obtain⟨v,h1,h2⟩:=w.get (bD h)
  exact⟨xs,v,q,h1⟩
 ·obtain⟨rfl,y⟩:=y
  refine⟨Same.refl _,?_⟩
  obtain⟨v,h1,h2⟩:=w.get hd
  have:=(y xs q).symm.trans h1
  cases this
  exact h2
theorem wk_tup{K:PySem.W.Frag}{a:Addr}{ds:List D}:Wk1 K (Itt K a) (.tup ds) (.ref a) ds:=by
 intro i H O r
 obtain⟨a',xs,e,q,w⟩:=r.tup
 cases e
 have hl:=w.length
 refine⟨λh=>?_,λh=>⟨xs,q,by lia⟩,λx H' d hd y=>?_⟩
 ·obtain⟨v,h1,h2⟩:=w.get (bD h)
  exact⟨xs,v,q,h1⟩
 ·obtain⟨rfl,y⟩:=y
  refine⟨Same.refl _,?_⟩
  obtain⟨v,h1,h2⟩:=w.get hd
  have:=(y xs q).symm.trans h1
  cases this
  exact h2
theorem wV(lo:Int):∀n,(cG lo n).length=n
 |0=>rfl
 |n+1=>by rw[cG,aX,wV (lo+1) n]
theorem CO:∀(lo:Int)(n i:Nat),i<n->(cG lo n)[i]?=some (.int (lo+i))
 |lo,0,i,h=>absurd h (AG _)
 |lo,n+1,0,_=>by rw[cG];simp
 |lo,n+1,i+1,h=>by
  rw[cG,L1,CO (lo+1) n i (by lia)]
  congr 2
  push_cast
  lia
theorem CP{K:PySem.W.Frag}{lo:Int}{n:Nat}:Wk1 K (Itr lo n) .non .non (cG lo n):=by
 intro i H O r
 rw[wV]
 refine⟨λh=>h,λh=>h,λx H' d hd y=>?_⟩
 obtain⟨rfl,rfl⟩:=y
 refine⟨Same.refl _,?_⟩
 by_cases hi:i<n
 ·rw[CO lo n i hi]at hd
  cases hd
  exact rfl
 ·rw[pO (by rw[wV];lia)]at hd
  cases hd
theorem wk_str{K:PySem.W.Frag}{z:Str}:Wk1 K (Its z) (.str z) (.str z) (z.cps.toList.map λc=>D.str (gP c)):=by
 intro i H O r
 rw[aE]
 refine⟨λh=>by simpa[Its]using h,λh=>by simpa[Its]using h,λx H' d hd y=>?_⟩
 obtain⟨rfl,c,hc,rfl⟩:=y
 refine⟨Same.refl _,?_⟩
 rw[bO]at hd
 have hc':z.cps.toList[i]?=some c:=by simpa using hc
 rw[hc']at hd
 cases hd
 exact rfl
theorem si_seq{rd:Bool}(ha:SR T cf X x p)(hv:rd=false->SE T cf X x p):SI T cf X tg (.seq x) rd p:=by
 intro H₀ O₀ pins s σ H R I h
 obtain⟨O,own,e,ds,F,ev,k⟩:=h
 replace k:=rD k
 rw[xI_seq]at ev
 obtain⟨d1,e1,ev⟩:=Res.bind_ok ev
 have main:∀{u:Value} {s1:Shared} {v:V} {H1:Hp},Inv X pins σ H1 s1->RelV v u->Same H H1->RR X.K H1 O d1 v->(rd=false->RD X.K H1 O d1 v)->wpAny (model X.prog X.w) X.A (pyIter u) (PIE X pins σ tg R) X.xe s1:=by
  intro u s1 v H1 I1 r1 s1' rr rv
  unfold D.items at ev
  split at ev
  ·cases ev
   obtain⟨a,xs,e,q1,w1⟩:=rr.lst
   subst e
   cases r1
   obtain⟨its,r',pl,hz⟩:=I1.list q1
   refine wpAny_pyIter_list pl.isList ?_
   refine⟨s1.heap.objs.size,[s1.heap.objs.size],_,Itl X.K a,H1,rfl,I1.kept (t':=s1.toks) λb u e=>Heap.get?_push_of_some _ e,FK a _,⟨_,Heap.get?_push_size _ rfl,rfl,rfl⟩,λb hb=>?_,k _ H1 _ _ s1' rr rv He⟩
   rcases aY.mp hb with rfl|hb
   ·exact I1.fpOk (aQ _) (I1.hok.fresh (aQ _))
   ·cases hb
  ·cases ev
   obtain⟨a,xs,e,q1,w1⟩:=rr.tup
   subst e
   cases r1
   obtain⟨its,r',pl,hz⟩:=I1.tuple q1
   refine wpAny_pyIter_tuple pl ?_
   refine⟨s1.heap.objs.size,[s1.heap.objs.size],_,Itt X.K a,H1,rfl,I1.kept (t':=s1.toks) λb u e=>Heap.get?_push_of_some _ e,FL a _,⟨_,Heap.get?_push_size _ rfl,rfl,rfl⟩,λb hb=>?_,k _ H1 _ _ s1' rr rv wk_tup⟩
   rcases aY.mp hb with rfl|hb
   ·exact I1.fpOk (aQ _) (I1.hok.fresh (aQ _))
   ·cases hb
  ·cases ev
   rename_i z
   cases (show v=.str z from rr.rd rfl)
   obtain⟨t,rfl⟩:=r1
   exact pi_str I1 (k _ H1 (.str z) (.str z) s1' rr rv wk_str)
  ·cases ev
 cases rd with
 |true=>exact thn (ha H₀ O₀ pins s σ H (λv H1=>Same H H1/\RR X.K H1 O d1 v) I ⟨O,own,e,d1,F,e1,λv H' s' r=>⟨s',r⟩⟩) λu s1 ⟨v,H1,I1,r1,s1',rr⟩=>main I1 r1 s1' rr (λz=>by cases z)
 |false=>exact thn (hv rfl H₀ O₀ pins s σ H (λv H1=>Same H H1/\RD X.K H1 O d1 v) I ⟨O,own,e,d1,F,e1,λv H' s' r _=>⟨s',r⟩⟩) λu s1 ⟨v,H1,I1,r1,s1',rr⟩=>main I1 r1 s1' rr.rr (λ_=>rr)
theorem si_rng {rd:Bool} {n:Str} {pn:Pos} (hn:n = "range") (hg:Gl X n) (hm:X.mg "range" = none) (hp:aZ p=true) (ha:SE T cf X x p):SI T cf X tg (.rng x) rd (.Call (.Name n pn) [p] [] pos):=by
 intro H₀ O₀ pins s σ H R I h
 subst hn
 obtain⟨O,own,e,ds,F,ev,k⟩:=h
 replace k:=rD k
 rw[BN]at ev
 obtain⟨d1,e1,ev⟩:=Res.bind_ok ev
 refine FN hg hm (cY (ha H₀ O₀) eV (bC hp)) (bC hp) pins s σ H R I ⟨O,own,e,d1,F,e1,λv H' s' r _=>?_⟩
 split at ev
 ·obtain⟨c,ev⟩:=aS ev
  cases ev
  cases (show v=_ from r)
  simp only[cT,aD,decide_eq_true_eq]at c
  exact⟨_,rfl,c.1,c.2,k _ H' .non .non s' (.inl rfl) (λ_=>rfl) CP⟩
 ·cases ev
theorem Hf {rd:Bool} {n:Str} {pn:Pos} (hn:n = "range") (hg:Gl X n) (hm:X.mg "range" = none) (hp:aZ p=true) (hq:aZ q=true) (ha:SE T cf X x p) (hb:SE T cf X y q):SI T cf X tg (.rng2 x y) rd (.Call (.Name n pn) [p,q] [] pos):=by
 intro H₀ O₀ pins s σ H R I h
 subst hn
 obtain⟨O,own,e,ds,F,ev,k⟩:=h
 replace k:=rD k
 rw[BO]at ev
 obtain⟨d1,e1,ev⟩:=Res.bind_ok ev
 split at ev
 ·obtain⟨d2,e2,ev⟩:=Res.bind_ok ev
  split at ev
  ·obtain⟨c,ev⟩:=aS ev
   cases ev
   simp only[cT,aD,decide_eq_true_eq]at c
   refine FO hg hm (cY (ha H₀ O₀) (cY (hb H₀ O₀) eV (bC hq)) (bC hp)) (by rw[bC hp,bC hq];rfl) (bC hq) pins s σ H R I ⟨O,own,e,_,F,e1,λv H1 s1 r1 _=>⟨O,own,e,_,F.grow s1,e2,λv2 H2 s2 r2 _=>?_⟩⟩
   cases (show v=_ from r1)
   cases (show v2=_ from r2)
   exact⟨_,_,rfl,⟨c.1.1,c.1.2,c.2.1,c.2.2⟩,k _ H2 .non .non (s1.trans s2) (.inl rfl) (λ_=>rfl) CP⟩
  ·cases ev
 ·cases ev
noncomputable def Ft(K:PySem.W.Frag)(H₀:Hp)(O₀:Addr->Prop)(ts:List Pin)(e:Nv)(σ:L2.St)(H:Hp):Prop:=∃O own,Fm K H₀ O₀ H O own e σ/\∀t∈ts,PinOk K H O t
noncomputable def tG(K:PySem.W.Frag)(H₀:Hp)(O₀:Addr->Prop)(g:G):TG:=λv σ H Q=>∃O own e d e',Fm K H₀ O₀ H O own e σ/\RD K H O d v/\g.put d e=.ok e'/\∀σ' own',(∀j a,own' j=some a->own j=some a)->Fm K H₀ O₀ H O own' e' σ'->Q σ' H
noncomputable def SG(X:Cx)(g:G)(tg:Expr):Prop:=∀H₀ O₀,PG X tg (tG X.K H₀ O₀ g)
theorem PG.imp{t t':TG}(h:∀v σ H Q,t' v σ H Q->t v σ H Q)(hp:PG X tg t):PG X tg t':=λpins s σ H v u Q I r q=>hp pins s σ H v u Q I r (h v σ H Q q)
theorem CQ{own:Nat->Option Addr}{i:Nat}:∀j a,(λj=>if j=i then none else own j) j=some a->own j=some a:=λj a h=>by
 dsimp only at h
 by_cases hj:j=i
 ·rw[if_pos hj]at h;cases h
 ·rw[if_neg hj]at h;exact h
theorem sg_one{i:Nat}{n:Str}(hN:X.N.Nodup)(hi:X.N[i]?=some n)(hx:Loc X.env.scope n)(hf:X.fn n=true\/X.env.scope.names.lookup n=some .local):SG X (.one i) (.Name n pos):=λH₀ O₀=>
 PG.imp (λv σ H Q ⟨O,own,e,d,e',F,r,ev,k⟩=>by
  cases ev
  exact k _ _ CQ (F.setV i r)) (A1 hN hi hx hf)
noncomputable def tGs(K:PySem.W.Frag)(H₀:Hp)(O₀:Addr->Prop)(is:List Nat):TGs:=λvs σ H Q=>∃O own e ds e',Fm K H₀ O₀ H O own e σ/\RDs K H O ds vs/\cO is ds e=.ok e'/\∀σ' own',(∀j a,own' j=some a->own j=some a)->Fm K H₀ O₀ H O own' e' σ'->Q σ' H
noncomputable def SGs(X:Cx)(is:List Nat)(tgs:List Expr):Prop:=∀H₀ O₀,PGs X tgs (tGs X.K H₀ O₀ is)
theorem PGs.imp{tgs:List Expr}{t t':TGs}(h:∀v σ H Q,t' v σ H Q->t v σ H Q)(hp:PGs X tgs t):PGs X tgs t':=λpins s σ H v u Q I r q=>hp pins s σ H v u Q I r (h v σ H Q q)
theorem Hg:SGs X [] []:=λH₀ O₀=>PGs.imp (λvs σ H Q ⟨O,own,e,ds,e',F,r,ev,k⟩=>by
 cases ds with
 |nil=>
  simp only[cO]at ev
  cases ev
  rw[RDs]at r
  exact⟨r,k _ _ (λ_ _ h=>h) F⟩
 |cons d ds=>simp only[cO]at ev;cases ev) FI
theorem Hh{n:Str}{pos:Pos}{es:List Expr}{env:Env}:(assignEach (.Name n pos::es) env).map (·.2)=assign (.Name n pos) env::(assignEach es env).map (·.2):=rfl
theorem Hj{i:Nat}{is:List Nat}{n:Str}(hN:X.N.Nodup)(hi:X.N[i]?=some n)(hx:Loc X.env.scope n)(hf:X.fn n=true\/X.env.scope.names.lookup n=some .local)(h:SGs X is es):SGs X (i::is) (.Name n pos::es):=λH₀ O₀=>
 PGs.imp (λvs σ H Q ⟨O,own,e,ds,e',F,r,ev,k⟩=>by
  cases ds with
  |nil=>simp only[cO]at ev;cases ev
  |cons d ds=>
   rw[cO]at ev
   obtain⟨v,vr,rfl,r1,r2⟩:=r
   exact⟨v,vr,rfl,O,_,_,ds,e',F.setV i r1,r2,ev,λσ' own' h=>k σ' own' λj a q=>CQ j a (h j a q)⟩) (FJ (A1 hN hi hx hf) (h H₀ O₀) Hh)
noncomputable def oA:List Expr->Bool
 |[]=>true
 |.Name _ _::r=>oA r
 |_=>false
theorem Hk{env:Env}:∀{es:List Expr},oA es=true->(assignEach es env).length=es.length:=by
 intro es
 induction es with
 |nil=>intro _;rfl
 |cons e es ih=>
  intro h
  cases e with
  |Name n pos=>
   show((false,assign (.Name n pos) env)::assignEach es env).length=_
   rw[aX,ih h,aX]
  |_=>exact absurd h aP
theorem Hl{env:Env}:∀{es:List Expr},oA es=true->(assignEach es env).findIdx? (·.1)=none:=by
 intro es
 induction es with
 |nil=>intro _;rfl
 |cons e es ih=>
  intro h
  cases e with
  |Name n pos=>
   show((false,assign (.Name n pos) env)::assignEach es env).findIdx? (·.1)=none
   rw[List.findIdx?_cons,ih h];rfl
  |_=>exact absurd h aP
theorem CU:∀{is:List Nat} {ds:List D} {e e':Nv},cO is ds e=.ok e'->ds.length=is.length
 |[],[],_,_,_=>rfl
 |[],_::_,_,_,h=>by simp only[cO]at h;cases h
 |_::_,[],_,_,h=>by simp only[cO]at h;cases h
 |i::is,d::ds,e,e',h=>by
  rw[cO]at h
  rw[aX,aX,CU h]
theorem Hm{is:List Nat}{k:Nat}(hc:X.calm=true)(hn:oA es=true)(hl:es.length=is.length)(h:SGs X is es):SG X (.many is) (.Tuple es k pos):=λH₀ O₀=>
 PG.imp (λv σ H Q ⟨O,own,e,d,e',F,r,ev,k⟩=>by
  cases d with
  |tup ds=>
   have ev:cO is ds e=.ok e':=ev
   obtain⟨a,xs,rfl,q,w⟩:=r
   exact⟨a,xs,rfl,q.sq,by rw[w.length,CU ev,<-hl],O,own,e,ds,e',F,w,ev,k⟩
  |non=>cases ev
  |bl _=>cases ev
  |int _=>cases ev
  |str _=>cases ev
  |lst _=>cases ev
  |dct _=>cases ev
  |tdc _=>cases ev) (pg_tup (n:=es.length) hc (h H₀ O₀) (Hk hn) (Hl hn))
noncomputable def Ends.to(K:PySem.W.Frag)(H₀:Hp)(O₀:Addr->Prop)(ts:List Pin)(D':Ends):Out->Prop
 |.nx e'=>∀σ' H',Ft K H₀ O₀ ts e' σ' H'->D'.nx σ' H'
 |.bk e'=>∀σ' H',Ft K H₀ O₀ ts e' σ' H'->D'.bk σ' H'
 |.ct e'=>∀σ' H',Ft K H₀ O₀ ts e' σ' H'->D'.ct σ' H'
 |.rt d fr=>∀v H',Same H₀ H'->RD K H' O₀ d v->(fr=true->NewR K H₀ H' O₀ d v)->D'.rt v H'
 |.rr d a j b k=>∀v H',Same H₀ H'->RD K H' (λc=>O₀ c\/c=a\/c=b) d v->OwnAt K H' (λc=>O₀ c\/c=a\/c=b) a (.dct j)->OwnAt K H' (λc=>O₀ c\/c=a\/c=b) b (.dct k)->D'.rt v H'
noncomputable def tS(T:Tab)(cf:Nat->List D->Res D)(K:PySem.W.Frag)(H₀:Hp)(O₀:Addr->Prop)(x:S):TS:=λD' σ H=>∃ts e out,Ft K H₀ O₀ ts e σ H/\exS T cf x e=.ok out/\Ends.to K H₀ O₀ ts D' out
noncomputable def SS(T:Tab)(cf:Nat->List D->Res D)(X:Cx)(x:S)(p:Stmt):Prop:=∀H₀ O₀,PS X p (tS T cf X.K H₀ O₀ x)
noncomputable def SB(T:Tab)(cf:Nat->List D->Res D)(X:Cx)(x:S)(p:List Stmt):Prop:=∀H₀ O₀,PSs X p (tS T cf X.K H₀ O₀ x)
theorem PS.imp{st:Stmt}{t t':TS}(h:∀D' σ H,t' D' σ H->t D' σ H)(hp:PS X st t):PS X st t':=λpins s σ H D' I q=>hp pins s σ H D' I (h D' σ H q)
theorem PSs.imp{st:List Stmt}{t t':TS}(h:∀D' σ H,t' D' σ H->t D' σ H)(hp:PSs X st t):PSs X st t':=λpins s σ H D' I q=>hp pins s σ H D' I (h D' σ H q)
variable{a b c:S}{st:Stmt}{sts:List Stmt}
theorem wW{pins:List (Addr×Obj)}{σ:L2.St}{H:Hp}{s:Shared}{p:Addr}{u:HO}(I:Inv X pins σ H s)(h:H p=some u)(hu:(∃ps,u=.dK ps)\/∃ps,u=.dT ps):∃ob,Inv X pins σ (L2.upd H p (.frz ob u)) s:=by
 rcases hu with⟨ps,rfl⟩|⟨ps,rfl⟩
 ·obtain⟨o,_,_,_,I2⟩:=Ba I h
  exact⟨o,I2⟩
 ·obtain⟨o,_,_,_,I2⟩:=G0 I h
  exact⟨o,I2⟩
theorem sb_nil:SB T cf X .nil []:=λH₀ O₀=>PSs.imp (λD' σ H ⟨ts,e,out,F,ev,k⟩=>by
 rw[kJ]at ev;cases ev
 exact k σ H F) lE
theorem Hn(h1:SS T cf X a st)(h2:SB T cf X b sts):SB T cf X (.cons a b) (st::sts):=λH₀ O₀=>by
 refine PSs.imp (λD' σ H hq=>?_) (eU (h1 H₀ O₀) (h2 H₀ O₀))
 obtain⟨ts,e,out,F,ev,k⟩:=hq
 rw[fZ]at ev
 obtain⟨o1,e1,ev⟩:=Res.bind_ok ev
 refine⟨ts,e,o1,F,e1,?_⟩
 cases o1 with
 |nx e'=>exact λσ' H' F'=>⟨ts,e',out,F',ev,k⟩
 |rt d fr=>cases ev;exact k
 |rr _ _ _ _ _=>cases ev;exact k
 |bk e'=>cases ev;exact k
 |ct e'=>cases ev;exact k
theorem Ho{i:Nat}(h2:SB T cf X b sts):SB T cf X (.cons (.sealed i) b) sts:=λH₀ O₀ pins s σ H D' I hq=>by
 obtain⟨ts,e,out,⟨O,own,F,tt⟩,ev,k⟩:=hq
 (first|rw[fZ]at ev|rw[qI]at ev)
 obtain⟨o1,e1,ev⟩:=Res.bind_ok ev
 (first|rw[fZ]at e1|rw[qI]at e1)
 obtain⟨l,e2,e1⟩:=Res.bind_ok e1
 cases e1
 cases hd:l.isDct with
 |false=>
  obtain⟨O',own',F',sub⟩:=F.seal i (Sl.ownA_ok e2) hd
  exact h2 H₀ O₀ pins s σ H D' I ⟨ts,_,out,⟨O',own',F',λt ht=>(tt t ht).weak sub⟩,ev,k⟩
 |true=>
  obtain⟨p,u,g1,g2,g3,g4,g5⟩:=F.sealD i (Sl.ownA_ok e2) hd
  obtain⟨ob,I2⟩:=wW I g1 g2
  obtain⟨⟨own',F'⟩,_⟩:=g5 ob
  exact h2 H₀ O₀ pins s σ _ D' I2 ⟨ts,_,out,⟨_,own',F',λt ht=>((tt t ht).updM g4.1 g1 g4.2).weak λ_ z=>z.1⟩,ev,k⟩
theorem ss_ret(h:SE T cf X x p):SS T cf X (.ret x) (.Return (some p) pos):=λH₀ O₀=>by
 refine PS.imp (λD' σ H hq=>?_) (kA (h H₀ O₀))
 obtain⟨ts,e,out,⟨O,own,F,tt⟩,ev,k⟩:=hq
 rw[BQ]at ev
 obtain⟨d,e1,ev⟩:=Res.bind_ok ev
 cases ev
 refine⟨O,own,e,d,F,e1,λv H' s' r n=>k v H' (F.same.trans s') (r.weak F.sub) λfr=>?_⟩
 rw[aD,bV]at fr
 exact NewR.of (((n fr.1).back F.same).weak F.sub) fr.2
theorem Hq {i:Nat} {n:Str} (hN:X.N[i]?=some n) (hv:Vis X.env.scope n) (hd:(n==("__debug__" : Str))=false) (hc:(n==("__classdict__" : Str))=false):SS T cf X (.retO i) (.Return (some (.Name n pos')) pos):=λH₀ O₀ pins s σ H D' I hq=>by
 obtain⟨ts,e,out,⟨O,own,F,tt⟩,ev,k⟩:=hq
 rw[BR]at ev
 obtain⟨l,e1,ev⟩:=Res.bind_ok ev
 cases ev
 cases hz:l.isDct with
 |false=>
  rw[hz]at k
  have q:=F.sl i
  rw[Sl.ownA_ok e1]at q
  obtain⟨p,e2,e3,h1⟩:=q
  have hn:=F.new i p e2
  have nO:¬O₀ p:=λz=>by
   obtain⟨o,w⟩:=F.trk0 p z
   rw[hn.2]at w;cases w
  exact kA (dZ hN hv hd hc) pins s σ H D' I ⟨.ref p,dQ e3,k _ H F.same (OwnAt.rd nO hz (h1.weak F.sub)) λ_=>⟨λ_=>⟨p,rfl,hn.2,h1.weak λb hb=>hb.elim (F.sub b) λz=>z▸hn.1⟩,λ_ a r z=>by subst z;exact h1.elim⟩⟩
 |true=>
  rw[hz]at k
  obtain⟨p,u,g1,g2,g3,g4,g5⟩:=F.sealD i (Sl.ownA_ok e1) hz
  obtain⟨ob,I2⟩:=wW I g1 g2
  obtain⟨⟨own',F'⟩,rd⟩:=g5 ob
  exact kA (dZ hN hv hd hc) pins s σ _ D' I2 ⟨.ref p,dQ g3,k _ _ F'.same (rd.weak F'.sub) λz=>by cases z⟩
noncomputable def dG:Expr->Bool
 |.ListComp _ _ _ _=>false
 |.SetComp _ _ _ _=>false
 |.DictComp _ _ _ _ _=>false
 |_=>true
noncomputable def rE:Expr->Bool
 |.Tuple _ _ _=>false
 |_=>true
theorem jM{e:Expr}{t:Option Expr}{l:Nat}{env:Env}(h:dG e=true):swapsWith e t l env=pure false:=by
 cases e<;>first|rfl|(cases h)
theorem Hr{e tg:Expr}{env:Env}(h:rE e=true):swappedStores [tg] e env=pure none:=by
 cases tg<;>first|rfl|(cases e<;>first|rfl|(cases h;done))
theorem Hs{tg:Expr}{env:Env}(h:aZ tg=true):(assignEach [tg] env).map (·.2)=[assign tg env]:=by
 cases tg<;>first|rfl|(cases h)
theorem ss_asg{g:G}(hx:dG p=true)(ht:rE p=true)(hq:aZ tg=true)(h:SE T cf X x p)(hg:SG X g tg):SS T cf X (.asg g x) (.Assign [tg] p pos):=λH₀ O₀=>by
 refine PS.imp (λD' σ H hq=>?_) (A2 (h H₀ O₀) (hg H₀ O₀) (jM hx) (Hr ht) (Hs hq))
 obtain⟨ts,e,out,⟨O,own,F,tt⟩,ev,k⟩:=hq
 rw[lL]at ev
 obtain⟨d,e1,ev⟩:=Res.bind_ok ev
 obtain⟨e2,e3,ev⟩:=Res.bind_ok ev
 cases ev
 refine⟨O,own,e,d,F,e1,λv H' s' r n=>⟨O,own,e,d,e2,F.grow s',r,e3,λσ' own' _ F'=>?_⟩⟩
 exact k σ' H' ⟨O,own',F',λt ht=>(tt t ht).same s'⟩
theorem Ht{i:Nat}{n:Str}(hx:dG p=true)(hN:X.N.Nodup)(hi:X.N[i]?=some n)(hl:Loc X.env.scope n)(hf:X.fn n=true\/X.env.scope.names.lookup n=some .local)(h:SE T cf X x p):SS T cf X (.asgO i x) (.Assign [.Name n pos'] p pos):=λH₀ O₀=>by
 refine PS.imp (λD' σ H hq=>?_) (kC hN hi hl (h H₀ O₀) (jM hx) hf)
 obtain⟨ts,e,out,⟨O,own,F,tt⟩,ev,k⟩:=hq
 rw[nJ]at ev
 obtain⟨d,e1,ev⟩:=Res.bind_ok ev
 split at ev
 ·obtain⟨c,ev⟩:=aS ev
  cases ev
  refine⟨O,own,e,_,F,e1,λv H' s' r n=>?_⟩
  obtain⟨p,rfl,h2,h3⟩:=n c rfl
  exact k _ H' ⟨_,_,F.setO s' i h2 h3,λt ht=>((tt t ht).new h2).same s'⟩
 ·obtain⟨c,ev⟩:=aS ev
  cases ev
  refine⟨O,own,e,_,F,e1,λv H' s' r n=>?_⟩
  obtain⟨p,rfl,h2,h3⟩:=n c rfl
  exact k _ H' ⟨_,_,F.setO s' i h2 h3,λt ht=>((tt t ht).new h2).same s'⟩
 ·obtain⟨c,ev⟩:=aS ev
  cases ev
  refine⟨O,own,e,_,F,e1,λv H' s' r n=>?_⟩
  obtain⟨p,rfl,h2,h3⟩:=n c rfl
  exact k _ H' ⟨_,_,F.setO s' i h2 h3,λt ht=>((tt t ht).new h2).same s'⟩
 ·cases ev
theorem Hu{i:Nat}{n:Str}{dpos:Pos}(hN:X.N.Nodup)(hi:X.N[i]?=some n)(hl:Loc X.env.scope n)(hf:X.fn n=true\/X.env.scope.names.lookup n=some .local):SS T cf X (.newD i) (.Assign [.Name n pos'] (.Dict [] [] dpos) pos):=λH₀ O₀=>by
 refine PS.imp (λD' σ H hq=>?_) (kC hN hi hl GK (jM rfl) hf)
 obtain⟨ts,e,out,⟨O,own,F,tt⟩,ev,k⟩:=hq
 rw[BX]at ev
 cases ev
 intro p hp
 exact k _ _ ⟨_,_,F.setO (bZ hp _) i hp (HG (ds:=[]) (ps:=[]) rfl hp),λt ht=>((tt t ht).new hp).same (bZ hp _)⟩
theorem ss_ite{ps qs:List Stmt}(hc:ST T cf X x p)(ha:SB T cf X a ps)(hb:SB T cf X b qs):SS T cf X (.ite x a b) (.If p ps qs pos):=λH₀ O₀=>by
 refine PS.imp (λD' σ H hq=>?_) (kB (hc H₀ O₀) (ha H₀ O₀) (hb H₀ O₀))
 obtain⟨ts,e,out,⟨O,own,F,tt⟩,ev,k⟩:=hq
 rw[jH]at ev
 obtain⟨d,e1,ev⟩:=Res.bind_ok ev
 obtain⟨c,e2,ev⟩:=Res.bind_ok ev
 refine⟨O,own,e,d,c,F,e1,e2,λH1 s1=>?_⟩
 cases c with
 |true=>rw[if_pos rfl]at ev⊢;exact⟨ts,e,out,⟨O,own,F.grow s1,λt ht=>(tt t ht).same s1⟩,ev,k⟩
 |false=>rw[if_neg aP]at ev⊢;exact⟨ts,e,out,⟨O,own,F.grow s1,λt ht=>(tt t ht).same s1⟩,ev,k⟩
theorem ss_for{g:G}{ps:List Stmt}(hp:PassesOwn (model X.prog X.w) X.A X.env X.xe)(hc:X.calm=true)(hq:aZ p=true)(hi:SI T cf X tg x false p)(hg:SG X g tg)(hb:SB T cf X b ps):SS T cf X (.forS g x b) (.For tg p ps [] pos):=λH₀ O₀=>by
 refine PS.imp (λD' σ H hq=>?_) (A4 hp hc (hi H₀ O₀) (hg H₀ O₀) (hb H₀ O₀) (wR hq))
 obtain⟨ts,e,out,⟨O,own,F,tt⟩,ev,k⟩:=hq
 rw[qJ]at ev
 obtain⟨ds,e1,ev⟩:=Res.bind_ok ev
 refine⟨O,own,e,ds,F,e1,λJ H1 srs s1 rr rv wk=>?_⟩
 refine⟨λi m σ H=>m=ds.length-i/\i<=ds.length/\∃e',Ft X.K H₀ O₀ (srs++ts) e' σ H/\aR (λd e0=>do let e1<-g.put d e0;exS T cf b e1) (ds.drop i) e'=.ok out,⟨ds.length,by simp,jW _,e,⟨O,own,F.grow s1,λt ht=>?_⟩,by simpa using ev⟩,?_⟩
 ·rcases fQ.mp ht with ht|ht
  ·exact rv rfl t ht
  ·exact(tt t ht).same s1
 rintro i m σ2 H2 ⟨rfl,hi',e',⟨O2,own2,F2,t2⟩,ev2⟩
 obtain⟨w1,w2,w3⟩:=wk i H2 O2 λt ht=>(t2 t (pI _ ht)).rr
 by_cases hlt:i<ds.length
 ·refine .inr ⟨w1 hlt,λσ' H'=>∃e',Ft X.K H₀ O₀ (srs++ts) e' σ' H'/\aR (λd e0=>do let e1<-g.put d e0;exS T cf b e1) (ds.drop (i+1)) e'=.ok out,λσ' H' n=>⟨ds.length-(i+1),by lia,rfl,hlt,n⟩,λv H' y=>?_⟩
  obtain⟨s3,r3⟩:=w3 v H' _ (bD hlt) y
  rw[AD hlt,aR]at ev2
  obtain⟨o1,ev3,ev4⟩:=Res.bind_ok ev2
  obtain⟨e3,ev5,ev6⟩:=Res.bind_ok ev3
  refine⟨O2,own2,e',_,e3,F2.grow s3,r3,ev5,λσ' own' _ F'=>?_⟩
  refine⟨srs++ts,e3,o1,⟨O2,own',F',λt ht=>(t2 t ht).same s3⟩,ev6,?_⟩
  have down:∀{e'':Nv} {σ'':L2.St} {H'':Hp},Ft X.K H₀ O₀ (srs++ts) e'' σ'' H''->Ft X.K H₀ O₀ ts e'' σ'' H'':=λ⟨O',own',F',t'⟩=>⟨O',own',F',λt ht=>t' t (fR _ ht)⟩
  cases o1 with
  |nx e4=>exact λσ'' H'' F''=>⟨e4,F'',ev4⟩
  |ct e4=>exact λσ'' H'' F''=>⟨e4,F'',ev4⟩
  |bk e4=>cases ev4;exact λσ'' H'' F''=>k σ'' H'' (down F'')
  |rt d fr=>cases ev4;exact k
  |rr _ _ _ _ _=>cases ev4;exact k
 ·have e4:i=ds.length:=by lia
  subst e4
  refine .inl ⟨w2 (aQ _),?_⟩
  rw[Es,aR]at ev2
  cases ev2
  exact k σ2 H2 ⟨O2,own2,F2,λt ht=>t2 t (fR _ ht)⟩
theorem ss_app {i:Nat} {n nm:Str} {px apos cpos:Pos} (hN:X.N[i]?=some n) (hv:Vis X.env.scope n) (hd:(n==("__debug__" : Str))=false) (hc:(n==("__classdict__" : Str))=false) (hnm:nm = "append") (hline:(apos.endLine==cpos.line)=true) (hp:aZ p=true) (h:SE T cf X x p) :
 SS T cf X (.app i x) (.Expr (.Call (.Attribute (.Name n px) nm apos) [p] [] cpos) pos):=λH₀ O₀=>by
 subst hnm
 refine PS.imp (λD' σ H hq=>?_) (lF (vB PySem.F.plainAttrs_list PySem.F.slot_list_append PySem.F.type_list_append Ao (dZ hN hv hd hc) (cY (h H₀ O₀) eV (bC hp)) rfl (by rw[bC hp];rfl) hline (bC hp) rfl) rfl)
 obtain⟨ts,e,out,⟨O,own,F,tt⟩,ev,k⟩:=hq
 rw[BS]at ev
 obtain⟨d,e1,ev⟩:=Res.bind_ok ev
 obtain⟨l,e2,ev⟩:=Res.bind_ok ev
 obtain⟨c,ev⟩:=aS ev
 cases ev
 obtain⟨q0,xs0,f1,f2,f3,f4,f5⟩:=F.mut i (Sl.own_ok e2)
 refine⟨.ref q0,dQ f1,.inl ⟨rfl,xs0,.of f2⟩,O,own,e,d,F,e1,λv H' s' r _=>?_⟩
 obtain⟨q1,xs1,g1,g2,g3,g4,g5⟩:=(F.grow s').mut i (Sl.own_ok e2)
 have eq:q1=q0:=by rw[f1]at g1;cases g1;rfl
 subst eq
 refine⟨q1,xs1,v,rfl,rfl,g2,by rw[g3.length,<-eY];exact of_decide_eq_true c,?_⟩
 exact k _ _ ⟨O,own,g5 _ _ (g3.append ⟨v,[],rfl,r,rfl⟩),λt ht=>((tt t ht).same s').upd g4 g2⟩
theorem ss_ext {i:Nat} {n nm:Str} {px apos cpos:Pos} (hN:X.N[i]?=some n) (hv:Vis X.env.scope n) (hd:(n==("__debug__" : Str))=false) (hc:(n==("__classdict__" : Str))=false) (hnm:nm = "extend") (hline:(apos.endLine==cpos.line)=true) (hp:aZ p=true) (h:SE T cf X x p) :
 SS T cf X (.ext i x) (.Expr (.Call (.Attribute (.Name n px) nm apos) [p] [] cpos) pos):=λH₀ O₀=>by
 subst hnm
 refine PS.imp (λD' σ H hq=>?_) (lF (vB PySem.F.plainAttrs_list PySem.F.slot_list_extend PySem.F.type_list_extend Ap (dZ hN hv hd hc) (cY (h H₀ O₀) eV (bC hp)) rfl (by rw[bC hp];rfl) hline (bC hp) rfl) rfl)
 obtain⟨ts,e,out,⟨O,own,F,tt⟩,ev,k⟩:=hq
 rw[vY]at ev
 obtain⟨d,e1,ev⟩:=Res.bind_ok ev
 split at ev
 ·obtain⟨l,e2,ev⟩:=Res.bind_ok ev
  obtain⟨c,ev⟩:=aS ev
  rw[aD]at c
  cases ev
  obtain⟨q0,xs0,f1,f2,f3,f4,f5⟩:=F.mut i (Sl.own_ok e2)
  refine⟨.ref q0,dQ f1,.inl ⟨rfl,xs0,.of f2⟩,O,own,e,_,F,e1,λv H' s' r nl=>?_⟩
  obtain⟨b,rfl,hb0,zs,hb1,hb2⟩:=nl c.1 rfl
  obtain⟨q1,xs1,g1,g2,g3,g4,g5⟩:=(F.grow s').mut i (Sl.own_ok e2)
  have eq:q1=q0:=by rw[f1]at g1;cases g1;rfl
  subst eq
  refine⟨q1,b,xs1,zs,rfl,rfl,g2,hb1,by rw[g3.length,hb2.length,<-eY];exact of_decide_eq_true c.2,?_⟩
  exact k _ _ ⟨O,own,g5 _ _ (g3.append (hb2.weak λ_ z=>.inl z)),λt ht=>((tt t ht).same s').upd g4 g2⟩
 ·cases ev
theorem RDs.set{K:PySem.W.Frag}{H:Hp}{O:Addr->Prop}{d:D}{v:V}(r:RD K H O d v):∀{ds:List D} {vs:List V} (n:Nat),RDs K H O ds vs->RDs K H O (ds.set n d) (vs.set n v)
 |[],_,n,h=>by rw[RDs]at h;subst h;exact rfl
 |d0::ds,vs,0,h=>by
  obtain⟨v0,q,rfl,h1,h2⟩:=h
  exact⟨v,q,rfl,r,h2⟩
 |d0::ds,vs,n+1,h=>by
  obtain⟨v0,q,rfl,h1,h2⟩:=h
  exact⟨v0,q.set n v,rfl,h1,RDs.set r n h2⟩
theorem Hv {i:Nat} {n:Str} {px tpos:Pos} (hN:X.N[i]?=some n) (hv:Vis X.env.scope n) (hd:(n==("__debug__" : Str))=false) (hc:(n==("__classdict__" : Str))=false) (hx:dG p=true) (hk:SE T cf X y q) (h:SE T cf X x p)
 (ha:∀v,assign (.Subscript (.Name n px) q tpos) X.env v=(do
  let ov<-holding [v] (eval (.Name n px) X.env)
  let iv<-holding [v,ov] (eval q X.env)
  standAt tpos
  holding [v,ov,iv] (setItem ov iv v)
  release [v,ov,iv] [])):SS T cf X (.lput i y x) (.Assign [.Subscript (.Name n px) q tpos] p pos):=λH₀ O₀=>by
 refine PS.imp (λD' σ H hq=>?_) (A2 (h H₀ O₀) (pg_sub (dZ hN hv hd hc) (hk H₀ O₀) Fj ha) (show swapsWith p (some (.Subscript (.Name n px) q tpos)) pos.line X.env=pure false from jM hx) (by cases p<;>rfl) rfl)
 obtain⟨ts,e,out,⟨O,own,F,tt⟩,ev,k⟩:=hq
 rw[BY]at ev
 obtain⟨d,e1,ev⟩:=Res.bind_ok ev
 obtain⟨l,e2,ev⟩:=Res.bind_ok ev
 obtain⟨dk,e3,ev⟩:=Res.bind_ok ev
 obtain⟨j,e4,ev⟩:=Res.bind_ok ev
 cases ev
 refine⟨O,own,e,d,F,e1,λv H1 s1 r1 _=>?_⟩
 obtain⟨q1,xs1,g1,g2,g3,g4,g5⟩:=(F.grow s1).mut i (Sl.own_ok e2)
 refine⟨.ref q1,dQ g1,O,own,e,dk,F.grow s1,e3,λvk H2 s2 r2 _=>?_⟩
 obtain⟨q2,xs2,f1,f2,f3,f4,f5⟩:=((F.grow s1).grow s2).mut i (Sl.own_ok e2)
 have eq:q2=q1:=by rw[g1]at f1;cases f1;rfl
 subst eq
 cases dk with
 |int kk=>
  cases (show vk=.int kk from r2)
  obtain⟨_,e5⟩:=aS (show aC (cT kk) (Res.of (Tr.ixN l.length kk))=.ok j from e4)
  have e6:=gC e5
  rw[<-f3.length]at e6
  refine⟨q2,xs2,kk,j,rfl,rfl,f2,by rw[<-Bz];exact e6,?_⟩
  exact k _ _ ⟨O,own,f5 _ _ (RDs.set (r1.same s2) j f3),λt ht=>(((tt t ht).same s1).same s2).upd f4 f2⟩
 |non=>cases e4
 |bl _=>cases e4
 |str _=>cases e4
 |tup _=>cases e4
 |lst _=>cases e4
 |dct _=>cases e4
 |tdc _=>cases e4
theorem ss_exp(hs:swapsWith p none pos.line X.env=pure false)(h:SE T cf X x p):SS T cf X (.exp x) (.Expr p pos):=λH₀ O₀=>by
 refine PS.imp (λD' σ H hq=>?_) (lF (h H₀ O₀) hs)
 obtain⟨ts,e,out,⟨O,own,F,tt⟩,ev,k⟩:=hq
 rw[jI]at ev
 obtain⟨d,e1,ev⟩:=Res.bind_ok ev
 cases ev
 exact⟨O,own,e,d,F,e1,λv H' s' r _=>k _ _ ⟨O,own,F.grow s',λt ht=>(tt t ht).same s'⟩⟩
end
section
variable{T:Tab}{cf:Nat->List D->Res D}{X:Cx}{x y z:E}{p q r tg:Expr}{pos pos':Pos}{es:List Expr}{a b c:S}{st:Stmt}{sts:List Stmt}
end
noncomputable def eB(cells:List (Str×Addr)):List (Str×NameKind)->List (Str×Addr)->List (Str×Addr)
 |[],cs=>cs
 |(n,k)::r,cs=>eB cells r (if(k==.free)=true then(match cells.lookup n with|some c=>(n,c)::cs|none=>cs)else cs)
theorem CV{env:Env}:∀(names:List (Str×NameKind))(cs:List (Str×Addr)),(∀x∈names,x.2=.free->∃c,env.cells.lookup x.1=some c) ->
 (forIn names cs (λ(x:Str×NameKind) (r:List (Str×Addr))=>(if(x.2==.free)=true then(do let c<-cellOf env x.1;pure (ForInStep.yield ((x.1,c)::r)))else pure (ForInStep.yield r):Sem _)))=pure (eB env.cells names cs)
 |[],cs,_=>rfl
 |(n,k)::r,cs,h=>by
  rw[List.forIn_cons]
  have ih:=CV (env:=env) r
  by_cases hk:(k==NameKind.free)=true
  ·have hk':k=.free:=by simpa using hk
   obtain⟨c,hc⟩:=h (n,k) (bR ..) hk'
   simp only at hc
   simp only[hk,if_true]
   unfold cellOf
   rw[hc]
   show(do let r<-(pure (ForInStep.yield ((n,c)::cs)):Sem _);_)=_
   rw[eB,if_pos hk,hc]
   exact ih _ λx hx=>h x (bG _ hx)
  ·simp only[hk,if_false,AE]
   rw[eB,if_neg hk]
   exact ih _ λx hx=>h x (bG _ hx)
theorem Hw{scope:Scope}{env:Env}(h:∀x∈scope.names,x.2=.free->∃c,env.cells.lookup x.1=some c):closureFor scope env=pure (eB env.cells scope.names []):=by
 have:=CV (env:=env) scope.names [] h
 unfold closureFor
 rw[<-this]
 first|rfl|simp
theorem CW{cells:List (Str×Addr)}:∀{names:List (Str×NameKind)} {cs:List (Str×Addr)} {n:Str} {c:Addr},(n,c)∈eB cells names cs->(n,c)∈cs\/((n,NameKind.free)∈names/\cells.lookup n=some c)
 |[],_,_,_,h=>.inl h
 |(m,k)::r,cs,n,c,h=>by
  rw[eB]at h
  rcases CW h with g|⟨h1,h2⟩
  ·clear h
   split at g
   ·rename_i hk
    have hk':k=.free:=by simpa using hk
    subst hk'
    split at g
    ·rename_i c' hc
     rcases aY.mp g with e|g
     ·cases e
      exact .inr ⟨bR ..,hc⟩
     ·exact .inl g
    ·exact .inl g
   ·exact .inl g
  ·exact .inr ⟨bG _ h1,h2⟩
theorem CY{cells:List (Str×Addr)}:∀{names:List (Str×NameKind)} {cs:List (Str×Addr)} {x:Str×Addr},x∈cs->x∈eB cells names cs
 |[],_,_,h=>h
 |(m,k)::r,cs,x,h=>by
  rw[eB]
  refine CY ?_
  split
  ·split
   ·exact bG _ h
   ·exact h
  ·exact h
theorem wX{cells:List (Str×Addr)}:∀{names:List (Str×NameKind)} {cs:List (Str×Addr)} {n:Str} {c:Addr},(n,NameKind.free)∈names->cells.lookup n=some c->(n,c)∈eB cells names cs
 |[],_,_,_,h,_=>by cases h
 |(m,k)::r,cs,n,c,h,hc=>by
  rw[eB]
  rcases aY.mp h with e|h
  ·cases e
   refine CY ?_
   rw[if_pos (by simp),hc]
   exact bR ..
  ·exact wX h hc
theorem CZ{l:List (Str×Addr)}{n:Str}{c:Addr}(h:(n,c)∈l):∃c',l.lookup n=some c':=by
 induction l with
 |nil=>cases h
 |cons x l ih=>
  obtain⟨m,d⟩:=x
  rw[lD]
  by_cases e:(n==m)=true
  ·rw[e];exact⟨d,rfl⟩
  ·have e':(n==m)=false:=by simpa using e
   rw[e']
   rcases aY.mp h with z|z
   ·cases z;simp at e
   ·exact ih z
theorem C0{env:Env}:∀{names:List (Str×NameKind)} {x:Str},(∀y∈names,y.2≠.cell) ->
 ((names.map λ(n,k)=>if(k==NameKind.free&&env.scope.kind==.function&&env.kindOf n==some .cell)then(n,NameKind.cell)else(n,k)).lookup x=some .cell \/
  (names.map λ(n,k)=>if(k==NameKind.free&&env.scope.kind==.function&&env.kindOf n==some .cell)then(n,NameKind.cell)else(n,k)).lookup x=some .free)->(x,NameKind.free)∈names
 |[],_,_,h=>by rcases h with h|h<;>cases h
 |(n,k)::r,x,hc,h=>by
  have hk:=hc (n,k) (bR ..)
  have ih:=@C0 env r x λy hy=>hc y (bG _ hy)
  rw[aK]at h
  dsimp only at h
  by_cases hx:(x==n)=true
  ·have hx':x=n:=by simpa using hx
   subst hx'
   refine aY.mpr (.inl ?_)
   by_cases z:(k==NameKind.free&&env.scope.kind==.function&&env.kindOf x==some .cell)=true
   ·have:k=.free:=by
     cases k<;>first|rfl|(exact absurd z (by simp))
    rw[this]
   ·rw[if_neg z]at h
    simp only[lD,beq_self_eq_true]at h
    rcases h with h|h
    ·cases h;exact absurd rfl hk
    ·cases h;rfl
  ·have hx':(x==n)=false:=by simpa using hx
   refine bG _ (ih ?_)
   by_cases z:(k==NameKind.free&&env.scope.kind==.function&&env.kindOf n==some .cell)=true
   ·rw[if_pos z]at h
    simpa only[lD,hx']using h
   ·rw[if_neg z]at h
    simpa only[lD,hx']using h
theorem C1{env:Env}:∀{names:List (Str×NameKind)} {x:Str},
 (names.map λ(n,k)=>if(k==NameKind.free&&env.scope.kind==.function&&env.kindOf n==some .cell)then(n,NameKind.cell)else(n,k)).lookup x=some .local->names.lookup x=some .local
 |[],_,h=>by cases h
 |(n,k)::r,x,h=>by
  have ih:=@C1 env r x
  rw[aK]at h
  dsimp only at h
  by_cases z:(k==NameKind.free&&env.scope.kind==.function&&env.kindOf n==some .cell)=true
  ·rw[if_pos z]at h
   by_cases hx:(x==n)=true
   ·simp only[lD,hx]at h;cases h
   ·have hx':(x==n)=false:=by simpa using hx
    simp only[lD,hx']at h⊢
    exact ih h
  ·rw[if_neg z]at h
   by_cases hx:(x==n)=true
   ·simp only[lD,hx]at h⊢;exact h
   ·have hx':(x==n)=false:=by simpa using hx
    simp only[lD,hx']at h⊢
    exact ih h
noncomputable def cxC(X:Cx)(scope:Scope)(C:Addr)(Nc:List Str)(s2:Shared)(H2:Hp)(fp:List Addr):Cx where
 prog:=X.prog
 w:=X.w
 K:=X.K
 mg:=X.mg
 base:=X.base
 A:=X.A
 N:=Nc
 s₀:=s2
 H₀:=H2
 env:=compEnvC scope (eB X.env.cells scope.names []) C X.env
 outer:=X.stack
 stack:=X.stack
 ex:=fp
 fn:=λn=>scope.names.lookup n==some .local
 calm:=X.calm
 pn:=[]
 xe:=λ_ _=>False
set_option genInjectivity false in
structure ScopeC(X:Cx)(scope:Scope):Prop where
 kind:scope.kind=.function
 cell:∀y∈scope.names,y.2≠.cell
 names:∀x∈scope.names,x.2=.local->scope.names.lookup x.1=some .local
 nd:∀x∈scope.names,x.2=.free->scope.names.lookup x.1≠some .local
 free:∀x∈scope.names,x.2=.free->X.env.kindOf x.1=some .cell\/X.env.kindOf x.1=some .free
section
variable{X:Cx}{scope:Scope}{C:Addr}{Nc:List Str}{s2:Shared}{H2:Hp}{fp:List Addr}{pins:List (Addr×Obj)}{σ:L2.St}
theorem iN{x:Str}{c:Addr}(h:(eB X.env.cells scope.names []).lookup x=some c):(x,NameKind.free)∈scope.names/\X.env.cells.lookup x=some c:=by
 rcases CW (PySem.mem_of_lookup h)with z|z
 ·cases z
 ·exact z
theorem ScopeC.cells(S:ScopeC X scope)(ok:X.Ok):∀x∈scope.names,x.2=.free->∃c,X.env.cells.lookup x.1=some c:=λx hx hf=>ok.has x.1 (S.free x hx hf)
theorem cxC_ok(I:Inv X pins σ H2 s2)(S:ScopeC X scope)(hfp:∀b∈fp,fU X pins H2 b)(hfo:∀b∈fp,b<s2.heap.objs.size)(hC:s2.heap.objs.size<=C):(cxC X scope C Nc s2 H2 fp).Ok where
 mod:=I.ok.mod
 kind:=S.kind
 glob:=I.ok.glob
 blt:=I.ok.blt
 above:=hC
 inj:=λx y c h1 h2=>I.ok.inj x y c (iN h1).2 (iN h2).2
 has:=λx h=>by
  have hf:=C0 (env:=X.env) S.cell h
  obtain⟨c,hc⟩:=S.cells I.ok (x,.free) hf rfl
  exact CZ (wX hf hc)
 cab:=λx c h1 h2=>by
  have h1':scope.names.lookup x=some .local:=by simpa[cxC]using h1
  exact absurd h1' (S.nd (x,.free) (iN h2).1 rfl)
 hd:=I.ok.hd
 frames:=I.ok.frames
 stk:=.inl rfl
 exf:=λb hb=>⟨bM (cR (hfo b hb) hC),λx c h=>(hfp b hb).2.2.2.2.1 x c (iN h).2⟩
 bs:=I.bs
 bsz:=cD I.ok.bsz I.sz
 noex:=λb o e hb=>by
  rcases(hfp b hb).2.2.2.1 with z|z
  ·exact I.ok.noex b o e z
  ·exact absurd (cR (Heap.lt_size e) (cD I.ok.bsz z)) (jS _)
 exfs:=λb hb z=>by
  rcases aY.mp (I.stkSub b z)with z|z
  ·exact(hfp b hb).2.1 z
  ·exact(hfp b hb).2.2.1 z
 funs:=I.stack
 frf:=I.stkFree
noncomputable def stC(own:Nat)(caps:List Nat)(σ:L2.St):L2.St:=aO own none++caps.map λi=>bW σ i
set_option genInjectivity false in
structure CapsOk(X:Cx)(scope:Scope)(own:Nat)(caps:List Nat)(Nc:List Str):Prop where
 len:Nc.length=own+caps.length
 nd:caps.Nodup
 cap:∀j i,caps[j]?=some i->∃n,X.N[i]?=some n/\Nc[own+j]?=some n/\(n,NameKind.free)∈scope.names
theorem Hx{own:Nat}{caps:List Nat}{j:Nat}{v:V}(h:(stC own caps σ)[j]?=some (some v)):∃k i,j=own+k/\caps[k]?=some i/\bW σ i=some v:=by
 unfold stC at h
 by_cases hj:j<own
 ·rw[mP (by rw[dY];exact hj),mO,if_pos hj]at h
  cases h
 ·rw[gL (by rw[dY];lia),dY,bO]at h
  cases e:caps[j-own]? with
  |none=>rw[e]at h;cases h
  |some i=>
   rw[e]at h
   exact⟨j-own,i,by lia,e,eM.inj h⟩
theorem vis_of(I:Inv X pins σ H2 s2)(S:ScopeC X scope){n:Str}(h:(n,NameKind.free)∈scope.names):Vis X.env.scope n:=by
 rcases S.free _ h rfl with z|z
 ·exact .inr (.inl z)
 ·exact .inr (.inr z)
theorem invC{own:Nat}{caps:List Nat}{h1:Heap}{t1:Nat}(I:Inv X pins σ H2 s2)(S:ScopeC X scope)(P:CapsOk X scope own caps Nc)(ok:(cxC X scope C Nc s2 H2 fp).Ok)
 (keep:∀b o,s2.heap.get? b=some o->h1.get? b=some o) (hC:s2.heap.objs.size<C) (ns:h1.Ns C λ_=>none) (acc:h1.get? s2.heap.objs.size=some {cls:=.type "list", data:=.seq #[] }) :
 Inv (cxC X scope C Nc s2 H2 fp) [] (stC own caps σ) (upd H2 s2.heap.objs.size (.lst [])) {s2 with heap:=h1,toks:=t1}:=by
 have fr:H2 s2.heap.objs.size=none:=I.hok.fresh (aQ _)
 have cellK:∀x c v,X.env.cells.lookup x=some c->s2.heap.IsCell c v->h1.IsCell c v:=λx c v _ ⟨o,ho,hd⟩=>⟨o,keep c o ho,hd⟩
 refine⟨ok,rfl,I.bare,Un.laid keep (aQ _) fr,⟨_,ns,λi x v e1 e2 e3=>?_⟩,λx c h=>?_,?_,λx c h=>?_,λp hp=>absurd hp (by simp[cxC]),I.hok.laid keep (aQ _) ?_,?_⟩
 ·obtain⟨k,i',rfl,hk,hv⟩:=Hx e2
  obtain⟨n,hn1,hn2,hn3⟩:=P.cap k i' hk
  have e1':Nc[own+k]?=some x:=e1
  rw[hn2]at e1';cases e1'
  obtain⟨m,hm,hl⟩:=I.loc
  obtain⟨u,ru,lk⟩:=hl i' _ v hn1 (dQ hv) (vis_of I S hn3)
  refine⟨u,ru,?_⟩
  rcases lk with⟨kl,_⟩|⟨_,c,hc,hcell⟩
  ·rcases S.free _ hn3 rfl with z|z
   ·rw[kl]at z;cases z
   ·rw[kl]at z;cases z
  ·refine .inr ⟨?_,?_⟩
   ·rcases e3 with z|z
    ·exact absurd (C1 (env:=X.env) z) (S.nd _ hn3 rfl)
    ·exact z
   ·obtain⟨c',hc'⟩:=CZ (wX (cs:=[]) hn3 hc)
    have:=(iN hc').2
    rw[hc]at this;cases this
    exact⟨c,hc',cellK _ c _ hc hcell⟩
 ·obtain⟨v,z⟩:=I.cell x c (iN h).2
  exact⟨v,cellK x c v (iN h).2 z⟩
 ·show upd H2 s2.heap.objs.size (.lst []) C=none
  rw[aG (mL hC)]
  exact I.hok.fresh (jT hC)
 ·obtain⟨v,z⟩:=I.cell x c (iN h).2
  rw[aG (bM z.lt)]
  exact I.freeC x c (iN h).2
 ·exact⟨jW _,[],0,.nil,acc⟩
 ·show(stC own caps σ).length=Nc.length
  unfold stC
  rw[cE,dY,aE,P.len]
theorem Un.but{fs ex:List Addr}{H H':Hp}{h h1 h2:Heap}{C:Addr}(u:Un fs ex H H' h h1)(hC:h.objs.size<=C)(s:Heap.SameBut C h1 h2):Un fs ex H H' h h2 where
 keep:=λb o e n hb hx=>(s.2 b (bM (cR (Heap.lt_size e) hC))).trans (u.keep b o e n hb hx)
 slot:=λb o e n hb hx=>let ⟨sl,q⟩:=u.slot b o e n hb hx;⟨sl,(s.2 b (bM (cR (Heap.lt_size e) hC))).trans q⟩
 free:=u.free
 there:=λb o e hx=>let ⟨o',q⟩:=u.there b o e hx;⟨o',(s.2 b (bM (cR (Heap.lt_size e) hC))).trans q⟩
 tups:=u.tups
 frzs:=u.frzs
 tbls:=u.tbls
theorem HOk.but{P:Program}{w:World}{H:Hp}{h1 h2:Heap}{C:Addr}(x:HOk P w H h1)(hC:H C=none)(s:Heap.SameBut C h1 h2):HOk P w H h2:=λb ob e=>by
 refine(x b ob e).stay (λc w' hc q=>(s.2 c ?_).trans q) (λ_ q=>q) λ_ _ q=>q
 rintro rfl
 rcases hc with rfl|hc
 ·rw[hC]at e;cases e
 ·rw[hC]at hc;cases hc
theorem outC{σi:L2.St}{Hi:Hp}{s':Shared}{h':Heap}(I:Inv X pins σ H2 s2)(Ic:Inv (cxC X scope C Nc s2 H2 fp) [] σi Hi s')(hfp:∀b∈fp,fU X pins H2 b)(hC:s2.heap.objs.size<=C)(sb:Heap.SameBut C s'.heap h'):Inv X pins σ Hi {s' with heap:=h' }:=by
 refine I.call' (s':={s' with heap:=h' }) (ch:=fp) Ic.os ?_ ?_ Ic.bare λb hb=>?_
 ·exact Un.but (show Un (frs X.stack) fp H2 Hi s2.heap s'.heap from Ic.base) hC sb
 ·exact HOk.but (show HOk X.prog X.w Hi s'.heap from Ic.hok) (show Hi C=none from Ic.free) sb
 ·obtain⟨_,a1,_,a3,a4,a5⟩:=hfp b hb
  exact⟨a3,a1,a4,a5⟩
end
section
variable{prog:Program}{w:World}{A:Around}{R:Result->Shared->Prop}{s:Shared}
theorem Hy{elt target iter:Expr}{ifs:List Expr}{scope:Scope}{pos:Pos}{it acc:Value}{env:Env}(I:Nat->Shared->Prop)
 (turn:∀n s,I n s->wpAny (model prog w) A (pyNext it) (λr s₁=>match r with
  |none=>R (.ok .next) s₁
  |some v=>wpAny (model prog w) A (letOwnedTupleGo target it v) (λ_ s₀=>wpAny (model prog w) A (assign target env v) (λ_ s₂=>
   wpAny (model prog w) A (forIn ifs true λc r=>if r=true then do let ok<-isTrue c env (eval c env);pure (ForInStep.yield ok)else pure (ForInStep.yield r)) (λok s₃=>
    if ok=true then wpAny (model prog w) A (eval elt env) (λx s₄=>
     wpAny (model prog w) A (call (.builtin "list.append") [acc,x]) (λ_ s₅=>∃m,m<n/\I m s₅) (λ_ _=>False) s₄) (λ_ _=>False) s₃
    else ∃m,m<n/\I m s₃) (λ_ _=>False) s₂) (λ_ _=>False) s₀) (λ_ _=>False) s₁) (λ_ _=>False) s)
 (n:Nat) (h:I n s) :
 codeAny (model prog w) A (.compLoop (.ListComp elt [⟨target,iter,ifs,0⟩] scope pos) 0 it acc env) R s:=by
 refine codeAny_loop rfl I (λn s hI=>?_) n h
 show wpAny _ A ((compTurn (.ListComp elt [⟨target,iter,ifs,0⟩] scope pos) 0 it acc env).onRaise (λx=>do noteFrame x env;theTreesLotGoes x)) _ _ s
 refine wpAny_noted ?_
 rw[compTurn_list]
 refine wpAny_bind (wpAny_standAt (wpAny_bind (wpAny_mono (turn n s hI) (λr s₁ h₁=>?_) λ_ _ h'=>h'.elim)))
 cases r with
 |none=>exact wpAny_pure h₁
 |some v=>
  refine wpAny_bind (wpAny_mono h₁ (λ_ s₀ h₀=>?_) λ_ _ h'=>h'.elim)
  refine wpAny_bind (wpAny_mono h₀ (λ_ s₂ h₂=>wpAny_bind (wpAny_mono h₂ (λok s₃ h₃=>?_) λ_ _ h'=>h'.elim)) λ_ _ h'=>h'.elim)
  cases ok with
  |false=>exact wpAny_pure ⟨rfl,h₃⟩
  |true=>
   exact wpAny_bind (wpAny_bind (wpAny_mono h₃ (λx s₄ h₄=>wpAny_bind (wpAny_mono h₄ (λ_ s₅ h₅=>wpAny_pure (wpAny_pure ⟨rfl,h₅⟩)) λ_ _ h'=>h'.elim)) λ_ _ h'=>h'.elim))
end
section
variable{K:PySem.W.Frag}{H₀ H H':Hp}{O₀ O O':Addr->Prop}{own:Nat->Option Addr}{e e':Nv}{σ:L2.St}
theorem Fm.updO(F:Fm K H₀ O₀ H O own e σ){p:Addr}{ys zs:List V}(hO:O p)(hp:H p=some (.lst ys))(h0:H₀ p=none)(hn:∀j,own j≠some p):Fm K H₀ O₀ (upd H p (.lst zs)) O own e σ where
 len:=F.len
 sl:=λj=>RS.map (λq=>q.upd hO hp) (λq=>q.upd hO hp) (λq=>q.updM hO hp trivial) (λq=>q.updM hO hp trivial) (λa ys ea _ q=>by
  have:a≠p:=λz=>hn j (z▸ea)
  rw[aG this];exact q) (F.sl j) (qQ hO) (dP (K:=K) hO hp trivial).1
 inj:=F.inj
 same:=λb o hb=>by rw[aG (λz=>by rw[z,h0]at hb;cases hb)];exact F.same b o hb
 sub:=F.sub
 trk0:=F.trk0
 trk:=λa ha=>by
  by_cases h:a=p
  ·subst h;exact⟨_,bQ⟩
  ·obtain⟨ys,q⟩:=F.trk a ha
   exact⟨ys,by rw[aG h];exact q⟩
 new:=F.new
 nw:=F.nw
theorem Fm.back(F:Fm K H₀ O₀ H O own e σ)(hl:e'.length=e.length)(h:∀j,e'.at j=.no\/e'.at j=e.at j):Fm K H₀ O₀ H O own e' σ where
 len:=hl.trans F.len
 sl:=λj=>by
  rcases h j with z|z
  ·rw[z];trivial
  ·rw[z];exact F.sl j
 inj:=F.inj
 same:=F.same
 sub:=F.sub
 trk0:=F.trk0
 trk:=F.trk
 new:=F.new
 nw:=λj d a h1 h2=>by
  rcases h j with z|z
  ·rw[z]at h1;cases h1
  ·rw[z]at h1;exact F.nw j d a h1 h2
theorem wY{n:Nat}{caps:List Nat}{e:Nv}(j:Nat):(aU n caps e).at j=.no\/∃k i,j=n+k/\caps[k]?=some i/\(aU n caps e).at j=e.at i:=by
 unfold aU
 by_cases hj:j<n
 ·left
  unfold Nv.at
  rw[mP (by rw[dY];exact hj),mO,if_pos hj];rfl
 ·cases q:caps[j-n]? with
  |none=>
   left
   unfold Nv.at
   rw[gL (by rw[dY];lia),dY,bO,q];rfl
  |some i=>
   right
   refine⟨j-n,i,by lia,q,?_⟩
   show(((aO n Sl.no++caps.map λi=>e.at i))[j]?).getD .no=_
   rw[gL (by rw[dY];lia),dY,bO,q];rfl
theorem Hz{l:List Nat}(h:l.Nodup){j k i:Nat}(h1:l[j]?=some i)(h2:l[k]?=some i):j=k:=by
 obtain⟨a,e1⟩:=eT.mp h1
 obtain⟨b,e2⟩:=eT.mp h2
 exact(LO h).mp (e1.trans e2.symm)
theorem Fm.comp(F:Fm K H₀ O₀ H O own e σ)(n:Nat){caps:List Nat}(hc:caps.Nodup){p:Addr}(hp:H p=none){xs:List V} :
 ∃own',Fm K H₀ O₀ (upd H p (.lst xs)) (cU O p) own' (aU n caps e) (stC n caps σ)/\∀j,own' j≠some p:=by
 have np:∀j,own j≠some p:=λj q=>by
  obtain⟨ys,w⟩:=F.trk p (F.new j p q).1
  rw[hp]at w;cases w
 have sm:=bZ hp (.lst xs)
 refine⟨λj=>if j<n then none else(caps[j-n]?).bind own,⟨?_,λj=>?_,λj k a h1 h2=>?_,F.same.trans sm,λa h=>.inl (F.sub a h),F.trk0,λa h=>?_,λj a h1=>?_,λj d a h1 h2=>?_⟩,λj h1=>?_⟩
 ·unfold aU stC
  simp
 ·rcases wY (n:=n) (caps:=caps) (e:=e) j with z|⟨k,i,rfl,hk,z⟩
  ·rw[z];trivial
  ·rw[z,if_neg (by lia),show n+k-n=k by lia,hk]
   have e1:bW (stC n caps σ) (n+k)=bW σ i:=by
    unfold stC
    unfold bW
    rw[gL (by rw[dY];lia),dY,bO,show n+k-n=k by lia,hk]
    rfl
   rw[e1]
   exact RS.map (λq=>(q.new hp).same sm) (λq=>(q.new hp).same sm) (λq=>(q.new hp).same sm) (λq=>(q.new hp).same sm) (λa ys _ _ q=>sm _ _ q) (F.sl i) (Bk hp sm)
 ·by_cases hj:j<n
  ·rw[if_pos hj]at h1;cases h1
  ·by_cases hk:k<n
   ·rw[if_pos hk]at h2;cases h2
   ·rw[if_neg hj]at h1
    rw[if_neg hk]at h2
    cases q1:caps[j-n]? with
    |none=>rw[q1]at h1;cases h1
    |some i1=>
     cases q2:caps[k-n]? with
     |none=>rw[q2]at h2;cases h2
     |some i2=>
      rw[q1]at h1
      rw[q2]at h2
      have:=F.inj i1 i2 a h1 h2
      subst this
      have:=Hz hc q1 q2
      lia
 ·rcases h with h|h
  ·obtain⟨ys,q⟩:=F.trk a h
   exact⟨ys,sm _ _ q⟩
  ·subst h;exact⟨_,bQ⟩
 ·by_cases hj:j<n
  ·rw[if_pos hj]at h1;cases h1
  ·rw[if_neg hj]at h1
   cases q1:caps[j-n]? with
   |none=>rw[q1]at h1;cases h1
   |some i1=>
    rw[q1]at h1
    exact⟨.inl (F.new i1 a h1).1,(F.new i1 a h1).2⟩
 ·rcases wY (n:=n) (caps:=caps) (e:=e) j with z|⟨k,i,rfl,hk,z⟩
  ·rw[z]at h1;cases h1
  ·rw[z]at h1
   refine F.nw i d a h1 ?_
   rw[<-h2]
   unfold stC
   unfold bW
   rw[gL (by rw[dY];lia),dY,bO,show n+k-n=k by lia,hk]
   rfl
 ·dsimp only at h1
  by_cases hj:j<n
  ·rw[if_pos hj]at h1;cases h1
  ·rw[if_neg hj]at h1
   cases q1:caps[j-n]? with
   |none=>rw[q1]at h1;cases h1
   |some i1=>
    rw[q1]at h1
    exact np i1 h1
noncomputable def G.below(n:Nat):G->Bool
 |.one i=>decide (i<n)
 |.many is=>is.all λi=>decide (i<n)
theorem C2{n:Nat}:∀{is:List Nat} {ds:List D} {e e':Nv},(is.all λi=>decide (i<n))=true->cO is ds e=.ok e'->e'.length=e.length/\∀j,n<=j->e'.at j=e.at j
 |[],[],e,e',_,h=>by rw[cO]at h;cases h;exact⟨rfl,λ_ _=>rfl⟩
 |[],_::_,_,_,_,h=>by simp only[cO]at h;cases h
 |_::_,[],_,_,_,h=>by simp only[cO]at h;cases h
 |i::is,d::ds,e,e',hb,h=>by
  rw[cO]at h
  rw[lC,aD]at hb
  obtain⟨h1,h2⟩:=C2 hb.2 h
  have hi:=of_decide_eq_true hb.1
  exact⟨by rw[h1,cI],λj hj=>by rw[h2 j hj,eX (by lia)]⟩
theorem IA{n:Nat}{g:G}{d:D}{e e':Nv}(hb:g.below n=true)(h:g.put d e=.ok e'):e'.length=e.length/\∀j,n<=j->e'.at j=e.at j:=by
 cases g with
 |one i=>
  have h:Res.ok (e.set i (.v d))=.ok e':=h
  cases h
  have hi:i<n:=of_decide_eq_true hb
  exact⟨cI,λj hj=>eX (by lia)⟩
 |many is=>
  cases d with
  |tup ds=>exact C2 hb h
  |non=>cases h
  |bl _=>cases h
  |int _=>cases h
  |str _=>cases h
  |lst _=>cases h
  |dct _=>cases h
  |tdc _=>cases h
end
section
variable{T:Tab}{cf:Nat->List D->Res D}{X:Cx}{x y z:E}{p q r tg iter:Expr}{pos:Pos}
noncomputable def Src(K:PySem.W.Frag)(H:Hp)(O:Addr->Prop)(p:Addr)(d:D)(v:V):Prop:=RD K H O d v\/∃a,v=.ref a/\a≠p/\OwnAt K H O a d
theorem Src.rr{K:PySem.W.Frag}{H:Hp}{O:Addr->Prop}{p:Addr}{d:D}{v:V}(h:Src K H O p d v):RR K H O d v:=by
 rcases h with z|⟨al,z1,z2,z3⟩
 ·exact .inl z
 ·exact .inr ⟨al,z1,z3⟩
theorem Src.same{K:PySem.W.Frag}{H H':Hp}{O:Addr->Prop}{p:Addr}{d:D}{v:V}(h:Src K H O p d v)(s:Same H H'):Src K H' O p d v:=by
 rcases h with z|⟨al,z1,z2,z3⟩
 ·exact .inl (z.same s)
 ·exact .inr ⟨al,z1,z2,z3.same s⟩
theorem Src.upd{K:PySem.W.Frag}{H:Hp}{O:Addr->Prop}{p:Addr}{d:D}{v:V}{ys zs:List V}(h:Src K H O p d v)(hO:O p)(hp:H p=some (.lst ys)):Src K (L2.upd H p (.lst zs)) O p d v:=by
 rcases h with z|⟨al,z1,z2,z3⟩
 ·exact .inl (z.upd hO hp)
 ·exact .inr ⟨al,z1,z2,z3.updM hO hp trivial z2⟩
noncomputable def PinS(K:PySem.W.Frag)(H:Hp)(O:Addr->Prop)(p:Addr):Pin->Prop
 |.dv d v=>Src K H O p d v
 |.fr a o u=>H a=some (.frz o u)
theorem PinS.rr{K:PySem.W.Frag}{H:Hp}{O:Addr->Prop}{p:Addr}{t:Pin}(h:PinS K H O p t):lN K H O t:=by
 cases t with
 |dv d v=>exact Src.rr h
 |fr a o u=>exact h
theorem PinS.same{K:PySem.W.Frag}{H H':Hp}{O:Addr->Prop}{p:Addr}{t:Pin}(h:PinS K H O p t)(s:Same H H'):PinS K H' O p t:=by
 cases t with
 |dv d v=>exact Src.same h s
 |fr a o u=>exact s _ _ h
theorem PinS.upd{K:PySem.W.Frag}{H:Hp}{O:Addr->Prop}{p:Addr}{t:Pin}{ys zs:List V}(h:PinS K H O p t)(hO:O p)(hp:H p=some (.lst ys)):PinS K (L2.upd H p (.lst zs)) O p t:=by
 cases t with
 |dv d v=>exact Src.upd h hO hp
 |fr a o u=>
  have h:H a=some (.frz o u):=h
  show L2.upd H p (.lst zs) a=some (.frz o u)
  rw[aG (pU h hp (by intro z;cases z))];exact h
noncomputable def oC(ifs:List Expr)(cond:E)(P:Expr->Prop):Prop:=(ifs=[]/\cond=.con (.bl true))\/∃c,ifs=[c]/\P c
theorem C3{n:Nat}{caps:List Nat}{g:G}{elt src cond:E}{pe:Expr}{ifs:List Expr}{scope:Scope}{Nc:List Str}(hc:X.calm=true)(S:ScopeC X scope)(P:CapsOk X scope n caps Nc)(hb:g.below n=true)
 (hplain:aZ iter=true) (hsrc:SI T cf X tg src true iter)
 (body:∀C s2 H2 fp,(cxC X scope C Nc s2 H2 fp).Ok->SG (cxC X scope C Nc s2 H2 fp) g tg/\SE T cf (cxC X scope C Nc s2 H2 fp) elt pe/\oC ifs cond (ST T cf (cxC X scope C Nc s2 H2 fp) cond))
 {use:Option (Value->Sem Unit)} {H₀:Hp} {O₀:Addr->Prop} {pins:List (Addr×Obj)} {s:Shared} {σ:L2.St} {H:Hp} {O:Addr->Prop} {own:Nat->Option Addr} {e:Nv} {d:D} {Q:Value->Shared->Prop} (I:Inv X pins σ H s) (F:Fm X.K H₀ O₀ H O own e σ)
 (ev:evE T cf (.comp n caps g elt src cond) e=.ok d)
 (fin:∀C s2 H2 Hi s' a,Inv X pins σ H2 s2->Same H H2->s2.heap.objs.size<C->(∀h',Heap.SameBut C s'.heap h'->Inv X pins σ Hi {s' with heap:=h' })->(∃m,s'.heap.Ns C m)->Hi C=none->Same H Hi->Fm X.K H₀ O₀ Hi O own e σ->RD X.K Hi O d (.ref a)->NewL X.K H Hi O d (.ref a)->a≠C ->
  compPost (model X.prog X.w) X.A X.xe use Q (.ref a) C (.ok .next) s') :
 wpAny (model X.prog X.w) X.A (comprehension (.ListComp pe [⟨tg,iter,ifs,0⟩] scope pos) scope X.env (firstIterPos [⟨tg,iter,ifs,0⟩] pos) (newList []) false (eval iter X.env) use) Q X.xe s:=by
 (first|rw[vU]at ev|rw[nH]at ev|rw[BM]at ev)
 obtain⟨ds,e1,ev⟩:=Res.bind_ok ev
 obtain⟨ys,e2,ev⟩:=Res.bind_ok ev
 obtain⟨cz,ev⟩:=aS ev
 cases ev
 have hz:=of_decide_eq_true cz
 refine wpAny_comprehension_free rfl (wR hplain) (Hw (S.cells I.ok)) S.kind S.names ?_
 refine thn (hsrc H₀ O₀ pins s σ H (λJ H2=>∃srs,Same H H2/\(∀t∈srs,lN X.K H2 O t)/\Wk X.K J srs ds) I ⟨O,own,e,ds,F,e1,λJ H' srs s' rr _ wk=>⟨srs,s',rr,wk⟩⟩) λv s1 h1=>thn h1 λitv s2 h2=>?_
 obtain⟨it,fp,tn,J,H2,rfl,I2,Tn,tn0,hfp,srs,s12,rr0,wk⟩:=h2
 refine wpAny_newObj_type (wpAny_newFunctionEnv S.cell (by intro y hy;simp at hy) (λh₁ hns₁ hsb₁=>?_) S.kind)
 dsimp only at hns₁ hsb₁⊢
 generalize hH2:s2.heap.push {cls:=.type "list", dict:=none,data:=.seq ([]:List Value).toArray}=HP at hns₁ hsb₁⊢
 have hC:HP.objs.size=s2.heap.objs.size+1:=by rw[<-hH2,Heap.size_push]
 have hCl:s2.heap.objs.size<HP.objs.size:=by rw[hC];exact L3 _
 have below:∀b,b<s2.heap.objs.size->b≠HP.objs.size:=λb hb=>by rw[hC];exact bM (AH hb)
 have old:∀b o,s2.heap.get? b=some o->h₁.get? b=some o:=λb o e=>hsb₁.extBut b o (below b (Heap.lt_size e)) (Heap.get?_push_of_some _ (hH2▸Heap.get?_push_of_some _ e))
 have hacc:h₁.get? s2.heap.objs.size=some {cls:=.type "list", data:=.seq #[] }:=hsb₁.extBut _ _ (bM hCl) (Heap.get?_push_of_some _ (hH2▸Heap.get?_push_size _ rfl))
 have hfo:∀b∈fp,b<s2.heap.objs.size:=λb hb=>let ⟨o,q,_⟩:=Tn.obj 0 _ tn0 b hb;Heap.lt_size q
 have ok:=cxC_ok (Nc:=Nc) I2 S hfp hfo (jT hCl)
 have fr:H2 s2.heap.objs.size=none:=I2.hok.fresh (aQ _)
 have F2:=F.grow s12
 obtain⟨ownc,Fc,nown⟩:=F2.comp n (caps:=caps) P.nd fr (xs:=[])
 obtain⟨bg,be,bt⟩:=body HP.objs.size s2 H2 fp ok
 have I0:=invC (t1:=s2.toks+([]:List (Str×Value)).length) (fp:=fp) I2 S P ok old hCl (by simpa using hns₁) hacc
 have fpn:∀{Hi:Hp} {pins':List (Addr×Obj)},(∀b∈fp,Hi b=none)->(∀b∈fp,∀p∈pins',p.1≠b)->∀b∈fp,fU (cxC X scope HP.objs.size Nc s2 H2 fp) pins' Hi b:=λhn hpp b hb=>by
  refine⟨hn b hb,(ok.exf b hb).1,ok.exfs b hb,.inl hb,(ok.exf b hb).2,λp hp=>hpp b hb p (by simpa[cxC]using hp)⟩
 let f : D → Res (Option D) := fun d => do
     let e1<-g.put d (aU n caps e)
     let c<-evE T cf cond e1
     let k<-c.truth
     if k then do let y<-evE T cf elt e1;.ok (some y)else .ok none
 have loop:∀s₃:Shared,s₃={s2 with heap:=h₁,toks:=s2.toks+([]:List (Str×Value)).length} ->
  codeAny (model X.prog X.w) X.A (.compLoop (.ListComp pe [⟨tg,iter,ifs,0⟩] scope pos) 0 (.ref it) (.ref s2.heap.objs.size) (compEnvC scope (eB X.env.cells scope.names []) HP.objs.size X.env))
   (compPost (model X.prog X.w) X.A X.xe use Q (.ref s2.heap.objs.size) HP.objs.size) s₃:=by
  rintro s₃ rfl
  refine Hy (λk s'=>∃i σi Hi own' as bs,k=ds.length+1-i/\i<=ds.length/\Inv (cxC X scope HP.objs.size Nc s2 H2 fp) [] σi Hi s'/\tn i s'.heap/\(∀b∈fp,Hi b=none)/\Same H2 Hi /\
   Fm X.K H₀ O₀ Hi (cU O s2.heap.objs.size) own' (aU n caps e) σi/\(∀j,own' j≠some s2.heap.objs.size)/\aT f (ds.drop i)=.ok bs/\ys=as++bs/\as.length<=i /\
   (∃xs,Hi s2.heap.objs.size=some (.lst xs)/\RDs X.K Hi (cU O s2.heap.objs.size) as xs)/\∀t∈srs,PinS X.K Hi (cU O s2.heap.objs.size) s2.heap.objs.size t) ?_ (ds.length+1) ?_
  ·rintro k s' ⟨i,σi,Hi,own',as,bs,rfl,hi,Ii,tni,fri,smi,Fi,noi,evd,rfl,hal,⟨xs,hx,wx⟩,rri⟩
   have stat:∀b∈fp,fU (cxC X scope HP.objs.size Nc s2 H2 fp) [] Hi b:=fpn fri (λb _ p hp=>by cases hp)
   obtain⟨w1,w2,w3⟩:=wk i Hi (cU O s2.heap.objs.size) λt ht=>(rri t ht).rr
   by_cases hlt:i<ds.length
   ·refine thn (Tn.item (cxC X scope HP.objs.size Nc s2 H2 fp) rfl rfl rfl hc i [] s' σi Hi (λ_ _=>False) Ii stat tni (w1 hlt)) λr s4 ⟨u,hr,h4⟩=>?_
    subst hr
    refine thn h4 λ_ s5 ⟨v,H5,I5,r5,y5,tn5,fr5⟩=>?_
    obtain⟨s35,rv⟩:=w3 v H5 _ (bD hlt) y5
    have I5':=I5.pinned (fpn fr5 (λb _ p hp=>by cases hp)) (Tn.obj _ _ tn5)
    rw[AD hlt,aT]at evd
    obtain⟨o,ef,evd⟩:=Res.bind_ok evd
    obtain⟨b',eb,evd⟩:=Res.bind_ok evd
    obtain⟨e3,ep,ef⟩:=Res.bind_ok ef
    obtain⟨dc,ec,ef⟩:=Res.bind_ok ef
    obtain⟨kc,et,ef⟩:=Res.bind_ok ef
    have F5:=Fi.grow s35
    refine thn (bg H₀ O₀ _ s5 σi H5 v u (λσ' H'=>H'=H5/\∃own'',Fm X.K H₀ O₀ H5 (cU O s2.heap.objs.size) own'' e3 σ'/\∀j,own'' j≠some s2.heap.objs.size) I5' r5 ⟨_,own',_,_,e3,F5,rv,ep,λσ' own'' hle F'=>⟨rfl,own'',F',λj q=>noi j (hle j _ q)⟩⟩) λ_ s6 ⟨σ6,H6,I6,q6⟩=>?_
    obtain⟨rfl,own6,F6,no6⟩:=q6
    have tests:wpAny (model X.prog X.w) X.A (forIn ifs true λc r=>if r=true then do let ok<-isTrue c (compEnvC scope (eB X.env.cells scope.names []) HP.objs.size X.env) (eval c (compEnvC scope (eB X.env.cells scope.names []) HP.objs.size X.env));pure (ForInStep.yield ok)else pure (ForInStep.yield r))
     (λok s7=>ok=kc/\∃H7,Inv (cxC X scope HP.objs.size Nc s2 H2 fp) ([]++lG fp s5.heap) σ6 H7 s7/\Same H6 H7) (λ_ _=>False) s6:=by
     rcases bt with⟨hi0,hc0⟩|⟨c0,hi0,st0⟩
     ·subst hi0 hc0
      (first|rw[vU]at ec|rw[nH]at ec|rw[BM]at ec);cases ec;cases et
      exact wpAny_tests_nil ⟨rfl,H6,I6,Same.refl _⟩
     ·subst hi0
      refine wpAny_tests_one (thn (st0 H₀ O₀ _ s6 σ6 H6 (λb H'=>b=kc/\Same H6 H') I6 ⟨_,own6,e3,dc,kc,F6,ec,et,λH' s=>⟨rfl,s⟩⟩) λb s7 ⟨H7,I7,q1,q2⟩=>⟨q1,H7,I7,q2⟩)
    refine thn tests λok s7 ⟨hok,H7,I7,s57⟩=>?_
    subst hok
    have F7:=F6.grow s57
    obtain⟨pl1,pl2⟩:=IA hb ep
    have bk:∀j,(aU n caps e).at j=.no\/(aU n caps e).at j=e3.at j:=λj=>by
     by_cases hj:n<=j
     ·exact .inr (pl2 j hj).symm
     ·rcases wY (n:=n) (caps:=caps) (e:=e) j with z|⟨k,i,rfl,_,_⟩
      ·exact .inl z
      ·exact absurd (Et n k) hj
    have keepT:∀{H8:Hp} {s8:Shared} {σ8:L2.St},Inv (cxC X scope HP.objs.size Nc s2 H2 fp) ([]++lG fp s5.heap) σ8 H8 s8->tn (i+1) s8.heap/\∀b∈fp,H8 b=none:=λI8=>
     ⟨Tn.keep _ _ _ tn5 λb hb o q=>(I8.pin (b,o) (fR _ (fR _ (pX hb q)))).1,λb hb=>by
      obtain⟨o,q,_⟩:=Tn.obj _ _ tn5 b hb
      exact(I8.pin (b,o) (fR _ (fR _ (pX hb q)))).2.1⟩
    cases ok with
    |false=>
     rw[if_neg aP]at ef⊢
     cases ef
     cases evd
     obtain⟨t1,t2⟩:=keepT I7
     exact⟨ds.length+1-(i+1),by lia,i+1,σ6,H7,own6,as,bs,rfl,hlt,I7.unpinned,t1,t2,smi.trans (s35.trans s57),F7.back pl1.symm bk,no6,eb,rfl,Nat.le_succ_of_le hal,⟨xs,s57 _ _ (s35 _ _ hx),(wx.same s35).same s57⟩,λt ht=>((rri t ht).same s35).same s57⟩
    |true=>
     rw[if_pos rfl]at ef⊢
     obtain⟨dy,ey,ef⟩:=Res.bind_ok ef
     cases ef
     cases evd
     refine thn (be H₀ O₀ _ s7 σ6 H7 (λv H'=>Same H7 H'/\RD X.K H' (cU O s2.heap.objs.size) dy v) I7 ⟨_,own6,e3,dy,F7,ey,λv H' s r _=>⟨s,r⟩⟩) λwv s8 ⟨vy,H8,I8,r8,s78,rd8⟩=>?_
     have sm8:=s35.trans (s57.trans s78)
     have hx8:=sm8 _ _ hx
     have F8:=F7.grow s78
     have wx8:=wx.same sm8
     have h0:H₀ s2.heap.objs.size=none:=(F.same.trans s12).free fr
     refine thn (Ao (X:=cxC X scope HP.objs.size Nc s2 H2 fp) _ s8 σ6 H8 (.ref s2.heap.objs.size) [vy] (.ref s2.heap.objs.size) [wv] (λ_ H'=>H'=upd H8 s2.heap.objs.size (.lst (xs++[vy]))) I8 rfl (.cons r8 .nil) ⟨_,xs,vy,rfl,rfl,hx8,by rw[wx.length,<-eY];lia,rfl⟩) λ_ s9 ⟨v9,H9,I9,r9,e9⟩=>?_
     subst e9
     obtain⟨t1,t2⟩:=keepT I9
     have smU:Same H2 (upd H8 s2.heap.objs.size (.lst (xs++[vy]))):=λb o q=>by
      rw[aG (eF q fr)]
      exact sm8 _ _ (smi _ _ q)
     refine⟨ds.length+1-(i+1),by lia,i+1,σ6,_,own6,as++[dy],b',rfl,hlt,I9.unpinned,t1,t2,smU,(F8.updO (.inr rfl) hx8 h0 no6).back pl1.symm bk,no6,eb,by simp,?_,⟨xs++[vy],bQ,?_⟩,λt ht=>((rri t ht).same sm8).upd (.inr rfl) hx8⟩
     ·rw[cE,jB];lia
     ·exact(wx8.append (RDs.cons rd8 RDs.nil)).upd (.inr rfl) hx8
   ·have hii:i=ds.length:=by lia
    subst hii
    refine thn (Tn.done (cxC X scope HP.objs.size Nc s2 H2 fp) rfl rfl rfl hc _ [] s' σi Hi (λ_ _=>False) Ii stat tni (w2 (aQ _))) λr s4 ⟨hr,I4⟩=>?_
    subst hr
    rw[Es,aT]at evd
    cases evd
    have nO:¬O s2.heap.objs.size:=λz=>by
     obtain⟨o,q⟩:=F2.trk _ z
     rw[fr]at q;cases q
    refine fin HP.objs.size s2 H2 Hi s4 s2.heap.objs.size I2 s12 hCl (λh' sb=>outC I2 I4 hfp (jT hCl) sb) ?_ I4.free (s12.trans smi) (F.grow (s12.trans smi)) ?_ ?_ (bM hCl)
    ·obtain⟨m,hn,_⟩:=I4.loc
     exact⟨m,hn⟩
    ·exact⟨_,xs,rfl,.inl ⟨nO,.inl hx⟩,by rw[mM];exact wx.weak λ_ z=>.inl z⟩
    ·exact λ_=>⟨_,rfl,s12.free fr,xs,hx,by rw[mM];exact wx⟩
  ·refine⟨0,_,_,ownc,[],ys,rfl,jW _,I0,Tn.keep _ _ _ tn0 λb _ o q=>old b o q,λb hb=>?_,bZ fr _,Fc,nown,by simpa using e2,rfl,aQ _,⟨[],bQ,rfl⟩,?_⟩
   ·rw[aG (bM (hfo b hb))];exact(hfp b hb).1
   ·intro t ht
    have r0:=rr0 t ht
    cases t with
    |fr a o u=>exact bZ fr _ _ _ r0
    |dv d0 v0=>
     rcases r0 with z|⟨al,z1,z2⟩
     ·exact .inl ((z.new fr).same (bZ fr _))
     ·obtain⟨ob,hob,_⟩:=z2.obj
      exact .inr ⟨al,z1,eF hob fr,(z2.new fr).same (bZ fr _)⟩
 exact codeAny_compStart_list (loop _ rfl) (Tn.self _ 0 _ _ _ (Tn.keep _ _ _ tn0 λb _ o q=>old b o q) (loop _ rfl))
end
section
variable{T:Tab}{cf:Nat->List D->Res D}{X:Cx}{x y z:E}{p q r tg iter:Expr}{pos pos' pos'':Pos}
theorem C4{n:Nat}{caps:List Nat}{g:G}{elt src cond:E}{pe:Expr}{ifs:List Expr}{scope:Scope}{Nc:List Str}(hc:X.calm=true)(S:ScopeC X scope)(P:CapsOk X scope n caps Nc)(hb:g.below n=true)
 (hplain:aZ iter=true) (hsrc:SI T cf X tg src true iter)
 (body:∀C s2 H2 fp,(cxC X scope C Nc s2 H2 fp).Ok->SG (cxC X scope C Nc s2 H2 fp) g tg/\SE T cf (cxC X scope C Nc s2 H2 fp) elt pe/\oC ifs cond (ST T cf (cxC X scope C Nc s2 H2 fp) cond)) :
 SE T cf X (.comp n caps g elt src cond) (.ListComp pe [⟨tg,iter,ifs,0⟩] scope pos):=by
 intro H₀ O₀ pins s σ H Q I ⟨O,own,e,d,F,ev,k⟩
 rw[eval_ListComp]
 refine C3 (use:=none) hc S P hb hplain hsrc body I F ev ?_
 intro C s2 H2 Hi s' a I2 s12 hC hI ns hn sm Fi rd nl hne
 obtain⟨m,ns⟩:=ns
 exact⟨m,ns,λh' sb=>⟨.ref a,Hi,hI h' sb,rfl,k _ Hi sm rd λ_=>nl⟩⟩
theorem IB{i:Nat}{nm:Str}{n:Nat}{caps:List Nat}{g:G}{elt src cond:E}{pe:Expr}{ifs:List Expr}{scope:Scope}{Nc:List Str}(hN:X.N.Nodup)(hi:X.N[i]?=some nm)(hl:Loc X.env.scope nm)(hf:X.fn nm=true\/X.env.scope.names.lookup nm=some .local)
 (hsw:swapsWith (.ListComp pe [⟨tg,iter,ifs,0⟩] scope pos) (some (.Name nm pos')) pos''.line X.env=pure true)
 (hc:X.calm=true) (S:ScopeC X scope) (P:CapsOk X scope n caps Nc) (hb:g.below n=true)
 (hplain:aZ iter=true) (hsrc:SI T cf X tg src true iter)
 (body:∀C s2 H2 fp,(cxC X scope C Nc s2 H2 fp).Ok->SG (cxC X scope C Nc s2 H2 fp) g tg/\SE T cf (cxC X scope C Nc s2 H2 fp) elt pe/\oC ifs cond (ST T cf (cxC X scope C Nc s2 H2 fp) cond)) :
 ∀H₀ O₀,PS X (.Assign [.Name nm pos'] (.ListComp pe [⟨tg,iter,ifs,0⟩] scope pos) pos'') (λD' σ H=>∃O own e d,Fm X.K H₀ O₀ H O own e σ/\evE T cf (.comp n caps g elt src cond) e=.ok d/\∀v H',Same H H'->RD X.K H' O d v->NewL X.K H H' O d v->D'.nx (σ.set i (some v)) H'):=by
 intro H₀ O₀ pins s σ H D' I ⟨O,own,e,d,F,ev,k⟩
 rw[exec_Assign_Name_used _ _ _ _ hsw]
 refine wpAny_bind (wpAny_standAt (wpAny_bind ?_))
 show wpAny _ X.A (do let _<-comprehension (.ListComp pe [⟨tg,iter,ifs,0⟩] scope pos) scope X.env _ (newList []) false (eval iter X.env) (some (assign (.Name nm pos') X.env))) _ _ s
 refine wpAny_bind (wpAny_mono (C3 (use:=some (assign (.Name nm pos') X.env)) (Q:=λ_ s'=>SP X pins D' .next s') hc S P hb hplain hsrc body I F ev ?_) (λ_ s' hq=>wpAny_pure (wpAny_pure hq)) λ_ _ e=>e)
 intro C s2 H2 Hi s' a I2 s12 hC hI ns hn sm Fi rd nl hne
 obtain⟨m,ns⟩:=ns
 have I':Inv X pins σ Hi s':=by
  have:=hI s'.heap (.refl ..)
  exact this
 show wpAny _ X.A (assign (.Name nm pos') X.env (.ref a)) _ _ _
 refine wpAny_assign_Name (AQ (v:=.ref a) I' hN hi hl rfl (λs'' I'' ⟨a0,sb,ha0⟩=>?_) hf)
 have lt0:a0<s2.heap.objs.size:=by
  rcases ha0 with z|z
  ·rw[z];exact I2.lt
  ·obtain⟨v,w⟩:=I2.cell nm a0 z
   exact w.lt
 have neC:C≠a0:=mL (lA lt0 hC)
 refine⟨m,ns.sameBut sb neC,λh' sb'=>?_⟩
 refine⟨σ.set i (some (.ref a)),Hi,?_,k _ Hi sm rd nl⟩
 refine I''.turned (t':=s''.toks) (it:=C) (λb o hb' e=>(sb'.2 b hb').trans e) hn (mL (lA I2.lt hC)) (.inr (cD I2.sz (jT hC))) (λx c e z=>?_) (λp hp z=>?_)
 ·obtain⟨v,w⟩:=I2.cell x c e
  exact absurd (lA w.lt hC) (by rw[z];exact jS _)
 ·exact absurd (lA (Heap.lt_size (I2.pin p hp).1) hC) (by rw[z];exact jS _)
theorem IC{i:Nat}{nm:Str}{n:Nat}{caps:List Nat}{g:G}{elt src cond:E}{pe:Expr}{ifs:List Expr}{scope:Scope}{Nc:List Str}(hN:X.N.Nodup)(hi:X.N[i]?=some nm)(hl:Loc X.env.scope nm)(hf:X.fn nm=true\/X.env.scope.names.lookup nm=some .local)
 (hc:X.calm=true) (S:ScopeC X scope) (P:CapsOk X scope n caps Nc) (hb:g.below n=true)
 (hplain:aZ iter=true) (hsrc:SI T cf X tg src true iter) (o:Bool)
 (body:∀C s2 H2 fp,(cxC X scope C Nc s2 H2 fp).Ok->SG (cxC X scope C Nc s2 H2 fp) g tg/\SE T cf (cxC X scope C Nc s2 H2 fp) elt pe/\oC ifs cond (ST T cf (cxC X scope C Nc s2 H2 fp) cond)) :
 SS T cf X (if o then .asgO i (.comp n caps g elt src cond)else .asg (.one i) (.comp n caps g elt src cond)) (.Assign [.Name nm pos'] (.ListComp pe [⟨tg,iter,ifs,0⟩] scope pos) pos''):=by
 intro H₀ O₀
 have main:PS X (.Assign [.Name nm pos'] (.ListComp pe [⟨tg,iter,ifs,0⟩] scope pos) pos'') (λD' σ H=>∃O own e d,Fm X.K H₀ O₀ H O own e σ/\evE T cf (.comp n caps g elt src cond) e=.ok d/\∀v H',Same H H'->RD X.K H' O d v->NewL X.K H H' O d v->D'.nx (σ.set i (some v)) H'):=by
  have hsw:∃b:Bool,swapsWith (.ListComp pe [⟨tg,iter,ifs,0⟩] scope pos) (some (.Name nm pos')) pos''.line X.env=pure b:=⟨_,rfl⟩
  obtain⟨b,hsw⟩:=hsw
  cases b with
  |true=>exact IB hN hi hl hf hsw hc S P hb hplain hsrc body H₀ O₀
  |false=>
   refine PS.imp (λD' σ H hq=>?_) (kC hN hi hl (C4 hc S P hb hplain hsrc body H₀ O₀) hsw hf)
   obtain⟨O,own,e,d,F,ev,k⟩:=hq
   exact⟨O,own,e,d,F,ev,λv H' s' r n=>k v H' s' r (n rfl)⟩
 refine PS.imp (λD' σ H hq=>?_) main
 obtain⟨ts,e,out,⟨O,own,F,tt⟩,ev,k⟩:=hq
 cases o with
 |true=>
  rw[if_pos rfl]at ev
  (first|rw[lL]at ev|rw[nJ]at ev)
  obtain⟨d,e1,ev⟩:=Res.bind_ok ev
  split at ev
  ·obtain⟨c,ev⟩:=aS ev
   cases ev
   refine⟨O,own,e,_,F,e1,λv H' s' r n=>?_⟩
   obtain⟨p,rfl,h2,h3⟩:=n rfl
   exact k _ H' ⟨_,_,F.setO s' i h2 h3,λt ht=>((tt t ht).new h2).same s'⟩
  ·obtain⟨c,ev⟩:=aS ev
   cases ev
   refine⟨O,own,e,_,F,e1,λv H' s' r n=>?_⟩
   obtain⟨p,rfl,h2,h3⟩:=n rfl
   exact k _ H' ⟨_,_,F.setO s' i h2 h3,λt ht=>((tt t ht).new h2).same s'⟩
  ·obtain⟨c,ev⟩:=aS ev
   cases ev
   refine⟨O,own,e,_,F,e1,λv H' s' r n=>?_⟩
   obtain⟨p,rfl,h2,h3⟩:=n rfl
   exact k _ H' ⟨_,_,F.setO s' i h2 h3,λt ht=>((tt t ht).new h2).same s'⟩
  ·cases ev
 |false=>
  rw[if_neg aP]at ev
  (first|rw[lL]at ev|rw[nJ]at ev)
  obtain⟨d,e1,ev⟩:=Res.bind_ok ev
  obtain⟨e2,e3,ev⟩:=Res.bind_ok ev
  cases ev
  cases e3
  exact⟨O,own,e,d,F,e1,λv H' s' r n=>k _ H' ⟨O,_,(F.grow s').setV i r,λt ht=>(tt t ht).same s'⟩⟩
theorem ID{pins:List (Addr×Obj)}{σ:L2.St}{H:Hp}{s:Shared}{h':Heap}{t':Nat}{a b:Addr}(I:Inv X pins σ H s)(k:∀c o,c≠a->c≠b->s.heap.get? c=some o->h'.get? c=some o)(na:H a=none)(nb:H b=none)
 (fa:a≠X.env.locals/\(a∈X.ex\/X.s₀.heap.objs.size<=a)/\(∀x c,X.env.cells.lookup x=some c->c≠a)/\∀p∈X.pn++pins,p.1≠a)
 (fb:b≠X.env.locals/\(b∈X.ex\/X.s₀.heap.objs.size<=b)/\(∀x c,X.env.cells.lookup x=some c->c≠b)/\∀p∈X.pn++pins,p.1≠b):Inv X pins σ H {s with heap:=h',toks:=t' }:=by
 have nn:∀c u,H c=some u->c≠a/\c≠b:=λc u e=>⟨λz=>(by rw[z,na]at e;cases e),λz=>(by rw[z,nb]at e;cases e)⟩
 have no2:∀{c},c∉[a,b]->c≠a/\c≠b:=λhc=>⟨λz=>hc (by simp[z]),λz=>hc (by simp[z])⟩
 refine I.step (g':=s.gens) (d':=s.drawn) (ch:=[a,b]) (λc hc=>?_) (λc o _ _ hc e _=>k c o (no2 hc).1 (no2 hc).2 e) (λc o _ _ hc e _=>⟨o.slots,k c o (no2 hc).1 (no2 hc).2 e⟩) (λ_ _ _ _ n=>n)
  (λc o hc e=>⟨o,k c o (no2 hc).1 (no2 hc).2 e⟩) (λ_ _ e=>e) (λ_ _ _ e=>e) (λb ps e=>⟨#[],by rw[e];simp⟩) (λm hm=>?_) (λc u e=>?_) I.bare
 ·rcases aY.mp hc with rfl|hc
  ·exact⟨fa.2.1,fa.1,fa.2.2.1,fa.2.2.2⟩
  ·have e:c=b:=by simpa using hc
   subst e
   exact⟨fb.2.1,fb.1,fb.2.2.1,fb.2.2.2⟩
 ·obtain⟨o,es,ep,ho,r⟩:=hm
  exact⟨o,es,ep,k _ o (Ne.symm fa.1) (Ne.symm fb.1) ho,r⟩
 ·refine(I.hok c u e).stay (λc' v hc q=>?_) (λ_ q=>q) λ_ _ q=>q
  have:c'≠a/\c'≠b:=by
   rcases hc with z|z
   ·rw[z];exact nn c u e
   ·exact nn c' _ z
  exact k c' v this.1 this.2 q
noncomputable def Ite(K:PySem.W.Frag)(a:Addr):It:=
 ⟨λi H=>∃xs x,SqL K H a xs/\xs[i]?=some x,λi H x H'=>∃p y,H p=none/\x=.ref p/\H'=upd H p (.tup [.int i,y])/\∀xs,SqL K H a xs->xs[i]?=some y,λi H=>∃xs,SqL K H a xs/\xs.length<=i⟩
theorem IE{Pg:Program}{w:World}{K:PySem.W.Frag}{es:List Expr}{kk:Nat}{pos:Pos}(a en it:Addr)(hne:en≠it):Turn Pg w K (.Tuple es kk pos) (Ite K a) [en,it] en (λi h=>∃old,IsEnum h en it i old/\h.IsListIter it a i) where
 mem:=by simp
 obj:=λi h st b hb=>by
  obtain⟨old,st1,o,e,c,d⟩:=st
  rcases aY.mp hb with rfl|hb
  ·exact⟨_,st1,λv z=>by
    have z':Data.fields _=Data.cell v:=z
    cases z'⟩
  ·have e':b=it:=by simpa using hb
   subst e'
   exact⟨o,e,λv z=>by rw[d]at z;cases z⟩
 keep:=λi h h' st k=>by
  obtain⟨old,st1,st2⟩:=st
  exact⟨old,k en (by simp) _ st1,st2.at λo e=>k it (by simp) o e⟩
 item:=by
  intro X hP hw hK hc i pins s σ H E I hf st hg
  subst hP hw hK
  obtain⟨xs,x,hq,hx⟩:=hg
  obtain⟨old,st1,st2⟩:=st
  obtain⟨its,rv,p,hz⟩:=I.list hq
  obtain⟨u,hu,ru⟩:=rv.get hx
  obtain⟨f0,f1,f2,f3,f4,f5⟩:=hf en (by simp)
  obtain⟨g0,g1,g2,g3,g4,g5⟩:=hf it (by simp)
  refine wpAny_pyNext_enum_item st1 st2 p.isList (x:=u) (by simpa using hu) hne λh₁ heo hit₁ ht₁ hz₁ hk₁=>?_
  refine⟨_,rfl,wpAny_letOwnedTupleGo_enum heo λh₂ he₂ hs₂=>?_⟩
  replace hs₂:Heap.SameBut en h₁ h₂:=hs₂
  have enl:en<s.heap.objs.size:=Heap.lt_size st1
  have itl:it<s.heap.objs.size:=by
   obtain⟨o,q,_⟩:=id st2
   exact Heap.lt_size q
  have fr:H s.heap.objs.size=none:=I.hok.fresh (aQ _)
  have hm:∃hm:Heap,hm=s.heap.push {cls:=.type "tuple", data:=.seq #[.int i s.toks,u] }:=⟨_,rfl⟩
  obtain⟨hm,ehm⟩:=hm
  have I1:Inv X pins σ (upd H s.heap.objs.size (.tup [.int i,x])) {s with heap:=hm}:=by
   rw[ehm]
   refine I.laid (t':=s.toks) (λb o q=>Heap.get?_push_of_some _ q) (aQ _) ?_
   exact⟨by show 2<=sizeLine;decide,[.int i s.toks,u],.cons ⟨_,rfl⟩ (.cons ru .nil),⟨_,Heap.get?_push_size _ rfl,rfl,_,rfl⟩⟩
  have kept:∀b o,b≠en->b≠it->hm.get? b=some o->h₂.get? b=some o:=λb o hb1 hb2 q=>by
   refine(hs₂.2 b hb1).trans ?_
   rw[ehm]at q
   rcases Heap.get?_push_cases q with⟨e1,e2⟩|q
   ·rw[e1,e2];exact ht₁
   ·exact hk₁ b o hb1 hb2 q
  have up:∀{c:Addr},c<s.heap.objs.size->H c=none->upd H s.heap.objs.size (.tup [.int i,x]) c=none:=λhl hn=>by rw[aG (bM hl)];exact hn
  have I2:Inv X pins σ (upd H s.heap.objs.size (.tup [.int i,x])) {s with heap:=h₂,toks:=s.toks+1}:=ID (s:={s with heap:=hm}) (t':=s.toks+1) I1 kept (up enl f0) (up itl g0) ⟨f1,f3,f4,f5⟩ ⟨g1,g3,g4,g5⟩
  refine⟨.ref s.heap.objs.size,_,I2,rfl,⟨_,x,fr,rfl,rfl,λys hy=>by rw[I.list_inj hy hq];exact hx⟩,⟨u,?_,hit₁.extBut hs₂.extBut (Ne.symm hne)⟩,λb hb=>?_⟩
  ·have:((i+1:Nat):Int)=(i:Int)+1:=by push_cast;rfl
   rw[this];exact he₂
  ·rcases aY.mp hb with rfl|hb
   ·exact up enl f0
   ·have e':b=it:=by simpa using hb
    subst e'
    exact up itl g0
 done:=by
  intro X hP hw hK hc i pins s σ H E I hf st hg
  subst hP hw hK
  obtain⟨xs,hq,hx⟩:=hg
  obtain⟨old,st1,st2⟩:=st
  obtain⟨its,rv,p,hz⟩:=I.list hq
  obtain⟨g0,g1,g2,g3,g4,g5⟩:=hf it (by simp)
  have hl:=rv.length
  exact wpAny_pyNext_enum_end (I.ok.hd hc) st1 st2 p.isList (by simp;lia) λh' eb=>⟨rfl,I.turned (t':=s.toks) (λb o hb e=>eb b o hb e) g0 g1 g3 g4 g5⟩
 self:=λ_ _ _ _ _ st h=>by
  obtain⟨old,st1,_⟩:=st
  exact wpAny_pyIter_enum st1 h
theorem wZ(k:Int):∀ds:List D,(dB k ds).length=ds.length
 |[]=>rfl
 |d::ds=>by rw[dB,aX,aX,wZ (k+1) ds]
theorem C5:∀(k:Int)(ds:List D)(i:Nat)(d:D),ds[i]?=some d->(dB k ds)[i]?=some (.tup [.int (k+i),d])
 |k,[],i,d,h=>by simp at h
 |k,d0::ds,0,d,h=>by simp at h;subst h;rw[dB];simp
 |k,d0::ds,i+1,d,h=>by
  rw[dB,L1,C5 (k+1) ds i d (by simpa using h)]
  congr 4
  push_cast
  lia
theorem IF{K:PySem.W.Frag}{a:Addr}{ds:List D}:Wk1 K (Ite K a) (.lst ds) (.ref a) (dB 0 ds):=by
 intro i H O r
 obtain⟨a',xs,e,q,w⟩:=r.lst
 cases e
 have hl:=w.length
 rw[wZ]
 refine⟨λh=>?_,λh=>⟨xs,q,by lia⟩,λx H' d hd y=>?_⟩
 ·obtain⟨v,h1,h2⟩:=w.get (bD h)
  exact⟨xs,v,q,h1⟩
 ·obtain⟨p,yv,hp,rfl,rfl,hy⟩:=y
  refine⟨bZ hp _,?_⟩
  have hi:i<ds.length:=by
   have:=(eT.mp hd).1
   rwa [wZ]at this
  obtain⟨v,h1,h2⟩:=w.get (bD hi)
  have:=(hy xs q).symm.trans h1
  cases this
  rw[C5 0 ds i _ (bD hi)]at hd
  cases hd
  refine nV (RDs.cons ?_ (RDs.cons h2 RDs.nil)) hp
  show V.int (i:Int)=V.int (0+(i:Int))
  rw[Int.zero_add]
theorem IG {rd:Bool} {n:Str} {pn:Pos} {es:List Expr} {kk:Nat} {tpos:Pos} (hn:n = "enumerate") (hg:Gl X n) (hm:X.mg "enumerate" = none) (hp:aZ p=true) (ha:SR T cf X x p) (hv:rd=false->SE T cf X x p) :
 SI T cf X (.Tuple es kk tpos) (.enum x) rd (.Call (.Name n pn) [p] [] pos):=by
 intro H₀ O₀ pins s σ H R I h
 subst hn
 obtain⟨O,own,e,ds,F,ev,k⟩:=h
 replace k:=rD k
 rw[BP]at ev
 obtain⟨d1,e1,ev⟩:=Res.bind_ok ev
 have main:∀{u:Value} {s1:Shared} {v:V} {H1:Hp},Inv X pins σ H1 s1->RelV v u->Same H H1->RR X.K H1 O d1 v->(rd=false->RD X.K H1 O d1 v)->wpAny (model X.prog X.w) X.A (call (.type "enumerate") [u]) (λv s1=>wpAny (model X.prog X.w) X.A (pyIter v) (PIE X pins σ (.Tuple es kk tpos) R) X.xe s1) X.xe s1:=by
  intro u s1 v H1 I1 r1 s1' rr rv
  cases d1 with
  |lst dl=>
   cases ev
   obtain⟨a,xs,e,q1,w1⟩:=rr.lst
   subst e
   cases r1
   obtain⟨its,r',pl,hz⟩:=I1.list q1
   refine call_enumerate_list pl.isList λh' he hit hz' hk=>?_
   refine wpAny_pyIter_enum he ?_
   have I2:Inv X pins σ H1 {s1 with heap:=h' }:=I1.kept (t':=s1.toks) hk
   refine⟨s1.heap.objs.size+1,[s1.heap.objs.size+1,s1.heap.objs.size],_,Ite X.K a,H1,rfl,I2,IE a _ _ (L4 _),⟨_,he,hit⟩,λb hb=>?_,k _ H1 _ _ s1' rr rv IF⟩
   rcases aY.mp hb with rfl|hb
   ·exact I1.fpOk (uN _) (I1.hok.fresh (uN _))
   ·have e':b=s1.heap.objs.size:=by simpa using hb
    subst e'
    exact I1.fpOk (aQ _) (I1.hok.fresh (aQ _))
  |tup _=>cases ev
  |non=>cases ev
  |bl _=>cases ev
  |int _=>cases ev
  |str _=>cases ev
  |dct _=>cases ev
  |tdc _=>cases ev
 cases rd with
 |true=>
  refine Call_ (jZ I hg hm PyProof.Rows.boot_enumerate (PyProof.Rows.callWith_type1 (thn (cY (ha H₀ O₀) eV (bC hp) pos pins s σ H (λvs H1=>∃v,vs=[v]/\Same H H1/\RR X.K H1 O d1 v) I ⟨O,own,e,d1,F,e1,λv H' s' r=>⟨v,rfl,s',r⟩⟩) λus s1 ⟨vs,H1,I1,r1,v,ev1,s1',rr⟩=>?_) (bC hp) rfl))
  subst ev1
  obtain⟨u,rfl,ru⟩:=fW r1
  exact main I1 ru s1' rr (λz=>by cases z)
 |false=>
  refine Call_ (jZ I hg hm PyProof.Rows.boot_enumerate (PyProof.Rows.callWith_type1 (thn (cY (hv rfl H₀ O₀) eV (bC hp) pos pins s σ H (λvs H1=>∃v,vs=[v]/\Same H H1/\RD X.K H1 O d1 v) I ⟨O,own,e,d1,F,e1,λv H' s' r _=>⟨v,rfl,s',r⟩⟩) λus s1 ⟨vs,H1,I1,r1,v,ev1,s1',rr⟩=>?_) (bC hp) rfl))
  subst ev1
  obtain⟨u,rfl,ru⟩:=fW r1
  exact main I1 ru s1' rr.rr (λ_=>rr)
end
section
variable{K:PySem.W.Frag}{H₀ H H':Hp}{O₀ O O':Addr->Prop}{own:Nat->Option Addr}{e:Nv}{σ:L2.St}
theorem C6{H:Hp}{O:Addr->Prop}(ks:List Int):RDs K H O (ks.map D.int) (ks.map V.int):=by
 induction ks with
 |nil=>exact rfl
 |cons k ks ih=>exact⟨.int k,ks.map V.int,rfl,rfl,ih⟩
end
section
variable{T:Tab}{cf:Nat->List D->Res D}{X:Cx}{x y z:E}{p q r tg:Expr}{pos pos':Pos}{es:List Expr}
end
section
variable{prog:Program}{w:World}{A:Around}{E:Value->Shared->Prop}{s:Shared}
set_option maxHeartbeats 1600000 in
theorem IH{a:Addr}{kvs:List (Key×Value)}{ep:Nat}{Q:List Value->Shared->Prop}(hh:A.handled=none)(hd:(a==sysModules)=false)(hz:kvs.length<64)(hS:s.heap.DictAt (bP prog w) a kvs ep)
 (hQ:∀vs h' tk,vs.length=kvs.length->(∀(i:Nat) v,vs[i]?=some v->∃k x,kvs[i]?=some (k,x)/\gN k v=true)->s.heap.objs.size<=h'.objs.size->(∀b o,b<s.heap.objs.size->s.heap.get? b=some o->h'.get? b=some o)->Q vs {s with heap:=h',toks:=tk}) :
 wpAny (model prog w) A (collect (.ref a)) Q E s:=by
 have hT:=hS.dictOf.typeIs (s:=s)
 have hlt:a<s.heap.objs.size:=by obtain⟨o,es,ho,_⟩:=hS;exact Heap.lt_size ho
 unfold collect
 refine wpAny_bind (wpAny_runValue (codeAny_builtin PySem.F.entry_proto_collect ?_))
 rw[Around.under_plainId PySem.F.plain_proto_collect _]
 show wpAny _ A.in1 (newList []>>=λl=>again (.builtin "list.__iadd__" ⟨[l,.ref a],[]⟩)) _ _ s
 refine wpAny_bind (wpAny_newObj_type ?_)
 refine wpAny_pure ⟨plainId_quiet PySem.F.plain_list_iadd _,codeAny_builtin PySem.F.entry_list_iadd ?_⟩
 rw[Around.under_plainId PySem.F.plain_list_iadd _]
 have hS₁:(s.heap.push {cls:=.type "list", data:=.seq ([]:List Value).toArray}).get? s.heap.objs.size=some {cls:=.type "list", data:=.seq ([]:List Value).toArray}:=Heap.get?_push_size _ rfl
 have hE₁:(s.heap.push {cls:=.type "list", data:=.seq ([]:List Value).toArray}).DictAt (bP prog w) a kvs ep:=hS.at' λo e=>Heap.get?_push_of_some _ e
 have hsz₁:(s.heap.push {cls:=.type "list", data:=.seq ([]:List Value).toArray}).objs.size=s.heap.objs.size+1:=size_push' _ _
 have hk₁:∀b o,s.heap.get? b=some o->(s.heap.push {cls:=.type "list", data:=.seq ([]:List Value).toArray}).get? b=some o:=λb o e=>Heap.get?_push_of_some _ e
 generalize s.heap.push {cls:=.type "list", data:=.seq ([]:List Value).toArray}=H1 at *
 have h1:Builtin.List.listSameRef (.ref s.heap.objs.size) (.ref a)=false:=by simp[Builtin.List.listSameRef,mL hlt]
 show wpAny _ A.in1 (Builtin.List.listExtendWith (.ref s.heap.objs.size) (.ref a) (.ref s.heap.objs.size)) _ _ _
 unfold Builtin.List.listExtendWith
 have hT1:Shared.TypeIs {s with heap:=H1} (.ref a) "dict" := hE₁.dictOf.typeIs (s:={s with heap:=H1})
 refine wpAny_bind (wpAny_typeOf hT1 ?_)
 rw[if_neg (by rw[h1];decide)]
 refine wpAny_bind (wpAny_pyIter_dict (s:={s with heap:=H1}) hd hE₁ ?_)
 show wpAny _ _ _ _ _ {s with heap:=H1.push {cls:=.type "dict_keyiterator", data:=.fields #[.ref a,.int 0 0,.int kvs.length 0,.int ep 0] } }
 have hI2:(H1.push {cls:=.type "dict_keyiterator", data:=.fields #[.ref a,.int 0 0,.int kvs.length 0,.int ep 0] }).get? H1.objs.size=some {cls:=.type "dict_keyiterator", data:=.fields #[.ref a,.int 0 0,.int kvs.length 0,.int ep 0] }:=Heap.get?_push_size _ rfl
 have hk₂:∀b o,H1.get? b=some o->(H1.push {cls:=.type "dict_keyiterator", data:=.fields #[.ref a,.int 0 0,.int kvs.length 0,.int ep 0] }).get? b=some o:=λb o e=>Heap.get?_push_of_some _ e
 generalize H1.push {cls:=.type "dict_keyiterator", data:=.fields #[.ref a,.int 0 0,.int kvs.length 0,.int ep 0] }=H2 at *
 have hE₂:H2.DictAt (bP prog w) a kvs ep:=hE₁.at' λo e=>hk₂ _ o e
 have hT2:Shared.TypeIs {s with heap:=H2} (.ref a) "dict" := hE₂.dictOf.typeIs (s:={s with heap:=H2})
 refine wpAny_bind (wpAny_holding ?_)
 unfold Builtin.List.listLengthHint
 refine wpAny_bind (wpAny_specialOf hT2 PySem.F.slot_dict_len.lookup ?_)
 (generalize hid:("dict.__len__" : String)=id0;(fail_if_success (clear hid id0));wp_delta;rw[show splitId id0=some ("dict", "__len__")from by subst hid;decide +kernel];subst hid)
 refine wpAny_bind (wpAny_isInstance (b:=true) hT2 (by rw[isSubtype_type];kernel_rfl) ?_)
 rw[if_neg (by decide)]
 show wpAny _ A.in1 (typeOf (Value.ref a)>>=_) _ _ _
 refine wpAny_bind (wpAny_typeOf hT2 ?_)
 refine wpAny_pure ?_
 rw[if_pos (by decide +kernel)]
 refine wpAny_bind (wpAny_rule ?_)
 have hL2:H2.get? s.heap.objs.size=some (seqObj "list" #[] 0):=hk₂ _ _ hS₁
 unfold Builtin.List.listTouch
 refine wpAny_bind ?_
 refine wpAny_bind (listUpdate_at (s:={s with heap:=H2}) hL2 rfl ?_)
 have hL3:=get?_update_seq hL2 (·.push Value.none)
 refine listUpdate_at (s:={s with heap:=H2.update s.heap.objs.size (Obj.mapSeq (·.push Value.none)) }) hL3 rfl ?_
 have hL4:∃c,((H2.update s.heap.objs.size (Obj.mapSeq (·.push Value.none))).update s.heap.objs.size (Obj.mapSeq (·.pop))).get? s.heap.objs.size=some (seqObj "list" #[] c):=⟨_,(get?_update_seq hL3 (·.pop)).trans (by rw[show((#[]:Array Value).push Value.none).pop=#[]from rfl])⟩
 obtain⟨c4,hL4⟩:=hL4
 have hk₃:∀b o,b≠s.heap.objs.size->H2.get? b=some o->((H2.update s.heap.objs.size (Obj.mapSeq (·.push Value.none))).update s.heap.objs.size (Obj.mapSeq (·.pop))).get? b=some o:=λb o hb e=>by
  rw[Heap.get?_update_other _ _ (λh=>hb h.symm),Heap.get?_update_other _ _ (λh=>hb h.symm)];exact e
 dsimp only
 generalize (H2.update s.heap.objs.size (Obj.mapSeq (·.push Value.none))).update s.heap.objs.size (Obj.mapSeq (·.pop))=H3 at *
 have hIs:H3.IsKeyIter H1.objs.size a 0 kvs.length ep:=⟨_,hk₃ _ _ (by rw[hsz₁];exact L4 _) hI2,rfl,rfl⟩
 have hE₃:H3.DictAt (bP prog w) a kvs ep:=hE₂.at' λo e=>hk₃ _ o (bM hlt) e
 have W:=(Walks.dictKeys (prog:=prog) (w:=w) (knd:=bP prog w) (A:=A.in1) hh H1.objs.size a (by rw[hsz₁];exact bM (AH hlt)) kvs ep).toS
 refine wpAny_pure ⟨plainId_quiet PySem.F.plain_extend_loop _,codeAny_extend_loopS W (by rw[sizeLine_eq];lia) s.heap.objs.size ?_ _ kvs.length 0 _ #[] c4 (by lia) (jW _) ⟨hIs,hE₃⟩ hL4 (ItemsOf.nil _) λs' acc' c' hm hS' hacc=>?_⟩
 ·rw[hsz₁]
  simp only[aY,pP,or_false,not_or]
  exact⟨bM (L3 _),mL hlt⟩
 ·show wpAny _ A (load s.heap.objs.size>>=_) _ _ s'
  refine wpAny_bind (wpAny_load hS' ?_)
  obtain⟨h',g',d',tk',os'⟩:=s'
  have eg:g'=s.gens:=hm.gens
  have ed:d'=s.drawn:=hm.drawn
  have eo:os'=s.os:=hm.os
  subst eg;subst ed;subst eo
  refine wpAny_pure ?_
  have hge:s.heap.objs.size<=h'.objs.size:=jT (Heap.lt_size hS')
  refine hQ acc'.toList h' tk' (by rw[uK];exact hacc.1) (λi v hv=>by rw[LY]at hv;exact hacc.2 i v hv) hge λb o hb e=>?_
  refine hm.heap b o ?_ (hk₃ b o (bM hb) (hk₂ b o (hk₁ b o e)))
  rw[hsz₁]
  simp only[aY,pP,or_false,not_or]
  exact⟨bM hb,bM (AH hb)⟩
theorem intsAre_of:∀{vs:List Value} {ns:List Int},vs.length=ns.length->(∀(i:Nat) v,vs[i]?=some v->∃n t,ns[i]?=some n/\v=.int n t)->IntsAre vs ns
 |[],[],_,_=>.nil
 |[],_::_,h,_=>by cases h
 |_::_,[],h,_=>by cases h
 |v::vs,n::ns,h,q=>by
  obtain⟨m,t,e1,e2⟩:=q 0 v rfl
  cases e1
  subst e2
  exact .cons n t (intsAre_of (by simpa using h) λi v hv=>q (i+1) v hv)
theorem II{n:Int}{v:Value}(h:gN (.inl n) v=true):∃t,v=.int n t:=Value.isInt_shape (k:=n) (v:=v) h
theorem IJ{a:Addr}{kvs:List (Key×Value)}{ep:Nat}{ns:List Int}{Q:Value->Shared->Prop}(hh:A.handled=none)(hd:(a==sysModules)=false)(hk:kvs.map (·.1)=ns.map Sum.inl)(hz:ns.length<64)(hS:s.heap.DictAt (bP prog w) a kvs ep)
 (h:∀h' tk l its c ns',(∀b o,b<s.heap.objs.size->s.heap.get? b=some o->h'.get? b=some o)->s.heap.objs.size<=l->h'.get? l=some (seqObj "list" its c)->IntsAre its.toList ns'->ns'.Perm ns->ns'.Pairwise (·<=·)->Q (.ref l) {s with heap:=h',toks:=tk}) :
 wpAny (model prog w) A (call (.builtin "sorted") [.ref a]) Q E s:=by
 have hl:kvs.length=ns.length:=by have:=congrArg List.length hk;rw[aE,aE]at this;exact this
 refine Calls.call_function_entry kind_sorted plain_sorted entry_sorted (args_sorted1 _) ?_
 unfold Builtin.«sorted»
 refine wpAny_bind (m:=checkCount "sorted" 1 1 _) (wpAny_pure ?_)
 refine wpAny_bind (IH (A:=A.in1) hh hd (by lia) hS λvs H1 tk hvl hva hsz hk1=>?_)
 have hI:IntsAre vs ns:=intsAre_of (by rw[hvl,hl]) λi v hv=>by
  obtain⟨k,x,e1,e2⟩:=hva i v hv
  have e3:(kvs.map (·.1))[i]?=some k:=by rw[bO,e1];rfl
  rw[hk,bO]at e3
  cases e4:ns[i]? with
  |none=>rw[e4]at e3;cases e3
  |some n=>
   rw[e4]at e3
   cases e3
   obtain⟨t,rfl⟩:=II e2
   exact⟨n,t,rfl,rfl⟩
 have h64:vs.length<64:=by lia
 refine wpAny_bind (wpAny_newList ?_ (by rw[sizeLine_eq];lia))
 have hoL:(H1.push (seqObj "list" vs.toArray 0)).get? H1.objs.size=some (seqObj "list" vs.toArray 0):=Heap.get?_push_size _ rfl
 refine wpAny_bind (wpAny_holding (wpAny_call_entry slot_list_sort ⟨_,hoL,rfl⟩ entry_list_sort (list_sort_tree (s:={s with heap:=H1.push (seqObj "list" vs.toArray 0),toks:=tk}) hoL hI h64 λout ns' a1 a2 a3=>⟨_,rfl,?_⟩) (args_list_sort _)))
 obtain⟨c,hc⟩:=sortedHeap_at (out:=out) (vs:=vs) hoL
 refine wpAny_pure ⟨_,rfl,h _ _ _ out c ns' (λb o hb q=>?_) hsz hc a1 a2 a3⟩
 have hb1:b<H1.objs.size:=cR hb hsz
 rw[sortedHeap_old (bM hb1) (by rw[size_push'];exact AH hb1),Heap.get?_push_ne _ _ _ (bM hb1)]
 exact hk1 b o hb q
theorem IK {X:Cx} (hc:X.calm=true):cX X (.builtin "sorted") (λvs H Q=>∃(a:Addr) (ps:List (Key×V)) (ns:List Int),vs=[.ref a]/\Rd H a (.dK ps)/\ps.map (·.1)=ns.map Sum.inl/\ns.length<64/\∀(l:Addr) (ns':List Int),H l=none->ns'.Perm ns->ns'.Pairwise (·<=·)->Q (.ref l) (upd H l (.lst (ns'.map V.int)))):=by
 intro pins s σ H vs us Q I rv h
 obtain⟨a,ps,ns,rfl,hR,hk,hz,q⟩:=h
 obtain⟨u,rfl,ru⟩:=rv.one
 cases ru
 obtain⟨_,hd,xs,r,m⟩:=(show ObjOk X.prog X.w H s.heap a (.dK ps)from mZ I.hok hR)
 obtain⟨ep,m⟩:=m.dictAt
 refine IJ (I.ok.hd hc) hd (by rw[<-KV.keys r];exact hk) hz m λh' tk l its c ns' hk hge hl hI hp hs=>?_
 refine⟨.ref l,_,I.laid (t':=tk) (λb o e=>hk b o (Heap.lt_size e) e) hge ?_,rfl,q _ ns' (I.hok.fresh hge) hp hs⟩
 refine⟨by rw[aE,hp.length_eq,sizeLine_eq];lia,its.toList,c,wB hI,by simpa using hl⟩
theorem IL {X:Cx} (hc:X.calm=true):cX X (.builtin "sorted") (λvs H Q=>(∃(a:Addr) (ns:List Int),vs=[.ref a]/\SqL X.K H a (ns.map V.int)/\ns.length<64/\∀(l:Addr) (ns':List Int),H l=none->ns'.Perm ns->ns'.Pairwise (·<=·)->Q (.ref l) (upd H l (.lst (ns'.map V.int)))) \/
 ∃(a:Addr)(ps:List (Key×V))(ns:List Int),vs=[.ref a]/\Rd H a (.dK ps)/\ps.map (·.1)=ns.map Sum.inl/\ns.length<64/\∀(l:Addr)(ns':List Int),H l=none->ns'.Perm ns->ns'.Pairwise (·<=·)->Q (.ref l) (upd H l (.lst (ns'.map V.int)))):=by
 intro pins s σ H vs us Q I rv h
 rcases h with h|h
 ·exact GV pins s σ H vs us Q I rv h
 ·exact IK hc pins s σ H vs us Q I rv h
end
section
variable{T:Tab}{cf:Nat->List D->Res D}{X:Cx}{x y z:E}{p q r tg:Expr}{pos pos':Pos}{es:List Expr}
noncomputable def spM(K:PySem.W.Frag)(j:Nat)(F:List D->Res D)(fr:Bool):Sp:=λvs H Q E=>∃O ds Hb d0 v0,Same Hb H/\(∀a,O a->∃o,Hb a=some o)/\RDs K H O ds vs/\ds[j]?=some d0/\vs[j]?=some v0/\NV K H O d0 v0/\(∀a,v0=.ref a->Hb a=none) /\
 ((∃d,F ds=.ok d/\∀v H',Same Hb H'->RD K H' O d v->(fr=true->NewR K Hb H' O d v)->Q v H')\/∃c d,F ds=.err c d/\∀od H',Same Hb H'->nX d od H'->E (cvK K c) od H')
noncomputable def xA(a b:Addr)(H H':Hp):Prop:=∀c o,c≠a->c≠b->H c=some o->H' c=some o
noncomputable def spR(K:PySem.W.Frag)(F:List D->Res D)(vs:List V)(H:Hp)(Q:VK)(_:XK):Prop:=∃(O:Addr->Prop)(x y:D)(j k:List (Sum Int Str×D))(v w:V)(a b:Addr)(r:D)(j' k':List (Sum Int Str×D)),
 vs=[v,.ref a,.ref b,w]/\a≠b/\(O a/\O b/\∀c,O c->∃o,H c=some o)/\(RD K H O x v/\RD K H O y w/\OwnAt K H O a (.dct j)/\OwnAt K H O b (.dct k))/\F [x,.tup [.int (a:Nat),.dct j],.tup [.int (b:Nat),.dct k],y]=.ok (.tup [r,.dct j',.dct k']) /\
 ∀v H',xA a b H H'->RD K H' O r v->OwnAt K H' O a (.dct j')->OwnAt K H' O b (.dct k')->Q v H'
noncomputable def gD(K:PySem.W.Frag)(T:Tab)(F:List D->Res D)(i:Nat):Sp:=match T.mv i with
 |none=>spD K F (T.fresh i)
 |some j=>if j=1000 then spR K F else spM K j F (T.fresh i)
theorem oD{K:PySem.W.Frag}{F:List D->Res D}{i:Nat}(h:T.mv i=none):gD K T F i=spD K F (T.fresh i):=by unfold gD;rw[h]
theorem C7{K:PySem.W.Frag}{F:List D->Res D}{i j:Nat}(h:T.mv i=some j)(hj:¬j=1000):gD K T F i=spM K j F (T.fresh i):=by unfold gD;rw[h];exact if_neg hj
theorem xB{K:PySem.W.Frag}{F:List D->Res D}{i:Nat}(h:T.mv i=some 1000):gD K T F i=spR K F:=by unfold gD;rw[h];exact if_pos rfl
noncomputable def lO(T:Tab)(cf:Nat->List D->Res D)(X:Cx)(f:Nat)(n:Str):Prop:=
 ∃k a fd ps,FnOk X.prog X.w X.K X.mg X.base (CXE X.prog X.w) k a fd ps (gD X.K T (cf f) f)/\Room k X.A/\X.mg n=some (.ref a)/\PySem.W.keepIn X.K (.ref a)=true/\Binds X.K fd ps []
theorem IM{d:D}(h:d.flatL=true):∃ds,d=.lst ds/\D.flats ds=true:=by
 cases d with
 |lst ds=>exact⟨ds,rfl,h⟩
 |_=>cases h
theorem NewL.nv{K:PySem.W.Frag}{H H':Hp}{O:Addr->Prop}{d:D}{v:V}(n:NewL K H H' O d v)(h:d.flatL=true)(tr:∀a,O a->∃o,H a=some o):NV K H' O d v/\∀a,v=.ref a->H a=none:=by
 obtain⟨ds,rfl,hf⟩:=IM h
 obtain⟨a,rfl,ha,xs,hx,hr⟩:=n rfl
 have nO:¬O a:=λz=>by
  obtain⟨o,w⟩:=tr a z
  rw[ha]at w;cases w
 exact⟨.inr ⟨ds,a,xs,rfl,hf,rfl,hx,nO,hr.flat hf⟩,λb e=>by cases e;exact ha⟩
theorem getD_some{ds:List D}{j:Nat}(h:(ds.getD j .non).flatL=true):∃d,ds[j]?=some d/\d.flatL=true:=by
 rw[gM]at h
 cases q:ds[j]? with
 |none=>rw[q]at h;cases h
 |some d=>rw[q]at h;exact⟨d,rfl,h⟩
theorem xC(n:Int):∀(l:List Int),(fX n l).Perm (n::l)
 |[]=>.refl _
 |m::r=>by
  unfold fX
  split
  ·exact .refl _
  ·exact((xC n r).cons m).trans (.swap n m r)
theorem xD:∀(l:List Int),(dN l).Perm l
 |[]=>.refl _
 |n::r=>(xC n (dN r)).trans ((xD r).cons n)
theorem C8(n:Int):∀{l:List Int},l.Pairwise (·<=·)->(fX n l).Pairwise (·<=·)
 |[],_=>List.pairwise_singleton _ _
 |m::r,h=>by
  obtain⟨h1,h2⟩:=uO.mp h
  unfold fX
  split
  ·rename_i c
   refine uO.mpr ⟨λy hy=>?_,h⟩
   rcases aY.mp hy with rfl|hy
   ·exact c
   ·exact Int.le_trans c (h1 y hy)
  ·rename_i c
   refine uO.mpr ⟨λy hy=>?_,C8 n h2⟩
   rcases aY.mp ((xC n r).mem_iff.mp hy)with rfl|hy
   ·lia
   ·exact h1 y hy
theorem xE:∀(l:List Int),(dN l).Pairwise (·<=·)
 |[]=>.nil
 |n::r=>C8 n (xE r)
theorem xF:∀{a b:List Int},a.Perm b->a.Pairwise (·<=·)->b.Pairwise (·<=·)->a=b
 |[],b,h,_,_=>(List.Perm.nil_eq h)
 |x::a,[],h,_,_=>absurd h.length_eq (by simp)
 |x::a,y::b,h,ha,hb=>by
  obtain⟨a1,a2⟩:=uO.mp ha
  obtain⟨b1,b2⟩:=uO.mp hb
  have e:x=y:=by
   have h1:x∈y::b:=h.mem_iff.mp (bR ..)
   have h2:y∈x::a:=h.mem_iff.mpr (bR ..)
   rcases aY.mp h1 with z|z
   ·exact z
   ·rcases aY.mp h2 with w|w
    ·exact w.symm
    ·exact Int.le_antisymm (a1 y w) (b1 x z)
  subst e
  rw[xF (List.Perm.cons_inv h) a2 b2]
theorem C9{K:PySem.W.Frag}{H:Hp}{O:Addr->Prop}:∀{kvs:List (Sum Int Str×D)} {ps:List (Key×V)} {ns:List Int},jG kvs=.ok ns->RDk K H O kvs ps->ps.map (·.1)=ns.map Sum.inl
 |[],ps,ns,h,r=>by cases h;cases (show ps=[]from r);rfl
 |(.inl n,d)::q,ps,ns,h,r=>by
  obtain⟨m,e1,h⟩:=Res.bind_ok (show(jG q>>=λx=>Res.ok (n::x))=.ok ns from h)
  cases h
  obtain⟨v,r',e,_,h2⟩:=r
  subst e
  rw[aK,aK,C9 e1 h2]
 |(.inr _,d)::q,ps,ns,h,r=>by cases h
theorem se_srt {pn:Pos} (hcm:X.calm=true) (hm1:X.mg "sorted" = none) (hg1:Gl X "sorted") (hp:aZ p=true) (ha:SR T cf X x p):SE T cf X (.srt x) (.Call (.Name "sorted" pn) [p] [] pos):=λH₀ O₀=>by
 refine PE.imp (λσ H Q hq=>?_) (qB (IL hcm) hg1 hm1 (by decide +kernel) (cY (ha H₀ O₀) eV (bC hp)) (by decide) (by decide) (bC hp) rfl)
 obtain⟨O,own,e,d,F,ev,k⟩:=hq
 (first|rw[nH]at ev|rw[xE_srt]at ev)
 obtain⟨d1,e1,ev1⟩:=Res.bind_ok ev
 refine⟨O,own,e,d1,F,e1,λv1 H1 s1 r1=>?_⟩
 cases d1 with
 |lst ds=>
  obtain⟨ns,e2,ev2⟩:=Res.bind_ok (show(dA ds>>=_)=Res.ok d from ev1)
  obtain⟨c,ev3⟩:=aS ev2
  cases ev3
  obtain⟨a,xs,rfl,q1,w1⟩:=r1.lst
  rw[wU e2 w1]at q1
  refine .inl ⟨a,ns,rfl,q1,of_decide_eq_true c,λl ns' hl hp hs=>?_⟩
  rw[xF (hp.trans (xD ns).symm) hs (xE ns)]
  have z:=jL (K:=X.K) (O:=O) (C6 (dN ns)) hl (F.grow s1).trk
  exact k _ _ (s1.trans (bZ hl _)) z.1 λ_=>z.2.back s1
 |dct kvs=>
  obtain⟨ns,e2,ev2⟩:=Res.bind_ok (show(jG kvs>>=_)=Res.ok d from ev1)
  obtain⟨c,ev3⟩:=aS ev2
  cases ev3
  obtain⟨a,ps,rfl,q1,w1⟩:=r1.dct
  refine .inr ⟨a,ps,ns,rfl,q1,C9 e2 w1,of_decide_eq_true c,λl ns' hl hp hs=>?_⟩
  rw[xF (hp.trans (xD ns).symm) hs (xE ns)]
  have z:=jL (K:=X.K) (O:=O) (C6 (dN ns)) hl (F.grow s1).trk
  exact k _ _ (s1.trans (bZ hl _)) z.1 λ_=>z.2.back s1
 |_=>cases ev1
theorem C_{e:Nv}{H₀ H H':Hp}{O₀ O:Addr->Prop}{own:Nat->Option Addr}{σ:L2.St}{K:PySem.W.Frag}{d:D}{v:V}(F:Fm K H₀ O₀ H O own e σ)(s:Same H H')(ev:evE T cf x e=.ok d)(hn:nG T x e=true)(hf:d.flatL=true)(n:bE T x=true->NewL K H H' O d v)
 (hv:∀j,x=.var j->bW σ j=some v):NV K H' O d v/\∀a,v=.ref a->H₀ a=none:=by
 unfold nG at hn
 rw[fE]at hn
 rcases hn with hn|hn
 ·obtain⟨h1,h2⟩:=(n hn).nv hf F.trk
  exact⟨h1,λa e=>F.same.free (h2 a e)⟩
 ·cases x with
  |var j=>
   have hn:(e.at j).isN=true:=hn
   have q:=F.sl j
   cases w:e.at j with
   |n d'=>
    rw[w]at q
    (first|rw[vT]at ev|rw[BL]at ev)
    rw[w]at ev
    cases ev
    obtain⟨v',e1,r⟩:=q
    rw[hv j rfl]at e1
    cases e1
    exact⟨r.map (λq=>q.same s) λa xs z q=>⟨z,s _ _ q⟩,λa e=>F.nw j _ a w (by rw[hv j rfl,e])⟩
   |_=>rw[w]at hn;cases hn
  |_=>cases hn
noncomputable def Ca:E->Option Nat
 |.var j=>some j
 |_=>none
theorem IP{i:Nat}{n:Str}(hx:dG p=true)(hN:X.N.Nodup)(hi:X.N[i]?=some n)(hl:Loc X.env.scope n)(hf:X.fn n=true\/X.env.scope.names.lookup n=some .local)(hv:Ca x=none)(h:SE T cf X x p):SS T cf X (.asgN i x) (.Assign [.Name n pos'] p pos):=λH₀ O₀=>by
 refine PS.imp (λD' σ H hq=>?_) (kC hN hi hl (h H₀ O₀) (jM hx) hf)
 obtain⟨ts,e,out,⟨O,own,F,tt⟩,ev,k⟩:=hq
 rw[vZ]at ev
 obtain⟨d,e1,ev⟩:=Res.bind_ok ev
 obtain⟨c,ev⟩:=aS ev
 cases ev
 rw[aD,fE]at c
 refine⟨O,own,e,d,F,e1,λv H' s' r n=>?_⟩
 have key:NV X.K H' O d v/\∀a,v=.ref a->H₀ a=none:=by
  rcases c.2 with z|z
  ·cases d with
   |non=>cases (show v=_ from r);exact⟨.inl ⟨rfl,rfl⟩,λa e=>by cases e⟩
   |_=>cases z
  ·exact C_ F s' e1 c.1 z n λj e=>by rw[e]at hv;cases hv
 exact k _ H' ⟨O,_,(F.grow s').setN i key.1 key.2,λt ht=>(tt t ht).same s'⟩
theorem IQ {i j:Nat} {n m:Str} {pm:Pos} (hN:X.N.Nodup) (hi:X.N[i]?=some n) (hl:Loc X.env.scope n) (hf:X.fn n=true\/X.env.scope.names.lookup n=some .local) (hj:X.N[j]?=some m) (hv:Vis X.env.scope m) (hd:(m==("__debug__" : Str))=false) (hc:(m==("__classdict__" : Str))=false):SS T cf X (.asgN i (.var j)) (.Assign [.Name n pos'] (.Name m pm) pos):=λH₀ O₀=>by
 refine PS.imp (λD' σ H hq=>?_) (kC hN hi hl (dZ hj hv hd hc) (jM rfl) hf)
 obtain⟨ts,e,out,⟨O,own,F,tt⟩,ev,k⟩:=hq
 rw[vZ]at ev
 obtain⟨d,e1,ev⟩:=Res.bind_ok ev
 obtain⟨c,ev⟩:=aS ev
 cases ev
 rw[aD,fE]at c
 obtain⟨v,g1,g2⟩:=F.val (i:=j) (by rw[vT]at e1;exact e1)
 have g3:bW σ j=some v:=by unfold bW;rw[g1];rfl
 have key:NV X.K H O d v/\∀a,v=.ref a->H₀ a=none:=by
  rcases c.2 with z|z
  ·cases d with
   |non=>cases (show v=_ from g2);exact⟨.inl ⟨rfl,rfl⟩,λa e=>by cases e⟩
   |_=>cases z
  ·exact C_ F (Same.refl H) e1 c.1 z (λz=>by cases z) λj e=>by cases e;exact g3
 exact⟨v,g1,k _ H ⟨O,_,F.setN i key.1 key.2,tt⟩⟩
end
theorem IR:typeLookup (.type "list") "keys" = pure none:=am_miss_of_fast (by decide +kernel)
theorem IS{prog:Program}{w:World}{A:Around}{E:Value->Shared->Prop}{s:Shared}{a:Addr}{o:Obj}{xs:Array Value}{k:Nat}{Q:Option Value->Shared->Prop}
 (hx:s.heap.get? a=some o) (hc:o.cls=.type "list") (hdat:o.data=.seq xs k) (hd:o.dict=none) (hA:A.handled=none)
 (h:∀h' tk e,Heap.NewExcOf s.heap h' e "AttributeError" -> Q none {s with heap:=h',toks:=tk}) :
 wpAny (model prog w) A (getAttr? (.ref a) "keys") Q E s:=by
 obtain⟨c,dct,dat,sl⟩:=o
 simp only at hc hdat hd
 subst hc hdat hd
 obtain⟨hp,g,d,tk,os⟩:=s
 have hT:∀tk',(⟨hp,g,d,tk',os⟩:Shared).TypeIs (.ref a) "list" := λ_=>⟨_,hx,rfl⟩
 have f1:=sub_AttributeError
 have f3:=F.slot_list_getattribute.lookup
 have f4:=F.slot_list_getattribute.bind (.ref a)
 have f5:=am_list_getattr_none
 unfold getAttr? getAttrBy? getAttrBy
 repeat(any_goals(first|assumption|exact hT _|((with_reducible show wpAny _ _ (call (Value.builtin "list.__getattribute__") _ _) _ _ _);refine call_meets F.slot_list_getattribute (hT _) am_entry_list_getattribute (F.args_list_getattribute_2 _ _) (meets_getattribute_miss_list a xs k sl "keys" _ IR (by decide +kernel) (by size_fits)) ⟨hx,hA,λh' tk' e hx'=>?_⟩)|wp_step))
 obtain⟨t',u',he⟩:=hx'.there
 show wpAny _ _ (getattributeRaised _ _ _ _ _ _ _) _ _ _
 unfold getattributeRaised
 repeat(any_goals(first|assumption|wp_step))
 exact h _ _ _ hx'.of
theorem Cb:entryFor table "dict.update.loop" = some Builtin.«dict.update.loop»:=entryFor_of_tree (by kernel_rfl)
theorem rF:plainId "dict.update.loop" = true:=by decide +kernel
section
variable{prog:Program}{w:World}
variable{A:Around}{R:Result->Shared->Prop}{I:Addr}{fp wr:List Addr}{G:Array GenState->Array GenState->Prop}{n:Nat}{P:Nat->Value->Prop}{St:Nat->Shared->Prop}
end
section
variable{prog:Program}{w:World}{A:Around}{E:Value->Shared->Prop}{s:Shared}
end
theorem IT{α β:Type}(f:β->α->β)(z:α)(vs:List α)(x:β):(fT 0 vs.length).foldl (λb j=>f b (vs.getD j z)) x=vs.foldl f x:=by
 have e:(fT 0 vs.length).map (λj=>vs.getD j z)=vs:=by
  rw[<-List.range_eq_range']
  apply List.ext_getElem
  ·simp
  ·intro i h1 h2
   simp[h2]
 rw[<-List.foldl_map (f:=λj=>vs.getD j z) (g:=f),e]
section
variable{T:Tab}{cf:Nat->List D->Res D}{X:Cx}{x y z:E}{p q r tg:Expr}{pos pos':Pos}{es:List Expr}
theorem Cc{K:PySem.W.Frag}{H:Hp}{O:Addr->Prop}:∀{kvs:List (Sum Int Str×D)} {ps:List (Key×V)} {i:Nat} {kv:Sum Int Str×D},RDk K H O kvs ps->kvs[i]?=some kv->∃q,ps[i]?=some q/\q.1=kv.1
 |[],_,_,_,_,e=>by simp at e
 |(k,d)::r,ps,i,kv,h,e=>by
  obtain⟨v,q,rfl,_,h2⟩:=h
  cases i with
  |zero=>cases e;exact⟨_,rfl,rfl⟩
  |succ i=>exact Cc (i:=i) h2 (by simpa using e)
theorem Cd{K:PySem.W.Frag}{H:Hp}{O:Addr->Prop}:∀{kvs:List (List (Sum Int Str)×D)} {ps:List (List Key×V)} {i:Nat} {kv:List (Sum Int Str)×D},RDt K H O kvs ps->kvs[i]?=some kv->∃q,ps[i]?=some q/\q.1=kv.1
 |[],_,_,_,_,e=>by simp at e
 |(k,d)::r,ps,i,kv,h,e=>by
  obtain⟨v,q,rfl,_,h2⟩:=h
  cases i with
  |zero=>cases e;exact⟨_,rfl,rfl⟩
  |succ i=>exact Cd (i:=i) h2 (by simpa using e)
theorem Ce{K:PySem.W.Frag}{H:Hp}{O:Addr->Prop}(k:Key):RD K H O (kH k) (kV k):=by
 cases k with
 |inl i=>exact rfl
 |inr x=>exact rfl
theorem Cf{K:PySem.W.Frag}{H:Hp}{O:Addr->Prop}:∀(ks:List Key),RDs K H O (ks.map kH) (ks.map kV)
 |[]=>rfl
 |k::ks=>⟨_,_,rfl,Ce k,Cf ks⟩
theorem IU{K:PySem.W.Frag}{a:Addr}{o:Obj}{kvs:List (Sum Int Str×D)}{ps:List (Key×V)}(hl:ps.length=kvs.length)(hk:∀(i:Nat)(kv:Sum Int Str×D),kvs[i]?=some kv->∃q:Key×V,ps[i]?=some q/\q.1=kv.1):Wk K (Itk a o kvs.length) [.fr a o (.dK ps)] (kvs.map λkv=>kH kv.1):=by
 intro i H O r
 have h:H a=some (.frz o (.dK ps)):=r _ (cS.mpr rfl)
 rw[aE]
 refine⟨λhi=>.inl ⟨ps,h,hl,hi⟩,λhi=>⟨.inl ⟨ps,h,hl⟩,hi⟩,λx H' d hd y=>?_⟩
 obtain⟨rfl,y⟩:=y
 refine⟨Same.refl _,?_⟩
 rw[bO]at hd
 cases hz:kvs[i]? with
 |none=>rw[hz]at hd;cases hd
 |some kv=>
  rw[hz]at hd
  cases hd
  obtain⟨q,h1,h2⟩:=hk i kv hz
  rcases y with⟨ps',y1,y2,y3⟩|⟨ps',y1,_⟩
  ·rw[h]at y1
   cases y1
   rw[h1]at y3
   cases y3
   show RD K _ O (kH kv.1) (kV q.1)
   rw[h2]
   exact Ce _
  ·rw[h]at y1;cases y1
theorem IV{K:PySem.W.Frag}{a:Addr}{o:Obj}{kvs:List (List (Sum Int Str)×D)}{ps:List (List Key×V)}(hl:ps.length=kvs.length)(hk:∀(i:Nat)(kv:List (Sum Int Str)×D),kvs[i]?=some kv->∃q:List Key×V,ps[i]?=some q/\q.1=kv.1):Wk K (Itk a o kvs.length) [.fr a o (.dT ps)] (kvs.map λkv=>.tup (kv.1.map kH)):=by
 intro i H O r
 have h:H a=some (.frz o (.dT ps)):=r _ (cS.mpr rfl)
 rw[aE]
 refine⟨λhi=>.inr ⟨ps,h,hl,hi⟩,λhi=>⟨.inr ⟨ps,h,hl⟩,hi⟩,λx H' d hd y=>?_⟩
 obtain⟨rfl,y⟩:=y
 refine⟨Same.refl _,?_⟩
 rw[bO]at hd
 cases hz:kvs[i]? with
 |none=>rw[hz]at hd;cases hd
 |some kv=>
  rw[hz]at hd
  cases hd
  obtain⟨q,h1,h2⟩:=hk i kv hz
  rcases y with⟨ps',y1,_⟩|⟨ps',y1,y2,y3⟩
  ·rw[h]at y1;cases y1
  ·rw[h]at y1
   cases y1
   rw[h1]at y3
   rcases y3 with⟨z,_⟩|⟨q',b,z1,z2,z3⟩
   ·cases z
   ·cases z1
    cases z2
    rw[h2]at z3
    exact⟨b,_,rfl,.inl z3,Cf _⟩
theorem SI.up(h:SI T cf X tg x false p):SI T cf X tg x true p:=λH₀ O₀ pins s σ H R I q=>
 h H₀ O₀ pins s σ H R I (let ⟨O,own,e,ds,F,ev,k⟩:=q;⟨O,own,e,ds,F,ev,λJ H' srs s' r _ wk=>k J H' srs s' r (λz=>nomatch z) wk⟩)
theorem Cg(hv:SE T cf X x p):SI T cf X tg (.seqD x) false p:=by
 intro H₀ O₀ pins s σ H R I h
 obtain⟨O,own,e,ds,F,ev,k⟩:=h
 rw[GN]at ev
 obtain⟨d1,e1,ev⟩:=Res.bind_ok ev
 refine thn (hv H₀ O₀ pins s σ H (λv H1=>Same H H1/\RD X.K H1 O d1 v) I ⟨O,own,e,d1,F,e1,λv H' s' r _=>⟨s',r⟩⟩) λu s1 ⟨v,H1,I1,r1,s1',rr⟩=>?_
 have go:∀(a:Addr)(o:Obj)(n:Nat)(es:Array DictEntry)(ep:Nat)(pn:Pin),o.data=.dict es ep->RawD s1.heap a es ep->(a==sysModules)=false->es.size=n->PinOk X.K H1 O pn->Wk X.K (Itk a o n) [pn] ds->wpAny (model X.prog X.w) X.A (pyIter (.ref a)) (PIE X pins σ tg R) X.xe s1:=by
  intro a o n es ep pn hd rw' ns hn hp wk
  subst hn
  refine GX ns rw' ?_
  refine⟨s1.heap.objs.size,[s1.heap.objs.size],_,Itk a o es.size,H1,rfl,I1.kept (t':=s1.toks) λb u e=>Heap.get?_push_of_some _ e,G1 hd a _ es.size rfl,⟨_,Heap.get?_push_size _ rfl,rfl,rfl⟩,λb hb=>?_,k _ H1 [pn] s1' (λt ht=>by rw[cS.mp ht];exact hp.rr) (λ_ t ht=>by rw[cS.mp ht];exact hp) wk⟩
  rcases aY.mp hb with rfl|hb
  ·exact I1.fpOk (aQ _) (I1.hok.fresh (aQ _))
  ·cases hb
 cases d1 with
 |tdc kvs=>
  cases (show Res.ok _=Res.ok ds from ev)
  obtain⟨a,ps,rfl,⟨o,hf⟩,w⟩:=rr
  cases r1
  obtain⟨e1,e2,e3,xs,e4,o',es,ep,g1,g2,g3,g4⟩:=(show ObjOk X.prog X.w H1 s1.heap a (.frz o (.dT ps))from I1.hok a _ hf)
  have eo:o'=o:=by rw[e1]at g1;cases g1;rfl
  subst eo
  obtain⟨x1,x2,x3,x4⟩:=wD I1 hf g3
  exact go a o' kvs.length es ep (.fr a o' (.dT ps)) g3 x1 x2 (by rw[x3,w.length]) hf (IV w.length λi kv=>Cd w)
 |dct kvs=>
  cases (show Res.ok _=Res.ok ds from ev)
  obtain⟨a,ps,rfl,⟨o,hf⟩,w⟩:=rr
  cases r1
  obtain⟨e1,e2,e3,xs,e4,o',es,ep,g1,g2,g3,g4⟩:=(show ObjOk X.prog X.w H1 s1.heap a (.frz o (.dK ps))from I1.hok a _ hf)
  have eo:o'=o:=by rw[e1]at g1;cases g1;rfl
  subst eo
  obtain⟨x1,x2,x3,x4⟩:=wC I1 hf g3
  exact go a o' kvs.length es ep (.fr a o' (.dK ps)) g3 x1 x2 (by rw[x3,w.length]) hf (IU w.length λi kv=>Cc w)
 |_=>cases ev
end
section
variable{K:PySem.W.Frag}{H₀ H H':Hp}{O₀ O:Addr->Prop}{own:Nat->Option Addr}{e:Nv}{σ:L2.St}
theorem IW{a b:Addr}{u1 u2 n1 n2:HO}(ab:a≠b)(h1:H a=some u1)(h2:H b=some u2)(g1:H' a=some n1)(g2:H' b=some n2)(s:xA a b H H') :
 ∃H1,Same H H1/\H1 a=some u1/\H1 b=some u2/\upd (upd H1 a n1) b n2=H'/\upd H1 a n1=upd H' b u2:=by
 have e1:upd (upd H' a u1) b u2 a=some u1:=by rw[aG ab,bQ]
 refine⟨upd (upd H' a u1) b u2,λc o q=>?_,e1,bQ,funext λc=>?_,funext λc=>?_⟩
 ·by_cases z2:c=b
  ·subst z2;rw[bQ,<-h2,q]
  ·rw[aG z2]
   by_cases z1:c=a
   ·subst z1;rw[bQ,<-h1,q]
   ·rw[aG z1];exact s c o z1 z2 q
 ·by_cases z2:c=b
  ·subst z2;rw[bQ,g2]
  ·rw[aG z2]
   by_cases z1:c=a
   ·subst z1;rw[bQ,g1]
   ·rw[aG z1,aG z2,aG z1]
 ·by_cases z1:c=a
  ·subst z1;rw[bQ,aG ab,g1]
  ·rw[aG z1]
   by_cases z2:c=b
   ·subst z2;rw[bQ,bQ]
   ·rw[aG z2,aG z2,aG z1]
theorem Sl.giv_ok{x:Sl}{g:List (Sum Int Str×D)}(h:x.givD=.ok g):x=.o (.dct g)\/∃a,x=.r a (.dct g):=by
 unfold Sl.givD at h
 split at h
 ·cases h;exact .inl rfl
 ·cases h;exact .inr ⟨_,rfl⟩
 ·cases h
theorem Sl.refD_ok{x:Sl}{g:Nat×List (Sum Int Str×D)}(h:x.refD=.ok g):x=.r g.1 (.dct g.2):=by
 unfold Sl.refD at h
 split at h
 ·cases h;rfl
 ·cases h
theorem Fm.giv(F:Fm K H₀ O₀ H O own e σ){i:Nat}{g:List (Sum Int Str×D)}(h:(e.at i).givD=.ok g):∃a,own i=some a/\bW σ i=some (.ref a)/\OwnAt K H O a (.dct g)/\O a/\H₀ a=none:=by
 have q:=F.sl i
 rcases Sl.giv_ok h with z|⟨a,z⟩
 ·rw[z]at q
  obtain⟨a,e1,e2,h1⟩:=q
  exact⟨a,e1,e2,h1,F.new i a e1⟩
 ·rw[z]at q
  exact⟨a,q.1,q.2.1,q.2.2,F.new i a q.1⟩
theorem Fm.mutG(F:Fm K H₀ O₀ H O own e σ){i:Nat}{g:List (Sum Int Str×D)}(hi:(e.at i).givD=.ok g){p:Addr}(e1:own i=some p){d':D}{o':HO}(r:OwnAt K (upd H p o') O p d') :
 Fm K H₀ O₀ (upd H p o') O own (e.set i ((e.at i).giv d')) σ:=by
 obtain⟨p',e1',e2,h1,hn⟩:=F.giv hi
 rw[e1]at e1'
 cases e1'
 obtain⟨o,ho,hm⟩:=h1.obj
 have hlen:i<e.length:=by
  by_cases h:i<e.length
  ·exact h
  ·rw[gW h]at hi;cases hi
 have hx:∀d,(e.at i).giv d'≠.n d:=λd z=>by
  rcases Sl.giv_ok hi with q|⟨a,q⟩
  ·rw[q]at z;cases z
  ·rw[q]at z;cases z
 refine⟨by rw[cI];exact F.len,λj=>?_,F.inj,λb u hb=>?_,F.sub,F.trk0,λa ha=>?_,F.new,qP hx F.nw⟩
 ·by_cases h:i=j
  ·subst h
   rw[iL hlen,e2]
   rcases Sl.giv_ok hi with q|⟨a,q⟩
   ·rw[q];exact⟨p,e1,rfl,r⟩
   ·have q2:=F.sl i
    rw[q]at q2⊢
    have ea:a=p:=by have:=q2.1;rw[e1]at this;cases this;rfl
    subst ea
    exact⟨e1,rfl,r⟩
  ·rw[eX h]
   refine RS.map (λq=>q.updM hn.1 ho hm) (λq=>q.updM hn.1 ho hm) (λq=>q.updM hn.1 ho hm) (λq=>q.updM hn.1 ho hm) (λa u ea _ q=>?_) (F.sl j) (qQ hn.1) (dP (K:=K) hn.1 ho hm).1
   have:a≠p:=λz=>h (F.inj i j p e1 (z▸ea))
   rw[aG this];exact q
 ·rw[aG (λz=>by rw[z,hn.2]at hb;cases hb)];exact F.same b u hb
 ·by_cases h:a=p
  ·subst h;exact⟨_,bQ⟩
  ·obtain⟨ys,q⟩:=F.trk a ha
   exact⟨ys,by rw[aG h];exact q⟩
theorem Fm.mut2(F:Fm K H₀ O₀ H O own e σ){i j:Nat}(ij:i≠j){g h g' h':List (Sum Int Str×D)}(hi:(e.at i).givD=.ok g)(hj:(e.at j).givD=.ok h){a b:Addr}(ea:own i=some a)(eb:own j=some b)(s:xA a b H H')(oa:OwnAt K H' O a (.dct g'))(ob:OwnAt K H' O b (.dct h')) :
 Fm K H₀ O₀ H' O own ((e.set i ((e.at i).giv (.dct g'))).set j ((e.at j).giv (.dct h'))) σ/\∀t,PinOk K H O t->PinOk K H' O t:=by
 obtain⟨a',ea',_,h1,hn1⟩:=F.giv hi
 rw[ea]at ea';cases ea'
 obtain⟨b',eb',_,h2,hn2⟩:=F.giv hj
 rw[eb]at eb';cases eb'
 have ab:a≠b:=λz=>ij (F.inj i j a ea (z▸eb))
 obtain⟨ps1,g1,r1⟩:=oa
 obtain⟨ps2,g2,r2⟩:=ob
 obtain⟨u1,w1,m1⟩:=h1.obj
 obtain⟨u2,w2,m2⟩:=h2.obj
 obtain⟨H1,s1,x1,x2,eq,eq2⟩:=IW ab w1 w2 g1 g2 s
 have y2:upd H1 a (.dK ps1) b=some u2:=by rw[aG (Ne.symm ab)];exact x2
 refine⟨?_,λt ht=>?_⟩
 ·have F1:=(F.grow s1).mutG hi ea (d':=.dct g') (o':=.dK ps1) ⟨ps1,bQ,by rw[eq2];exact r1.updM hn2.1 g2 trivial⟩
  have hj1:Nv.at (e.set i ((e.at i).giv (.dct g'))) j=e.at j:=eX ij
  have F2:=F1.mutG (i:=j) (by rw[hj1];exact hj) eb (d':=.dct h') (o':=.dK ps2) (by rw[eq];exact⟨ps2,g2,r2⟩)
  rw[hj1,eq]at F2
  exact F2
 ·have q:=((ht.same s1).updM hn1.1 x1 m1 (o':=.dK ps1)).updM hn2.1 y2 m2 (o':=.dK ps2)
  rw[eq]at q
  exact q
end
section
variable{T:Tab}{cf:Nat->List D->Res D}{X:Cx}{x y c:E}{p q:Expr}{pos:Pos}{a b:S}
noncomputable def tRf(T:Tab)(cf:Nat->List D->Res D)(K:PySem.W.Frag)(H₀:Hp)(O₀:Addr->Prop)(f:Nat)(x:E)(i j:Nat)(y:E):TT:=λσ H Q=>
 ∃O own e d1 g h d2 r k,Fm K H₀ O₀ H O own e σ/\i≠j/\evE T cf x e=.ok d1/\(e.at i).givD=.ok g/\(e.at j).givD=.ok h/\evE T cf y e=.ok d2/\fG cf f d1 g h d2=.ok r/\r.1.truth=.ok k /\
  ∀H',Fm K H₀ O₀ H' O own ((e.set i ((e.at i).giv (.dct r.2.1))).set j ((e.at j).giv (.dct r.2.2))) σ->(∀t,PinOk K H O t->PinOk K H' O t)->Q k H'
theorem Ci {f i j:Nat} {n n1 n2:Str} {pn p1 p2:Pos} (hm0:T.mv f=some 1000) (hd:lO T cf X f n) (hg:Gl X n) (hdb:(n==("__debug__" : Str))=false) (hp:aZ p=true) (hq:aZ q=true)
 (h1:X.N[i]?=some n1/\Vis X.env.scope n1/\(n1==("__debug__" : Str))=false/\(n1==("__classdict__" : Str))=false) (h2:X.N[j]?=some n2/\Vis X.env.scope n2/\(n2==("__debug__" : Str))=false/\(n2==("__classdict__" : Str))=false)
 (hx:SE T cf X x p) (hy:SE T cf X y q) (H₀:Hp) (O₀:Addr->Prop) :
 PT X (.Call (.Name n pn) [p,.Name n1 p1,.Name n2 p2,q] [] pos) (tRf T cf X.K H₀ O₀ f x i j y):=by
 obtain⟨k,a,fd,ps,Fk,hr,hm,hk,hb⟩:=hd
 rw[xB hm0]at Fk
 have hA:=cY (hx H₀ O₀) (cY (dZ (pos:=p1) h1.1 h1.2.1 h1.2.2.1 h1.2.2.2) (cY (dZ (pos:=p2) h2.1 h2.2.1 h2.2.2.1 h2.2.2.2) (cY (hy H₀ O₀) eV (bC hq)))) (bC hp)
 refine PT.imp (λσ H Q hq=>?_) (A6 (qA Fk hr hg hm hk hb .nil qL hA hdb (bC hp) (fK (by simp[hq];exact⟨rfl,rfl⟩))) λ_=>rfl)
 obtain⟨O,own,e,d1,g,h,d2,r,kk,F,ij,e1,e2,e3,e4,e5,e6,qk⟩:=hq
 obtain⟨pa,fa,ga,oa,na⟩:=F.giv e2
 obtain⟨pb,fb,gb,ob,nb⟩:=F.giv e3
 have ab:pa≠pb:=λz=>ij (F.inj i j pa fa (z▸fb))
 refine⟨O,own,e,d1,F,e1,λv1 H1 s1 r1 _=>⟨.ref pa,dQ ga,.ref pb,dQ gb,O,own,e,d2,F.grow s1,e4,λv4 H4 s4 r4 _=>?_⟩⟩
 have F4:=F.grow (s1.trans s4)
 refine⟨O,d1,d2,g,h,v1,v4,pa,pb,r.1,r.2.1,r.2.2,rfl,ab,⟨na.1,nb.1,F4.trk⟩,⟨r1.same s4,r4,oa.same (s1.trans s4),ob.same (s1.trans s4)⟩,GO e5 pa pb ab,λv H' sx rv oa' ob'=>⟨kk,rC rv.rr e6,?_⟩⟩
 obtain⟨F',pin⟩:=F4.mut2 ij e2 e3 fa fb sx oa' ob'
 exact qk H' F' λt ht=>pin t (ht.same (s1.trans s4))
variable{ps qs:List Stmt}{cp:Expr}
theorem Cj{f i j:Nat}{neg:Bool}{σ:L2.St}{H₀ H:Hp}{O₀:Addr->Prop}{D':Ends}{ts:List Pin}{e:Nv}{out:Out}{O:Addr->Prop}{own:Nat->Option Addr}(ij:i≠j)(F:Fm X.K H₀ O₀ H O own e σ)(tt:∀t∈ts,PinOk X.K H O t)(kx:Ends.to X.K H₀ O₀ ts D' out)
 (ev:(do
  let d1<-evE T cf x e
  let g<-(e.at i).givD
  let h<-(e.at j).givD
  let d2<-evE T cf y e
  let r<-fG cf f d1 g h d2
  let k<-r.1.truth
  let e1:=(e.set i ((e.at i).giv (.dct r.2.1))).set j ((e.at j).giv (.dct r.2.2))
  if(k != neg)then exS T cf a e1 else exS T cf b e1)=.ok out) :
 tRf T cf X.K H₀ O₀ f x i j y σ H λc H1=>if(c != neg)=true then tS T cf X.K H₀ O₀ a D' σ H1 else tS T cf X.K H₀ O₀ b D' σ H1:=by
 obtain⟨d1,e1,ev⟩:=Res.bind_ok ev
 obtain⟨g,e2,ev⟩:=Res.bind_ok ev
 obtain⟨h,e3,ev⟩:=Res.bind_ok ev
 obtain⟨d2,e4,ev⟩:=Res.bind_ok ev
 obtain⟨r,e5,ev⟩:=Res.bind_ok ev
 obtain⟨k,e6,ev⟩:=Res.bind_ok ev
 dsimp only at ev
 ·refine⟨O,own,e,d1,g,h,d2,r,k,F,ij,e1,e2,e3,e4,e5,e6,λH' F' pin=>?_⟩
  by_cases c:(k != neg)=true
  ·rw[if_pos c]at ev⊢
   exact⟨ts,_,out,⟨O,own,F',λt ht=>pin t (tt t ht)⟩,ev,kx⟩
  ·rw[if_neg c]at ev⊢
   exact⟨ts,_,out,⟨O,own,F',λt ht=>pin t (tt t ht)⟩,ev,kx⟩
theorem ss_ifN {f i j:Nat} {n n1 n2:Str} {pn p1 p2 pos' pos2:Pos} (hd:lO T cf X f n) (hg:Gl X n) (hdb:(n==("__debug__" : Str))=false) (hp:aZ p=true) (hq:aZ q=true)
 (h1:X.N[i]?=some n1/\Vis X.env.scope n1/\(n1==("__debug__" : Str))=false/\(n1==("__classdict__" : Str))=false) (h2:X.N[j]?=some n2/\Vis X.env.scope n2/\(n2==("__debug__" : Str))=false/\(n2==("__classdict__" : Str))=false)
 (hx:SE T cf X x p) (hy:SE T cf X y q) (ha:SB T cf X a ps) (hb:SB T cf X b qs) :
 SS T cf X (.ifR true c f x i j y a b) (.If (.UnaryOp .Not (.Call (.Name n pn) [p,.Name n1 p1,.Name n2 p2,q] [] pos') pos2) ps qs pos):=λH₀ O₀=>by
 by_cases hm0:T.mv f=some 1000
 rotate_left
 ·exact PS.imp (λD' σ H ⟨ts,e,out,F,ev,k⟩=>by
   rw[kK]at ev
   obtain⟨cc,_⟩:=aS ev
   rw[aD,decide_eq_true_eq]at cc
   exact hm0 cc.1) A0
 refine PS.imp (λD' σ H hq=>?_) (kB (AY (Ci hm0 hd hg hdb hp hq h1 h2 hx hy H₀ O₀)) (ha H₀ O₀) (hb H₀ O₀))
 obtain⟨ts,e,out,⟨O,own,F,tt⟩,ev,k⟩:=hq
 rw[kK]at ev
 obtain⟨cc,ev⟩:=aS ev
 rw[aD,decide_eq_true_eq,decide_eq_true_eq]at cc
 rw[if_pos rfl,Res.ok_bind,if_neg aP]at ev
 have:=Cj (X:=X) cc.2 F tt k ev
 have z:∀c:Bool,(c != true)=!c:=λc=>by cases c<;>rfl
 simp only[z]at this
 exact this
theorem ss_ifC {f i j:Nat} {n n1 n2:Str} {pn p1 p2 pos' pos2:Pos} (hd:lO T cf X f n) (hg:Gl X n) (hdb:(n==("__debug__" : Str))=false) (hp:aZ p=true) (hq:aZ q=true)
 (h1:X.N[i]?=some n1/\Vis X.env.scope n1/\(n1==("__debug__" : Str))=false/\(n1==("__classdict__" : Str))=false) (h2:X.N[j]?=some n2/\Vis X.env.scope n2/\(n2==("__debug__" : Str))=false/\(n2==("__classdict__" : Str))=false)
 (hc:ST T cf X c cp) (hx:SE T cf X x p) (hy:SE T cf X y q) (ha:SB T cf X a ps) (hb:SB T cf X b qs) :
 SS T cf X (.ifR false c f x i j y a b) (.If (.BoolOp .Or [cp,.Call (.Name n pn) [p,.Name n1 p1,.Name n2 p2,q] [] pos'] pos2) ps qs pos):=λH₀ O₀=>by
 by_cases hm0:T.mv f=some 1000
 rotate_left
 ·exact PS.imp (λD' σ H ⟨ts,e,out,F,ev,k⟩=>by
   rw[kK]at ev
   obtain⟨cc,_⟩:=aS ev
   rw[aD,decide_eq_true_eq]at cc
   exact hm0 cc.1) A0
 refine PS.imp (λD' σ H hq=>?_) (kB (AX (hc H₀ O₀) (AW (Ci hm0 hd hg hdb hp hq h1 h2 hx hy H₀ O₀))).pt (ha H₀ O₀) (hb H₀ O₀))
 obtain⟨ts,e,out,⟨O,own,F,tt⟩,ev,k⟩:=hq
 rw[kK]at ev
 obtain⟨cc,ev⟩:=aS ev
 rw[aD,decide_eq_true_eq,decide_eq_true_eq]at cc
 rw[if_neg aP]at ev
 obtain⟨k0,e0,ev⟩:=Res.bind_ok ev
 obtain⟨d0,e00,e0⟩:=Res.bind_ok e0
 refine⟨O,own,e,d0,k0,F,e00,e0,λH1 s1=>?_⟩
 cases k0 with
 |true=>
  rw[if_pos rfl]at ev⊢
  show(if true=true then _ else _)
  rw[if_pos rfl]
  exact⟨ts,e,out,⟨O,own,F.grow s1,λt ht=>(tt t ht).same s1⟩,ev,k⟩
 |false=>
  rw[if_neg aP]at ev⊢
  have:=Cj (X:=X) cc.2 (F.grow s1) (λt ht=>(tt t ht).same s1) k ev
  have z:∀c:Bool,(c != false)=c:=λc=>by cases c<;>rfl
  simp only[z]at this
  exact this
theorem IX {i:Nat} {n:Str} {px tpos:Pos} (hR:iM X) (hN:X.N[i]?=some n) (hv:Vis X.env.scope n) (hd:(n==("__debug__" : Str))=false) (hc:(n==("__classdict__" : Str))=false) (hx:dG p=true) (hk:SE T cf X y q) (h:SE T cf X x p) :
 SS T cf X (.dputR i y x) (.Assign [.Subscript (.Name n px) q tpos] p pos):=λH₀ O₀=>by
 have hR':X.A.units+64<cLine:=hR
 refine PS.imp (λD' σ H hq=>?_) (GI (by lia) (dZ hN hv hd hc) (hk H₀ O₀) (h H₀ O₀) (jM hx))
 obtain⟨ts,e,out,⟨O,own,F,tt⟩,ev,k⟩:=hq
 rw[BV]at ev
 obtain⟨d,e1,ev⟩:=Res.bind_ok ev
 obtain⟨l,e2,ev⟩:=Res.bind_ok ev
 obtain⟨dk,e3,ev⟩:=Res.bind_ok ev
 obtain⟨key,e4,ev⟩:=Res.bind_ok ev
 obtain⟨c,ev⟩:=aS ev
 cases ev
 have eg:(e.at i).givD=.ok l.2:=by rw[Sl.refD_ok e2];rfl
 obtain⟨q1,f0,g1,g2,g4⟩:=F.giv eg
 refine⟨O,own,e,d,F,e1,λv H1 s1 r1 _=>?_⟩
 refine⟨.ref q1,dQ g1,O,own,e,dk,F.grow s1,e3,λvk H2 s2 r2 _=>?_⟩
 have ex:=lM (gC e4) r2.rr
 subst ex
 have F2:=(F.grow s1).grow s2
 obtain⟨xs2,f2,f3⟩:=(g2.same s1).same s2
 refine⟨q1,_,rfl,DPut.k f2 (by rw[f3.length,<-eY];exact of_decide_eq_true c),?_⟩
 have Fn:=F2.mutG eg f0 (d':=.dct (dE l.2 key d)) (o':=.dK _) ⟨_,bQ,(Bs (r1.same s2) f3).updM g4.1 f2 trivial⟩
 have eq:(e.at i).giv (.dct (dE l.2 key d))=.r l.1 (.dct (dE l.2 key d)):=by rw[Sl.refD_ok e2];rfl
 rw[eq]at Fn
 exact k _ _ ⟨O,own,Fn,λt ht=>(((tt t ht).same s1).same s2).updM g4.1 f2 trivial⟩
theorem IY{i j:Nat}(h:SE T cf X x p):SS T cf X (.retR x i j) (.Return (some p) pos):=λH₀ O₀=>by
 refine PS.imp (λD' σ H hq=>?_) (kA (h H₀ O₀))
 obtain⟨ts,e,out,⟨O,own,F,tt⟩,ev,k⟩:=hq
 rw[BW]at ev
 obtain⟨d,e1,ev⟩:=Res.bind_ok ev
 obtain⟨l,e2,ev⟩:=Res.bind_ok ev
 obtain⟨m,e3,ev⟩:=Res.bind_ok ev
 cases ev
 have q1:=F.sl i
 rw[Sl.refD_ok e2]at q1
 have q2:=F.sl j
 rw[Sl.refD_ok e3]at q2
 have w:∀c,(O₀ c\/c=l.1\/c=m.1)->O c:=λc hc=>by
  rcases hc with z|z|z
  ·exact F.sub c z
  ·rw[z];exact(F.new i _ q1.1).1
  ·rw[z];exact(F.new j _ q2.1).1
 exact⟨O,own,e,d,F,e1,λv H' s' r n=>k v H' (F.same.trans s') (r.weak w) ((q1.2.2.same s').weak w) ((q2.2.2.same s').weak w)⟩
theorem IZ {i j:Nat} {n nm m:Str} {px pm apos cpos:Pos} (hN:X.N[i]?=some n) (hv:Vis X.env.scope n) (hd:(n==("__debug__" : Str))=false) (hc:(n==("__classdict__" : Str))=false) (hnm:nm = "extend") (hline:(apos.endLine==cpos.line)=true)
 (h2:X.N[j]?=some m/\Vis X.env.scope m/\(m==("__debug__" : Str))=false/\(m==("__classdict__" : Str))=false) :
 SS T cf X (.extN i j) (.Expr (.Call (.Attribute (.Name n px) nm apos) [.Name m pm] [] cpos) pos):=λH₀ O₀=>by
 subst hnm
 refine PS.imp (λD' σ H hq=>?_) (lF (vB PySem.F.plainAttrs_list PySem.F.slot_list_extend PySem.F.type_list_extend Ap (dZ hN hv hd hc) (cY (dZ (pos:=pm) h2.1 h2.2.1 h2.2.2.1 h2.2.2.2) eV) rfl rfl hline rfl rfl) rfl)
 obtain⟨ts,e,out,⟨O,own,F,tt⟩,ev,k⟩:=hq
 rw[vW]at ev
 split at ev
 ·rename_i b hj
  obtain⟨l,e2,ev⟩:=Res.bind_ok ev
  obtain⟨c,ev⟩:=aS ev
  cases ev
  obtain⟨q0,xs0,f1,f2,f3,f4,f5⟩:=F.mut i (Sl.own_ok e2)
  have q:=F.sl j
  rw[hj]at q
  obtain⟨v,g1,g2⟩:=q
  rcases g2 with⟨z,_⟩|⟨ds,p,zs,w1,w2,rfl,w4,w5,w6⟩
  ·cases z
  ·cases w1
   refine⟨.ref q0,dQ f1,.inl ⟨rfl,xs0,.of f2⟩,.ref p,dQ g1,?_⟩
   refine⟨q0,p,xs0,zs,rfl,rfl,f2,w4,by rw[f3.length,w6.length,<-eY];exact of_decide_eq_true c,?_⟩
   exact k _ _ ⟨O,own,f5 _ _ (f3.append w6),λt ht=>(tt t ht).upd f4 f2⟩
 ·cases ev
end
theorem I_{xs:List (Key×Value)}{k:Key}{u:Value}:(stored xs k u).length<=xs.length+1:=by
 unfold stored
 split
 ·rw[aE];exact uN _
 ·rw[cE];exact aQ _
noncomputable def PairK(h:Heap)(x:Addr)(q:Key×Value×Value):Prop:=
 (∃o n,h.get? x=some o/\o.cls=.type "tuple" /\ o.data=.seq #[q.2.1,q.2.2] n)/\gN q.1 q.2.1=true
theorem PairK.keeps{h h':Heap}{x:Addr}{q:Key×Value×Value}(p:PairK h x q)(k0:∀o,h.get? x=some o->h'.get? x=some o):PairK h' x q:=by
 obtain⟨⟨o,n,e1,e2,e3⟩,e4⟩:=p
 exact⟨⟨o,n,k0 _ e1,e2,e3⟩,e4⟩
section
variable{prog:Program}{w:World}
theorem rG{h h':Heap}{d:Addr}{xs:List (Key×Value)}(hd:h.DictOf (bP prog w) d xs)(k0:∀o,h.get? d=some o->h'.get? d=some o):h'.DictOf (bP prog w) d xs:=by
 obtain⟨o,es,ep,ho,r⟩:=hd
 exact⟨o,es,ep,k0 o ho,r⟩
variable{A:Around}{R:Result->Shared->Prop}{I:Addr}{fp wr:List Addr}{G:Array GenState->Array GenState->Prop}{n:Nat}{P:Nat->Value->Prop}{St:Nat->Shared->Prop}
theorem Ia(W:WalksS prog w A.in1 I fp wr G n P St)(d:Addr)(hdf:d∉fp)(val:Nat->Key×Value×Value)(hu:A.in1.units<cLine) :
 ∀(k i:Nat)(s:Shared)(xs:List (Key×Value)),n-i=k->i<=n->St i s->xs.length+k<=sizeLine ->
  (∀i v,i<n->P i v->∃x,v=.ref x/\(x≠d/\x∉wr)/\PairK s.heap x (val i)) ->
  s.heap.DictOf (bP prog w) d xs ->
  (∀s',Moved (d::wr) G s s'->s'.heap.DictOf (bP prog w) d ((fT i k).foldl (λxs j=>stored xs (val j).1 (val j).2.2) xs)->R (.ok (.ret .none)) s') ->
  codeAny (model prog w) A (.builtin "dict.update.loop" ⟨[.ref d,.ref I,rawInt (i:Nat),.none],[]⟩) R s:=by
 have hdw:d∉wr:=λh=>hdf (W.sub _ h)
 have hsub:∀b∈wr,b∈d::wr:=λb hb=>bG _ hb
 intro k
 induction k with
 |zero=>
  intro i s xs hk hi hst hz hT hD hR
  have hin:i=n:=by lia
  subst hin
  refine codeAny_builtin Cb ?_
  rw[Around.under_plainId rF _]
  show wpAny _ A.in1 (pyNext (.ref I)>>=_) _ _ s
  refine wpAny_bind (W.done s _ _ hst λs' hm=>?_)
  show wpAny _ A.in1 (Builtin.Dict.addKeywords d []>>=_) _ _ s'
  exact wpAny_bind (wpAny_pure (wpAny_pure (hR s' (hm.mono hsub) (rG hD λo e=>hm.heap d o hdw e))))
 |succ k ih=>
  intro i s xs hk hi hst hz hT hD hR
  have hlt:i<n:=by lia
  refine codeAny_builtin Cb ?_
  rw[Around.under_plainId rF _]
  show wpAny _ A.in1 (pyNext (.ref I)>>=_) _ _ s
  refine wpAny_bind (W.item i s _ _ hlt hst λv s' hP hst' hm=>?_)
  have hT':∀i v,i<n->P i v->∃x,v=.ref x/\(x≠d/\x∉wr)/\PairK s'.heap x (val i):=λi v hi hv=>by
   obtain⟨x,e1,e2,e4⟩:=hT i v hi hv
   exact⟨x,e1,e2,e4.keeps λo e=>hm.heap x o e2.2 e⟩
  obtain⟨x,rfl,hxd,⟨ox,nx,ex,cx,dx⟩,hkx⟩:=hT' i v hlt hP
  have hD':s'.heap.DictOf (bP prog w) d xs:=rG hD λo e=>hm.heap d o hdw e
  show wpAny _ A.in1 (holding [.ref x] _>>=_) _ _ s'
  have tx:s'.TypeIs (.ref x) "tuple" := ⟨ox,ex,cx⟩
  refine wpAny_bind (wpAny_holding ?_)
  refine wpAny_bind (wpAny_tryCatch ?_)
  unfold Builtin.Dict.pairItems
  refine wpAny_bind (wpAny_typeOf tx ?_)
  rw[if_pos (by decide)]
  refine wpAny_bind (wpAny_seqItems ex dx (wpAny_pure ?_))
  show wpAny _ A.in1 (holding [(val i).2.1,(val i).2.2] (dictSet d (val i).2.1 (val i).2.2)) _ _ s'
  refine wpAny_holding ?_
  refine wpAny_dictSet_pairs (knd:=bP prog w) (hsz:=by lia) hkx hD' λh' hD2 hsb=>?_
  show wpAny _ A.in1 (again (.builtin "dict.update.loop" ⟨[.ref d,.ref I,rawInt ((i:Int)+1),.none],[]⟩)) _ _ _
  refine wpAny_pure ⟨plainId_quiet rF _,?_⟩
  have hsame:∀b o,b≠d->s'.heap.get? b=some o->h'.get? b=some o:=λb o hb e=>(hsb.2 b hb).trans e
  refine ih (i+1) _ (stored xs (val i).1 (val i).2.2) (by lia) hlt (W.frame _ s' _ _ hst' (Et _ _) λb hb o e=>?_) (by have:=I_ (xs:=xs) (k:=(val i).1) (u:=(val i).2.2);lia) (λi v hi hv=>?_) hD2 λs'' hm'' hD''=>?_
  ·exact hsame b o (λh:b=d=>hdf (by rw[<-h];exact hb)) e
  ·obtain⟨x,e1,e2,e4⟩:=hT' i v hi hv
   exact⟨x,e1,e2,e4.keeps λo e=>hsame x o e2.1 e⟩
  ·refine hR s'' (Moved.trans W.gtrans ((hm.mono hsub).then_heap (Et _ _) λb o hb e=>?_) hm'') ?_
   ·exact hsame b o (λh:b=d=>hb (by rw[h];exact bR)) e
   ·rw[List.range'_succ,LU];exact hD''
end
section
variable{prog:Program}{w:World}{A:Around}{E:Value->Shared->Prop}{s:Shared}
theorem Ib{l:Addr}{its:Array Value}{nl:Nat}{val:Nat->Key×Value×Value}{Q:Value->Shared->Prop}(hh:A.handled=none)(hu:A.units+8<cLine)
 {ol:Obj} (hl:s.heap.get? l=some ol) (hlc:ol.cls=.type "list") (hld:ol.dict=none) (hls:ol.data=.seq its nl) (hz:its.size<=sizeLine) (hval:∀i v,its[i]?=some v->∃x,v=.ref x/\PairK s.heap x (val i))
 (h:∀(h':Heap)(tk:Nat),h'.DictOf (bP prog w) s.heap.objs.size ((fT 0 its.size).foldl (λxs j=>stored xs (val j).1 (val j).2.2) []) ->
  (∀b o,b<s.heap.objs.size->s.heap.get? b=some o->h'.get? b=some o)->Q (.ref s.heap.objs.size) {s with heap:=h',toks:=tk}) :
 wpAny (model prog w) A (call (.type "dict") [.ref l]) Q E s:=by
 refine callType_codes (Q₁:=λobj s₁=>obj=.ref s.heap.objs.size/\s₁={s with heap:=s.heap.push {cls:=.type "dict", data:=.dict #[] } }) F.kt_called_dict (F.kt_typeCall_dict_1 _) F.entry_dict_init (kt_code_dict_new _ ⟨rfl,rfl⟩) ?_
 rintro obj s₁ ⟨rfl,rfl⟩
 have hnew:(s.heap.push {cls:=.type "dict", data:=.dict #[] }).DictOf (bP prog w) s.heap.objs.size []:=Heap.DictOf.new s.heap
 have hty:({s with heap:=s.heap.push {cls:=.type "dict", data:=.dict #[] } }:Shared).TypeIs (.ref s.heap.objs.size) "dict" := Heap.DictOf.typeIs hnew
 refine⟨hty,F.args_dict_init_2 _ _,?_⟩
 generalize hpu:s.heap.push {cls:=.type "dict", data:=.dict #[] }=hp1 at *
 have hz1:hp1.objs.size=s.heap.objs.size+1:=by rw[<-hpu];exact Heap.size_push ..
 have hold:∀b o,s.heap.get? b=some o->hp1.get? b=some o:=λb o e=>by rw[<-hpu];exact Heap.get?_push_of_some _ e
 have hlS:l<s.heap.objs.size:=Heap.lt_size hl
 have hl1:=hold _ _ hl
 unfold Builtin.«dict.__init__»
 refine wpAny_bind ?_
 unfold Builtin.Dict.selfAndRest
 refine wpAny_bind (wpAny_notOrdered_dict hty ?_)
 show wpAny _ _ (pure (s.heap.objs.size,[Value.ref l])) _ _ _
 refine wpAny_pure ?_
 show wpAny _ _ (Builtin.Dict.updateFrom "dict.__init__" s.heap.objs.size (.ref l) [] .none) _ _ _
 unfold Builtin.Dict.updateFrom
 refine wpAny_bind (wpAny_typeOf (T := "list") ⟨_,hl1,hlc⟩ ?_)
 rw[if_pos (by decide)]
 have hh2:A.in1.in1.handled=none:=by simp[hh]
 refine wpAny_bind (IS hl1 hlc hls hld hh2 λh2 tk2 e2 hx2=>?_)
 rw[if_pos (by rfl)]
 have hl2:h2.IsList l its:=⟨_,hx2.keeps _ _ hl1,hlc,nl,hls⟩
 have hD2:h2.DictOf (bP prog w) s.heap.objs.size []:=rG hnew λo e=>hx2.keeps _ _ e
 have hdz:s.heap.objs.size<h2.objs.size:=by
  obtain⟨o,_,_,ho,_⟩:=hD2
  exact Heap.lt_size ho
 refine wpAny_bind (wpAny_rule ?_)
 refine wpAny_bind (wpAny_pyIter_list hl2 ?_)
 refine wpAny_pure ⟨plainId_quiet rF _,?_⟩
 have hh3:A.in1.in1.handled=none:=by simp[hh]
 have hu3:A.in1.in1.units<cLine:=by show A.units+1+1<cLine;lia
 have hneI:l≠h2.objs.size:=bM (lA hlS hdz)
 refine Ia ((Walks.list hh3 _ l hneI its).toS) s.heap.objs.size (by simp only[aY,cS,pP,or_false,not_or];exact⟨bM hdz,mL hlS⟩) val hu3 its.size 0 _ [] (by lia) (jW _) ⟨⟨_,Heap.get?_push_size _ rfl,rfl,rfl⟩,(hl2.push _)⟩ (by simpa using hz) (λi v _ hv=>?_) (rG hD2 λo e=>Heap.get?_push_of_some _ e) λs' hm hD'=>?_
 ·obtain⟨x,rfl,px⟩:=hval i v hv
  have hlx:x<s.heap.objs.size:=let ⟨⟨_,_,e,_⟩,_⟩:=px;Heap.lt_size e
  refine⟨x,rfl,⟨bM hlx,?_⟩,px.keeps λo e=>Heap.get?_push_of_some _ (hx2.keeps _ _ (hold _ _ e))⟩
  simp only[aY,cS,pP,or_false,not_or];exact bM (lA hlx hdz)
 ·obtain⟨h',g',d',tk',os'⟩:=s'
  have eg:g'=s.gens:=hm.gens
  have ed:d'=s.drawn:=hm.drawn
  have eo:os'=s.os:=hm.os
  subst eg;subst ed;subst eo
  refine⟨rfl,h h' tk' hD' λb o hb e=>?_⟩
  exact hm.heap b o (by simp only[aY,cS,pP,or_false,not_or];exact⟨bM hb,bM (lA hb hdz)⟩) (Heap.get?_push_of_some _ (hx2.keeps _ _ (hold _ _ e)))
end
noncomputable def rH(K:PySem.W.Frag)(H:Hp):List Addr->List (Key×V)->Prop
 |[],qs=>qs=[]
 |a::r,qs=>∃k y q,qs=(k,y)::q/\SqT K H a [kV k,y]/\rH K H r q
noncomputable def gX(qs:List (Key×V))(kvs:List (Key×V)):List (Key×V):=qs.foldl (λm q=>dD m q.1 q.2) kvs
theorem Ie{kvs:List (Key×V)}{k:Key}{v:V}:(dD kvs k v).length<=kvs.length+1:=by
 unfold dD
 split
 ·rw[aE];exact uN _
 ·rw[cE];exact aQ _
theorem Ck:∀{qs:List (Key×V)} {kvs:List (Key×V)},(gX qs kvs).length<=kvs.length+qs.length
 |[],kvs=>aQ _
 |q::r,kvs=>by
  have h1:=Ck (qs:=r) (kvs:=dD kvs q.1 q.2)
  have h2:=Ie (kvs:=kvs) (k:=q.1) (v:=q.2)
  rw[aX]
  exact cD h1 (by lia)
theorem kV_is{k:Key}{u:Value}(h:RelV (kV k) u):gN k u=true:=by
 cases k with
 |inl i=>obtain⟨t,rfl⟩:=h;exact AN i t
 |inr x=>obtain⟨t,rfl⟩:=h;exact AO x t
theorem Cm{X:Cx}{pins:List (Addr×Obj)}{σ:L2.St}{H:Hp}{s:Shared}(I:Inv X pins σ H s):∀{as:List Addr} {qs:List (Key×V)},rH X.K H as qs ->
 ∃vs:List (Key×Value×Value),vs.length=as.length/\qs.length=as.length/\(∀(i:Nat)(a:Addr),as[i]?=some a->∃q,vs[i]?=some q/\PairK s.heap a q) /\
  ∀{kvs:List (Key×V)} {xs:List (Key×Value)},KV kvs xs->KV (gX qs kvs) (vs.foldl (λxs q=>stored xs q.1 q.2.2) xs)
 |[],qs,h=>by
  cases h
  exact⟨[],rfl,rfl,λi a e=>by simp at e,λr=>r⟩
 |a::r,qs,h=>by
  obtain⟨k,y,q,rfl,ht,hr⟩:=h
  obtain⟨vs,l1,l2,h1,h2⟩:=Cm I hr
  obtain⟨its,rv,⟨o,e,hc,n,d⟩,_⟩:=I.tuple ht
  cases rv with
  | @cons _ u0 _ _ r1 rv=>
   cases rv with
   | @cons _ u _ _ r2 rv=>
    cases rv
    refine⟨(k,u0,u)::vs,by rw[aX,aX,l1],by rw[aX,aX,l2],λi a' e'=>?_,λrk=>?_⟩
    ·cases i with
     |zero=>
      cases e'
      exact⟨_,rfl,⟨o,n,e,hc,d⟩,kV_is r1⟩
     |succ i=>exact h1 i a' e'
    ·exact h2 (rk.put k r2)
theorem Ig {X:Cx} (hc:X.calm=true) (hr:X.A.units+64<cLine):cX X (.type "dict") (λvs H Q=>∃a as qs,vs=[.ref a]/\SqL X.K H a (as.map V.ref)/\rH X.K H as qs/\∀p o,H p=none->Q (.ref p) (upd H p (.frz o (.dK (gX qs []))))):=by
 intro pins s σ H vs us Q I rv h
 obtain⟨a,as,qs,rfl,hS,hP,q⟩:=h
 obtain⟨u,rfl,ru⟩:=rv.one
 cases ru
 obtain⟨its,r,⟨ol,nl,e1,e2,e3,e4⟩,hz⟩:=I.list hS
 have hits:=B9 r
 subst hits
 obtain⟨xs,l1,l2,h1,h2⟩:=Cm I hP
 rw[aE]at hz
 refine Ib (val:=λi=>xs.getD i (.inl 0,.none,.none)) (I.ok.hd hc) (by lia) e1 e2 e3 e4 (by rw[bK,aE];exact hz) (λi v hv=>?_) λh' tk hD hkeep=>?_
 ·have hv':(as.map Value.ref)[i]?=some v:=by simpa using hv
  rw[bO]at hv'
  cases e:as[i]? with
  |none=>rw[e]at hv';cases hv'
  |some x=>
   rw[e]at hv'
   cases hv'
   obtain⟨q,g1,g2⟩:=h1 i x e
   exact⟨x,rfl,by show PairK _ _ (xs.getD i (.inl 0,.none,.none));rw[gM,g1];exact g2⟩
 ·have fr:H s.heap.objs.size=none:=I.hok.fresh (aQ _)
  rw[show(List.map Value.ref as).toArray.size=xs.length from by rw[bK,aE,l1],IT (λxs q=>stored xs q.1 q.2.2) (.inl 0,.none,.none) xs []]at hD
  have I1:Inv X pins σ (upd H s.heap.objs.size (.dK (gX qs []))) {s with heap:=h',toks:=tk}:=
   I.laid (λb o e=>hkeep b o (Heap.lt_size e) e) (aQ _) ⟨cD Ck (by rw[l2,uL,AI];exact hz),beq_eq_false_iff_ne.mpr (Ne.symm (bM I.big)),_,h2 .nil,hD⟩
  obtain⟨o,_,_,_,I2⟩:=Ba I1 bQ
  rw[show L2.upd (L2.upd H s.heap.objs.size (.dK (gX qs []))) s.heap.objs.size (.frz o (.dK (gX qs [])))=L2.upd H s.heap.objs.size (.frz o (.dK (gX qs [])))from FB]at I2
  exact⟨.ref s.heap.objs.size,_,I2,rfl,q _ o fr⟩
section
variable{T:Tab}{cf:Nat->List D->Res D}{X:Cx}{x:E}{p:Expr}{pos:Pos}
theorem Cn{K:PySem.W.Frag}{H:Hp}{O:Addr->Prop}:∀{ds:List D} {qs:List (Sum Int Str×D)} {xs:List V},gQ ds=.ok qs->RDs K H O ds xs->∃(as:List Addr)(ys:List (Key×V)),xs=as.map V.ref/\rH K H as ys/\RDk K H O qs ys
 |[],qs,xs,h,w=>by
  rw[gQ]at h;cases h
  rw[RDs]at w;subst w
  exact⟨[],[],rfl,rfl,rfl⟩
 |d::r,qs,xs,h,w=>by
  unfold gQ at h
  split at h
  ·rename_i e;cases e
  ·rename_i kd v r' e
   cases e
   obtain⟨key,e3,h⟩:=Res.bind_ok h
   obtain⟨q,e4,h⟩:=Res.bind_ok h
   cases h
   obtain⟨u,us,rfl,w1,w2⟩:=w
   obtain⟨as,ys,rfl,p1,p2⟩:=Cn e4 w2
   obtain⟨a,zs,rfl,tq,z1,zr,rfl,rk,z2,zs2,rfl,rv,e5⟩:=w1
   cases (show zs2=[]from e5)
   have ek:=lM (gC e3) (RD.rr rk)
   subst ek
   exact⟨a::as,(key,z2)::ys,rfl,⟨key,z2,ys,rfl,TupV.sq tq,p1⟩,z2,ys,rfl,rv,p2⟩
  ·cases h
theorem Co{K:PySem.W.Frag}{H:Hp}{O:Addr->Prop}:∀{qs:List (Sum Int Str×D)} {ys:List (Key×V)} {ds:List (Sum Int Str×D)} {ps:List (Key×V)},RDk K H O qs ys->RDk K H O ds ps->RDk K H O (eG qs ds) (gX ys ps)
 |[],ys,ds,ps,h,w=>by rw[RDk]at h;subst h;exact w
 |(k,d)::qs,ys,ds,ps,h,w=>by
  obtain⟨v,r,rfl,h1,h2⟩:=h
  show RDk K H O (eG qs (dE ds k d)) (gX r (dD ps k v))
  exact Co h2 (Bs h1 w)
theorem se_dck {pn:Pos} (hh:X.calm=true) (hR:iM X) (hm1:X.mg "dict" = none) (hg1:Gl X "dict") (hp:aZ p=true) (ha:SE T cf X x p):SE T cf X (.dck x) (.Call (.Name "dict" pn) [p] [] pos):=λH₀ O₀=>by
 refine PE.imp (λσ H Q hq=>?_) (qC (Ig hh hR) hg1 hm1 (by decide +kernel) (cY (ha H₀ O₀) eV (bC hp)) (by decide) (by decide) (bC hp) rfl)
 obtain⟨O,own,e,d,F,ev,k⟩:=hq
 (first|rw[xE_dck]at ev|rw[nH]at ev)
 obtain⟨d1,e1,ev1⟩:=Res.bind_ok ev
 refine⟨O,own,e,d1,F,e1,λv1 H1 s1 r1 _=>?_⟩
 cases d1 with
 |lst ds=>
  obtain⟨qs,e2,ev2⟩:=Res.bind_ok (show(gQ ds>>=_)=Res.ok d from ev1)
  cases ev2
  obtain⟨a,xs,rfl,q1,w1⟩:=(RD.rr r1).lst
  obtain⟨as,ys,rfl,p1,p2⟩:=Cn e2 w1
  refine⟨a,as,ys,rfl,q1,p1,λp o hn=>?_⟩
  have s2:=bZ hn (.frz o (.dK (gX ys [])))
  exact k _ _ (s1.trans s2) ⟨p,_,rfl,⟨o,bQ⟩,(Co (ds:=[]) (ps:=[]) p2 rfl).same s2⟩ (λz=>by cases z)
 |_=>cases ev1
end
set_option genInjectivity false in
structure Txt where
 gn:List Str
 dn:List Str
 tf:List (Str×List Nat):=[]
 ts:List (Str×List Str):=[]
 cls:List Str:=[]
 icl:List Str:=[]
 dm:List (Nat×Str):=[]
noncomputable def gE{α:Type}[BEq α]:List α->Bool
 |[]=>true
 |a::r=>!r.contains a&&gE r
theorem rJ{α:Type}[BEq α][LawfulBEq α]:∀{l:List α},gE l=true->l.Nodup
 |[],_=>jX
 |a::r,h=>by
  rw[gE,aD]at h
  refine iG.mpr ⟨λm=>?_,rJ h.2⟩
  have:r.contains a=true:=Eu.mpr m
  rw[this]at h
  exact absurd h.1 (by simp)
noncomputable def aH:E->Bool
 |.rd _=>true
 |_=>false
noncomputable def visB(sc:Scope)(n:Str):Bool:=(sc.names.lookup n==some .local)||(sc.names.lookup n==some .cell)||(sc.names.lookup n==some .free)
noncomputable def glB(sc:Scope)(n:Str):Bool:=sc.names.lookup n==some .globalImplicit
noncomputable def eC (n:Str):Bool:=!(n==("__debug__" : Str))&&!(n==("__classdict__" : Str))
noncomputable def cB(N:List Str)(sc:Scope)(i:Nat)(n:Str):Bool:=(N[i]?==some n)&&visB sc n&&eC n
noncomputable def iO(scope sc:Scope):Scope:={scope with names:=scope.names.map λ(n,k)=>if(k==.free&&sc.kind==.function&&sc.names.lookup n==some .cell)then(n,.cell)else(n,k) }
noncomputable def cK:Expr->List Str
 |.Name n _=>[n]
 |.Tuple es _ _=>es.filterMap λ| .Name n _=>some n|_=>none
 |_=>[]
noncomputable def mGs(loc:Bool)(N:List Str)(sc:Scope):List Nat->List Expr->Bool
 |[],[]=>true
 |i::is,.Name n _::es=>(N[i]?==some n)&&((sc.names.lookup n==some .local)||(!loc&&sc.names.lookup n==some .cell))&&mGs loc N sc is es
 |_,_=>false
noncomputable def mG(loc:Bool)(N:List Str)(sc:Scope):G->Expr->Bool
 |.one i,.Name n _=>(N[i]?==some n)&&((sc.names.lookup n==some .local)||(!loc&&sc.names.lookup n==some .cell))
 |.many is,.Tuple es _ _=>mGs loc N sc is es
 |_,_=>false
noncomputable def scB(sc scope:Scope):Bool:=(scope.kind==.function)&&scope.names.all (λx=>!(x.2==.cell))&&scope.names.all (λx=>!(x.2==.local)||(scope.names.lookup x.1==some .local)) &&
 scope.names.all (λx=>!(x.2==.free)||(!(scope.names.lookup x.1==some .local)&&((sc.names.lookup x.1==some .cell)||(sc.names.lookup x.1==some .free))))
noncomputable def cL (N:List Str) (caps:List Nat):List Str:=caps.map λi=>(N[i]?).getD ""
noncomputable def oE(N:List Str)(scope:Scope)(caps:List Nat):Bool:=caps.all λi=>match N[i]? with|some n=>scope.names.contains (n,.free)|none=>false
noncomputable def rK:E->Bool
 |.con (.bl true)=>true
 |_=>false
noncomputable def gY:E->Bool
 |.omit=>true
 |_=>false
noncomputable def xG:Expr->Bool
 |.Tuple _ _ _=>true
 |_=>false
noncomputable def vC(G:Str->List Expr->Bool):Expr->Bool
 |.Call (.Name n _) es [] _=>G n es
 |_=>false
noncomputable def v1(G:Expr->Bool):List Expr->Bool
 |[q]=>G q
 |_=>false
noncomputable def vL(G:List Expr->Bool):List Expr->Bool
 |[]=>false
 |e::es=>G (e::es)
theorem kO{G:Str->List Expr->Bool}{p:Expr}(h:vC G p=true):∃n pn es pos,p=.Call (.Name n pn) es [] pos/\G n es=true:=by
 cases p with
 |Call fn es ks pos=>
  cases fn with
  |Name n pn=>cases ks with
   |nil=>exact⟨n,pn,es,pos,rfl,h⟩
   |cons _ _=>exact absurd h aP
  |_=>exact absurd h aP
 |_=>exact absurd h aP
theorem jN{G:Expr->Bool}{l:List Expr}(h:v1 G l=true):∃q,l=[q]/\G q=true:=by
 rcases l with _|⟨q,_|⟨q',es⟩⟩
 ·exact absurd h aP
 ·exact⟨q,rfl,h⟩
 ·exact absurd h aP
theorem vL_of{G:List Expr->Bool}{l:List Expr}(h:vL G l=true):∃e es,l=e::es/\G (e::es)=true:=by
 cases l with
 |nil=>exact absurd h aP
 |cons e es=>exact⟨e,es,rfl,h⟩
noncomputable def vP(G:Expr->Expr->Bool):List Expr->Bool
 |[q,r]=>G q r
 |_=>false
theorem vP_of{G:Expr->Expr->Bool}{l:List Expr}(h:vP G l=true):∃q r,l=[q,r]/\G q r=true:=by
 rcases l with _|⟨q,_|⟨r,_|⟨q',es⟩⟩⟩
 ·exact absurd h aP
 ·exact absurd h aP
 ·exact⟨q,r,rfl,h⟩
 ·exact absurd h aP
noncomputable def v2(G:Str->Str->Expr->Bool):Expr->Bool:=vC λn=>v1 (vC λm=>v1 (G n m))
noncomputable def vM(G:Str->Str->Pos->Pos->List Expr->Bool):Stmt->Bool
 |.Expr (.Call (.Attribute (.Name n _) nm apos) es [] cpos) _=>G n nm apos cpos es
 |_=>false
theorem xH{G:Str->Str->Pos->Pos->List Expr->Bool}{p:Stmt}(h:vM G p=true):∃n px nm apos es cpos pos,p=.Expr (.Call (.Attribute (.Name n px) nm apos) es [] cpos) pos/\G n nm apos cpos es=true:=by
 cases p with
 |Expr v pos=>cases v with
  |Call f es ks cpos=>cases f with
   |Attribute o nm apos=>cases o with
    |Name n px=>cases ks with
     |nil=>exact⟨n,px,nm,apos,es,cpos,pos,rfl,h⟩
     |cons _ _=>exact absurd h aP
    |_=>exact absurd h aP
   |_=>exact absurd h aP
  |_=>exact absurd h aP
 |_=>exact absurd h aP
noncomputable def vA(G:Expr->Expr->Bool):Stmt->Bool
 |.Assign tgs v _=>v1 (λtg=>G tg v) tgs
 |_=>false
theorem xI{G:Expr->Expr->Bool}{p:Stmt}(h:vA G p=true):∃tg v pos,p=.Assign [tg] v pos/\G tg v=true:=by
 cases p with
 |Assign tgs v pos=>
  obtain⟨tg,rfl,h⟩:=jN h
  exact⟨tg,v,pos,rfl,h⟩
 |_=>exact absurd h aP
noncomputable def vX(G:Str->Expr->Bool):Expr->Bool
 |.Subscript (.Name n _) q _=>G n q
 |_=>false
theorem Cp{G:Str->Expr->Bool}{p:Expr}(h:vX G p=true):∃n px q pos,p=.Subscript (.Name n px) q pos/\G n q=true:=by
 cases p with
 |Subscript o q pos=>cases o with
  |Name n px=>exact⟨n,px,q,pos,rfl,h⟩
  |_=>exact absurd h aP
 |_=>exact absurd h aP
noncomputable def vN(G:Str->Pos->Bool):Expr->Bool
 |.Name n pn=>G n pn
 |_=>false
theorem Cq{G:Str->Pos->Bool}{p:Expr}(h:vN G p=true):∃n pn,p=.Name n pn/\G n pn=true:=by
 cases p with
 |Name n pn=>exact⟨n,pn,rfl,h⟩
 |_=>exact absurd h aP
noncomputable def vD:Expr->Bool
 |.Dict [] [] _=>true
 |_=>false
theorem vD_of{p:Expr}(h:vD p=true):∃pos,p=.Dict [] [] pos:=by
 cases p with
 |Dict ks vs pos=>cases ks with
  |nil=>cases vs with
   |nil=>exact⟨pos,rfl⟩
   |cons _ _=>exact absurd h aP
  |cons _ _=>exact absurd h aP
 |_=>exact absurd h aP
section
variable(Tx:Txt)
mutual
noncomputable def mE:E->List Str->Scope->Expr->Bool
 |.var i,N,sc,.Name n _=>cB N sc i n
 |.rd i,N,sc,.Name n _=>cB N sc i n
 |.con d,_,_,.Constant c _ _=>wK d c
 |.glob g,_,sc,.Name n _=>(Tx.gn[g]?==some n)&&glB sc n&&eC n
 |.bin o a b,N,sc,.BinOp l o' r _=>(o==o')&&mE a N sc l&&mE b N sc r
 |.cmp o a b,N,sc,.Compare l [o'] [r] _=>(o==o')&&mE a N sc l&&mE b N sc r
 |.neg a,N,sc,.UnaryOp .USub l _=>mE a N sc l
 |.and a b,N,sc,.BoolOp .And [l,r] _=>!aH a&&!aH b&&mE a N sc l&&mE b N sc r
 |.and a b,N,sc,.BoolOp .And (l::r::r'::rest) pos=>!aH a&&!aH b&&mE a N sc l&&mE b N sc (.BoolOp .And (r::r'::rest) pos)
 |.or a b,N,sc,.BoolOp .Or [l,r] _=>!aH a&&!aH b&&mE a N sc l&&mE b N sc r
 |.or a b,N,sc,.BoolOp .Or (l::r::r'::rest) pos=>!aH a&&!aH b&&mE a N sc l&&mE b N sc (.BoolOp .Or (r::r'::rest) pos)
 |.ife c a b,N,sc,.IfExp l m r _=>!aH a&&!aH b&&mE c N sc l&&mE a N sc m&&mE b N sc r
 |.ix a b,N,sc,.Subscript l r _=>mE a N sc l&&mE b N sc r
 |.sl a lo hi,N,sc,.Subscript l (.Slice p q none _) _=>mE a N sc l&&(match p with|none=>gY lo|some p'=>!aH lo&&mE lo N sc p')&&(match q with|none=>gY hi|some q'=>!aH hi&&mE hi N sc q')
 |.tup a,N,sc,.Tuple es _ _=>mA a false N sc es
 |.lst a,N,sc,.List es _=>mA a false N sc es
 |.call f a,N,sc,p=>vC (λn es=>(Tx.dn[f]?==some n)&&glB sc n&&eC n&&mA a false N sc es) p
 |.srt a,N,sc,p=>vC (λn=>v1 λq=>(n == "sorted")&&glB sc n&&mE a N sc q) p
 |.dck a,N,sc,p=>vC (λn=>v1 λq=>(n == "dict")&&glB sc n&&!aH a&&mE a N sc q) p
 |.bt b a,N,sc,p=>vC (λn=>vL λes=>b.use&&(n==b.nm)&&glB sc n&&mA a true N sc es) p
 |.comp own caps g elt src cond,N,sc,.ListComp pe [⟨tg,iter,ifs,isa⟩] scope _=>
  (isa==0)&&scB sc scope&&oE N scope caps&&gE caps&&gE (cK tg++cL N caps)&&(own==(cK tg).length)&&g.below own&&mG true (cK tg++cL N caps) (iO scope sc) g tg &&
  mI src true N sc tg iter&&!aH elt&&mE elt (cK tg++cL N caps) (iO scope sc) pe &&
  (match ifs with
   |[]=>rK cond
   |[c]=>mE cond (cK tg++cL N caps) (iO scope sc) c
   |_=>false)
 |_,_,_,_=>false
termination_by structural x=>x
noncomputable def mA:E->Bool->List Str->Scope->List Expr->Bool
 |.anil,_,_,_,[]=>true
 |.acons a r,rd,N,sc,p::ps=>(rd||!aH a)&&mE a N sc p&&mA r rd N sc ps
 |_,_,_,_,_=>false
termination_by structural x=>x
noncomputable def mI:E->Bool->List Str->Scope->Expr->Expr->Bool
 |.seq a,rd,N,sc,_,p=>(rd||!aH a)&&mE a N sc p
 |.rng a,_,N,sc,_,p=>vC (λn=>v1 λq=>(n == "range")&&glB sc n&&!aH a&&mE a N sc q) p
 |.rng2 a b,_,N,sc,_,p=>vC (λn=>vP λq r=>(n == "range")&&glB sc n&&!aH a&&!aH b&&mE a N sc q&&mE b N sc r) p
 |.enum a,rd,N,sc,tg,p=>vC (λn=>v1 λq=>(n == "enumerate")&&glB sc n&&xG tg&&(rd||!aH a)&&mE a N sc q) p
 |.seqD a,_,N,sc,_,p=>!aH a&&mE a N sc p
 |_,_,_,_,_,_=>false
termination_by structural x=>x
end
end
section
variable{Tx:Txt}{N:List Str}{sc:Scope}{p tg:Expr}
theorem nof{P:Prop}(h:false=true):P:=absurd h aP
theorem aW{a b:Bool}(h:(a&&b)=true):a=true/\b=true:=by rw[aD]at h;exact h
theorem eO{a:Bool}(h:(!a)=true):a=false:=by rw[bV]at h;exact h
theorem beq1{α:Type}[BEq α][LawfulBEq α]{a b:α}(h:(a==b)=true):a=b:=eq_of_beq h
theorem xJ{i:Nat}(h:mE Tx (.var i) N sc p=true):∃n pos,p=.Name n pos/\cB N sc i n=true:=by
 cases p<;>first|exact nof h|exact⟨_,_,rfl,h⟩
theorem i_rd{i:Nat}(h:mE Tx (.rd i) N sc p=true):∃n pos,p=.Name n pos/\cB N sc i n=true:=by
 cases p<;>first|exact nof h|exact⟨_,_,rfl,h⟩
theorem Cr{d:D}(h:mE Tx (.con d) N sc p=true):∃c k pos,p=.Constant c k pos/\wK d c=true:=by
 cases p<;>first|exact nof h|exact⟨_,_,_,rfl,h⟩
theorem Cs{g:Nat}(h:mE Tx (.glob g) N sc p=true):∃n pos,p=.Name n pos/\(Tx.gn[g]?==some n&&glB sc n&&eC n)=true:=by
 cases p<;>first|exact nof h|exact⟨_,_,rfl,h⟩
theorem Ct{o:Operator}{a b:E}(h:mE Tx (.bin o a b) N sc p=true):∃l r pos,p=.BinOp l o r pos/\mE Tx a N sc l=true/\mE Tx b N sc r=true:=by
 cases p with
 |BinOp l o' r pos=>
  have h:=aW (show((o==o')&&mE Tx a N sc l&&mE Tx b N sc r)=true from h)
  have h1:=aW h.1
  have e:o=o':=beq1 h1.1
  subst e
  exact⟨l,r,pos,rfl,h1.2,h.2⟩
 |_=>exact nof h
theorem Cu{o:CmpOp}{a b:E}(h:mE Tx (.cmp o a b) N sc p=true):∃l r pos,p=.Compare l [o] [r] pos/\mE Tx a N sc l=true/\mE Tx b N sc r=true:=by
 cases p with
 |Compare l os rs pos=>
  rcases os with _|⟨o',_|⟨o'',os⟩⟩
  ·exact nof h
  ·rcases rs with _|⟨r,_|⟨r',rs⟩⟩
   ·exact nof h
   ·have h:=aW (show((o==o')&&mE Tx a N sc l&&mE Tx b N sc r)=true from h)
    have h1:=aW h.1
    have e:o=o':=beq1 h1.1
    subst e
    exact⟨l,r,pos,rfl,h1.2,h.2⟩
   ·exact nof h
  ·exact nof h
 |_=>exact nof h
theorem Cv{a:E}(h:mE Tx (.neg a) N sc p=true):∃l pos,p=.UnaryOp .USub l pos/\mE Tx a N sc l=true:=by
 cases p with
 |UnaryOp op l pos=>cases op<;>first|exact nof h|exact⟨_,_,rfl,h⟩
 |_=>exact nof h
theorem Cw{a b:E}(h:mE Tx (.and a b) N sc p=true):∃l r rest pos,p=.BoolOp .And (l::r::rest) pos/\aH a=false/\aH b=false/\mE Tx a N sc l=true/\((rest=[]/\mE Tx b N sc r=true)\/(∃r' rs,rest=r'::rs/\mE Tx b N sc (.BoolOp .And (r::rest) pos)=true)):=by
 cases p with
 |BoolOp op vs pos=>
  cases op with
  |Or=>exact nof h
  |And=>
   rcases vs with _|⟨l,_|⟨r,_|⟨r',rest⟩⟩⟩
   ·exact nof h
   ·exact nof h
   ·have h:=aW (show(!aH a&&!aH b&&mE Tx a N sc l&&mE Tx b N sc r)=true from h)
    have h1:=aW h.1
    have h2:=aW h1.1
    exact⟨l,r,[],pos,rfl,eO h2.1,eO h2.2,h1.2,.inl ⟨rfl,h.2⟩⟩
   ·have h:=aW (show(!aH a&&!aH b&&mE Tx a N sc l&&mE Tx b N sc (.BoolOp .And (r::r'::rest) pos))=true from h)
    have h1:=aW h.1
    have h2:=aW h1.1
    exact⟨l,r,r'::rest,pos,rfl,eO h2.1,eO h2.2,h1.2,.inr ⟨r',rest,rfl,h.2⟩⟩
 |_=>exact nof h
theorem i_or{a b:E}(h:mE Tx (.or a b) N sc p=true):∃l r rest pos,p=.BoolOp .Or (l::r::rest) pos/\aH a=false/\aH b=false/\mE Tx a N sc l=true/\((rest=[]/\mE Tx b N sc r=true)\/(∃r' rs,rest=r'::rs/\mE Tx b N sc (.BoolOp .Or (r::rest) pos)=true)):=by
 cases p with
 |BoolOp op vs pos=>
  cases op with
  |And=>exact nof h
  |Or=>
   rcases vs with _|⟨l,_|⟨r,_|⟨r',rest⟩⟩⟩
   ·exact nof h
   ·exact nof h
   ·have h:=aW (show(!aH a&&!aH b&&mE Tx a N sc l&&mE Tx b N sc r)=true from h)
    have h1:=aW h.1
    have h2:=aW h1.1
    exact⟨l,r,[],pos,rfl,eO h2.1,eO h2.2,h1.2,.inl ⟨rfl,h.2⟩⟩
   ·have h:=aW (show(!aH a&&!aH b&&mE Tx a N sc l&&mE Tx b N sc (.BoolOp .Or (r::r'::rest) pos))=true from h)
    have h1:=aW h.1
    have h2:=aW h1.1
    exact⟨l,r,r'::rest,pos,rfl,eO h2.1,eO h2.2,h1.2,.inr ⟨r',rest,rfl,h.2⟩⟩
 |_=>exact nof h
theorem Cy{c a b:E}(h:mE Tx (.ife c a b) N sc p=true):∃l m r pos,p=.IfExp l m r pos/\aH a=false/\aH b=false/\mE Tx c N sc l=true/\mE Tx a N sc m=true/\mE Tx b N sc r=true:=by
 cases p with
 |IfExp l m r pos=>
  have h:=aW (show(!aH a&&!aH b&&mE Tx c N sc l&&mE Tx a N sc m&&mE Tx b N sc r)=true from h)
  have h1:=aW h.1
  have h2:=aW h1.1
  have h3:=aW h2.1
  exact⟨l,m,r,pos,rfl,eO h3.1,eO h3.2,h2.2,h1.2,h.2⟩
 |_=>exact nof h
theorem i_ix{a b:E}(h:mE Tx (.ix a b) N sc p=true):∃l r pos,p=.Subscript l r pos/\mE Tx a N sc l=true/\mE Tx b N sc r=true:=by
 cases p with
 |Subscript l r pos=>
  have h:=aW (show(mE Tx a N sc l&&mE Tx b N sc r)=true from h)
  exact⟨l,r,pos,rfl,h.1,h.2⟩
 |_=>exact nof h
theorem i_sl{a lo hi:E}(h:mE Tx (.sl a lo hi) N sc p=true):∃l pl ph pos pos',p=.Subscript l (.Slice pl ph none pos') pos/\mE Tx a N sc l=true/\((pl=none/\gY lo=true)\/∃q,pl=some q/\aH lo=false/\mE Tx lo N sc q=true)/\((ph=none/\gY hi=true)\/∃q,ph=some q/\aH hi=false/\mE Tx hi N sc q=true):=by
 cases p with
 |Subscript l r pos=>
  cases r with
  |Slice pl ph st pos'=>
   cases st with
   |some _=>exact nof h
   |none=>
    refine⟨l,pl,ph,pos,pos',rfl,?_⟩
    cases pl with
    |none=>
     cases ph with
     |none=>
      have h:=aW (show(mE Tx a N sc l&&gY lo&&gY hi)=true from h)
      exact⟨(aW h.1).1,.inl ⟨rfl,(aW h.1).2⟩,.inl ⟨rfl,h.2⟩⟩
     |some q=>
      have h:=aW (show(mE Tx a N sc l&&gY lo&&(!aH hi&&mE Tx hi N sc q))=true from h)
      exact⟨(aW h.1).1,.inl ⟨rfl,(aW h.1).2⟩,.inr ⟨q,rfl,eO (aW h.2).1,(aW h.2).2⟩⟩
    |some q0=>
     cases ph with
     |none=>
      have h:=aW (show(mE Tx a N sc l&&(!aH lo&&mE Tx lo N sc q0)&&gY hi)=true from h)
      exact⟨(aW h.1).1,.inr ⟨q0,rfl,eO (aW (aW h.1).2).1,(aW (aW h.1).2).2⟩,.inl ⟨rfl,h.2⟩⟩
     |some q=>
      have h:=aW (show(mE Tx a N sc l&&(!aH lo&&mE Tx lo N sc q0)&&(!aH hi&&mE Tx hi N sc q))=true from h)
      exact⟨(aW h.1).1,.inr ⟨q0,rfl,eO (aW (aW h.1).2).1,(aW (aW h.1).2).2⟩,.inr ⟨q,rfl,eO (aW h.2).1,(aW h.2).2⟩⟩
  |_=>exact nof h
 |_=>exact nof h
theorem Cz{a:E}(h:mE Tx (.tup a) N sc p=true):∃es k pos,p=.Tuple es k pos/\mA Tx a false N sc es=true:=by
 cases p<;>first|exact nof h|exact⟨_,_,_,rfl,h⟩
theorem DA{a:E}(h:mE Tx (.lst a) N sc p=true):∃es pos,p=.List es pos/\mA Tx a false N sc es=true:=by
 cases p<;>first|exact nof h|exact⟨_,_,rfl,h⟩
theorem rL{f:Nat}{a:E}(h:mE Tx (.call f a) N sc p=true):∃n pn es pos,p=.Call (.Name n pn) es [] pos/\(Tx.dn[f]?==some n&&glB sc n&&eC n&&mA Tx a false N sc es)=true:=by
 exact kO h
theorem DB {a:E} (h:mE Tx (.srt a) N sc p=true):∃n pn q pos,p=.Call (.Name n pn) [q] [] pos/\((n == "sorted")&&glB sc n&&mE Tx a N sc q)=true:=by
 obtain⟨n,pn,es,pos,rfl,g1⟩:=kO h
 obtain⟨q,rfl,g2⟩:=jN g1
 exact⟨n,pn,q,pos,rfl,g2⟩
theorem DC {a:E} (h:mE Tx (.dck a) N sc p=true):∃n pn q pos,p=.Call (.Name n pn) [q] [] pos/\((n == "dict")&&glB sc n&&!aH a&&mE Tx a N sc q)=true:=by
 obtain⟨n,pn,es,pos,rfl,g1⟩:=kO h
 obtain⟨q,rfl,g2⟩:=jN g1
 exact⟨n,pn,q,pos,rfl,g2⟩
theorem i_bt{b:Bt}{a:E}(h:mE Tx (.bt b a) N sc p=true):∃n pn e es pos,p=.Call (.Name n pn) (e::es) [] pos/\(b.use&&(n==b.nm)&&glB sc n&&mA Tx a true N sc (e::es))=true:=by
 obtain⟨n,pn,es,pos,rfl,g1⟩:=kO h
 obtain⟨e,es,rfl,g2⟩:=vL_of g1
 exact⟨n,pn,e,es,pos,rfl,g2⟩
end
noncomputable def lP:List Str:=["len", "sum", "tuple", "list", "int", "str", "isinstance", "range", "enumerate", "bool", "abs", "min", "max", "all", "any", "set", "zip", "sorted", "dict"]
set_option genInjectivity false in
structure OkX(T:Tab)(cf:Nat->List D->Res D)(Tx:Txt)(X:Cx):Prop where
 calm:X.calm=true
 roomy:iM X
 defs:∀f n,Tx.dn[f]?=some n->nY T cf X f n
 globs:∀g n,Tx.gn[g]?=some n->Bm X n (T.glob g)
 blt:∀n∈lP,X.mg n=none
 nd:X.N.Nodup
 tf:∀q∈Tx.tf,TabF T cf X q.1 q.2
 ts:∀q∈Tx.ts,TabS X q.1 q.2
 dm:∀q∈Tx.dm,lO T cf X q.1 q.2
section
variable{T:Tab}{cf:Nat->List D->Res D}{Tx:Txt}{X:Cx}
theorem eI {i:Nat} {n:Str} {N:List Str} {sc:Scope} (h:cB N sc i n=true):N[i]?=some n/\Vis sc n/\(n==("__debug__" : Str))=false/\(n==("__classdict__" : Str))=false:=by
 simp only[cB,visB,eC,aD,fE,bV,beq_iff_eq]at h
 refine⟨h.1.1,?_,h.2.1,h.2.2⟩
 rcases h.1.2 with(z|z)|z
 ·exact .inl z
 ·exact .inr (.inl z)
 ·exact .inr (.inr z)
theorem dH{n:Str}(h:glB X.env.scope n=true):Gl X n:=by
 have h':X.env.scope.names.lookup n=some .globalImplicit:=by simpa[glB]using h
 exact h'
noncomputable def xK:Expr->Bool
 |.BoolOp _ _ _=>true
 |_=>false
theorem gZ {n:Str} (h:eC n=true):(n==("__debug__" : Str))=false:=by
 simp only[eC,aD,bV]at h
 exact h.1
theorem DD{loc:Bool}(hN:X.N.Nodup)(hf:∀n,loc=false->X.fn n=true):∀{is:List Nat} {es:List Expr},mGs loc X.N X.env.scope is es=true->SGs X is es/\oA es=true/\es.length=is.length
 |[],[],_=>⟨Hg,rfl,rfl⟩
 |[],_::_,h=>by exact nof h
 |_::_,[],h=>by exact nof h
 |i::is,e::es,h=>by
  cases e with
  |Name n pos=>
   change (_&&(_||_)&&_)=true at h
   simp only[aD,fE,beq_iff_eq,bV]at h
   obtain⟨⟨h1,h2⟩,h3⟩:=h
   obtain⟨a1,a2,a3⟩:=DD hN hf h3
   refine⟨Hj hN h1 ?_ ?_ a1,a2,by rw[aX,aX,a3]⟩
   ·rcases h2 with z|z
    ·exact .inl z
    ·exact .inr z.2
   ·rcases h2 with z|z
    ·exact .inr z
    ·exact .inl (hf n z.1)
  |_=>exact nof h
theorem rM{loc:Bool}{g:G}{tg:Expr}(hc:X.calm=true)(hN:X.N.Nodup)(hf:∀n,loc=false->X.fn n=true)(h:mG loc X.N X.env.scope g tg=true):SG X g tg/\aZ tg=true:=by
 cases g with
 |one i=>
  cases tg with
  |Name n pos=>
   change (_&&(_||_))=true at h
   simp only[aD,fE,beq_iff_eq,bV]at h
   refine⟨sg_one hN h.1 ?_ ?_,rfl⟩
   ·rcases h.2 with z|z
    ·exact .inl z
    ·exact .inr z.2
   ·rcases h.2 with z|z
    ·exact .inr z
    ·exact .inl (hf n z.1)
  |_=>exact nof h
 |many is=>
  cases tg with
  |Tuple es k pos=>
   obtain⟨a1,a2,a3⟩:=DD hN hf h
   exact⟨Hm hc a2 a3 a1,rfl⟩
  |_=>exact nof h
noncomputable def PEx(T:Tab)(cf:Nat->List D->Res D)(Tx:Txt)(x:E):Prop:=∀X p,OkX T cf Tx X->mE Tx x X.N X.env.scope p=true->SR T cf X x p/\(aH x=false->SE T cf X x p)/\ST T cf X x p/\aZ p=true/\(xK p=true->SW T cf X x p)
noncomputable def PAx(T:Tab)(cf:Nat->List D->Res D)(Tx:Txt)(x:E):Prop:=∀X rd ps,OkX T cf Tx X->mA Tx x rd X.N X.env.scope ps=true->SAr T cf X x ps/\(rd=false->SAv T cf X x ps)/\ps.all aZ=true
noncomputable def PIx(T:Tab)(cf:Nat->List D->Res D)(Tx:Txt)(x:E):Prop:=∀X rd tg p,OkX T cf Tx X->mI Tx x rd X.N X.env.scope tg p=true->SI T cf X tg x rd p/\aZ p=true
theorem noA{x:E}(h:∀rd N sc ps,mA Tx x rd N sc ps=false):PAx T cf Tx x:=λX rd ps _ m=>by rw[h]at m;cases m
theorem noI{x:E}(h:∀rd N sc tg p,mI Tx x rd N sc tg p=false):PIx T cf Tx x:=λX rd tg p _ m=>by rw[h]at m;cases m
theorem noE{x:E}(h:∀N sc p,mE Tx x N sc p=false):PEx T cf Tx x:=λX p _ m=>by rw[h]at m;cases m
theorem eJ{x:E}{p:Expr}(h:SE T cf X x p)(he:∀whole,isTrue p X.env whole=(do let v<-whole;standAt p.pos;holding [v] (truthy v)))(hp:aZ p=true)(hb:xK p=false:=by rfl):SR T cf X x p/\(aH x=false->SE T cf X x p)/\ST T cf X x p/\aZ p=true/\(xK p=true->SW T cf X x p):=
 ⟨h.sr,λ_=>h,CI h.sr he,hp,λz=>by rw[hb]at z;cases z⟩
theorem okC(ok:OkX T cf Tx X){scope:Scope}{C:Addr}{Nc:List Str}{s2:Shared}{H2:Hp}{fp:List Addr}(h:Nc.Nodup):OkX T cf Tx (cxC X scope C Nc s2 H2 fp):=
 ⟨ok.calm,ok.roomy,ok.defs,ok.globs,ok.blt,h,ok.tf,ok.ts,ok.dm⟩
theorem scC_of{scope:Scope}(h:scB X.env.scope scope=true):ScopeC X scope:=by
 simp only[scB,aD,mT,fE,bV,beq_iff_eq,beq_eq_false_iff_ne,ne_eq]at h
 obtain⟨⟨⟨h1,h2⟩,h3⟩,h4⟩:=h
 refine⟨h1,h2,λx hx e=>?_,λx hx e=>?_,λx hx e=>?_⟩
 ·rcases h3 x hx with z|z
  ·exact absurd e z
  ·exact z
 ·rcases h4 x hx with z|z
  ·exact absurd e z
  ·exact z.1
 ·rcases h4 x hx with z|z
  ·exact absurd e z
  ·exact z.2
theorem capsOk{scope:Scope}{caps:List Nat}{own:Nat}{tn:List Str}(h:oE X.N scope caps=true)(hn:gE caps=true)(ho:own=tn.length):CapsOk X scope own caps (tn++cL X.N caps):=by
 refine⟨by rw[cE,ho,cL,aE],rJ hn,λj i hj=>?_⟩
 simp only[oE,mT]at h
 have:=h i (jA hj)
 cases e:X.N[i]? with
 |none=>rw[e]at this;cases this
 |some n=>
  rw[e]at this
  refine⟨n,rfl,?_,by simpa using this⟩
  rw[ho,gL (by lia),show tn.length+j-tn.length=j by lia,cL,bO,hj]
  simp[e]
theorem i_rng {a:E} {rd:Bool} {N:List Str} {sc:Scope} {tg p:Expr} (h:mI Tx (.rng a) rd N sc tg p=true):∃n pn q pos,p=.Call (.Name n pn) [q] [] pos/\((n == "range")&&glB sc n&&!aH a&&mE Tx a N sc q)=true:=by
 obtain⟨n,pn,es,pos,rfl,g1⟩:=kO h
 obtain⟨q,rfl,g2⟩:=jN g1
 exact⟨n,pn,q,pos,rfl,g2⟩
theorem i_rng2 {a b:E} {rd:Bool} {N:List Str} {sc:Scope} {tg p:Expr} (h:mI Tx (.rng2 a b) rd N sc tg p=true):∃n pn q r pos,p=.Call (.Name n pn) [q,r] [] pos/\((n == "range")&&glB sc n&&!aH a&&!aH b&&mE Tx a N sc q&&mE Tx b N sc r)=true:=by
 obtain⟨n,pn,es,pos,rfl,g1⟩:=kO h
 obtain⟨q,r,rfl,g2⟩:=vP_of g1
 exact⟨n,pn,q,r,pos,rfl,g2⟩
theorem i_enum {a:E} {rd:Bool} {N:List Str} {sc:Scope} {tg p:Expr} (h:mI Tx (.enum a) rd N sc tg p=true):∃n pn q pos,p=.Call (.Name n pn) [q] [] pos/\((n == "enumerate")&&glB sc n&&xG tg&&(rd||!aH a)&&mE Tx a N sc q)=true:=by
 obtain⟨n,pn,es,pos,rfl,g1⟩:=kO h
 obtain⟨q,rfl,g2⟩:=jN g1
 exact⟨n,pn,q,pos,rfl,g2⟩
theorem DE{own:Nat}{caps:List Nat}{g:G}{elt src cond:E}{N:List Str}{sc:Scope}{p:Expr}(h:mE Tx (.comp own caps g elt src cond) N sc p=true):∃pe tg iter ifs scope pos,p=.ListComp pe [⟨tg,iter,ifs,0⟩] scope pos /\
 scB sc scope=true/\oE N scope caps=true/\gE caps=true/\gE (cK tg++cL N caps)=true/\own=(cK tg).length/\g.below own=true/\mG true (cK tg++cL N caps) (iO scope sc) g tg=true /\
 mI Tx src true N sc tg iter=true/\aH elt=false/\mE Tx elt (cK tg++cL N caps) (iO scope sc) pe=true /\
 ((ifs=[]/\rK cond=true)\/∃c,ifs=[c]/\mE Tx cond (cK tg++cL N caps) (iO scope sc) c=true):=by
 cases p with
 |ListComp pe gens scope pos=>
  rcases gens with _|⟨⟨tg,iter,ifs,isa⟩,_|⟨g2,gens⟩⟩
  ·exact nof h
  ·change (_&&_)=true at h;simp only[aD,bV,beq_iff_eq]at h
   obtain⟨⟨⟨⟨⟨⟨⟨⟨⟨⟨⟨a1,a2⟩,a3⟩,a4⟩,a5⟩,a6⟩,a7⟩,a8⟩,a9⟩,a10⟩,a11⟩,a12⟩:=h
   subst a1
   refine⟨pe,tg,iter,ifs,scope,pos,rfl,a2,a3,a4,a5,a6,a7,a8,a9,a10,a11,?_⟩
   rcases ifs with _|⟨c,_|⟨c',ifs⟩⟩
   ·exact .inl ⟨rfl,a12⟩
   ·exact .inr ⟨c,rfl,a12⟩
   ·cases a12
  ·exact nof h
 |_=>exact nof h
theorem DF{own:Nat}{caps:List Nat}{g:G}{elt src cond:E}{pe tg iter:Expr}{ifs:List Expr}{scope:Scope}(ok:OkX T cf Tx X)(ie:PEx T cf Tx elt)(is:PIx T cf Tx src)(ic:PEx T cf Tx cond)
 (a2:scB X.env.scope scope=true) (a3:oE X.N scope caps=true) (a4:gE caps=true) (a5:gE (cK tg++cL X.N caps)=true) (a6:own=(cK tg).length) (a8:mG true (cK tg++cL X.N caps) (iO scope X.env.scope) g tg=true)
 (a9:mI Tx src true X.N X.env.scope tg iter=true) (a10:aH elt=false) (a11:mE Tx elt (cK tg++cL X.N caps) (iO scope X.env.scope) pe=true)
 (a12:(ifs=[]/\rK cond=true)\/∃c,ifs=[c]/\mE Tx cond (cK tg++cL X.N caps) (iO scope X.env.scope) c=true) :
 ScopeC X scope/\CapsOk X scope own caps (cK tg++cL X.N caps)/\aZ iter=true/\SI T cf X tg src true iter /\
 ∀C s2 H2 fp,(cxC X scope C (cK tg++cL X.N caps) s2 H2 fp).Ok->SG (cxC X scope C (cK tg++cL X.N caps) s2 H2 fp) g tg/\SE T cf (cxC X scope C (cK tg++cL X.N caps) s2 H2 fp) elt pe/\oC ifs cond (ST T cf (cxC X scope C (cK tg++cL X.N caps) s2 H2 fp) cond):=by
 obtain⟨s1,s2⟩:=is X true tg iter ok a9
 refine⟨scC_of a2,capsOk a3 a4 a6,s2,s1,λC s2 H2 fp _=>?_⟩
 have okc:OkX T cf Tx (cxC X scope C (cK tg++cL X.N caps) s2 H2 fp):=okC ok (rJ a5)
 refine⟨(rM (X:=cxC X scope C (cK tg++cL X.N caps) s2 H2 fp) ok.calm okc.nd (λn z=>by cases z) a8).1,(ie _ _ okc a11).2.1 a10,?_⟩
 rcases a12 with⟨z1,z2⟩|⟨c,z1,z2⟩
 ·refine .inl ⟨z1,?_⟩
  unfold rK at z2
  split at z2
  ·rfl
  ·cases z2
 ·exact .inr ⟨c,z1,(ic _ _ okc z2).2.2.1⟩
theorem cC:∀x:E,PEx T cf Tx x/\PAx T cf Tx x/\PIx T cf Tx x:=by
 intro x
 induction x with
 |var i=>
  refine⟨λX p ok h=>?_,noA λrd N sc ps=>rfl,noI λrd N sc tg p=>rfl⟩
  obtain⟨n,pos,rfl,hn⟩:=xJ h
  obtain⟨a1,a2,a3,a4⟩:=eI hn
  exact eJ (se_var a1 a2 a3 a4) (λ_=>rfl) rfl
 |rd i=>
  refine⟨λX p ok h=>?_,noA λrd N sc ps=>rfl,noI λrd N sc tg p=>rfl⟩
  obtain⟨n,pos,rfl,hn⟩:=i_rd h
  obtain⟨a1,a2,a3,a4⟩:=eI hn
  exact⟨Bl a1 a2 a3 a4,(λz=>by cases z),CI (Bl a1 a2 a3 a4) (λ_=>rfl),rfl,λz=>by cases z⟩
 |con d=>
  refine⟨λX p ok h=>?_,noA λrd N sc ps=>rfl,noI λrd N sc tg p=>rfl⟩
  obtain⟨c,k,pos,rfl,hn⟩:=Cr h
  exact eJ (se_con hn) (λ_=>rfl) rfl
 |glob g=>
  refine⟨λX p ok h=>?_,noA λrd N sc ps=>rfl,noI λrd N sc tg p=>rfl⟩
  obtain⟨n,pos,rfl,hn⟩:=Cs h
  simp only[aD,beq_iff_eq]at hn
  exact eJ (HC (dH hn.1.2) (ok.globs g n hn.1.1) (gZ hn.2)) (λ_=>rfl) rfl
 |bin o a b iha ihb=>
  refine⟨λX p ok h=>?_,noA λrd N sc ps=>rfl,noI λrd N sc tg p=>rfl⟩
  obtain⟨l,r,pos,rfl,h1,h2⟩:=Ct h
  exact eJ (se_bin (iha.1 X l ok h1).1 (ihb.1 X r ok h2).1) (λ_=>rfl) rfl
 |cmp o a b iha ihb=>
  refine⟨λX p ok h=>?_,noA λrd N sc ps=>rfl,noI λrd N sc tg p=>rfl⟩
  obtain⟨l,r,pos,rfl,h1,h2⟩:=Cu h
  have hb:=ihb.1 X r ok h2
  have se:=se_cmp (o:=o) (pos:=pos) ok.roomy hb.2.2.2.1 (iha.1 X l ok h1).1 hb.1
  exact⟨se.sr,λ_=>se,st_cmp ok.roomy hb.2.2.2.1 (iha.1 X l ok h1).1 hb.1,rfl,λz=>by cases z⟩
 |seqD a iha=>
  refine⟨noE λN sc p=>rfl,noA λrd N sc ps=>rfl,λX rd tg p ok h=>?_⟩
  change (_&&_)=true at h;simp only[aD,bV]at h
  obtain⟨a1,a2,_,a4,_⟩:=iha.1 X p ok h.2
  cases rd with
  |true=>exact⟨(Cg (a2 h.1)).up,a4⟩
  |false=>exact⟨Cg (a2 h.1),a4⟩
 |and a b iha ihb=>
  refine⟨λX p ok h=>?_,noA λrd N sc ps=>rfl,noI λrd N sc tg p=>rfl⟩
  obtain⟨l,r,rest,pos,rfl,ra,rb,h1,h2⟩:=Cw h
  obtain⟨_,sa,ta,_⟩:=iha.1 X l ok h1
  have sb:SE T cf X b (.BoolOp .And (r::rest) pos)/\SW T cf X b (.BoolOp .And (r::rest) pos):=by
   rcases h2 with⟨rfl,h2⟩|⟨r',rs,rfl,h2⟩
   ·obtain⟨_,b1,b2,_⟩:=ihb.1 X r ok h2
    exact⟨CL (b1 rb),HX b2⟩
   ·obtain⟨_,b1,b2,_,b5⟩:=ihb.1 X _ ok h2
    exact⟨b1 rb,b5 rfl⟩
  exact⟨(CJ (sa ra) sb.1).sr,λ_=>CJ (sa ra) sb.1,(CM ta sb.2).st,rfl,λ_=>CM ta sb.2⟩
 |or a b iha ihb=>
  refine⟨λX p ok h=>?_,noA λrd N sc ps=>rfl,noI λrd N sc tg p=>rfl⟩
  obtain⟨l,r,rest,pos,rfl,ra,rb,h1,h2⟩:=i_or h
  obtain⟨_,sa,ta,_⟩:=iha.1 X l ok h1
  have sb:SE T cf X b (.BoolOp .Or (r::rest) pos)/\SW T cf X b (.BoolOp .Or (r::rest) pos):=by
   rcases h2 with⟨rfl,h2⟩|⟨r',rs,rfl,h2⟩
   ·obtain⟨_,b1,b2,_⟩:=ihb.1 X r ok h2
    exact⟨CL (b1 rb),sw_or1 b2⟩
   ·obtain⟨_,b1,b2,_,b5⟩:=ihb.1 X _ ok h2
    exact⟨b1 rb,b5 rfl⟩
  exact⟨(CK (sa ra) sb.1).sr,λ_=>CK (sa ra) sb.1,(CN ta sb.2).st,rfl,λ_=>CN ta sb.2⟩
 |neg a iha=>
  refine⟨λX p ok h=>?_,noA λrd N sc ps=>rfl,noI λrd N sc tg p=>rfl⟩
  obtain⟨l,pos,rfl,h1⟩:=Cv h
  exact eJ (se_neg (iha.1 X l ok h1).1) (λ_=>rfl) rfl
 |ife c a b ihc iha ihb=>
  refine⟨λX p ok h=>?_,noA λrd N sc ps=>rfl,noI λrd N sc tg p=>rfl⟩
  obtain⟨l,m,r,pos,rfl,ra,rb,h1,h2,h3⟩:=Cy h
  have se:=se_ife (pos:=pos) (ihc.1 X l ok h1).2.2.1 ((iha.1 X m ok h2).2.1 ra) ((ihb.1 X r ok h3).2.1 rb)
  exact⟨se.sr,λ_=>se,st_ife (ihc.1 X l ok h1).2.2.1 (iha.1 X m ok h2).2.2.1 (ihb.1 X r ok h3).2.2.1,rfl,λz=>by cases z⟩
 |ix a b iha ihb=>
  refine⟨λX p ok h=>?_,noA λrd N sc ps=>rfl,noI λrd N sc tg p=>rfl⟩
  obtain⟨l,r,pos,rfl,h1,h2⟩:=i_ix h
  have hb:=ihb.1 X r ok h2
  exact eJ (se_ix ok.roomy hb.2.2.2.1 (iha.1 X l ok h1).1 hb.1) (λ_=>rfl) rfl
 |sl a lo hi iha ihl ihh=>
  refine⟨λX p ok h=>?_,noA λrd N sc ps=>rfl,noI λrd N sc tg p=>rfl⟩
  obtain⟨l,pl,ph,pos,pos',rfl,h1,h2,h3⟩:=i_sl h
  have part:∀{y:E} {q:Option Expr},PEx T cf Tx y->((q=none/\gY y=true)\/∃r,q=some r/\aH y=false/\mE Tx y X.N X.env.scope r=true)->SO T cf X y q:=by
   intro y q ih hq
   rcases hq with⟨rfl,z⟩|⟨r,rfl,z1,z2⟩
   ·unfold gY at z
    split at z
    ·exact HQ
    ·cases z
   ·exact HR ((ih X r ok z2).2.1 z1)
  exact eJ (se_sl (iha.1 X l ok h1).1 (part ihl.1 h2) (part ihh.1 h3)) (λ_=>rfl) rfl
 | «omit»=>exact⟨noE λN sc p=>rfl,noA λrd N sc ps=>rfl,noI λrd N sc tg p=>rfl⟩
 |tup a iha=>
  refine⟨λX p ok h=>?_,noA λrd N sc ps=>rfl,noI λrd N sc tg p=>rfl⟩
  obtain⟨es,k,pos,rfl,h1⟩:=Cz h
  exact eJ (se_tup ((iha.2.1 X false es ok h1).2.1 rfl)) (λ_=>rfl) rfl
 |lst a iha=>
  refine⟨λX p ok h=>?_,noA λrd N sc ps=>rfl,noI λrd N sc tg p=>rfl⟩
  obtain⟨es,pos,rfl,h1⟩:=DA h
  exact eJ (se_lst ((iha.2.1 X false es ok h1).2.1 rfl)) (λ_=>rfl) rfl
 |anil=>
  refine⟨noE λN sc p=>rfl,λX rd ps ok h=>?_,noI λrd N sc tg p=>rfl⟩
  cases ps with
  |nil=>exact⟨HU,λ_=>sav_nil,rfl⟩
  |cons _ _=>exact nof h
 |acons a r iha ihr=>
  refine⟨noE λN sc p=>rfl,λX rd ps ok h=>?_,noI λrd N sc tg p=>rfl⟩
  cases ps with
  |nil=>exact nof h
  |cons p ps=>
   change (_&&_)=true at h;simp only[aD,fE,bV]at h
   obtain⟨a1,a2,_,a4,_⟩:=iha.1 X p ok h.1.2
   obtain⟨b1,b2,b3⟩:=ihr.2.1 X rd ps ok h.2
   refine⟨HV a4 a1 b1,λz=>HS a4 (a2 ?_) (b2 z),by rw[lC,a4,b3];rfl⟩
   rcases h.1.1 with q|q
   ·rw[z]at q;cases q
   ·exact q
 |call f a iha=>
  refine⟨λX p ok h=>?_,noA λrd N sc ps=>rfl,noI λrd N sc tg p=>rfl⟩
  obtain⟨n,pn,es,pos,rfl,hn⟩:=rL h
  simp only[aD,beq_iff_eq]at hn
  obtain⟨_,b2,b3⟩:=iha.2.1 X false es ok hn.2
  cases es with
  |nil=>
   cases a with
   |anil=>exact eJ (H_ (ok.defs f n hn.1.1.1) (dH hn.1.1.2) (gZ hn.1.2)) (λ_=>rfl) rfl
   |_=>exact nof hn.2
  |cons e es=>exact eJ (H0 (ok.defs f n hn.1.1.1) (dH hn.1.1.2) (gZ hn.1.2) b3 (b2 rfl)) (λ_=>rfl) rfl
 |srt a iha=>
  refine⟨λX p ok h=>?_,noA λrd N sc ps=>rfl,noI λrd N sc tg p=>rfl⟩
  obtain⟨n,pn,q,pos,rfl,hn⟩:=DB h
  simp only[aD,beq_iff_eq]at hn
  obtain⟨⟨rfl,h2⟩,h3⟩:=hn
  obtain⟨a1,_,_,a4,_⟩:=iha.1 X q ok h3
  exact eJ (se_srt ok.calm (ok.blt _ (by decide)) (dH h2) a4 a1) (λ_=>rfl) rfl
 |dck a iha=>
  refine⟨λX p ok h=>?_,noA λrd N sc ps=>rfl,noI λrd N sc tg p=>rfl⟩
  obtain⟨n,pn,q,pos,rfl,hn⟩:=DC h
  simp only[aD,beq_iff_eq,bV]at hn
  obtain⟨⟨⟨rfl,h2⟩,h0⟩,h3⟩:=hn
  obtain⟨_,a2,_,a4,_⟩:=iha.1 X q ok h3
  exact eJ (se_dck ok.calm ok.roomy (ok.blt _ (by decide)) (dH h2) a4 (a2 h0)) (λ_=>rfl) rfl
 |bt b a iha=>
  refine⟨λX p ok h=>?_,noA λrd N sc ps=>rfl,noI λrd N sc tg p=>rfl⟩
  obtain⟨n,pn,e,es,pos,rfl,hn⟩:=i_bt h
  simp only[aD,beq_iff_eq]at hn
  obtain⟨b1,_,b3⟩:=iha.2.1 X true (e::es) ok hn.2
  exact eJ (se_bt hn.1.1.1 ok.calm hn.1.1.2 (ok.blt _ (by cases b<;>decide)) (dH hn.1.2) b3 b1) (λ_=>rfl) rfl
 |comp own caps g elt src cond ihe ihs ihc=>
  refine⟨λX p ok h=>?_,noA λrd N sc ps=>rfl,noI λrd N sc tg p=>rfl⟩
  obtain⟨pe,tg,iter,ifs,scope,pos,rfl,a2,a3,a4,a5,a6,a7,a8,a9,a10,a11,a12⟩:=DE h
  obtain⟨c1,c2,c3,c4,c5⟩:=DF ok ihe.1 ihs.2.2 ihc.1 a2 a3 a4 a5 a6 a8 a9 a10 a11 a12
  exact eJ (C4 ok.calm c1 c2 a7 c3 c4 c5) (λ_=>rfl) rfl
 |seq a iha=>
  refine⟨noE λN sc p=>rfl,noA λrd N sc ps=>rfl,λX rd tg p ok h=>?_⟩
  change (_&&_)=true at h;simp only[aD,fE,bV]at h
  obtain⟨a1,a2,_,a4,_⟩:=iha.1 X p ok h.2
  refine⟨si_seq a1 λz=>a2 ?_,a4⟩
  rcases h.1 with q|q
  ·rw[z]at q;cases q
  ·exact q
 |rng a iha=>
  refine⟨noE λN sc p=>rfl,noA λrd N sc ps=>rfl,λX rd tg p ok h=>?_⟩
  obtain⟨n,pn,q,pos,rfl,hn⟩:=i_rng h
  simp only[aD,beq_iff_eq,bV]at hn
  obtain⟨_,a2,_,a4,_⟩:=iha.1 X q ok hn.2
  exact⟨si_rng hn.1.1.1 (dH hn.1.1.2) (ok.blt _ (by simp[lP])) a4 (a2 hn.1.2),rfl⟩
 |rng2 a b iha ihb=>
  refine⟨noE λN sc p=>rfl,noA λrd N sc ps=>rfl,λX rd tg p ok h=>?_⟩
  obtain⟨n,pn,q,r,pos,rfl,hn⟩:=i_rng2 h
  simp only[aD,beq_iff_eq,bV]at hn
  obtain⟨_,a2,_,a4,_⟩:=iha.1 X q ok hn.1.2
  obtain⟨_,b2,_,b4,_⟩:=ihb.1 X r ok hn.2
  exact⟨Hf hn.1.1.1.1.1 (dH hn.1.1.1.1.2) (ok.blt _ (by simp[lP])) a4 b4 (a2 hn.1.1.1.2) (b2 hn.1.1.2),rfl⟩
 |enum a iha=>
  refine⟨noE λN sc p=>rfl,noA λrd N sc ps=>rfl,λX rd tg p ok h=>?_⟩
  obtain⟨n,pn,q,pos,rfl,hn⟩:=i_enum h
  simp only[aD,beq_iff_eq,bV,fE]at hn
  obtain⟨a1,a2,_,a4,_⟩:=iha.1 X q ok hn.2
  cases tg with
  |Tuple es kk tpos=>
   refine⟨IG hn.1.1.1.1 (dH hn.1.1.1.2) (ok.blt _ (by simp[lP])) a4 a1 λz=>a2 ?_,rfl⟩
   rcases hn.1.2 with q|q
   ·rw[z]at q;cases q
   ·exact q
  |_=>exact absurd hn.1.1.2 (by simp[xG])
end
section
variable(Tx:Txt)
noncomputable def Ih:E->Bool
 |.call _ _=>true
 |_=>false
noncomputable def vR(G:Str->Expr->Str->Str->Expr->Bool):Expr->Bool
 |.Call (.Name n _) [p,.Name n1 _,.Name n2 _,q] [] _=>G n p n1 n2 q
 |_=>false
noncomputable def vO(neg:Bool)(G:Expr->Bool)(C:Expr->Bool):Expr->Bool
 |.UnaryOp .Not p _=>neg&&G p
 |.BoolOp .Or [c,p] _=>!neg&&G p&&C c
 |_=>false
noncomputable def mRf(neg:Bool)(c:E)(f:Nat)(x:E)(i j:Nat)(y:E)(N:List Str)(sc:Scope):Expr->Bool:=
 vO neg (vR λn p n1 n2 q=>Tx.dm.contains (f,n)&&glB sc n&&eC n&&cB N sc i n1&&cB N sc j n2&&!aH x&&!aH y&&mE Tx x N sc p&&mE Tx y N sc q) (mE Tx c N sc)
mutual
noncomputable def mB:S->List Str->Scope->List Stmt->Bool
 |.nil,_,_,[]=>true
 |.cons (.sealed _) r,N,sc,ps=>mB r N sc ps
 |.cons a r,N,sc,p::ps=>mS a N sc p&&mB r N sc ps
 |_,_,_,_=>false
termination_by structural x=>x
noncomputable def mS:S->List Str->Scope->Stmt->Bool
 |.ret x,N,sc,.Return (some p) _=>!aH x&&mE Tx x N sc p
 |.retO i,N,sc,.Return (some (.Name n _)) _=>cB N sc i n
 |.asg g x,N,sc,.Assign [tg] p _=>!aH x&&mG false N sc g tg&&mE Tx x N sc p&&((dG p&&rE p)||(match g,tg with | .one _,.Name _ _=>true|_,_=>false))
 |.asgO i x,N,sc,.Assign [.Name n pn] p _=>!aH x&&mG false N sc (.one i) (.Name n pn)&&mE Tx x N sc p
 |.ite c a b,N,sc,.If p ps qs _=>mE Tx c N sc p&&mB a N sc ps&&mB b N sc qs
 |.forS g src b,N,sc,.For tg p ps [] _=>mI Tx src false N sc tg p&&mG false N sc g tg&&mB b N sc ps
 |.app i x,N,sc,p=>vM (λn nm apos cpos=>v1 λq=>cB N sc i n&&(nm == "append")&&(apos.endLine==cpos.line)&&!aH x&&mE Tx x N sc q) p
 |.ext i x,N,sc,p=>vM (λn nm apos cpos=>v1 λq=>cB N sc i n&&(nm == "extend")&&(apos.endLine==cpos.line)&&!aH x&&mE Tx x N sc q) p
 |.lput i y x,N,sc,p=>vA (λtg v=>vX (λn q=>cB N sc i n&&dG v&&!aH y&&mE Tx y N sc q&&!aH x&&mE Tx x N sc v) tg) p
 |.exp x,N,sc,.Expr p _=>Ih x&&mE Tx x N sc p
 |.rais c a,N,sc,.Raise (some (.Call (.Name n _) es [] _)) none _=>(n==c)&&Tx.cls.contains n&&glB sc n&&eC n&&!es.isEmpty&&mA Tx a false N sc es
 |.newD i,N,sc,p=>vA (λtg v=>vN (λn pn=>vD v&&mG false N sc (.one i) (.Name n pn)) tg) p
 |.asgN i x,N,sc,.Assign [.Name n pn] p _=>dG p&&!aH x&&mG false N sc (.one i) (.Name n pn)&&mE Tx x N sc p
 |.dputR i y x,N,sc,p=>vA (λtg v=>vX (λn q=>cB N sc i n&&dG v&&!aH y&&mE Tx y N sc q&&!aH x&&mE Tx x N sc v) tg) p
 |.extN i j,N,sc,p=>vM (λn nm apos cpos=>v1 λq=>vN (λm _=>cB N sc i n&&(nm == "extend")&&(apos.endLine==cpos.line)&&cB N sc j m) q) p
 |.retR x _ _,N,sc,.Return (some p) _=>!aH x&&mE Tx x N sc p
 |.ifR neg c f x i j y a b,N,sc,.If p ps qs _=>mRf Tx neg c f x i j y N sc p&&mB a N sc ps&&mB b N sc qs
 |_,_,_,_=>false
termination_by structural x=>x
end
end
set_option genInjectivity false in
structure OkS(T:Tab)(cf:Nat->List D->Res D)(Tx:Txt)(X:Cx):Prop where
 ok:OkX T cf Tx X
 xe:X.xe=λ_ _=>False
 fn:∀n,X.fn n=true
section
variable{T:Tab}{cf:Nat->List D->Res D}{Tx:Txt}{X:Cx}
theorem OkS.pass(o:OkS T cf Tx X):PassesOwn (model X.prog X.w) X.A X.env X.xe:=by rw[o.xe];exact PassesOwn.never
noncomputable def PSx(T:Tab)(cf:Nat->List D->Res D)(Tx:Txt)(x:S):Prop:=∀X p,OkS T cf Tx X->mS Tx x X.N X.env.scope p=true->SS T cf X x p
noncomputable def PBx(T:Tab)(cf:Nat->List D->Res D)(Tx:Txt)(x:S):Prop:=∀X ps,OkS T cf Tx X->mB Tx x X.N X.env.scope ps=true->SB T cf X x ps
theorem noB{x:S}(h:∀N sc ps,mB Tx x N sc ps=false):PBx T cf Tx x:=λX ps _ m=>by rw[h]at m;cases m
theorem noS{x:S}(h:∀N sc p,mS Tx x N sc p=false):PSx T cf Tx x:=λX ps _ m=>by rw[h]at m;cases m
theorem vR_of{G:Str->Expr->Str->Str->Expr->Bool}{p:Expr}(h:vR G p=true):∃n pn q1 n1 p1 n2 p2 q2 pos,p=.Call (.Name n pn) [q1,.Name n1 p1,.Name n2 p2,q2] [] pos/\G n q1 n1 n2 q2=true:=by
 unfold vR at h
 split at h
 ·exact⟨_,_,_,_,_,_,_,_,_,rfl,h⟩
 ·cases h
theorem vO_of{neg:Bool}{G C:Expr->Bool}{p:Expr}(h:vO neg G C p=true):(∃q pos,p=.UnaryOp .Not q pos/\neg=true/\G q=true)\/∃c q pos,p=.BoolOp .Or [c,q] pos/\neg=false/\G q=true/\C c=true:=by
 unfold vO at h
 split at h
 ·rw[aD]at h;exact .inl ⟨_,_,rfl,h.1,h.2⟩
 ·rw[aD,aD,bV]at h;exact .inr ⟨_,_,_,rfl,h.1.1,h.1.2,h.2⟩
 ·cases h
theorem x_comp{x:E}{N:List Str}{sc:Scope}{p:Expr}(hp:dG p=false)(h:mE Tx x N sc p=true):∃own caps g elt src cond,x=.comp own caps g elt src cond:=by
 cases x with
 |comp own caps g elt src cond=>exact⟨_,_,_,_,_,_,rfl⟩
 |var i=>obtain⟨n,pos,rfl,_⟩:=xJ h;cases hp
 |rd i=>obtain⟨n,pos,rfl,_⟩:=i_rd h;cases hp
 |con d=>obtain⟨c,k,pos,rfl,_⟩:=Cr h;cases hp
 |glob d=>obtain⟨c,pos,rfl,_⟩:=Cs h;cases hp
 |bin o a b=>obtain⟨c,_,pos,rfl,_⟩:=Ct h;cases hp
 |cmp o a b=>obtain⟨c,_,pos,rfl,_⟩:=Cu h;cases hp
 |and a b=>obtain⟨c,_,_,pos,rfl,_⟩:=Cw h;cases hp
 |or a b=>obtain⟨c,_,_,pos,rfl,_⟩:=i_or h;cases hp
 |ife c a b=>obtain⟨c,_,_,pos,rfl,_⟩:=Cy h;cases hp
 |ix a b=>obtain⟨c,_,pos,rfl,_⟩:=i_ix h;cases hp
 |sl a b c=>obtain⟨c,_,_,_,pos,rfl,_⟩:=i_sl h;cases hp
 |tup a=>obtain⟨c,_,pos,rfl,_⟩:=Cz h;cases hp
 |lst a=>obtain⟨c,pos,rfl,_⟩:=DA h;cases hp
 |call f a=>obtain⟨c,_,_,pos,rfl,_⟩:=rL h;cases hp
 |dck a=>obtain⟨c,_,_,pos,rfl,_⟩:=DC h;cases hp
 |srt a=>obtain⟨c,_,_,pos,rfl,_⟩:=DB h;cases hp
 |bt f a=>obtain⟨c,_,_,_,pos,rfl,_⟩:=i_bt h;cases hp
 |neg a=>obtain⟨c,pos,rfl,_⟩:=Cv h;cases hp
 |_=>exact nof h
theorem i_newD{i:Nat}{N:List Str}{sc:Scope}{p:Stmt}(h:mS Tx (.newD i) N sc p=true):∃n pn dpos pos,p=.Assign [.Name n pn] (.Dict [] [] dpos) pos/\mG false N sc (.one i) (.Name n pn)=true:=by
 obtain⟨tg,v,pos,rfl,g1⟩:=xI h
 obtain⟨n,pn,rfl,g2⟩:=Cq g1
 obtain⟨h1,h2⟩:=aW g2
 obtain⟨dpos,rfl⟩:=vD_of h1
 exact⟨n,pn,dpos,pos,rfl,h2⟩
theorem i_asgN{i:Nat}{x:E}{N:List Str}{sc:Scope}{p:Stmt}(h:mS Tx (.asgN i x) N sc p=true):∃n pn v pos,p=.Assign [.Name n pn] v pos/\(dG v&&!aH x&&mG false N sc (.one i) (.Name n pn)&&mE Tx x N sc v)=true:=by
 cases p with
 |Assign tgs v pos=>
  rcases tgs with _|⟨tg,_|⟨t2,tgs⟩⟩
  ·exact nof h
  ·cases tg with
   |Name n pn=>exact⟨n,pn,v,pos,rfl,h⟩
   |_=>exact nof h
  ·cases tg<;>exact nof h
 |_=>exact nof h
theorem oF{i:Nat}{n:Str}{pos:Pos}(o:OkS T cf Tx X)(h:mG false X.N X.env.scope (.one i) (.Name n pos)=true):X.N[i]?=some n/\Loc X.env.scope n/\(X.fn n=true\/X.env.scope.names.lookup n=some .local):=by
 change (_&&(_||_))=true at h
 simp only[aD,fE,beq_iff_eq,bV,Bool.not_false,true_and]at h
 exact⟨h.1,h.2,.inl (o.fn n)⟩
theorem DG{i:Nat}{n:Str}{pos pos':Pos}{x:E}{p:Expr}(b:Bool)(o:OkS T cf Tx X)(hp:dG p=false)(h1:mG false X.N X.env.scope (.one i) (.Name n pos)=true)(h2:mE Tx x X.N X.env.scope p=true):SS T cf X (if b then .asgO i x else .asg (.one i) x) (.Assign [.Name n pos] p pos'):=by
 obtain⟨own,caps,g,elt,src,cond,rfl⟩:=x_comp hp h2
 obtain⟨pe,tg,iter,ifs,scope,pos2,rfl,a2,a3,a4,a5,a6,a7,a8,a9,a10,a11,a12⟩:=DE h2
 obtain⟨c1,c2,c3,c4,c5⟩:=DF o.ok (cC elt).1 (cC src).2.2 (cC cond).1 a2 a3 a4 a5 a6 a8 a9 a10 a11 a12
 obtain⟨n1,n2,n3⟩:=oF o h1
 exact IC o.ok.nd n1 n2 n3 o.ok.calm c1 c2 a7 c3 c4 b c5
theorem i_app {i:Nat} {x:E} {N:List Str} {sc:Scope} {p:Stmt} (h:mS Tx (.app i x) N sc p=true):∃n px nm apos q cpos pos,p=.Expr (.Call (.Attribute (.Name n px) nm apos) [q] [] cpos) pos/\(cB N sc i n&&(nm == "append")&&(apos.endLine==cpos.line)&&!aH x&&mE Tx x N sc q)=true:=by
 obtain⟨n,px,nm,apos,es,cpos,pos,rfl,g1⟩:=xH h
 obtain⟨q,rfl,g2⟩:=jN g1
 exact⟨n,px,nm,apos,q,cpos,pos,rfl,g2⟩
theorem i_ext {i:Nat} {x:E} {N:List Str} {sc:Scope} {p:Stmt} (h:mS Tx (.ext i x) N sc p=true):∃n px nm apos q cpos pos,p=.Expr (.Call (.Attribute (.Name n px) nm apos) [q] [] cpos) pos/\(cB N sc i n&&(nm == "extend")&&(apos.endLine==cpos.line)&&!aH x&&mE Tx x N sc q)=true:=by
 obtain⟨n,px,nm,apos,es,cpos,pos,rfl,g1⟩:=xH h
 obtain⟨q,rfl,g2⟩:=jN g1
 exact⟨n,px,nm,apos,q,cpos,pos,rfl,g2⟩
theorem i_lput{i:Nat}{y x:E}{N:List Str}{sc:Scope}{p:Stmt}(h:mS Tx (.lput i y x) N sc p=true):∃n px q tpos v pos,p=.Assign [.Subscript (.Name n px) q tpos] v pos/\(cB N sc i n&&dG v&&!aH y&&mE Tx y N sc q&&!aH x&&mE Tx x N sc v)=true:=by
 obtain⟨tg,v,pos,rfl,g1⟩:=xI h
 obtain⟨n,px,q,tpos,rfl,g2⟩:=Cp g1
 exact⟨n,px,q,tpos,v,pos,rfl,g2⟩
theorem Ij{i:Nat}{n:Str}{x:E}{p:Expr}{pos pos':Pos}(hx:dG p=true)(hN:X.N.Nodup)(hi:X.N[i]?=some n)(hl:Loc X.env.scope n)(hf:X.fn n=true\/X.env.scope.names.lookup n=some .local)(h:SE T cf X x p):SS T cf X (.asg (.one i) x) (.Assign [.Name n pos'] p pos):=λH₀ O₀=>by
 refine PS.imp (λD' σ H hq=>?_) (kC hN hi hl (h H₀ O₀) (jM hx) hf)
 obtain⟨ts,e,out,⟨O,own,F,tt⟩,ev,k⟩:=hq
 rw[lL]at ev
 obtain⟨d,e1,ev⟩:=Res.bind_ok ev
 obtain⟨e2,e3,ev⟩:=Res.bind_ok ev
 cases ev
 cases e3
 exact⟨O,own,e,d,F,e1,λv H' s' r n=>k _ H' ⟨O,_,(F.grow s').setV i r,λt ht=>(tt t ht).same s'⟩⟩
theorem lQ:∀x:S,PSx T cf Tx x/\PBx T cf Tx x:=by
 intro x
 induction x with
 |nil=>
  refine⟨noS λN sc p=>rfl,λX ps o h=>?_⟩
  cases ps with
  |nil=>exact sb_nil
  |cons _ _=>exact nof h
 |cons a r iha ihr=>
  refine⟨noS λN sc p=>rfl,λX ps o h=>?_⟩
  by_cases hs:∃i,a=.sealed i
  ·obtain⟨i,rfl⟩:=hs
   exact Ho (ihr.2 X ps o h)
  ·cases ps with
   |nil=>
    exfalso
    cases a<;>first|(exact hs ⟨_,rfl⟩)|exact nof h
   |cons p ps=>
    have h':(mS Tx a X.N X.env.scope p&&mB Tx r X.N X.env.scope ps)=true:=by
     cases a<;>first|(exact absurd ⟨_,rfl⟩ hs)|exact h
    rw[aD]at h'
    exact Hn (iha.1 X p o h'.1) (ihr.2 X ps o h'.2)
 |ret x=>
  refine⟨λX p o h=>?_,noB λN sc ps=>rfl⟩
  cases p with
  |Return v pos=>cases v with
   |some p=>
    change (_&&_)=true at h;simp only[aD,bV]at h
    exact ss_ret (((cC x).1 X p o.ok h.2).2.1 h.1)
   |none=>exact nof h
  |_=>exact nof h
 |retO i=>
  refine⟨λX p o h=>?_,noB λN sc ps=>rfl⟩
  cases p with
  |Return v pos=>cases v with
   |some p=>cases p with
    |Name n pn=>
     obtain⟨a1,a2,a3,a4⟩:=eI h
     exact Hq a1 a2 a3 a4
    |_=>exact nof h
   |none=>exact nof h
  |_=>exact nof h
 |asg g x=>
  refine⟨λX p o h=>?_,noB λN sc ps=>rfl⟩
  cases p with
  |Assign tgs p pos=>
   rcases tgs with _|⟨tg,_|⟨t2,tgs⟩⟩
   ·exact nof h
   ·change (_&&_)=true at h;simp only[aD,bV,fE]at h
    obtain⟨⟨⟨h1,h2⟩,h3⟩,h4⟩:=h
    obtain⟨g1,g2⟩:=rM o.ok.calm o.ok.nd (λn _=>o.fn n) h2
    by_cases hc:dG p=true
    ·by_cases ht:rE p=true
     ·exact ss_asg hc ht g2 (((cC x).1 X p o.ok h3).2.1 h1) g1
     ·rcases h4 with z|z
      ·exact absurd z.2 ht
      ·cases g with
       |one i=>cases tg with
        |Name n pn=>
         obtain⟨n1,n2,n3⟩:=oF o h2
         exact Ij hc o.ok.nd n1 n2 n3 (((cC x).1 X p o.ok h3).2.1 h1)
        |_=>cases z
       |many _=>cases z
    ·have hc':dG p=false:=by simpa using hc
     rcases h4 with z|z
     ·exact absurd z.1 hc
     ·cases g with
      |one i=>cases tg with
       |Name n pn=>exact DG false o hc' h2 h3
       |_=>cases z
      |many _=>cases z
   ·exact nof h
  |_=>exact nof h
 |asgO i x=>
  refine⟨λX p o h=>?_,noB λN sc ps=>rfl⟩
  cases p with
  |Assign tgs p pos=>
   rcases tgs with _|⟨tg,_|⟨t2,tgs⟩⟩
   ·exact nof h
   ·cases tg with
    |Name n pn=>
     change (_&&_)=true at h;simp only[aD,bV]at h
     obtain⟨⟨h1,h2⟩,h3⟩:=h
     by_cases hc:dG p=true
     ·obtain⟨n1,n2,n3⟩:=oF o h2
      exact Ht hc o.ok.nd n1 n2 n3 (((cC x).1 X p o.ok h3).2.1 h1)
     ·exact DG true o (by simpa using hc) h2 h3
    |_=>exact nof h
   ·cases tg<;>exact nof h
  |_=>exact nof h
 | «sealed» i=>exact⟨noS λN sc p=>rfl,noB λN sc ps=>rfl⟩
 |ite c a b iha ihb=>
  refine⟨λX p o h=>?_,noB λN sc ps=>rfl⟩
  cases p with
  |If p ps qs pos=>
   change (_&&_)=true at h;simp only[aD]at h
   exact ss_ite ((cC c).1 X p o.ok h.1.1).2.2.1 (iha.2 X ps o h.1.2) (ihb.2 X qs o h.2)
  |_=>exact nof h
 |forS g src b ihb=>
  refine⟨λX p o h=>?_,noB λN sc ps=>rfl⟩
  cases p with
  |For tg p ps qs pos=>cases qs with
   |nil=>
    change (_&&_)=true at h;simp only[aD]at h
    have hg:=(rM o.ok.calm o.ok.nd (λn _=>o.fn n) h.1.2).1
    obtain⟨s1,s2⟩:=(cC src).2.2 X false tg p o.ok h.1.1
    exact ss_for o.pass o.ok.calm s2 s1 hg (ihb.2 X ps o h.2)
   |cons _ _=>exact nof h
  |_=>exact nof h
 |app i x=>
  refine⟨λX p o h=>?_,noB λN sc ps=>rfl⟩
  obtain⟨n,px,nm,apos,q,cpos,pos,rfl,hn⟩:=i_app h
  simp only[aD,beq_iff_eq,bV]at hn
  obtain⟨a1,a2,a3,a4⟩:=eI hn.1.1.1.1
  obtain⟨_,b2,_,b4,_⟩:=(cC x).1 X q o.ok hn.2
  exact ss_app a1 a2 a3 a4 hn.1.1.1.2 (by simpa using hn.1.1.2) b4 (b2 hn.1.2)
 |ext i x=>
  refine⟨λX p o h=>?_,noB λN sc ps=>rfl⟩
  obtain⟨n,px,nm,apos,q,cpos,pos,rfl,hn⟩:=i_ext h
  simp only[aD,beq_iff_eq,bV]at hn
  obtain⟨a1,a2,a3,a4⟩:=eI hn.1.1.1.1
  obtain⟨_,b2,_,b4,_⟩:=(cC x).1 X q o.ok hn.2
  exact ss_ext a1 a2 a3 a4 hn.1.1.1.2 (by simpa using hn.1.1.2) b4 (b2 hn.1.2)
 |lput i y x=>
  refine⟨λX p o h=>?_,noB λN sc ps=>rfl⟩
  obtain⟨n,px,q,tpos,v,pos,rfl,hn⟩:=i_lput h
  simp only[aD,bV]at hn
  obtain⟨⟨⟨⟨⟨h1,h2⟩,h4⟩,h5⟩,h6⟩,h7⟩:=hn
  obtain⟨a1,a2,a3,a4⟩:=eI h1
  obtain⟨_,b2,_,b4,_⟩:=(cC y).1 X q o.ok h5
  obtain⟨_,c2,_⟩:=(cC x).1 X v o.ok h7
  exact Hv a1 a2 a3 a4 h2 (b2 h4) (c2 h6) (λw=>by cases q<;>first|rfl|(exact nof b4))
 |exp x=>
  refine⟨λX p o h=>?_,noB λN sc ps=>rfl⟩
  cases p with
  |Expr q pos=>
   change (_&&_)=true at h;simp only[aD]at h
   cases x with
   |call f a=>
    have b:=((cC (.call f a)).1 X q o.ok h.2).2.1 rfl
    obtain⟨c,_,_,pos2,rfl,_⟩:=rL h.2
    exact ss_exp rfl b
   |_=>exact nof h.1
  |_=>exact nof h
 |rais c a=>
  refine⟨λX p o h H₀ O₀=>λpins s σ H D I q=>?_,noB λN sc ps=>rfl⟩
  obtain⟨ts,e,out,F,ev,k⟩:=q
  (first|rw[kJ]at ev|rw[BV]at ev|rw[vW]at ev|rw[BW]at ev|rw[kK]at ev|rw[fZ]at ev|rw[BQ]at ev|rw[BR]at ev|rw[lL]at ev|rw[nJ]at ev|rw[qI]at ev|rw[jH]at ev|rw[qJ]at ev|rw[BS]at ev|rw[vY]at ev|rw[BY]at ev|rw[jI]at ev|rw[BZ]at ev|rw[vZ]at ev|rw[BX]at ev)
  cases ev
 |newD i=>
  refine⟨λX p o h=>?_,noB λN sc ps=>rfl⟩
  obtain⟨n,pn,dpos,pos,rfl,hn⟩:=i_newD h
  obtain⟨n1,n2,n3⟩:=oF o hn
  exact Hu o.ok.nd n1 n2 n3
 |dputR i y x=>
  refine⟨λX p o h=>?_,noB λN sc ps=>rfl⟩
  obtain⟨tg,v,pos,rfl,g1⟩:=xI h
  obtain⟨n,px,q,tpos,rfl,hn⟩:=Cp g1
  simp only[aD,bV]at hn
  obtain⟨⟨⟨⟨⟨h1,h2⟩,h3⟩,h4⟩,h5⟩,h6⟩:=hn
  obtain⟨a1,a2,a3,a4⟩:=eI h1
  exact IX o.ok.roomy a1 a2 a3 a4 h2 (((cC y).1 X q o.ok h4).2.1 h3) (((cC x).1 X v o.ok h6).2.1 h5)
 |extN i j=>
  refine⟨λX p o h=>?_,noB λN sc ps=>rfl⟩
  obtain⟨n,px,nm,apos,es,cpos,pos,rfl,g1⟩:=xH h
  obtain⟨q,rfl,g2⟩:=jN g1
  obtain⟨m,pm,rfl,hn⟩:=Cq g2
  simp only[aD,beq_iff_eq]at hn
  obtain⟨⟨⟨h1,h2⟩,h3⟩,h4⟩:=hn
  obtain⟨a1,a2,a3,a4⟩:=eI h1
  exact IZ a1 a2 a3 a4 h2 (by rw[beq_iff_eq];exact h3) (eI h4)
 |retR x i j=>
  refine⟨λX p o h=>?_,noB λN sc ps=>rfl⟩
  cases p with
  |Return v pos=>cases v with
   |some p=>
    change (_&&_)=true at h;simp only[aD,bV]at h
    exact IY (((cC x).1 X p o.ok h.2).2.1 h.1)
   |none=>exact nof h
  |_=>exact nof h
 |ifR neg c f x i j y a b iha ihb=>
  refine⟨λX p o h=>?_,noB λN sc ps=>rfl⟩
  cases p with
  |If p ps qs pos=>
   change (_&&_&&_)=true at h
   rw[aD,aD]at h
   have sa:=iha.2 X ps o h.1.2
   have sb:=ihb.2 X qs o h.2
   have go:∀p,vR (λn p n1 n2 q=>Tx.dm.contains (f,n)&&glB X.env.scope n&&eC n&&cB X.N X.env.scope i n1&&cB X.N X.env.scope j n2&&!aH x&&!aH y&&mE Tx x X.N X.env.scope p&&mE Tx y X.N X.env.scope q) p=true->∃n pn q1 n1 p1 n2 p2 q2 pos,p=.Call (.Name n pn) [q1,.Name n1 p1,.Name n2 p2,q2] [] pos/\lO T cf X f n/\Gl X n/\(n==("__debug__" : Str))=false/\aZ q1=true/\aZ q2=true /\
    (X.N[i]?=some n1/\Vis X.env.scope n1/\(n1==("__debug__" : Str))=false/\(n1==("__classdict__" : Str))=false)/\(X.N[j]?=some n2/\Vis X.env.scope n2/\(n2==("__debug__" : Str))=false/\(n2==("__classdict__" : Str))=false)/\SE T cf X x q1/\SE T cf X y q2:=by
    intro p hp
    obtain⟨n,pn,q1,n1,p1,n2,p2,q2,pos,rfl,hn⟩:=vR_of hp
    simp only[aD,bV]at hn
    obtain⟨⟨⟨⟨⟨⟨⟨⟨h1,h2⟩,h3⟩,h4⟩,h5⟩,h6⟩,h7⟩,h8⟩,h9⟩:=hn
    obtain⟨_,x2,_,x4,_⟩:=(cC x).1 X q1 o.ok h8
    obtain⟨_,y2,_,y4,_⟩:=(cC y).1 X q2 o.ok h9
    exact⟨n,pn,q1,n1,p1,n2,p2,q2,pos,rfl,o.ok.dm (f,n) (Eu.mp h1),dH h2,gZ h3,x4,y4,eI h4,eI h5,x2 h6,y2 h7⟩
   rcases vO_of h.1.1 with⟨p',pos',rfl,rfl,g⟩|⟨c',p',pos',rfl,rfl,g,gc⟩
   ·obtain⟨n,pn,q1,n1,p1,n2,p2,q2,pos2,rfl,d1,d2,d3,d4,d5,d6,d7,d8,d9⟩:=go p' g
    exact ss_ifN d1 d2 d3 d4 d5 d6 d7 d8 d9 sa sb
   ·obtain⟨n,pn,q1,n1,p1,n2,p2,q2,pos2,rfl,d1,d2,d3,d4,d5,d6,d7,d8,d9⟩:=go p' g
    exact ss_ifC d1 d2 d3 d4 d5 d6 d7 ((cC c).1 X c' o.ok gc).2.2.1 d8 d9 sa sb
  |_=>exact nof h
 |asgN i x=>
  refine⟨λX p o h=>?_,noB λN sc ps=>rfl⟩
  obtain⟨n,pn,v,pos,rfl,hn⟩:=i_asgN h
  simp only[aD,bV]at hn
  obtain⟨n1,n2,n3⟩:=oF o hn.1.2
  cases hv:Ca x with
  |none=>exact IP hn.1.1.1 o.ok.nd n1 n2 n3 hv (((cC x).1 X v o.ok hn.2).2.1 hn.1.1.2)
  |some j=>
   cases x with
   |var j=>
    obtain⟨m,pm,rfl,hm⟩:=xJ hn.2
    obtain⟨a1,a2,a3,a4⟩:=eI hm
    exact IQ o.ok.nd n1 n2 n3 a1 a2 a3 a4
   |_=>cases hv
end
end Tr
namespace Tr
open PySem PySem.Spec PyProof.Rows L2 PySem.W
structure RaiseOk(X:Cx)(E:XK):Prop where
 made:∀(pins:List (Addr×Obj))(σ:L2.St)(H:Hp)(s:Shared)(h':Heap)(a:Addr)(cls:Value)(args:List Value),Inv X pins σ H s->Heap.MadeExcOf s.heap h' a cls args->E cls none H->X.xe (.ref a) {s with heap:=h' }
 ex:X.ex=[]
 bore:∀(pins:List (Addr×Obj))(σ:L2.St)(H:Hp)(s:Shared)(a t dx C:Addr),Inv X pins σ H s->s.heap.get? a=some (excO C t (some dx))->H a=none->X.s₀.heap.get? a=none->E (.ref C) (some dx) H->X.xe (.ref a) s
 own:PassesOwn (model X.prog X.w) X.A X.env X.xe
noncomputable def xM(X:Cx)(c:Str):Prop:=False
structure OkE(T:Tab)(cf:Nat->List D->Res D)(Tx:Txt)(X:Cx)(E:XK):Prop where
 ok:OkS T cf Tx X.nox
 pass:lI (CXE X.prog X.w) X E
 cls:∀c∈Tx.cls,∃C,ClsIs X.K X.mg c C
 ini:∀c∈Tx.icl,xM X c
noncomputable def tX(T:Tab)(cf:Nat->List D->Res D)(K:PySem.W.Frag)(H₀:Hp)(O₀:Addr->Prop)(E:XK)(x:S):TS:=λ_ σ H=>∃O own e c d,Fm K H₀ O₀ H O own e σ/\exX T cf x e=some (c,d)/\∀od H',Same H₀ H'->nX d od H'->E (cvK K c) od H'
noncomputable def SX(T:Tab)(cf:Nat->List D->Res D)(X:Cx)(E:XK)(x:S)(p:Stmt):Prop:=∀H₀ O₀,PS X p (tX T cf X.K H₀ O₀ E x)
noncomputable def SXs(T:Tab)(cf:Nat->List D->Res D)(X:Cx)(E:XK)(x:S)(p:List Stmt):Prop:=∀H₀ O₀,PSs X p (tX T cf X.K H₀ O₀ E x)
section
variable{T:Tab}{cf:Nat->List D->Res D}{Tx:Txt}
theorem DH{X:Cx}{st:Stmt}{t:TS}(h:PS X.nox st t):PS X st t:=λpins s σ H D I hw=>
 wpAny_mono (h pins s σ H D (I.wish _) hw) (λ_ _ q=>q.unwish) λ_ _ z=>False.elim z
theorem DI{X:Cx}{es:List Expr}{t:TA}(h:PA X.nox es t):PA X es t:=λpos pins s σ H Q I hw=>
 wpAny_mono (h pos pins s σ H Q (I.wish _) hw) (λ_ _ ⟨v,H',I',r,q⟩=>⟨v,H',I'.unwish,r,q⟩) λ_ _ z=>False.elim z
theorem oG{X:Cx}{ps:List Stmt}:PSs X ps (λ_ _ _=>False):=λ_ _ _ _ _ _ h=>h.elim
noncomputable def PSX(T:Tab)(cf:Nat->List D->Res D)(Tx:Txt)(x:S):Prop:=∀X E p,OkE T cf Tx X E->RaiseOk X E\/cH x=true->mS Tx x X.N X.env.scope p=true->SX T cf X E x p
noncomputable def PBX(T:Tab)(cf:Nat->List D->Res D)(Tx:Txt)(x:S):Prop:=∀X E ps,OkE T cf Tx X E->RaiseOk X E\/cH x=true->mB Tx x X.N X.env.scope ps=true->SXs T cf X E x ps
theorem noSX{x:S}(h:∀e,exX T cf x e=none):PSX T cf Tx x:=λX E p _ _ _ H₀ O₀ pins s σ H D I q=>by
 obtain⟨O,own,e,c,d,F,ev,k⟩:=q
 rw[h]at ev;cases ev
theorem noBX{x:S}(h:∀e,exX T cf x e=none):PBX T cf Tx x:=λX E p _ _ _ H₀ O₀ pins s σ H D I q=>by
 obtain⟨O,own,e,c,d,F,ev,k⟩:=q
 rw[h]at ev;cases ev
theorem rN{x:S}(h:∀N sc ps,mB Tx x N sc ps=false):PBX T cf Tx x:=λX E ps _ _ m=>by rw[h]at m;cases m
theorem noSX'{x:S}(h:∀N sc p,mS Tx x N sc p=false):PSX T cf Tx x:=λX E ps _ _ m=>by rw[h]at m;cases m
theorem DJ{a r:S}{e:Nv}{z:Str×D}(h:exX T cf (.cons a r) e=some z):exX T cf a e=some z\/(exX T cf a e=none/\∃e1,exS T cf a e=.ok (.nx e1)/\exX T cf r e1=some z):=by
 rw[gS]at h
 cases ha:exX T cf a e with
 |some z'=>rw[ha]at h;exact .inl h
 |none=>
  rw[ha]at h
  refine .inr ⟨rfl,?_⟩
  cases hs:exS T cf a e with
  |ok o=>
   rw[hs]at h
   cases o with
   |nx e1=>exact⟨e1,rfl,h⟩
   |_=>cases h
  |err _ _=>rw[hs]at h;cases h
  |no=>rw[hs]at h;cases h
theorem Ik{c:E}{a b:S}{e:Nv}{z:Str×D}(h:exX T cf (.ite c a b) e=some z):∃x q,evE T cf c e=.ok x/\x.truth=.ok q/\(if q=true then exX T cf a e=some z else exX T cf b e=some z):=by
 rw[gT]at h
 cases hc:evE T cf c e with
 |ok x=>
  rw[hc]at h
  cases ht:x.truth with
  |ok q=>
   simp only[ht]at h
   refine⟨x,q,rfl,ht,?_⟩
   cases q with
   |true=>exact h
   |false=>exact h
  |err _ _=>simp only[ht]at h;cases h
  |no=>simp only[ht]at h;cases h
 |err _ _=>rw[hc]at h;cases h
 |no=>rw[hc]at h;cases h
theorem Il{f:Nat}{a:E}{e:Nv}{c:Str}{d:D}(h:exX T cf (.exp (.call f a)) e=some (c,d)):∃ds,evA T cf a e=.ok ds/\cf f ds=.err c d:=by
 rw[gU]at h
 cases ha:evA T cf a e with
 |ok ds=>
  rw[ha]at h
  cases hf:cf f ds with
  |err c' d'=>simp only[hf]at h;cases h;exact⟨ds,rfl,hf⟩
  |ok _=>simp only[hf]at h;cases h
  |no=>simp only[hf]at h;cases h
 |err _ _=>rw[ha]at h;cases h
 |no=>rw[ha]at h;cases h
theorem Im{c:Str}{a:E}{e:Nv}{c':Str}{d:D}(h:exX T cf (.rais c a) e=some (c',d)):c'=c/\d=.non/\∃x,evA T cf a e=.ok [.str x]:=by
 rw[jJ]at h
 split at h
 ·rename_i x ha
  cases h
  exact⟨rfl,rfl,x,ha⟩
 ·cases h
theorem pi_nox{X:Cx}{tg p:Expr}{t:TI}(h:PI X.nox tg p t):PI X tg p t:=λpins s σ H R I hw=>
 wpAny_mono (h pins s σ H R (I.wish _) hw) (λ_ _ q=>wpAny_mono q (λ_ _ ⟨it,fp,tn,J,H',e,I',T,n,f,r⟩=>⟨it,fp,tn,J,H',e,I'.unwish,T,n,f,r⟩) λ_ _ z=>False.elim z) λ_ _ z=>False.elim z
theorem pg_nox{X:Cx}{tg:Expr}{t:TG}(h:PG X.nox tg t):PG X tg t:=λpins s σ H v u Q I r hw=>
 wpAny_mono (h pins s σ H v u Q (I.wish _) r hw) (λ_ _ ⟨σ',H',I',q⟩=>⟨σ',H',I'.unwish,q⟩) λ_ _ z=>False.elim z
theorem pss_or{X:Cx}{ps:List Stmt}{t t':TS}(h:PSs X ps t)(h':PSs X ps t'):PSs X ps (λD σ H=>t D σ H\/t' D σ H):=λpins s σ H D I q=>q.elim (h pins s σ H D I) (h' pins s σ H D I)
theorem DK{X:Cx}{E:XK}{a b x:S}(e:cH x=(cH a&&cH b))(h:RaiseOk X E\/cH x=true):(RaiseOk X E\/cH a=true)/\(RaiseOk X E\/cH b=true):=by
 rcases h with h|h
 ·exact⟨.inl h,.inl h⟩
 ·rw[e,aD]at h
  exact⟨.inr h.1,.inr h.2⟩
theorem DL(x:S):PSX T cf Tx x/\PBX T cf Tx x:=by
 induction x with
 |cons a r iha ihr=>
  refine⟨noSX' λN sc p=>rfl,λX E ps o hc h=>?_⟩
  have hc2:=DK (a:=a) (b:=r) rfl hc
  by_cases hs:∃i,a=.«sealed» i
  ·obtain⟨i,rfl⟩:=hs
   have h2:mB Tx r X.N X.env.scope ps=true:=by
    cases ps<;>exact h
   intro H₀ O₀ pins s σ H D I hq
   obtain⟨O,own,e,c,d,F,ev,k⟩:=hq
   rcases DJ ev with z|⟨_,e1,e2,e3⟩
   ·cases z
   ·(first|rw[kJ]at e2|rw[fZ]at e2|rw[qI]at e2|rw[jH]at e2|rw[qJ]at e2|rw[jI]at e2|rw[BZ]at e2)
    obtain⟨l,e4,e2⟩:=Res.bind_ok e2
    cases e2
    cases hd:l.isDct with
    |false=>
     obtain⟨O',own',F',sub⟩:=F.seal i (Sl.ownA_ok e4) hd
     exact ihr.2 X E ps o hc2.2 h2 H₀ O₀ pins s σ H D I ⟨O',own',_,c,d,F',e3,k⟩
    |true=>
     obtain⟨p,u,g1,g2,g3,g4,g5⟩:=F.sealD i (Sl.ownA_ok e4) hd
     obtain⟨ob,I2⟩:=wW I g1 g2
     obtain⟨⟨own',F'⟩,_⟩:=g5 ob
     exact ihr.2 X E ps o hc2.2 h2 H₀ O₀ pins s σ _ D I2 ⟨_,own',_,c,d,F',e3,k⟩
  ·cases ps with
   |nil=>cases a<;>first|exact nof h|exact absurd ⟨_,rfl⟩ hs
   |cons p ps=>
    have hm:(mS Tx a X.N X.env.scope p&&mB Tx r X.N X.env.scope ps)=true:=by
     cases a<;>first|exact h|exact absurd ⟨_,rfl⟩ hs
    rw[aD]at hm
    intro H₀ O₀ pins s σ H D I hq
    obtain⟨O,own,e,c,d,F,ev,k⟩:=hq
    rcases DJ ev with z|⟨_,e1,e2,e3⟩
    ·exact eU (iha.1 X E p o hc2.1 hm.1 H₀ O₀) oG pins s σ H D I ⟨O,own,e,c,d,F,z,k⟩
    ·refine eU (DH ((lQ a).1 X.nox p o.ok hm.1 H₀ O₀)) (ihr.2 X E ps o hc2.2 hm.2 H₀ O₀) pins s σ H D I ?_
     exact⟨[],e,.nx e1,⟨O,own,F,λt ht=>by cases ht⟩,e2,λσ' H' ⟨O',own',F',_⟩=>⟨O',own',e1,c,d,F',e3,k⟩⟩
 |ite c a b iha ihb=>
  refine⟨λX E p o hc h=>?_,rN λN sc ps=>rfl⟩
  cases p with
  |If p ps qs pos=>
   have hc2:=DK (a:=a) (b:=b) rfl hc
   change (_&&_)=true at h;simp only[aD]at h
   intro H₀ O₀ pins s σ H D I hq
   obtain⟨O,own,e,cc,d,F,ev,k⟩:=hq
   obtain⟨x,q,e1,e2,e3⟩:=Ik ev
   refine kB ((((cC c).1 X.nox p o.ok.ok h.1.1).2.2.1 H₀ O₀).nox) (iha.2 X E ps o hc2.1 h.1.2 H₀ O₀) (ihb.2 X E qs o hc2.2 h.2 H₀ O₀) pins s σ H D I ?_
   refine⟨O,own,e,x,q,F,e1,e2,λH1 s1=>?_⟩
   cases q with
   |true=>rw[if_pos rfl]at e3⊢;exact⟨O,own,e,cc,d,F.grow s1,e3,k⟩
   |false=>rw[if_neg aP]at e3⊢;exact⟨O,own,e,cc,d,F.grow s1,e3,k⟩
  |_=>exact nof h
 |exp x=>
  refine⟨λX E p o _ h=>?_,rN λN sc ps=>rfl⟩
  cases p with
  |Expr q pos=>
   change (_&&_)=true at h;simp only[aD]at h
   cases x with
   |call f a=>
    obtain⟨n,pn,es,pos2,rfl,hn⟩:=rL h.2
    simp only[aD,beq_iff_eq]at hn
    obtain⟨k0,a0,fd,ps,Fk,hr,hm,hk,hb⟩:=o.ok.ok.defs f n hn.1.1.1
    obtain⟨_,b2,b3⟩:=(cC a).2.1 X.nox false es o.ok.ok hn.2
    intro H₀ O₀ pins s σ H D I hq
    obtain⟨O,own,e,c,d,F,ev,k⟩:=hq
    obtain⟨ds,e1,e2⟩:=Il ev
    cases es with
    |nil=>
     refine lF (A_ (X:=X) Fk hr (dH hn.1.1.2) hm hk hb .nil o.pass (gZ hn.1.2)) rfl pins s σ H D I ?_
     cases a with
     |anil=>
      rw[nI]at e1
      cases e1
      exact⟨O,[],F.trk,rfl,.inr ⟨c,d,e2,λod H' s2=>k od H' (F.same.trans s2)⟩⟩
     |_=>exact nof hn.2
    |cons p es=>
     rw[lC,aD]at b3
     refine lF (qA (X:=X) Fk hr (dH hn.1.1.2) hm hk hb .nil o.pass (DI (b2 rfl H₀ O₀)) (gZ hn.1.2) (bC b3.1) (fK b3.2)) rfl pins s σ H D I ?_
     refine⟨O,own,e,ds,F,e1,λvs H1 s1 r1 _=>?_⟩
     dsimp only
     rw[mM]
     exact⟨O,ds,(F.grow s1).trk,r1,.inr ⟨c,d,e2,λod H' s2=>k od H' (F.same.trans (s1.trans s2))⟩⟩
   |_=>exact nof h.1
  |_=>exact nof h
 |rais c a=>
  refine⟨λX E p o hc h=>?_,rN λN sc ps=>rfl⟩
  have hr:RaiseOk X E:=hc.elim id λz=>by cases z
  cases p with
  |Raise v w pos=>cases v with
   |none=>exact nof h
   |some v=>cases v with
    |Call fn es ks cpos=>cases fn with
     |Name n pn=>
      cases ks with
      |nil=>
       cases w with
       |none=>
        change (_&&_)=true at h
        simp only[aD,beq_iff_eq,bV,Eu]at h
        obtain⟨⟨⟨⟨⟨h1,h2⟩,h3⟩,h4⟩,h5⟩,h6⟩:=h
        subst h1
        obtain⟨C,hC⟩:=o.cls n h2
        obtain⟨_,b2,b3⟩:=(cC a).2.1 X.nox false es o.ok.ok h6
        intro H₀ O₀ pins s σ H D I hq
        obtain⟨O,own,e,c,d,F,ev,k⟩:=hq
        obtain⟨rfl,hd0,x,e1⟩:=Im ev
        have hpay:∀H1,nX d none H1:=λH1=>by rw[hd0];rfl
        cases es with
        |nil=>cases h5
        |cons p es=>
         rw[lC,aD]at b3
         refine Ge (ER:=λH1=>E (.ref C) none H1) (hC.own I.mod.kin) (dH h3) o.ok.ok.calm (DI (b2 rfl H₀ O₀)) (λpins σ H s h' a args I hm hE=>hr.made pins σ H s h' a _ args I hm hE) (gZ h4) (bC b3.1) (fK b3.2) pins s σ H D I ?_
         refine⟨O,own,e,_,F,e1,λvs H1 s1 r1 _=>⟨?_,?_⟩⟩
         ·rw[r1.length,<-eY];show 1<=big;decide
         ·have:=k none H1 (F.same.trans s1) (hpay H1)
          rw[hC.cv]at this
          exact this
       |some _=>exact nof h
      |cons _ _=>cases w<;>exact nof h
     |_=>cases w<;>exact nof h
    |_=>cases w<;>exact nof h
  |_=>exact nof h
 |forS g src b ihb=>
  refine⟨λX E p o hc h=>?_,rN λN sc ps=>rfl⟩
  have hr:RaiseOk X E:=hc.elim id λz=>by cases z
  cases p with
  |For tg p ps qs pos=>cases qs with
   |nil=>
    change (_&&_)=true at h;simp only[aD]at h
    intro H₀ O₀ pins s σ H D I hq
    obtain⟨O,own,e,c,d,F,ev,k⟩:=hq
    rw[B3]at ev
    split at ev
    ·cases ev
    rename_i hsr
    cases hds:evI T cf src e with
    |err _ _=>rw[hds]at ev;cases ev
    |no=>rw[hds]at ev;cases ev
    |ok ds=>
    rw[hds]at ev
    have ev:fY (λd e0=>match g.put d e0 with
     |.ok e1=>exX T cf b e1
     |_=>none) (λd e0=>do let e1<-g.put d e0;exS T cf b e1) ds e=some (c,d):=ev
    obtain⟨z2,z1⟩:=(cC src).2.2 X.nox false tg p o.ok.ok h.1.1
    have hg:=(rM o.ok.ok.calm o.ok.ok.nd (λn _=>o.ok.fn n) h.1.2).1
    refine A4 hr.own o.ok.ok.calm (pi_nox (z2 H₀ O₀)) (pg_nox (hg H₀ O₀)) (pss_or (((lQ b).2 X.nox ps o.ok h.2 H₀ O₀).nox) (ihb.2 X E ps o (.inl hr) h.2 H₀ O₀)) (wR z1) pins s σ H D I ?_
    refine⟨O,own,e,ds,F,hds,λJ H1 srs s1 rr rv wk=>?_⟩
    refine⟨λi m σ H=>m=ds.length-i/\i<=ds.length/\∃e',Ft X.K H₀ O₀ srs e' σ H/\fY (λd e0=>match g.put d e0 with
     |.ok e1=>exX T cf b e1
     |_=>none) (λd e0=>do let e1<-g.put d e0;exS T cf b e1) (ds.drop i) e'=some (c,d),⟨ds.length,by simp,jW _,e,⟨O,own,F.grow s1,λt ht=>rv rfl t ht⟩,by simpa using ev⟩,?_⟩
    rintro i m σ2 H2 ⟨rfl,hi',e',⟨O2,own2,F2,t2⟩,ev2⟩
    obtain⟨w1,w2,w3⟩:=wk i H2 O2 λt ht=>(t2 t ht).rr
    by_cases hlt:i<ds.length
    ·refine .inr ⟨w1 hlt,λσ' H'=>∃e',Ft X.K H₀ O₀ srs e' σ' H'/\fY (λd e0=>match g.put d e0 with
      |.ok e1=>exX T cf b e1
      |_=>none) (λd e0=>do let e1<-g.put d e0;exS T cf b e1) (ds.drop (i+1)) e'=some (c,d),λσ' H' n=>⟨ds.length-(i+1),by lia,rfl,hlt,n⟩,λv H' y=>?_⟩
     obtain⟨s3,r3⟩:=w3 v H' _ (bD hlt) y
     rw[AD hlt,fY]at ev2
     cases hp:g.put ds[i] e' with
     |ok e3=>
      refine⟨O2,own2,e',_,e3,F2.grow s3,r3,hp,λσ' own' _ F'=>?_⟩
      simp only[hp]at ev2
      cases hx:exX T cf b e3 with
      |some z=>
       rw[hx]at ev2
       cases ev2
       exact .inr ⟨O2,own',e3,c,d,F',hx,k⟩
      |none=>
       rw[hx]at ev2
       simp only[Res.ok_bind]at ev2
       cases hs:exS T cf b e3 with
       |ok o1=>
        rw[hs]at ev2
        refine .inl ⟨srs,e3,o1,⟨O2,own',F',λt ht=>(t2 t ht).same s3⟩,hs,?_⟩
        cases o1 with
        |nx e4=>exact λσ'' H'' F''=>⟨e4,F'',ev2⟩
        |ct e4=>exact λσ'' H'' F''=>⟨e4,F'',ev2⟩
        |bk e4=>cases ev2
        |rt d fr=>cases ev2
        |rr _ _ _ _ _=>cases ev2
       |err _ _=>rw[hs]at ev2;cases ev2
       |no=>rw[hs]at ev2;cases ev2
     |err _ _=>simp only[hp,Res.err_bind]at ev2;cases ev2
     |no=>simp only[hp,Res.no_bind]at ev2;cases ev2
    ·have e4:i=ds.length:=by lia
     subst e4
     rw[Es,fY]at ev2
     cases ev2
   |cons _ _=>exact nof h
  |_=>exact nof h
 |nil=>exact⟨noSX λe=>rfl,noBX λe=>rfl⟩
 |_=>exact⟨noSX λe=>rfl,noBX λe=>rfl⟩
end
end Tr
namespace Tr
open PySem PySem.Spec PyProof.Rows L2
set_option genInjectivity false in
structure DefT where
 nm:Str
 st:Stmt
 N:List Str
 ps:List Str
 body:S
 told:Option Told:=none
noncomputable def DefT.df(t:DefT):Df:=⟨t.N.length,t.ps.length,t.body,t.told⟩
noncomputable def kP(N P:List Str)(sc:Scope):Bool:=(sc.kind==.function)&&!sc.isCoroutine&&!sc.isGenerator&&gE N&&(N.take P.length==P)&&P.all (λx=>(sc.names.lookup x==some .local)||(sc.names.lookup x==some .cell))&&sc.names.all (λy=>!(y.2==.free))
theorem xN{N P:List Str}{sc:Scope}(h:kP N P sc=true):FnScope N P sc:=by
 simp only[kP,aD,mT,fE,bV,beq_iff_eq,beq_eq_false_iff_ne,ne_eq]at h
 obtain⟨⟨⟨⟨⟨⟨h1,h2⟩,h3⟩,h4⟩,h5⟩,h6⟩,h7⟩:=h
 exact⟨h1,h2,h3,rJ h4,h5,h6,h7⟩
noncomputable def DefT.okB(Tx:Txt)(t:DefT):Bool:=kP t.N t.ps (bA t.st)&&(t.told.isSome||mB Tx t.body t.N (bA t.st) (eW t.st))
noncomputable def DM(K:PySem.W.Frag)(mg:Str->Option Value)(n:Str)(d:D):Prop:=∃v u,mg n=some u/\RelV v u/\∀H O,RD K H O d v
noncomputable def IniK(K:PySem.W.Frag)(mg:Str->Option Value)(c:Str):Prop:=False
structure TextOk0(K:PySem.W.Frag)(mg:Str->Option Value)(T:Tab)(Tx:Txt)(defs:List DefT):Prop where
 dn:∀g nm,Tx.dn[g]?=some nm->T.mv g=none/\∃t,defs[g]?=some t/\nm=t.nm
 ok:defs.all (·.okB Tx)=true
 funs:∀t∈defs,∃f fd,Fun K t.nm t.nm t.st f fd/\mg t.nm=some (.ref f)/\Binds K fd t.ps []
 globs:∀g n,Tx.gn[g]?=some n->DM K mg n (T.glob g)
 blt:∀n∈lP,mg n=none
 tf:∀q∈Tx.tf,∃(a:Addr)(xs:List V),mg q.1=some (.ref a)/\(∀H,SqT K H a xs)/\xs.length=q.2.length/\∀(j f:Nat),q.2[j]?=some f->∃(ad:Addr)(t:DefT),xs[j]?=some (V.ref ad)/\mg t.nm=some (.ref ad)/\defs[f]?=some t
 ts:∀q∈Tx.ts,∃a:Addr,mg q.1=some (.ref a)/\ModS K a q.2
 cls:∀c∈Tx.cls,∃C,ClsIs K mg c C
 ini:∀c∈Tx.icl,IniK K mg c
 dm:∀q∈Tx.dm,∃t,defs[q.1]?=some t/\q.2=t.nm
 tmv:∀q∈Tx.tf,∀f∈q.2,T.mv f=none
noncomputable def DN(K:PySem.W.Frag)(mg:Str->Option Value)(T:Tab)(defs:List DefT)(t:DefT):Prop:=∀(P:Program)(w:World)(base:Heap)(n i:Nat)(f:Addr)(fd:FuncData),defs[i]?=some t->Fun K t.nm t.nm t.st f fd ->
 (∀i t,defs[i]?=some t->∀f fd,Fun K t.nm t.nm t.st f fd->FnOk P w K mg base (CXE P w) (n+2) f fd t.ps (gD K T (aB T (defs.map DefT.df) n i) i)) ->
 FnOk P w K mg base (CXE P w) (n+1+2) f fd t.ps (spD K (aB T (defs.map DefT.df) (n+1) i) (T.fresh i))
set_option genInjectivity false in
structure TextOk(K:PySem.W.Frag)(mg:Str->Option Value)(T:Tab)(Tx:Txt)(defs:List DefT):Prop extends TextOk0 K mg T Tx defs where
 told:∀t∈defs,∀td,t.told=some td->DN K mg T defs t
 nmv:∀i t,defs[i]?=some t->t.told.isSome=true->T.mv i=none
theorem dn_of{T:Tab}{Tx:Txt}{defs:List DefT}(h1:(defs.take Tx.dn.length).map (·.nm)=Tx.dn)(h2:(aF Tx.dn.length).all (λg=>(T.mv g).isNone)=true):∀g nm,Tx.dn[g]?=some nm->T.mv g=none/\∃t,defs[g]?=some t/\nm=t.nm:=λg nm h=>by
 have hl:g<Tx.dn.length:=by
  by_cases z:g<Tx.dn.length
  ·exact z
  ·rw[pO (by lia)]at h;cases h
 refine⟨Option.isNone_iff_eq_none.mp (mT.mp h2 g (dC.mpr hl)),?_⟩
 rw[<-h1,bO,LQ hl]at h
 cases e:defs[g]? with
 |none=>rw[e]at h;cases h
 |some t=>rw[e]at h;cases h;exact⟨t,rfl,rfl⟩
theorem xO{P:Program}{w:World}{K:PySem.W.Frag}{mg:Str->Option Value}{base:Heap}{T:Tab}{Tx:Txt}{defs:List DefT}(X:TextOk0 K mg T Tx defs){n:Nat}{N:List Str}{nm:Str}{sc:Scope}{f:Addr}{cdv:Value}{A:Around}{outer:List Env}{s:Shared}{H:Hp}{E:XK}(hr:Room (n+2) (A.deeper (envOfC nm sc s.heap.objs.size f cdv)))(nd:N.Nodup)
 (ih:∀i t,defs[i]?=some t->∀f fd,Fun K t.nm t.nm t.st f fd->FnOk P w K mg base (CXE P w) (n+2) f fd t.ps (gD K T (aB T (defs.map DefT.df) n i) i)) :
 OkX T (aB T (defs.map DefT.df) n) Tx (aV (CXE P w) P w K mg base N nm sc f cdv A outer s H E).nox:=by
 have dfa:∀g t',defs[g]?=some t'->lO T (aB T (defs.map DefT.df) n) (aV (CXE P w) P w K mg base N nm sc f cdv A outer s H E).nox g t'.nm:=λg t' e=>by
  obtain⟨f',fd',F',m',b'⟩:=X.funs t' (jA e)
  exact⟨n+2,f',fd',t'.ps,ih g t' e f' fd' F',hr,m',F'.kp,b'⟩
 have dfi:∀g t',T.mv g=none->defs[g]?=some t'->nY T (aB T (defs.map DefT.df) n) (aV (CXE P w) P w K mg base N nm sc f cdv A outer s H E).nox g t'.nm:=λg t' hm e=>by
  obtain⟨k',f',fd',ps',h1,h2⟩:=dfa g t' e
  rw[oD hm]at h1
  exact⟨k',f',fd',ps',h1,h2⟩
 exact⟨rfl,hr.units,λg nm hg=>by
  obtain⟨hm,t',e,rfl⟩:=X.dn g nm hg
  exact dfi g t' hm e,λg nm hg=>X.globs g nm hg,X.blt,nd,λq hq=>by
  obtain⟨a,xs,h1,h2,h3,h4⟩:=X.tf q hq
  refine⟨a,xs,h1,h2,h3,λj g hg=>?_⟩
  obtain⟨ad,t',h5,h6,h7⟩:=h4 j g hg
  exact⟨ad,t'.nm,h5,h6,dfi g t' (X.tmv q hq g (jA hg)) h7⟩,X.ts,λq hq=>by
  obtain⟨t',e,e2⟩:=X.dm q hq
  rw[e2]
  exact dfa q.1 t' e⟩
theorem oH{P:Program}{w:World}{K:PySem.W.Frag}{mg:Str->Option Value}{base:Heap}{x qual:Str}{st:Stmt}{f:Addr}{fd:FuncData}{N ps:List Str}{k:Nat}{sp:Sp}(F:Fun K x qual st f fd)(S:FnScope N ps (bA st))(len:∀vs H Q E,sp vs H Q E->vs.length=ps.length)
 (hbody:∀(cdv:Value)(A:Around)(outer:List Env)(s:Shared)(H:Hp)(vs:List V)(Q:VK)(E:XK),Room k (A.deeper (envOfC qual (bA st) s.heap.objs.size f cdv))->sp vs H Q E ->
  ∃t,PSs (aV (CXE P w) P w K mg base N qual (bA st) f cdv A outer s H E) (eW st) t/\t {nx:=λ_ H'=>Q .non H',rt:=Q} (cF N vs) H):FnOk P w K mg base (CXE P w) (k+1) f fd ps sp:=by
 obtain⟨oc,od,kV,doc,pm,an,cdv,ct,osl,rfl,lk,hcd⟩:=F.ex
 exact fn_of lk hcd S len λA outer s H vs Q E hr hsp=>hbody cdv A outer s H vs Q E hr hsp
theorem DO{P:Program}{w:World}{K:PySem.W.Frag}{mg:Str->Option Value}{base:Heap}{c:Str}{N:List Str}{qual:Str}{sc:Scope}{f:Addr}{cdv:Value}{A:Around}{outer:List Env}{s:Shared}{H:Hp}{E:XK}(h:IniK K mg c)(hr:Room 2 (A.deeper (envOfC qual sc s.heap.objs.size f cdv))):xM (aV (CXE P w) P w K mg base N qual sc f cdv A outer s H E) c:=by
 exact h.elim
section
variable{P:Program}{w:World}{K:PySem.W.Frag}{mg:Str->Option Value}{base:Heap}{T:Tab}{Tx:Txt}{defs:List DefT}
theorem DP{H Hb:Hp}{O:Addr->Prop}{N:List Str}{ds:List D}{vs:List V}(sm:Same Hb H)(w:RDs K H O ds vs)(tr:∀a,O a->∃o,Hb a=some o)(n:Nat)(hn:n=N.length-vs.length) :
 Fm K Hb O H O (λ_=>none) (ds.map Sl.v++aO n Sl.no) (cF N vs) where
 len:=by
  unfold L2.cF
  rw[cE,cE,aE,aE,dY,dY,w.length,hn,w.length]
 sl:=λi=>by
  by_cases hi:i<ds.length
  ·obtain⟨v,h1,h2⟩:=w.get (bD hi)
   have e1:Nv.at (ds.map Sl.v++aO n Sl.no) i=.v ds[i]:=by
    unfold Nv.at
    rw[mP (by rw[aE];exact hi),bO,bD hi];rfl
   have e2:bW (cF N vs) i=some v:=by
    unfold bW L2.cF
    rw[mP (by rw[aE,w.length];exact hi),bO,h1];rfl
   rw[e1,e2]
   exact⟨v,rfl,h2⟩
  ·have e1:Nv.at (ds.map Sl.v++aO n Sl.no) i=.no:=by
    unfold Nv.at
    rw[gL (by rw[aE];lia),mO]
    split<;>rfl
   rw[e1];trivial
 inj:=λ_ _ _ h=>by cases h
 same:=sm
 sub:=λ_ h=>h
 trk0:=tr
 trk:=λa h=>let ⟨o,q⟩:=tr a h;⟨o,sm _ _ q⟩
 new:=λ_ _ h=>by cases h
 nw:=λi d a h _=>by
  exfalso
  by_cases hi:i<ds.length
  ·have e1:Nv.at (ds.map Sl.v++aO n Sl.no) i=.v ds[i]:=by
    unfold Nv.at
    rw[mP (by rw[aE];exact hi),bO,bD hi];rfl
   rw[e1]at h;cases h
  ·have e1:Nv.at (ds.map Sl.v++aO n Sl.no) i=.no:=by
    unfold Nv.at
    rw[gL (by rw[aE];lia),mO]
    split<;>rfl
   rw[e1]at h;cases h
theorem DQ{H:Hp}{O:Addr->Prop}{N:List Str}{ds:List D}{vs:List V}(w:RDs K H O ds vs)(tr:∀a,O a->∃o,H a=some o)(n:Nat)(hn:n=N.length-vs.length) :
 Fm K H O H O (λ_=>none) (ds.map Sl.v++aO n Sl.no) (cF N vs):=DP (Same.refl H) w tr n hn
theorem Io{H Hb:Hp}{O:Addr->Prop}{N:List Str}{ds:List D}{vs:List V}(sm:Same Hb H)(w:RDs K H O ds vs)(tr:∀a,O a->∃o,Hb a=some o)(n:Nat)(hn:n=N.length-vs.length){j:Nat}{d0:D}{v0:V}(h1:ds[j]?=some d0)(h2:vs[j]?=some v0)(h3:NV K H O d0 v0)(h4:∀a,v0=.ref a->Hb a=none) :
 ∃own,Fm K Hb O H O own (dF (some j) ds++aO n Sl.no) (cF N vs):=by
 have F:=(DP (N:=N) sm w tr n hn).setN j h3 h4
 have e1:(ds.map Sl.v++aO n Sl.no).set j (.n d0)=dF (some j) ds++aO n Sl.no:=by
  have hj:j<ds.length:=by
   by_cases z:j<ds.length
   ·exact z
   ·rw[pO (by lia)]at h1;cases h1
  rw[List.set_append_left _ _ (by rw[aE];exact hj)]
  show _=(ds.map Sl.v).set j (.n (ds.getD j .non))++_
  rw[gM,h1];rfl
 have e2:(cF N vs).set j (some v0)=cF N vs:=by
  have q:(cF N vs)[j]?=some (some v0):=by
   unfold L2.cF
   have hj:j<vs.length:=by
    by_cases z:j<vs.length
    ·exact z
    ·rw[pO (by lia)]at h2;cases h2
   rw[mP (by rw[aE];exact hj),bO,h2];rfl
  apply List.ext_getElem?
  intro i
  by_cases z:j=i
  ·subst z
   obtain⟨hl,_⟩:=eT.mp q
   rw[iZ hl,q]
  ·rw[kZ z]
 rw[e1,e2]at F
 exact⟨_,F⟩
noncomputable def rO(H:Hp)(a b:Addr):Hp:=λc=>if c=a\/c=b then none else H c
theorem DR{H:Hp}{a b c:Addr}(h1:c≠a)(h2:c≠b):rO H a b c=H c:=if_neg λz=>z.elim h1 h2
theorem Ip{H:Hp}{O:Addr->Prop}{N:List Str}{x y:D}{j k:List (Sum Int Str×D)}{v w:V}{a b:Addr}(ab:a≠b)(oa:O a)(ob:O b)(tr:∀c,O c->∃o,H c=some o)(rx:RD K H O x v)(ry:RD K H O y w)(ha:OwnAt K H O a (.dct j))(hb:OwnAt K H O b (.dct k))(n:Nat)(hn:n=N.length-4) :
 Fm K (rO H a b) (λc=>O c/\c≠a/\c≠b) H O (λi=>if i=1 then some a else if i=2 then some b else none) ([.v x,.r a (.dct j),.r b (.dct k),.v y]++aO n Sl.no) (cF N [v,.ref a,.ref b,w]) where
 len:=by
  unfold L2.cF
  rw[cE,cE,dY,dY,hn];rfl
 sl:=λi=>by
  match i with
  |0=>exact⟨v,rfl,rx⟩
  |1=>exact⟨rfl,rfl,ha⟩
  |2=>exact⟨rfl,rfl,hb⟩
  |3=>exact⟨w,rfl,ry⟩
  |i+4=>
   have e1:Nv.at ([.v x,.r a (.dct j),.r b (.dct k),.v y]++aO n Sl.no) (i+4)=.no:=by
    unfold Nv.at
    rw[gL (by show 4<=i+4;lia),mO]
    split<;>rfl
   rw[e1];trivial
 inj:=λi i' c h1 h2=>by
  split at h1<;>split at h2
  ·lia
  ·split at h2
   ·cases h1;cases h2;exact absurd rfl ab
   ·cases h2
  ·split at h1
   ·cases h1;cases h2;exact absurd rfl ab
   ·cases h1
  ·split at h1<;>split at h2
   ·lia
   ·cases h2
   ·cases h1
   ·cases h1
 same:=λc o q=>by
  unfold rO at q
  split at q
  ·cases q
  ·exact q
 sub:=λc h=>h.1
 trk0:=λc h=>by rw[DR h.2.1 h.2.2];exact tr c h.1
 trk:=tr
 new:=λi c h=>by
  split at h
  ·cases h;exact⟨oa,if_pos (.inl rfl)⟩
  ·split at h
   ·cases h;exact⟨ob,if_pos (.inr rfl)⟩
   ·cases h
 nw:=λi d c h _=>by
  exfalso
  match i with
  |0=>cases h
  |1=>cases h
  |2=>cases h
  |3=>cases h
  |i+4=>
   have e1:Nv.at ([.v x,.r a (.dct j),.r b (.dct k),.v y]++aO n Sl.no) (i+4)=.no:=by
    unfold Nv.at
    rw[gL (by show 4<=i+4;lia),mO]
    split<;>rfl
   rw[e1]at h;cases h
theorem DS(X:TextOk K mg T Tx defs):∀n i t,defs[i]?=some t->∀f fd,Fun K t.nm t.nm t.st f fd->FnOk P w K mg base (CXE P w) (n+2) f fd t.ps (gD K T (aB T (defs.map DefT.df) n i) i)
 |0,i,t,hi,f,fd,F=>by
  have no:∀vs H Q E,¬gD K T (aB T (defs.map DefT.df) 0 i) i vs H Q E:=λvs H Q E h=>by
   cases hmv:T.mv i with
   |none=>
    rw[oD hmv]at h
    obtain⟨O,ds,_,_,⟨d,ev,_⟩|⟨c,d,ev,_⟩⟩:=h
    ·cases ev
    ·cases ev
   |some j=>
    by_cases hj:j=1000
    ·subst hj
     rw[xB hmv]at h
     obtain⟨_,_,_,_,_,_,_,_,_,_,_,_,_,_,_,_,ev,_⟩:=h
     cases ev
    ·rw[C7 hmv hj]at h
     obtain⟨O,ds,Hb,d0,v0,_,_,_,_,_,_,_,⟨d,ev,_⟩|⟨c,d,ev,_⟩⟩:=h
     ·cases ev
     ·cases ev
  exact⟨λvs H Q E h=>absurd h (no vs H Q E),λA outer s H args us vs Q E _ _ _ _ h=>absurd h (no vs H Q E)⟩
 |n+1,i,t,hi,f,fd,F=>by
  have ih:=DS X n
  cases ht:t.told with
  |some td=>
   rw[oD (X.nmv i t hi (by rw[ht];rfl))]
   exact X.told t (jA hi) td ht P w base n i f fd hi F ih
  |none=>
  have hok:=mT.mp X.ok t (jA hi)
  unfold DefT.okB at hok
  rw[ht,Option.isSome_none,AB,aD]at hok
  have S:=xN hok.1
  have hdf:(defs.map DefT.df)[i]?=some ⟨t.N.length,t.ps.length,t.body,none⟩:=by rw[bO,hi];show some (DefT.df t)=_;unfold DefT.df;rw[ht]
  have lenOf:∀ds r,aB T (defs.map DefT.df) (n+1) i ds=r->r≠.no->ds.length=t.ps.length:=by
   intro ds r ev hr
   rw[gR,hdf]at ev
   by_cases c:(ds.length==t.df.pars)=true
   ·exact(by simpa using c:ds.length=t.df.pars)
   ·have c':(ds.length==t.df.pars)=false:=by simpa using c
    have ev:aC (ds.length==t.df.pars) _=r:=ev
    rw[c']at ev
    exact absurd ev.symm hr
  by_cases hrf:T.mv i=some 1000
  ·rw[xB hrf]
   have len4:∀vs H Q E,spR K (aB T (defs.map DefT.df) (n+1) i) vs H Q E->vs.length=t.ps.length:=λvs H Q E h=>by
    obtain⟨_,_,_,_,_,_,_,_,_,_,_,_,rfl,_,_,_,ev,_⟩:=h
    exact lenOf _ _ ev (λz=>by cases z)
   refine oH F S len4 (λcdv A outer s H vs Q E hr h=>?_)
   have hl:=len4 vs H Q E h
   obtain⟨O,x,y,j,k,v,u,a,b,r,j',k',rfl,ab,⟨oa,ob,tr⟩,⟨rx,ry,ha,hb⟩,ev,kk⟩:=h
   have okx:=xO (P:=P) (w:=w) (base:=base) X.toTextOk0 (cdv:=cdv) (outer:=outer) (H:=H) (E:=E) (f:=f) hr S.nd ih
   have oks:OkS T (aB T (defs.map DefT.df) n) Tx (aV (CXE P w) P w K mg base t.N t.nm (bA t.st) f cdv A outer s H E).nox:=⟨okx,rfl,λ_=>rfl⟩
   rw[gR,hdf]at ev
   obtain⟨_,ev⟩:=aS ev
   rw[if_pos hrf]at ev
   have ev:(match exS T (aB T (defs.map DefT.df) n) t.body ([.v x,.r (a:Nat) (.dct j),.r (b:Nat) (.dct k),.v y]++aO (t.N.length-t.ps.length) Sl.no)with
    |.ok (.rr x a1 j b1 k)=>aC (a1==a&&b1==b) (Res.ok (D.tup [x,.dct j,.dct k]))
    |_=>.no)=.ok (.tup [r,.dct j',.dct k']):=ev
   cases hs:exS T (aB T (defs.map DefT.df) n) t.body ([.v x,.r (a:Nat) (.dct j),.r (b:Nat) (.dct k),.v y]++aO (t.N.length-t.ps.length) Sl.no)with
   |ok out=>
    rw[hs]at ev
    cases out with
    |rr x1 a1 j1 b1 k1=>
     obtain⟨c2,ev⟩:=aS ev
     cases ev
     rw[aD,beq_iff_eq,beq_iff_eq]at c2
     obtain⟨rfl,rfl⟩:=c2
     refine⟨_,((lQ t.body).2 _ _ oks hok.2 (rO H a1 b1) (λc=>O c/\c≠a1/\c≠b1)).nox,?_⟩
     refine⟨[],_,_,⟨O,_,Ip (N:=t.N) ab oa ob tr rx ry ha hb (t.N.length-t.ps.length) (by rw[<-hl];rfl),λt ht=>by cases ht⟩,hs,?_⟩
     intro v' H' s' r' o1 o2
     have wk:∀c,O c->(O c/\c≠a1/\c≠b1)\/c=a1\/c=b1:=λc hc=>by
      by_cases z1:c=a1
      ·exact .inr (.inl z1)
      ·by_cases z2:c=b1
       ·exact .inr (.inr z2)
       ·exact .inl ⟨hc,z1,z2⟩
     exact kk v' H' (λc o n1 n2 q=>s' c o (by rw[DR n1 n2];exact q)) (r'.weak wk) (o1.weak wk) (o2.weak wk)
    |_=>cases ev
   |err _ _=>rw[hs]at ev;cases ev
   |no=>rw[hs]at ev;cases ev
  have open1:∀ds,ds.length=t.ps.length->aB T (defs.map DefT.df) (n+1) i ds=(match exX T (aB T (defs.map DefT.df) n) t.body (dF (T.mv i) ds++aO (t.N.length-t.ps.length) Sl.no)with
   |some z=>.err z.1 z.2
   |none=>match exS T (aB T (defs.map DefT.df) n) t.body (dF (T.mv i) ds++aO (t.N.length-t.ps.length) Sl.no)with
    |.ok (.rt x k)=>aC (k||!T.fresh i) (.ok x)
    |.ok (.nx _)=>aC (!T.fresh i) (.ok .non)
    |_=>.no):=by
   intro ds hl
   rw[gR,hdf]
   exact(bJ (by simpa using hl) _).trans (if_neg hrf)
  have un:∀ds d,aB T (defs.map DefT.df) (n+1) i ds=.ok d->∃out,exS T (aB T (defs.map DefT.df) n) t.body (dF (T.mv i) ds++aO (t.N.length-t.ps.length) Sl.no)=.ok out /\
   ((∃k,out=.rt d k/\(k=true\/T.fresh i=false))\/(∃e,out=.nx e/\d=.non/\T.fresh i=false)):=by
   intro ds d ev
   rw[open1 ds (lenOf ds _ ev (λz=>by cases z))]at ev
   cases hx:exX T (aB T (defs.map DefT.df) n) t.body (dF (T.mv i) ds++aO (t.N.length-t.ps.length) Sl.no)with
   |some z=>rw[hx]at ev;cases ev
   |none=>
    rw[hx]at ev
    cases hs:exS T (aB T (defs.map DefT.df) n) t.body (dF (T.mv i) ds++aO (t.N.length-t.ps.length) Sl.no)with
    |ok out=>
     rw[hs]at ev
     refine⟨out,rfl,?_⟩
     cases out with
     |nx e=>
      obtain⟨c2,ev⟩:=aS ev
      cases ev
      exact .inr ⟨e,rfl,rfl,by simpa using c2⟩
     |rt x k=>
      obtain⟨c2,ev⟩:=aS ev
      cases ev
      exact .inl ⟨k,rfl,by simpa using c2⟩
     |bk e=>cases ev
     |ct e=>cases ev
     |rr _ _ _ _ _=>cases ev
    |err _ _=>rw[hs]at ev;cases ev
    |no=>rw[hs]at ev;cases ev
  have unX:∀ds c d,aB T (defs.map DefT.df) (n+1) i ds=.err c d->exX T (aB T (defs.map DefT.df) n) t.body (dF (T.mv i) ds++aO (t.N.length-t.ps.length) Sl.no)=some (c,d):=by
   intro ds c d ev
   rw[open1 ds (lenOf ds _ ev (λz=>by cases z))]at ev
   cases hx:exX T (aB T (defs.map DefT.df) n) t.body (dF (T.mv i) ds++aO (t.N.length-t.ps.length) Sl.no)with
   |some z=>rw[hx]at ev;cases ev;rfl
   |none=>
    rw[hx]at ev
    exfalso
    cases hs:exS T (aB T (defs.map DefT.df) n) t.body (dF (T.mv i) ds++aO (t.N.length-t.ps.length) Sl.no)with
    |ok out=>
     rw[hs]at ev
     cases out with
     |nx e=>have ev:aC (!T.fresh i) (Res.ok D.non)=Res.err c d:=ev;unfold aC at ev;split at ev<;>cases ev
     |rt x k=>have ev:aC (k||!T.fresh i) (Res.ok x)=Res.err c d:=ev;unfold aC at ev;split at ev<;>cases ev
     |bk e=>cases ev
     |ct e=>cases ev
     |rr _ _ _ _ _=>cases ev
    |err _ _=>rw[hs]at ev;cases ev
    |no=>rw[hs]at ev;cases ev
  have core:∀(cdv:Value)(A:Around)(outer:List Env)(s:Shared)(H Hb:Hp)(O:Addr->Prop)(ds:List D)(vs:List V)(own:Nat->Option Addr)(Q:VK)(E:XK),Room (n+2) (A.deeper (envOfC t.nm (bA t.st) s.heap.objs.size f cdv))->Fm K Hb O H O own (dF (T.mv i) ds++aO (t.N.length-t.ps.length) Sl.no) (cF t.N vs) ->
   ((∃d,aB T (defs.map DefT.df) (n+1) i ds=.ok d/\∀v H',Same Hb H'->RD K H' O d v->(T.fresh i=true->NewR K Hb H' O d v)->Q v H')\/∃c d,aB T (defs.map DefT.df) (n+1) i ds=.err c d/\∀od H',Same Hb H'->nX d od H'->E (cvK K c) od H') ->
   ∃tt,PSs (aV (CXE P w) P w K mg base t.N t.nm (bA t.st) f cdv A outer s H E) (eW t.st) tt/\tt {nx:=λ_ H'=>Q .non H',rt:=Q} (cF t.N vs) H:=by
   intro cdv A outer s H Hb O ds vs own Q E hr Fs h
   have okx:=xO (P:=P) (w:=w) (base:=base) X.toTextOk0 (cdv:=cdv) (outer:=outer) (H:=H) (E:=E) (f:=f) hr S.nd ih
   have oks:OkS T (aB T (defs.map DefT.df) n) Tx (aV (CXE P w) P w K mg base t.N t.nm (bA t.st) f cdv A outer s H E).nox:=⟨okx,rfl,λ_=>rfl⟩
   rcases h with⟨d,ev,k⟩|⟨c,d,ev,k⟩
   ·obtain⟨out,e1,e2⟩:=un ds d ev
    refine⟨_,((lQ t.body).2 _ _ oks hok.2 Hb O).nox,?_⟩
    refine⟨[],_,out,⟨O,own,Fs,λt ht=>by cases ht⟩,e1,?_⟩
    rcases e2 with⟨fr,rfl,hf⟩|⟨e,rfl,rfl,hf⟩
    ·intro v H' s' r nl
     refine k v H' s' r λz=>nl ?_
     rcases hf with q|q
     ·exact q
     ·rw[z]at q;cases q
    ·rintro σ' H' ⟨O',own',F',_⟩
     exact k .non H' F'.same rfl λz=>by rw[z]at hf;cases hf
   ·have oke:OkE T (aB T (defs.map DefT.df) n) Tx (aV (CXE P w) P w K mg base t.N t.nm (bA t.st) f cdv A outer s H E) E:=
     ⟨oks,Gd,X.cls,λc hc=>DO (X.ini c hc) (hr.mono (by lia))⟩
    refine⟨_,(DL t.body).2 _ E _ oke (.inl ⟨λpins σ H s h' a cls args I hm hE=>Gc I hm hE,rfl,λpins σ H s a t dx C I x1 x2 x3 hE=>Bi I x1 rfl rfl rfl x2 x3 hE,PassesOwn.leaving⟩) hok.2 Hb O,?_⟩
    exact⟨O,own,_,c,d,Fs,unX ds c d ev,k⟩
  cases hmv:T.mv i with
  |none=>
   rw[oD hmv]
   rw[hmv]at core
   refine oH F S (λvs H Q E h=>?_) (λcdv A outer s H vs Q E hr h=>?_)
   ·obtain⟨O,ds,_,rr,⟨d,ev,_⟩|⟨c,d,ev,_⟩⟩:=h
    ·rw[rr.length];exact lenOf ds _ ev (λz=>by cases z)
    ·rw[rr.length];exact lenOf ds _ ev (λz=>by cases z)
   ·obtain⟨O,ds,tr,rr,h⟩:=h
    have hl:ds.length=t.ps.length:=by
     rcases h with⟨d,ev,_⟩|⟨c,d,ev,_⟩
     ·exact lenOf ds _ ev (λz=>by cases z)
     ·exact lenOf ds _ ev (λz=>by cases z)
    exact core cdv A outer s H H O ds vs _ Q E hr (DQ (N:=t.N) rr tr (t.N.length-t.ps.length) (by rw[rr.length,hl])) h
  |some j=>
   rw[C7 hmv (λz=>hrf (by rw[hmv,z]))]
   rw[hmv]at core
   refine oH F S (λvs H Q E h=>?_) (λcdv A outer s H vs Q E hr h=>?_)
   ·obtain⟨O,ds,Hb,d0,v0,_,_,rr,_,_,_,_,⟨d,ev,_⟩|⟨c,d,ev,_⟩⟩:=h
    ·rw[rr.length];exact lenOf ds _ ev (λz=>by cases z)
    ·rw[rr.length];exact lenOf ds _ ev (λz=>by cases z)
   ·obtain⟨O,ds,Hb,d0,v0,sm,tr,rr,g1,g2,g3,g4,h⟩:=h
    have hl:ds.length=t.ps.length:=by
     rcases h with⟨d,ev,_⟩|⟨c,d,ev,_⟩
     ·exact lenOf ds _ ev (λz=>by cases z)
     ·exact lenOf ds _ ev (λz=>by cases z)
    obtain⟨own,Fs⟩:=Io (N:=t.N) sm rr tr (t.N.length-t.ps.length) (by rw[rr.length,hl]) g1 g2 g3 g4
    exact core cdv A outer s H Hb O ds vs own Q E hr Fs h
theorem law_sp{i n:Nat}(hT:∀ns:List Int,ns.length<=63->aB T (defs.map DefT.df) n i [.lst (ns.map D.int)]=.ok (.bl true))(K:PySem.W.Frag)(H:Hp)(a:Addr)(ns:List Int)(hl:ns.length<=63)(hS:SqL K H a (ns.map V.int)) :
 spD K (aB T (defs.map DefT.df) n i) (T.fresh i) [.ref a] H (λv _=>v=.bl true) (λ_ _ _=>False):=by
 refine⟨no,[.lst (ns.map D.int)],λa h=>h.elim,⟨.ref a,[],rfl,⟨a,ns.map V.int,rfl,?_,?_⟩,rfl⟩,.inl ⟨.bl true,hT ns hl,λv H' _ r _=>r⟩⟩
 ·rcases hS with z|z
  ·exact .inl ⟨λq=>q,z⟩
  ·exact .inr z
 ·clear hl hS
  induction ns with
  |nil=>exact rfl
  |cons i r ih=>exact⟨.int i,r.map V.int,rfl,rfl,ih⟩
end
end Tr
namespace Tr
open PySem PySem.Spec PyProof.Rows L2 PySem.W
structure ToldT where
 ct:Str
 on:Str
 ost:Stmt
 oN:List Str
 op:Str
 ocs:List Str
noncomputable def gF(sc:Scope)(x c:Str):Expr->Bool
 |.Call (.Name n _) [.Name y _,.Name m _] [] _=>(n == "isinstance")&&(y==x)&&(m==c)&&glB sc n&&glB sc m&&eC m
 |_=>false
noncomputable def lR(sc:Scope)(x:Str):List Str->List Expr->Bool
 |[c],[e]=>gF sc x c e
 |c::cs,e::es=>gF sc x c e&&lR sc x cs es
 |_,_=>false
noncomputable def oI(x:ToldT):Bool:=kP x.oN [x.op] (bA x.ost)&&cB x.oN (bA x.ost) 0 x.op&&(match eW x.ost with
 |[.Return (some (.BoolOp .Or es _)) _]=>lR (bA x.ost) x.op x.ocs es
 |_=>false)
theorem oJ {sc:Scope} {x c:Str} {p:Expr} (h:gF sc x c p=true):∃pn py pm pos,p=.Call (.Name "isinstance" pn) [.Name x py,.Name c pm] [] pos/\glB sc "isinstance" = true/\glB sc c=true/\eC c=true:=by
 unfold gF at h
 split at h
 ·simp only[aD,beq_iff_eq]at h
  obtain⟨⟨⟨⟨⟨rfl,rfl⟩,rfl⟩,h1⟩,h2⟩,h3⟩:=h
  exact⟨_,_,_,_,rfl,h1,h2,h3⟩
 ·cases h
noncomputable def tIsi(i:Nat)(C:Addr)(b:Bool):TE:=λσ H Q=>∃a od,σ[i]?=some (some (.ref a))/\H a=some (gA C a od)/\Q (.bl b) H
section
variable{X:Cx}{i:Nat}{x c:Str}{C:Addr}{b:Bool}{p:Expr}
theorem rP {cv:V} {cu:Value} (hx:cB X.N X.env.scope i x=true) (h0:X.mg "isinstance" = none) (hc:∀pm,PE X (.Name c pm) (tC cv)) (hcv:∀u,RelV cv u->u=cu) (Z:ExcCls X.K C) (e:PySem.W.kitOne X.K (.ref C) cu=some b) (hm:gF X.env.scope x c p=true):PE X p (tIsi i C b):=by
 obtain⟨pn,py,pm,pos,rfl,g1,g2,d⟩:=oJ hm
 obtain⟨n1,n2,n3,n4⟩:=eI hx
 refine PE.imp (λσ H Q hq=>?_) (qB (Gz Z hcv e) (dH g1) h0 PyProof.Rows.boot_isinstance (cY (dZ n1 n2 n3 n4) (cY (hc pm) eV (bC rfl)) (bC rfl)) (by decide) (by decide) (bC rfl) (fK rfl))
 obtain⟨a,od,h1,h2,q⟩:=hq
 exact⟨.ref a,h1,a,od,rfl,h2,q⟩
theorem xP{D:Addr}(hg:glB X.env.scope c=true)(hd:eC c=true)(hm:X.mg c=some (.ref D))(pm:Pos):PE X (.Name c pm) (tC (.ref D)):=AR (dH hg) hm rfl (gZ hd)
theorem DT {pos:Pos} (hx:cB X.N X.env.scope i x=true) (h0:X.mg "isinstance" = none) (Z:ExcCls X.K C):∀(cs:List Str) (es:List Expr),(∀c∈cs,∃D,X.mg c=some (.ref D)/\PySem.W.kitOne X.K (.ref C) (.ref D)=some false)->lR X.env.scope x cs es=true ->
 PE X (.BoolOp .Or es pos) (tIsi i C false)
 |[],[],_,h=>by cases h
 |[],_::_,_,h=>by cases h
 |c::cs,[],_,h=>by cases cs<;>cases h
 |[c],[e],hc,h=>by
  obtain⟨D,m,k⟩:=hc c (by simp)
  have h:gF X.env.scope x c e=true:=h
  obtain⟨_,_,_,_,_,_,g2,d⟩:=oJ h
  exact AZ (rP hx h0 (xP g2 d m) (λu r=>r) Z k h)
 |[c],e::e2::es,hc,h=>by
  have h:(gF X.env.scope x c e&&lR X.env.scope x [] (e2::es))=true:=h
  rw[aD]at h
  cases h.2
 |c::c2::cs,[e],hc,h=>by
  have h:(gF X.env.scope x c e&&lR X.env.scope x (c2::cs) [])=true:=h
  rw[aD]at h
  cases cs<;>cases h.2
 |c::c2::cs,e::e2::es,hc,h=>by
  obtain⟨D,m,k⟩:=hc c (by simp)
  have h:(gF X.env.scope x c e&&lR X.env.scope x (c2::cs) (e2::es))=true:=h
  rw[aD]at h
  obtain⟨_,_,_,_,_,_,g2,d⟩:=oJ h.1
  refine PE.imp (λσ H Q hq=>?_) (pe_or (rP hx h0 (xP g2 d m) (λu r=>r) Z k h.1) (DT hx h0 Z (c2::cs) (e2::es) (λy hy=>hc y (bG _ hy)) h.2))
  obtain⟨a,od,h1,h2,q⟩:=hq
  exact⟨a,od,h1,h2,false,rfl,by rw[if_neg aP];exact⟨a,od,h1,h2,q⟩⟩
end
noncomputable def DU(C:Addr):Sp:=λvs H Q _=>∃a od,vs=[.ref a]/\H a=some (gA C a od)/\Q (.bl false) H
theorem oth_ok {P:Program} {w:World} {K:PySem.W.Frag} {mg:Str->Option Value} {base:Heap} {x:ToldT} {C:Addr} {k:Nat} {f:Addr} {fd:FuncData} (hm:oI x=true) (Z:ExcCls K C) (h0:mg "isinstance" = none)
 (hc:∀c∈x.ocs,∃D,mg c=some (.ref D)/\PySem.W.kitOne K (.ref C) (.ref D)=some false) (F:Fun K x.on x.on x.ost f fd):FnOk P w K mg base (CXE P w) (k+1) f fd [x.op] (DU C):=by
 unfold oI at hm
 rw[aD,aD]at hm
 obtain⟨⟨m1,m2⟩,m3⟩:=hm
 refine oH F (xN m1) (λvs H Q E ⟨a,od,e,_⟩=>by rw[e];rfl) (λcdv A outer s H vs Q E hr ⟨a,od,e,ha,q⟩=>?_)
 subst e
 split at m3
 ·rename_i es bp rp hb
  rw[hb]
  refine⟨_,eU (kA (DT (X:=aV (CXE P w) P w K mg base x.oN x.on (bA x.ost) f cdv A outer s H E) (i:=0) m2 h0 Z x.ocs es hc m3)) lE,?_⟩
  exact⟨a,od,rfl,ha,q⟩
 ·cases m3
noncomputable def rQ(y:D):Stmt->Bool
 |.Return (some (.Constant (.str x) _ _)) _=>(match y with | .str z=>z==x|_=>false)
 |_=>false
theorem DV{y:D}{p:Stmt}(h:rQ y p=true):∃x j p1 p2,p=.Return (some (.Constant (.str x) j p1)) p2/\y=.str x:=by
 unfold rQ at h
 split at h
 ·split at h
  ·rw[beq_iff_eq]at h
   subst h
   exact⟨_,_,_,_,rfl,rfl⟩
  ·cases h
 ·cases h
noncomputable def isNon:D->Bool
 |.non=>true
 |_=>false
theorem Iq{d:D}(h:isNon d=true):d=.non:=by cases d<;>first|rfl|cases h
noncomputable def xQ(Tx:Txt)(td:Told)(x:ToldT)(k:Nat)(N:List Str)(sc:Scope)(a:Stmt)(body:List Stmt)(cxn n wr n2 w1:Str)(r1:Stmt)(e1 e2:Expr)(o1 w4:Str)(r2:Stmt):Bool:=
 mS Tx (.asg (.one k) (.con .non)) N sc a&&mB Tx td.b N sc body&&cH td.b&&(cxn==x.ct)&&glB sc cxn&&eC cxn&&(n2==n)&&cB N sc (k+1) n&&(sc.names.lookup n==some .local)&&cB N sc k wr&&(sc.names.lookup wr==some .local) &&
  (w1==wr)&&rQ td.thr r1&&gF sc wr td.c e1&&gF sc wr "ValueError" e2&&(o1==x.on)&&(w4==wr)&&glB sc o1&&eC o1&&rQ td.yes r2&&(isNon td.ini&&!td.num)
structure ToldK(K:PySem.W.Frag)(mg:Str->Option Value)(td:Told)(x:ToldT)(CT C:Addr):Prop where
 ct:ClsIs K mg x.ct CT
 c:ClsIs K mg td.c C
 mro:Tr.mroIn K C CT=true
 ec:ExcCls K C
 self:PySem.W.kitOne K (.ref C) (.ref C)=some true
 ve:PySem.W.kitOne K (.ref C) (.type "ValueError")=some true
 ocs:∀c∈x.ocs,∃D,mg c=some (.ref D)/\PySem.W.kitOne K (.ref C) (.ref D)=some false
 vm:mg "ValueError" = none
 oth:∃f fd,Fun K x.on x.on x.ost f fd/\mg x.on=some (.ref f)/\Binds K fd [x.op] []
section
variable{T:Tab}{cf:Nat->List D->Res D}
theorem oK:∀{x:S} {e:Nv} {o:Out},cH x=true->exS T cf x e=.ok o->o=.nx e
 |.nil,e,o,_,h=>by(first|rw[kJ]at h|rw[fZ]at h|rw[jH]at h|rw[jI]at h);cases h;rfl
 |.cons a r,e,o,c,h=>by
  have c:(cH a&&cH r)=true:=c
  rw[aD]at c
  (first|rw[kJ]at h|rw[fZ]at h|rw[jH]at h|rw[jI]at h)
  obtain⟨o1,h1,h2⟩:=Res.bind_ok h
  cases oK c.1 h1
  exact oK c.2 h2
 |.ite q a b,e,o,c,h=>by
  have c:(cH a&&cH b)=true:=c
  rw[aD]at c
  (first|rw[kJ]at h|rw[fZ]at h|rw[jH]at h|rw[jI]at h)
  obtain⟨x,_,h⟩:=Res.bind_ok h
  obtain⟨t,_,h⟩:=Res.bind_ok h
  cases t with
  |true=>exact oK c.1 h
  |false=>exact oK c.2 h
 |.exp x,e,o,c,h=>by
  (first|rw[kJ]at h|rw[fZ]at h|rw[jH]at h|rw[jI]at h)
  obtain⟨_,_,h⟩:=Res.bind_ok h
  cases h;rfl
theorem oM:∀{x:S} {e:Nv},cH x=true->(∀f ds c d,cf f ds≠.err c d)->exX T cf x e=none
 |.nil,e,_,_=>rfl
 |.cons a r,e,c,n=>by
  have c:(cH a&&cH r)=true:=c
  rw[aD]at c
  rw[gS,oM c.1 n]
  dsimp only
  cases exS T cf a e with
  |ok o=>
   cases o with
   |nx e1=>exact oM c.2 n
   |_=>rfl
  |err _ _=>rfl
  |no=>rfl
 |.ite q a b,e,c,n=>by
  have c:(cH a&&cH b)=true:=c
  rw[aD]at c
  rw[gT]
  cases evE T cf q e with
  |ok x=>
   dsimp only
   cases x.truth with
   |ok t=>
    cases t with
    |true=>exact oM c.1 n
    |false=>exact oM c.2 n
   |err _ _=>rfl
   |no=>rfl
  |err _ _=>rfl
  |no=>rfl
 |.exp x,e,c,n=>by
  cases x with
  |call f a=>
   rw[gU]
   cases evA T cf a e with
   |ok ds=>
    dsimp only
    cases h:cf f ds with
    |err c d=>exact absurd h (n _ _ _ _)
    |ok _=>rfl
    |no=>rfl
   |err _ _=>rfl
   |no=>rfl
  |_=>rfl
end
section
variable{K:PySem.W.Frag}{mg:Str->Option Value}{T:Tab}{Tx:Txt}{defs:List DefT}
theorem told1(X:TextOk0 K mg T Tx defs){t:DefT}{td:Told}{x:ToldT}{CT C:Addr}{a:Stmt}{body:List Stmt}{cxn n' wr n2 w1:Str}{r1:Stmt}{e1 e2:Expr}{o1 w4:Str}{r2 last:Stmt}{q0 q1 q2 q3 q4 q5 q6 q7 q8 q9 q10 q11 q12 q13 q14 q15:Pos}{j1:Nat}(ht:t.told=some td)(hs:kP t.N t.ps (bA t.st)=true)(hN2:t.N.length=t.ps.length+2)
 (hbody:eW t.st=[a,.Try body [.ExceptHandler (some (.Name cxn q0)) (some n') [.Assign [.Name wr q1] (.Name n2 q2) q3] q4] [] [] q5,
  .If (.Compare (.Name w1 q6) [.Is] [.Constant .none j1 q7] q8) [r1] [] q9,.If (.BoolOp .And [e1,e2,.UnaryOp .Not (.Call (.Name o1 q10) [.Name w4 q11] [] q12) q13] q14) [r2] [] q15,last])
 (hm:xQ Tx td x t.ps.length t.N (bA t.st) a body cxn n' wr n2 w1 r1 e1 e2 o1 w4 r2=true) (ho:oI x=true) (kk:ToldK K mg td x CT C):DN K mg T defs t:=by
 intro P w base n i f fd hi F ih
 have S:=xN hs
 unfold xQ at hm
 simp only[aD,beq_iff_eq,bV]at hm
 obtain⟨⟨⟨⟨⟨⟨⟨⟨⟨⟨⟨⟨⟨⟨⟨⟨⟨⟨⟨⟨m1,m2⟩,m3⟩,m4⟩,m5⟩,m6⟩,m7⟩,m8⟩,m9⟩,m10⟩,m11⟩,m12⟩,m13⟩,m14⟩,m15⟩,m16⟩,m17⟩,m18⟩,m19⟩,m20⟩,m21,m22⟩:=hm
 replace m21:=Iq m21
 have hdf:(defs.map DefT.df)[i]?=some ⟨t.N.length,t.ps.length,t.body,some td⟩:=by rw[bO,hi];show some (DefT.df t)=_;unfold DefT.df;rw[ht]
 have op:∀ds r,aB T (defs.map DefT.df) (n+1) i ds=r->r≠.no->ds.length=t.ps.length/\T.fresh i=false /\
  ((∃z,exX T (aB T (defs.map DefT.df) n) td.b (ds.map Sl.v++[.v .non,.no])=some z/\z.1=td.c/\r=.ok td.yes) \/
   (∃o,exS T (aB T (defs.map DefT.df) n) td.b (ds.map Sl.v++[.v .non,.no])=.ok o/\r=.ok td.thr)):=by
  intro ds r ev hr
  rw[gR,hdf]at ev
  by_cases c:(ds.length==t.ps.length)=true
  ·have ev:aC (ds.length==t.ps.length) _=r:=ev
   rw[c,Ax]at ev
   refine⟨by simpa using c,?_⟩
   dsimp only at ev
   rw[m21]at ev
   cases hx:exX T (aB T (defs.map DefT.df) n) td.b (ds.map Sl.v++[.v .non,.no])with
   |some z=>
    rw[hx]at ev
    dsimp only at ev
    cases q:(z.1==td.c&&!T.fresh i)with
    |false=>rw[q]at ev;exact absurd ev.symm hr
    |true=>
     rw[q,m22]at ev
     rw[aD]at q
     exact⟨by simpa using q.2,.inl ⟨z,rfl,by simpa using q.1,ev.symm⟩⟩
   |none=>
    rw[hx]at ev
    dsimp only at ev
    cases hy:exS T (aB T (defs.map DefT.df) n) td.b (ds.map Sl.v++[.v .non,.no])with
    |ok o=>
     rw[hy]at ev
     cases o with
     |nx e=>
      dsimp only at ev
      cases q:(!T.fresh i)with
      |false=>rw[q]at ev;exact absurd ev.symm hr
      |true=>rw[q]at ev;exact⟨by simpa using q,.inr ⟨_,rfl,ev.symm⟩⟩
     |rt _ _=>exact absurd ev.symm hr
     |rr _ _ _ _ _=>exact absurd ev.symm hr
     |bk _=>exact absurd ev.symm hr
     |ct _=>exact absurd ev.symm hr
    |err _ _=>rw[hy]at ev;exact absurd ev.symm hr
    |no=>rw[hy]at ev;exact absurd ev.symm hr
  ·have c':(ds.length==t.ps.length)=false:=by simpa using c
   have ev:aC (ds.length==t.ps.length) _=r:=ev
   rw[c']at ev
   exact absurd ev.symm hr
 refine oH F S (λvs H Q E h=>?_) (λcdv A outer s H vs Q E hr h=>?_)
 ·obtain⟨O,ds,_,rr,⟨d,ev,_⟩|⟨c,d,ev,_⟩⟩:=h
  ·rw[rr.length];exact(op ds _ ev (λz=>by cases z)).1
  ·rw[rr.length];exact(op ds _ ev (λz=>by cases z)).1
 ·have okx:=xO (P:=P) (w:=w) (base:=base) X (cdv:=cdv) (outer:=outer) (H:=H) (E:=E) (f:=f) hr S.nd ih
  have oks:OkS T (aB T (defs.map DefT.df) n) Tx (aV (CXE P w) P w K mg base t.N t.nm (bA t.st) f cdv A outer s H E).nox:=⟨okx,rfl,λ_=>rfl⟩
  obtain⟨O,ds,tr,rr,⟨d,ev,k⟩|⟨c,d,ev,k⟩⟩:=h
  ·obtain⟨hl,fr,hab⟩:=op ds _ ev (λz=>by cases z)
   subst m4 m7 m12 m16 m17
   obtain⟨y1,j2,u1,u2,rfl,t1⟩:=DV m13
   obtain⟨y2,j3,u3,u4,rfl,t2⟩:=DV m20
   obtain⟨v1,v2,v3,v4⟩:=eI m10
   obtain⟨v5,v6,v7,v8⟩:=eI m8
   rw[hbody]
   have st1:exS T (aB T (defs.map DefT.df) n) (.asg (.one t.ps.length) (.con .non)) (ds.map Sl.v++aO (t.N.length-t.ps.length) Sl.no)=.ok (.nx (ds.map Sl.v++[.v .non,.no])):=by
    have e:t.N.length-t.ps.length=2:=by lia
    rw[e,lL]
    show Res.ok (Out.nx ((ds.map Sl.v++[Sl.no,Sl.no]).set t.ps.length (.v .non)))=_
    rw[<-hl,List.set_append_right _ _ (by rw[aE];exact aQ _),aE,Nat.sub_self]
    rfl
   have f0:Fm K H O H O (λ_=>none) (ds.map Sl.v++aO (t.N.length-t.ps.length) Sl.no) (cF t.N vs):=DQ (N:=t.N) rr tr (t.N.length-t.ps.length) (by rw[rr.length,hl])
   have wat:∀{H' O' own' σ'},Fm K H O H' O' own' (ds.map Sl.v++[.v .non,.no]) σ'->σ'[t.ps.length]?=some (some .non):=by
    intro H' O' own' σ' f1
    have:=f1.sl t.ps.length
    have e:Nv.at (ds.map Sl.v++[.v .non,.no]) t.ps.length=.v .non:=by
     unfold Nv.at
     rw[<-hl,gL (by rw[aE];exact aQ _),aE,Nat.sub_self];rfl
    rw[e]at this
    obtain⟨v,h1,h2⟩:=this
    cases (show v=V.non from h2)
    unfold bW at h1
    cases q:σ'[t.ps.length]? with
    |none=>rw[q]at h1;cases h1
    |some z=>rw[q]at h1;exact congrArg some h1
   have pn:∀p,PE (aV (CXE P w) P w K mg base t.N t.nm (bA t.st) f cdv A outer s H E) (.Name w4 p) (pV t.ps.length):=λp=>dZ v1 v2 v3 v4
   have p1:=DH ((lQ (.asg (.one t.ps.length) (.con .non))).1 (aV (CXE P w) P w K mg base t.N t.nm (bA t.st) f cdv A outer s H E).nox a oks m1 H O)
   rcases hab with⟨z,hx,hz,hd⟩|⟨o,hx,hd⟩
   ·cases hd
    cases n with
    |zero=>
     rw[oM m3 (λf ds c d z=>by rw[aB]at z;cases z)]at hx
     cases hx
    |succ n'=>
    obtain⟨fo,fdo,Fo,mo,bo⟩:=kk.oth
    obtain⟨_,_,_,_,rfl,g1,g2,d1⟩:=oJ m14
    obtain⟨_,_,_,_,rfl,g3,g4,d2⟩:=oJ m15
    have h0:mg "isinstance" = none:=X.blt _ (by simp[lP])
    have oo:=oth_ok (P:=P) (w:=w) (base:=base) (k:=n'+2) ho kk.ec h0 kk.ocs Fo
    have hb:∀pins,PSs (nN (aV (CXE P w) P w K mg base t.N t.nm (bA t.st) f cdv A outer s H E) pins (λev s'=>∃σ' H1 s1,Inv (aV (CXE P w) P w K mg base t.N t.nm (bA t.st) f cdv A outer s H E) pins σ' H1 s1/\CXE P w (aV (CXE P w) P w K mg base t.N t.nm (bA t.st) f cdv A outer s H E).stack H1 s1 (λcls _ H'=>cls=cvK K td.c/\Same H H') ev s')) body (tX T (aB T (defs.map DefT.df) (n'+1)) K H O (λcls _ H'=>cls=cvK K td.c/\Same H H') td.b):=λpins=>
     (DL td.b).2 (nN (aV (CXE P w) P w K mg base t.N t.nm (bA t.st) f cdv A outer s H E) pins (λev s'=>∃σ' H1 s1,Inv (aV (CXE P w) P w K mg base t.N t.nm (bA t.st) f cdv A outer s H E) pins σ' H1 s1/\CXE P w (aV (CXE P w) P w K mg base t.N t.nm (bA t.st) f cdv A outer s H E).stack H1 s1 (λcls _ H'=>cls=cvK K td.c/\Same H H') ev s')) (λcls _ H'=>cls=cvK K td.c/\Same H H') body ⟨⟨⟨okx.calm,okx.roomy,okx.defs,okx.globs,okx.blt,okx.nd,okx.tf,okx.ts,okx.dm⟩,rfl,λ_=>rfl⟩,λps σ' H1 s1 ev s' I hc=>⟨σ',H1,s1,Gw I,hc⟩,X.cls,λc hc=>(DO (X.ini c hc) (hr.mono (by lia)):xM (aV (CXE P w) P w K mg base t.N t.nm (bA t.st) f cdv A outer s H E) c)⟩ (.inr m3) m2 H O
    have p2:=Gy (X:=aV (CXE P w) P w K mg base t.N t.nm (bA t.st) f cdv A outer s H E) (np:=q0) (hpos:=q4) (p1:=q1) (p2:=q2) (p3:=q3) (pos:=q5) rfl rfl rfl hb (λkin=>.of (kk.ct.own kin)) (dH m5) (gZ m6)
     (λkin cls od H' z=>⟨td.c,C,by rw[z.1,kk.c.cv],.of (kk.c.own kin),Gm kin kk.mro⟩) S.nd v5 m9 v1 m11 (by lia) v7 v8 rfl
    have pe1:=rP (X:=aV (CXE P w) P w K mg base t.N t.nm (bA t.st) f cdv A outer s H E) (i:=t.ps.length) m10 h0 (xP g2 d1 kk.c.bound) (λu r=>r) kk.ec kk.self m14
    have pe2:=rP (X:=aV (CXE P w) P w K mg base t.N t.nm (bA t.st) f cdv A outer s H E) (i:=t.ps.length) (cv:=.ty "ValueError") (cu:=.type "ValueError") m10 h0 (λpm=>FF (dH g4) kk.vm (by decide +kernel) rfl (by decide) (by decide)) (λu r=>r) kk.ec kk.ve m15
    have pe3:PE (aV (CXE P w) P w K mg base t.N t.nm (bA t.st) f cdv A outer s H E) (.Call (.Name x.on q10) [.Name w4 q11] [] q12) (pZ (DU C) [] E0 (A8 (pV t.ps.length) tNil)):=
     qA oo hr (dH m18) mo Fo.kp bo .nil qL (cY (pn _) eV (bC rfl)) (gZ m19) (bC rfl) (fK rfl)
    refine⟨_,eU p1 (eU p2 (eU (kB (AU (AS (pn _))) oG lE)
     (eU (kB (uW (uV pe1) (uW (uV pe2) (AV (AY (uV pe3))))).pt (eU (kA uU) lE) oG) oG))),?_⟩
    refine⟨[],_,_,⟨O,_,f0,λt ht=>by cases ht⟩,st1,λσ1 H1 ⟨O1,own1,f1,_⟩=>?_⟩
    refine⟨⟨O1,own1,_,z.1,z.2,f1,hx,λod H' s' _=>⟨by rw[hz],s'⟩⟩,λea C' od τ H' hE free hτ=>?_⟩
    obtain rfl:C'=C:=Value.ref.inj (hE.1.trans kk.c.cv)
    have hH:(L2.upd H' ea (gA C' ea od)) ea=some (gA C' ea od):=by simp[L2.upd]
    have hsame:Same H (L2.upd H' ea (gA C' ea od)):=λb o q=>by
     have q2:=hE.2 b o q
     by_cases e:b=ea
     ·rw[e,free]at q2;cases q2
     ·simp[L2.upd,e,q2]
    refine⟨.ref ea,hτ,false,rfl,?_⟩
    refine⟨ea,od,hτ,hH,true,rfl,?_⟩
    refine⟨ea,od,hτ,hH,true,rfl,?_⟩
    refine⟨.ref ea,hτ,ea,od,rfl,hH,false,rfl,?_⟩
    exact k (.str y2) _ hsame (by rw[t2];rfl) (λz=>by rw[fr]at z;cases z)
   ·cases hd
    refine⟨_,eU p1 (eU (Gx ((lQ td.b).2 (aV (CXE P w) P w K mg base t.N t.nm (bA t.st) f cdv A outer s H E).nox body oks m2 H O))
     (eU (kB (AU (AS (pn _))) (eU (kA uU) lE) lE) oG)),?_⟩
    cases oK m3 hx
    refine⟨[],_,_,⟨O,_,f0,λt ht=>by cases ht⟩,st1,λσ1 H1 ⟨O1,own1,f1,_⟩=>?_⟩
    refine⟨[],_,_,⟨O1,own1,f1,λt ht=>by cases ht⟩,hx,λσ2 H2 ⟨O2,own2,f2,_⟩=>?_⟩
    refine⟨.non,wat f2,true,rfl,?_⟩
    exact k (.str y1) H2 f2.same (by rw[t1];rfl) (λz=>by rw[fr]at z;cases z)
  ·obtain⟨_,_,⟨_,_,_,z⟩|⟨_,_,z⟩⟩:=op ds _ ev (λz=>by cases z)
   ·cases z
   ·cases z
end
section
variable{K:PySem.W.Frag}{mg:Str->Option Value}{T:Tab}{Tx:Txt}{defs:List DefT}
theorem nmv_of(h:(aF defs.length).all (λi=>(T.mv i).isNone||(match defs[i]? with|some t=>t.told.isNone|none=>true))=true):∀i t,defs[i]?=some t->t.told.isSome=true->T.mv i=none:=λi t hi hs=>by
 have:=mT.mp h i (dC.mpr (eT.mp hi).1)
 rw[hi]at this
 cases e:T.mv i with
 |none=>rfl
 |some j=>
  cases q:t.told with
  |none=>rw[q]at hs;cases hs
  |some k=>
   rw[e]at this
   dsimp only at this
   rw[q]at this
   cases this
theorem Ir{t:DefT}{td:Told}{x:ToldT}{CT C:Addr}{a:Stmt}{body:List Stmt}{cxn n' wr n2 w1:Str}{r1:Stmt}{e1 e2:Expr}{o1 w4:Str}{r2 last:Stmt}{q0 q1 q2 q3 q4 q5 q6 q7 q8 q9 q10 q11 q12 q13 q14 q15:Pos}{j1:Nat}(X:TextOk0 K mg T Tx defs)(h:defs.filter (λt=>t.told.isSome)=[t])(ht:t.told=some td)(hs:kP t.N t.ps (bA t.st)=true)(hN2:t.N.length=t.ps.length+2)
 (hbody:eW t.st=[a,.Try body [.ExceptHandler (some (.Name cxn q0)) (some n') [.Assign [.Name wr q1] (.Name n2 q2) q3] q4] [] [] q5,
  .If (.Compare (.Name w1 q6) [.Is] [.Constant .none j1 q7] q8) [r1] [] q9,.If (.BoolOp .And [e1,e2,.UnaryOp .Not (.Call (.Name o1 q10) [.Name w4 q11] [] q12) q13] q14) [r2] [] q15,last])
 (hm:xQ Tx td x t.ps.length t.N (bA t.st) a body cxn n' wr n2 w1 r1 e1 e2 o1 w4 r2=true) (ho:oI x=true) (kk:ToldK K mg td x CT C) (hmv:(aF defs.length).all (λi=>(T.mv i).isNone||(match defs[i]? with|some t=>t.told.isNone|none=>true))=true:=by rfl):TextOk K mg T Tx defs:=
 ⟨X,λt' ht' td' e=>by
  have:t'∈defs.filter (λt=>t.told.isSome):=fP.mpr ⟨ht',by rw[e];rfl⟩
  rw[h,cS]at this
  subst this
  exact told1 X ht hs hN2 hbody hm ho kk,nmv_of hmv⟩
theorem xR{h:Heap}(X:K.In h)(G:h.Ns mainGlobals mg){c:Str}{C:Addr}(a:PySem.W.nsIn K mainGlobals c=some (some (.ref C)))(e:excIn K C bmV kN=true):ClsIs K mg c C:=
 ⟨PySem.W.mg_of X G a,by unfold cvK;rw[a],e⟩
theorem cls_ex{h:Heap}(X:K.In h)(G:h.Ns mainGlobals mg){c:Str}{C:Addr}(a:PySem.W.nsIn K mainGlobals c=some (some (.ref C)))(e:excIn K C bmV kN=true):∃C,ClsIs K mg c C:=⟨C,xR X G a e⟩
theorem rR{h:Heap}(X:K.In h)(G:h.Ns mainGlobals mg){c:Str}{C D:Addr}(a:PySem.W.nsIn K mainGlobals c=some (some (.ref D)))(e:PySem.W.kitOne K (.ref C) (.ref D)=some false):∃D,mg c=some (.ref D)/\PySem.W.kitOne K (.ref C) (.ref D)=some false:=⟨D,PySem.W.mg_of X G a,e⟩
theorem Iu{C:Addr}:PySem.W.kitOne K (.ref C) (.ref C)=some true:=by unfold PySem.W.kitOne;rw[if_pos (by simp)]
end
section
variable{K:PySem.W.Frag}{mg:Str->Option Value}{T:Tab}{Tx:Txt}{defs:List DefT}
end
section
variable{K:PySem.W.Frag}{mg:Str->Option Value}{T:Tab}{Tx:Txt}{defs:List DefT}
end
end Tr
namespace Tr
open PySem PySem.Spec PyProof.Rows L2
theorem rS{P:List Value->Prop}(h:∀a0:Value,P [a0]):∀us:List Value,us.length=1->P us
 |[_],_=>h _
theorem iP{P:List Value->Prop}(h:∀a0 a1:Value,P [a0,a1]):∀us:List Value,us.length=2->P us
 |[_,_],_=>h _ _
theorem fL{P:List Value->Prop}(h:∀a0 a1 a2:Value,P [a0,a1,a2]):∀us:List Value,us.length=3->P us
 |[_,_,_],_=>h _ _ _
theorem len4{P:List Value->Prop}(h:∀a0 a1 a2 a3:Value,P [a0,a1,a2,a3]):∀us:List Value,us.length=4->P us
 |[_,_,_,_],_=>h _ _ _ _
theorem len5{P:List Value->Prop}(h:∀a0 a1 a2 a3 a4:Value,P [a0,a1,a2,a3,a4]):∀us:List Value,us.length=5->P us
 |[_,_,_,_,_],_=>h _ _ _ _ _
theorem bL{K:PySem.W.Frag}{h:Heap}{mg:Str->Option Value}(X:K.In h)(G:h.Ns mainGlobals mg){x:Str}{st:Stmt}{ps:List Str}{f:Addr}{oc:Value}{od an:Option Addr}{osl:Array (Option Value)}{kV doc pm cdv ct:Value}
 (a:PySem.W.nsIn K mainGlobals x=some (some (.ref f))) (l:K.lookup f=some ⟨oc,od,.func (PySem.W.fnOf x x (kE st) (eW st) (bA st) .none kV doc pm an cdv ct),osl⟩)
 (c:PySem.W.codeIn K cdv x=true) (k:PySem.W.keepIn K (.ref f)=true)
 (hb:∀(kV doc pm:Value)(an:Option Addr)(cdv ct:Value)(us:List Value),us.length=ps.length->bindArgs (PySem.W.fnOf x x (kE st) (eW st) (bA st) .none kV doc pm an cdv ct) ⟨us,[]⟩=pure (ps.zip us)) :
 ∃f fd,Fun K x x st f fd/\mg x=some (.ref f)/\Binds K fd ps []:=
 ⟨f,_,Aq l c k,PySem.W.mg_of X G a,(Aq (st:=st) l c k).binds hb⟩
theorem rT{K:PySem.W.Frag}{h:Heap}{mg:Str->Option Value}(X:K.In h)(G:h.Ns mainGlobals mg){x:Str}{i:Int}{t:Tok}(a:PySem.W.nsIn K mainGlobals x=some (some (.int i t))):DM K mg x (.int i):=
 ⟨.int i,.int i t,PySem.W.mg_of X G a,⟨t,rfl⟩,λ_ _=>rfl⟩
theorem cV{K:PySem.W.Frag}{h:Heap}{mg:Str->Option Value}(X:K.In h)(G:h.Ns mainGlobals mg){x:Str}(a:PySem.W.nsIn K mainGlobals x=some none):mg x=none:=PySem.W.mg_none_of X G a
theorem walkT{l:PySem.W.OpenLaw}{q:Program}{loose:List Str}{XP:(Str->Option Value)->Heap->Prop}{YP:World->Heap->Prop}{d:DefRec}{K:Params->PySem.W.Frag}{T:Tab}{Tx:Txt}{defs:List DefT}{i n:Nat}{tl:DefT}{x:Str}
 (hi:defs[i]?=some tl) (hps:tl.ps=[x]) (hnm:tl.nm=d.name)
 (hn:l.most=some 63) (hdf:d.params.defaults=[]) (hr:Room (n+2) callerA)
 (hT:∀ns:List Int,ns.length<=63->aB T (defs.map DefT.df) n i [.lst (ns.map D.int)]=.ok (.bl true))
 (hY:∀(w:World)(h:Heap),YP w h->(K w.params).In h)
 (hX:∀(w:World)(mg:Str->Option Value)(h:Heap),(K w.params).In h->h.Ns mainGlobals mg->TextOk (K w.params) mg T Tx defs)
 (hb:∀(kV doc pm:Value)(an:Option Addr)(cdv ct:Value)(u:Value),bindArgs (PySem.W.fnOf tl.nm tl.nm (kE tl.st) (eW tl.st) (bA tl.st) .none kV doc pm an cdv ct) ⟨[u],[]⟩=pure [(x,u)]) (hmv:T.mv i=none:=by rfl) :
 PySem.W.WalkO q loose XP YP l.row.toRowW d [] (λf vs=>PySem.call f vs):=by
 refine L2.GD (K:=K) (n:=63) (k:=n+2) (x:=x) (CX:=λw=>CXE l.prog w) (sp:=λw=>spD (K w.params) (aB T (defs.map DefT.df) n i) (T.fresh i)) hn (by decide) hdf hr hY ?_ (λw H a ns hl _ hS=>law_sp hT (K w.params) H a ns hl hS) (λ_ _ _ _ _ h=>by obtain⟨_,_,_,_,_,_,_,_,_,_,_,_,_,_,_,_,_,z⟩:=h;exact z.elim)
 intro w mg fa h KX G hmg
 have tx:=hX w mg h KX G
 obtain⟨f,fd,F,m,_⟩:=tx.funs tl (jA hi)
 rw[hnm,hmg]at m
 cases m
 refine⟨fd,λs u=>?_,λbase kb nb=>?_⟩
 ·obtain⟨oc,od,kV,doc,pm,an,cdv,ct,osl,rfl,lk,hcd⟩:=F.ex
  exact .of_eq (hb kV doc pm an cdv ct u)
 ·have:=DS (P:=l.prog) (w:=w) (base:=base) tx n i tl hi fa fd F
  rw[hps,oD hmv]at this
  exact this
end Tr
namespace Tr
theorem all_cons{α:Type}{p:α->Prop}{a:α}{l:List α}(h:p a)(r:∀x∈l,p x):∀x∈a::l,p x:=List.forall_mem_cons.mpr ⟨h,r⟩
theorem iQ{α:Type}{p:α->Prop}:∀x∈([]:List α),p x:=λ_ h=>by cases h
theorem rV{α:Type}{p:Nat->α->Prop}{a:α}{l:List α}(h:p 0 a)(r:∀g n,l[g]?=some n->p (g+1) n):∀g n,(a::l)[g]?=some n->p g n
 |0,n,e=>by simp at e;subst e;exact h
 |g+1,n,e=>r g n (by simpa using e)
theorem gl_nil{α:Type}{p:Nat->α->Prop}:∀g n,([]:List α)[g]?=some n->p g n:=λg n e=>by simp at e
end Tr
namespace Tr
open PySem
section
variable{T:Tab}{cf:Nat->List D->Res D}{e:Nv}
@[simp] theorem Iv{i:Nat}:evE T cf (.var i) e=(e.at i).val:=id rfl
@[simp] theorem evE_rd{i:Nat}:evE T cf (.rd i) e=(e.at i).any:=id rfl
@[simp] theorem Iw{d:D}:evE T cf (.con d) e=.ok d:=id rfl
@[simp] theorem evE_glob{g:Nat}:evE T cf (.glob g) e=.ok (T.glob g):=id rfl
@[simp] theorem Iy{o:Operator}{a b:E}:evE T cf (.bin o a b) e=(do let x<-evE T cf a e;let y<-evE T cf b e;D.bin o x y):=id rfl
@[simp] theorem evE_cmp{o:CmpOp}{a b:E}:evE T cf (.cmp o a b) e=(do let x<-evE T cf a e;let y<-evE T cf b e;D.cmp o x y):=id rfl
@[simp] theorem evE_and{a b:E}:evE T cf (.and a b) e=(do let x<-evE T cf a e;let k<-x.truth;if k then evE T cf b e else .ok x):=id rfl
@[simp] theorem evE_or{a b:E}:evE T cf (.or a b) e=(do let x<-evE T cf a e;let k<-x.truth;if k then .ok x else evE T cf b e):=id rfl
@[simp] theorem evE_ife{c a b:E}:evE T cf (.ife c a b) e=(do let x<-evE T cf c e;let k<-x.truth;if k then evE T cf a e else evE T cf b e):=id rfl
@[simp] theorem evE_ix{a b:E}:evE T cf (.ix a b) e=(do let x<-evE T cf a e;let y<-evE T cf b e;D.ix x y):=id rfl
@[simp] theorem evE_sl{a lo hi:E}:evE T cf (.sl a lo hi) e=(do let x<-evE T cf a e;let l<-evE T cf lo e;let l<-l.part;let h<-evE T cf hi e;let h<-h.part;D.sl x l h):=id rfl
@[simp] theorem evE_omit:evE T cf .omit e=.ok .non:=id rfl
@[simp] theorem evE_tup{a:E}:evE T cf (.tup a) e=(do let xs<-evA T cf a e;.ok (.tup xs)):=id rfl
@[simp] theorem evE_lst{a:E}:evE T cf (.lst a) e=(do let xs<-evA T cf a e;.ok (.lst xs)):=id rfl
@[simp] theorem evE_call{f:Nat}{a:E}:evE T cf (.call f a) e=(do let xs<-evA T cf a e;cf f xs):=id rfl
@[simp] theorem evI_seqD{a:E}:evI T cf (.seqD a) e=(do let x<-evE T cf a e;nD x):=id rfl
@[simp] theorem evE_srt{a:E}:evE T cf (.srt a) e=(do let x<-evE T cf a e;nF x):=id rfl
@[simp] theorem evE_dck{a:E}:evE T cf (.dck a) e=(do let x<-evE T cf a e;nE x):=id rfl
@[simp] theorem evE_bt{b:Bt}{a:E}:evE T cf (.bt b a) e=(do let xs<-evA T cf a e;b.run xs):=id rfl
noncomputable def negR:D->Res D
 |.int i=>.ok (.int (-i))
 |_=>.no
@[simp] theorem neg_int{i:Int}:negR (.int i)=.ok (.int (-i)):=id rfl
@[simp] theorem evE_neg{a:E}:evE T cf (.neg a) e=(evE T cf a e>>=negR):=by
 rw[BI]
 cases evE T cf a e with
 |ok x=>cases x<;>rfl
 |err _ _=>rfl
 |no=>rfl
noncomputable def aI(T:Tab)(cf:Nat->List D->Res D)(own:Nat)(caps:List Nat)(g:G)(elt cond:E)(e:Nv)(d:D):Res (Option D):=do
 let e1<-g.put d (aU own caps e)
 let c<-evE T cf cond e1
 let k<-c.truth
 if k then do let y<-evE T cf elt e1;.ok (some y)else .ok none
@[simp] theorem Iz{own:Nat}{caps:List Nat}{g:G}{elt src cond:E}:evE T cf (.comp own caps g elt src cond) e=(do
 let ds<-evI T cf src e
 let ys<-aT (aI T cf own caps g elt cond e) ds
 aC (decide (ds.length<=big)) (.ok (.lst ys))):=id rfl
@[simp] theorem evA_nil:evA T cf .anil e=.ok []:=id rfl
@[simp] theorem evA_cons{a r:E}:evA T cf (.acons a r) e=(do let x<-evE T cf a e;let q<-evA T cf r e;aC (decide (q.length<1000)) (.ok (x::q))):=id rfl
@[simp] theorem evI_seq{a:E}:evI T cf (.seq a) e=(do let x<-evE T cf a e;x.items):=id rfl
noncomputable def hJ:D->Res (List D)
 |.int n=>aC (cT n) (.ok (cG 0 n.toNat))
 |_=>.no
noncomputable def oO:D->D->Res (List D)
 |.int n,.int m=>aC (cT n&&cT m) (.ok (cG n (m-n).toNat))
 |_,_=>.no
noncomputable def xS:D->Res (List D)
 |.lst ds=>.ok (dB 0 ds)
 |_=>.no
@[simp] theorem evI_rng{a:E}:evI T cf (.rng a) e=(do let x<-evE T cf a e;hJ x):=by
 rw[BN]
 cases evE T cf a e with
 |ok x=>cases x<;>rfl
 |err _ _=>rfl
 |no=>rfl
@[simp] theorem JA{a b:E}:evI T cf (.rng2 a b) e=(do let x<-evE T cf a e;match x with | .int _=>do let y<-evE T cf b e;oO x y|_=>.no):=by
 rw[BO]
 cases evE T cf a e with
 |ok x=>
  cases x<;>try rfl
  show(do let y<-evE T cf b e;_)=(do let y<-evE T cf b e;_)
  cases evE T cf b e with
  |ok y=>cases y<;>rfl
  |err _ _=>rfl
  |no=>rfl
 |err _ _=>rfl
 |no=>rfl
@[simp] theorem evI_enum{a:E}:evI T cf (.enum a) e=(do let x<-evE T cf a e;xS x):=by
 rw[BP]
 cases evE T cf a e with
 |ok x=>cases x<;>rfl
 |err _ _=>rfl
 |no=>rfl
theorem kQ{n:Nat}(h:n<4611686018427387904):hJ (.int n)=.ok (cG 0 n):=by
 show aC (cT n) _=_
 rw[bJ (by unfold cT;rw[decide_eq_true (by lia),decide_eq_true (by lia)];rfl)]
 simp
theorem DW{n m:Nat}(h:n<4611686018427387904)(h2:m<4611686018427387904):oO (.int n) (.int m)=.ok (cG n (m-n)):=by
 show aC (cT n&&cT m) _=_
 rw[bJ (by unfold cT;rw[decide_eq_true (by lia),decide_eq_true (by lia),decide_eq_true (by lia),decide_eq_true (by lia)];rfl)]
 congr 2
 lia
noncomputable def aL(T:Tab)(cf:Nat->List D->Res D)(g:G)(b:S)(d:D)(e0:Nv):Res Out:=do let e1<-g.put d e0;exS T cf b e1
noncomputable def rW(T:Tab)(cf:Nat->List D->Res D)(r:S):Out->Res Out
 |.nx e1=>exS T cf r e1
 |o=>.ok o
@[simp] theorem JB{r:S}:rW T cf r (.nx e)=exS T cf r e:=id rfl
@[simp] theorem thenS_rr{r:S}{d:D}{a b:Nat}{j k:List (Sum Int Str×D)}:rW T cf r (.rr d a j b k)=.ok (.rr d a j b k):=id rfl
@[simp] theorem thenS_rt{r:S}{d:D}{k:Bool}:rW T cf r (.rt d k)=.ok (.rt d k):=id rfl
@[simp] theorem JC:exS T cf .nil e=.ok (.nx e):=id rfl
@[simp] theorem DX{a r:S}:exS T cf (.cons a r) e=(exS T cf a e>>=rW T cf r):=by
 rw[fZ]
 cases exS T cf a e with
 |ok o=>cases o<;>rfl
 |err _ _=>rfl
 |no=>rfl
@[simp] theorem exS_ret{x:E}:exS T cf (.ret x) e=(do let d<-evE T cf x e;.ok (.rt d (bE T x&&!kI d))):=id rfl
@[simp] theorem tupL_lst{a:List D}:kI (.lst a)=false:=id rfl
@[simp] theorem tupL_int{a:Int}:kI (.int a)=false:=id rfl
@[simp] theorem tupL_str{a:Str}:kI (.str a)=false:=id rfl
@[simp] theorem exS_retO{i:Nat}:exS T cf (.retO i) e=(do let a<-(e.at i).ownA;.ok (.rt a (!a.isDct))):=id rfl
@[simp] theorem exS_newD{i:Nat}:exS T cf (.newD i) e=.ok (.nx (e.set i (.o (.dct [])))):=id rfl
@[simp] theorem JD{g:G}{x:E}:exS T cf (.asg g x) e=(do let d<-evE T cf x e;let e1<-g.put d e;.ok (.nx e1)):=id rfl
noncomputable def setO(k:Bool)(i:Nat)(e:Nv):D->Res Out
 |.lst a=>aC k (.ok (.nx (e.set i (.o (.lst a)))))
 |.dct a=>aC k (.ok (.nx (e.set i (.o (.dct a)))))
 |.tdc a=>aC k (.ok (.nx (e.set i (.o (.tdc a)))))
 |_=>.no
@[simp] theorem setO_ok{i:Nat}{a:List D}:setO true i e (.lst a)=.ok (.nx (e.set i (.o (.lst a)))):=id rfl
@[simp] theorem exS_asgO{i:Nat}{x:E}:exS T cf (.asgO i x) e=(do let d<-evE T cf x e;setO (bE T x) i e d):=by
 rw[nJ]
 cases evE T cf x e with
 |ok o=>cases o<;>rfl
 |err _ _=>rfl
 |no=>rfl
@[simp] theorem exS_sealed{i:Nat}:exS T cf (.sealed i) e=(do let a<-(e.at i).ownA;.ok (.nx (e.set i (.v a)))):=id rfl
@[simp] theorem exS_ite{c:E}{a b:S}:exS T cf (.ite c a b) e=(do let x<-evE T cf c e;let k<-x.truth;if k then exS T cf a e else exS T cf b e):=id rfl
@[simp] theorem any_r{a:Nat}{d:D}:(Sl.r a d).any=.ok d:=id rfl
@[simp] theorem refD_r{a:Nat}{k:List (Sum Int Str×D)}:(Sl.r a (.dct k)).refD=.ok (a,k):=id rfl
@[simp] theorem givD_r{a:Nat}{k:List (Sum Int Str×D)}:(Sl.r a (.dct k)).givD=.ok k:=id rfl
@[simp] theorem givD_o{k:List (Sum Int Str×D)}:(Sl.o (.dct k)).givD=.ok k:=id rfl
@[simp] theorem giv_r{a:Nat}{d x:D}:(Sl.r a d).giv x=.r a x:=id rfl
@[simp] theorem giv_o{d x:D}:(Sl.o d).giv x=.o x:=id rfl
@[simp] theorem exS_dputR{i:Nat}{k x:E}:exS T cf (.dputR i k x) e=(do
 let d<-evE T cf x e
 let a<-(e.at i).refD
 let y<-evE T cf k e
 let key<-Res.of (cZ y)
 aC (decide (a.2.length<big)) (.ok (.nx (e.set i (.r a.1 (.dct (dE a.2 key d))))))):=id rfl
@[simp] theorem exS_retR{x:E}{i j:Nat}:exS T cf (.retR x i j) e=(do
 let d<-evE T cf x e
 let a<-(e.at i).refD
 let b<-(e.at j).refD
 .ok (.rr d a.1 a.2 b.1 b.2)):=id rfl
theorem ifR_t{c:E}{f:Nat}{x:E}{i j:Nat}{y:E}{a b:S}{z:D}(hm:T.mv f=some 1000)(ij:i≠j)(h:evE T cf c e=.ok z)(hz:z.truth=.ok true):exS T cf (.ifR false c f x i j y a b) e=exS T cf a e:=by
 rw[kK,bJ (by rw[decide_eq_true hm,decide_eq_true ij];rfl),if_neg aP,h,Res.ok_bind,hz,Res.ok_bind,if_pos rfl]
theorem DY{neg:Bool}{c:E}{f:Nat}{x:E}{i j:Nat}{y:E}{a b:S}{z d1 d2 r:D}{g h g' h':List (Sum Int Str×D)}{k:Bool}(hm:T.mv f=some 1000)(ij:i≠j)(h0:neg=true\/(evE T cf c e=.ok z/\z.truth=.ok false))(h1:evE T cf x e=.ok d1)(h2:(e.at i).givD=.ok g)(h3:(e.at j).givD=.ok h)(h4:evE T cf y e=.ok d2)
 (h5:fG cf f d1 g h d2=.ok (r,g',h')) (h6:r.truth=.ok k):exS T cf (.ifR neg c f x i j y a b) e=if(k != neg)=true then exS T cf a ((e.set i ((e.at i).giv (.dct g'))).set j ((e.at j).giv (.dct h')))else exS T cf b ((e.set i ((e.at i).giv (.dct g'))).set j ((e.at j).giv (.dct h'))):=by
 rw[kK,bJ (by rw[decide_eq_true hm,decide_eq_true ij];rfl)]
 have e0:(if neg=true then Res.ok false else do let z<-evE T cf c e;z.truth)=.ok false:=by
  rcases h0 with h0|⟨h0,h0'⟩
  ·rw[if_pos h0]
  ·cases neg with
   |true=>rfl
   |false=>rw[if_neg aP,h0,Res.ok_bind,h0']
 rw[e0,Res.ok_bind,if_neg aP,h1,Res.ok_bind,h2,Res.ok_bind,h3,Res.ok_bind,h4,Res.ok_bind,h5,Res.ok_bind,h6,Res.ok_bind]
@[simp] theorem exS_for{g:G}{src:E}{b:S}:exS T cf (.forS g src b) e=(do let ds<-evI T cf src e;aR (aL T cf g b) ds e):=id rfl
@[simp] theorem exS_app{i:Nat}{x:E}:exS T cf (.app i x) e=(do
 let d<-evE T cf x e
 let a<-(e.at i).own
 aC (decide (a.length<big)) (.ok (.nx (e.set i (.o (.lst (a++[d]))))))):=id rfl
noncomputable def extO(k:Bool)(i:Nat)(e:Nv):D->Res Out
 |.lst b=>do
  let a<-(e.at i).own
  aC (k&&decide (a.length+b.length<=big)) (.ok (.nx (e.set i (.o (.lst (a++b))))))
 |_=>.no
@[simp] theorem JE{k:Bool}{i:Nat}{b:List D}:extO k i e (.lst b)=(do
 let a<-(e.at i).own
 aC (k&&decide (a.length+b.length<=big)) (.ok (.nx (e.set i (.o (.lst (a++b))))))):=id rfl
@[simp] theorem JF{i:Nat}{x:E}:exS T cf (.ext i x) e=(do let d<-evE T cf x e;extO (bE T x) i e d):=by
 rw[vY]
 cases evE T cf x e with
 |ok o=>cases o<;>rfl
 |err _ _=>rfl
 |no=>rfl
@[simp] theorem exS_lput{i:Nat}{k x:E}:exS T cf (.lput i k x) e=(do
 let d<-evE T cf x e
 let a<-(e.at i).own
 let y<-evE T cf k e
 let j<-qG a.length y
 .ok (.nx (e.set i (.o (.lst (a.set j d)))))):=id rfl
@[simp] theorem exS_exp{x:E}:exS T cf (.exp x) e=(do let _<-evE T cf x e;.ok (.nx e)):=id rfl
@[simp] theorem fresh_lst{a:E}:bE T (.lst a)=true:=id rfl
@[simp] theorem fresh_add{a b:E}:bE T (.bin .Add a b)=true:=id rfl
@[simp] theorem JG{n:Nat}{c:List Nat}{g:G}{x y z:E}:bE T (.comp n c g x y z)=true:=id rfl
@[simp] theorem fresh_list{a:E}:bE T (.bt .list a)=true:=id rfl
@[simp] theorem fresh_call{f:Nat}{a:E}:bE T (.call f a)=T.fresh f:=id rfl
end
@[simp] theorem when_if{α:Type}{c:Bool}(h:c=true)(r:Res α):aC c r=r:=bJ h r
@[simp] theorem JH{x:Sl}{r:List Sl}:Nv.at (x::r) 0=x:=id rfl
@[simp] theorem JI{x:Sl}{r:List Sl}{i:Nat}:Nv.at (x::r) (i+1)=Nv.at r i:=id rfl
@[simp] theorem val_v{d:D}:(Sl.v d).val=.ok d:=id rfl
@[simp] theorem any_o{d:D}:(Sl.o d).any=.ok d:=id rfl
@[simp] theorem own_o{a:List D}:(Sl.o (.lst a)).own=.ok a:=id rfl
@[simp] theorem ownA_o{d:D}:(Sl.o d).ownA=.ok d:=id rfl
@[simp] theorem rX{i:Int}:Res.of (cZ (.int i))=.ok (.inl i):=id rfl
@[simp] theorem isDct_lst{i:List D}:(D.lst i).isDct=false:=id rfl
theorem rY{k:D}{kvs:List (Sum Int Str×D)}:D.ix (.dct kvs) k=(do let q<-Res.of (cZ k);Res.of (bB kvs q)):=by cases k<;>rfl
@[simp] theorem JJ{i:Nat}{d:D}{e:Nv}:G.put (.one i) d e=.ok (e.set i (.v d)):=id rfl
@[simp] theorem put_many{is:List Nat}{ds:List D}{e:Nv}:G.put (.many is) (.tup ds) e=cO is ds e:=id rfl
@[simp] theorem puts_nil{e:Nv}:cO [] [] e=.ok e:=id rfl
@[simp] theorem puts_cons{i:Nat}{is:List Nat}{d:D}{ds:List D}{e:Nv}:cO (i::is) (d::ds) e=cO is ds (e.set i (.v d)):=id rfl
@[simp] theorem truth_bl{b:Bool}:(D.bl b).truth=.ok b:=id rfl
@[simp] theorem JK{i j:Int}:D.bin .Add (.int i) (.int j)=.ok (.int (i+j)):=id rfl
@[simp] theorem bin_mulL{i j:Int}(h:-(2^64)<i/\i<2^64):D.bin .Mult (.int i) (.int j)=.ok (.int (i*j)):=by
 show aC (dM i||dM j) _=_
 rw[bJ]
 unfold dM
 rw[decide_eq_true h.1,decide_eq_true h.2];rfl
@[simp] theorem xT{i j:Int}(h:0<j):D.bin .Mod (.int i) (.int j)=.ok (.int (i%j)):=by
 show aC (decide (0<j)) _=_
 rw[bJ (decide_eq_true h)]
@[simp] theorem bin_fdiv{i j:Int}(h:0<j/\j<1073741824):D.bin .FloorDiv (.int i) (.int j)=.ok (.int (i/j)):=by
 show aC (decide (0<j)&&decide (j<1073741824)) _=_
 rw[bJ]
 rw[decide_eq_true h.1,decide_eq_true h.2];rfl
theorem JL{i j:Int}(h:0<=j/\j<=1000000/\i.natAbs<2^64):D.bin .Pow (.int i) (.int j)=.ok (.int (i^j.toNat)):=by
 show aC (decide (0<=j)&&decide (j<=1000000)&&decide (i.natAbs<2^64)) _=_
 rw[bJ]
 rw[decide_eq_true h.1,decide_eq_true h.2.1,decide_eq_true h.2.2];rfl
@[simp] theorem bin_pow9:D.bin .Pow (.int 10) (.int 9)=.ok (.int 1000000000):=JL ⟨by decide,by decide,by decide⟩
@[simp] theorem cmp_lt{i j:Int}:D.cmp .Lt (.int i) (.int j)=.ok (.bl (decide (i<j))):=id rfl
@[simp] theorem cmp_eqi{i j:Int}:D.cmp .Eq (.int i) (.int j)=.ok (.bl (i==j)):=id rfl
@[simp] theorem cmp_is{a:D}:D.cmp .Is a .non=.ok (.bl a.isNon):=id rfl
@[simp] theorem cmp_isnot{a:D}:D.cmp .IsNot a .non=.ok (.bl (!a.isNon)):=id rfl
@[simp] theorem isNon_non:D.non.isNon=true:=id rfl
@[simp] theorem isNon_int{i:Int}:(D.int i).isNon=false:=id rfl
@[simp] theorem run_len_l{a:List D}:Bt.run .len [.lst a]=.ok (.int a.length):=id rfl
@[simp] theorem run_len_t{a:List D}:Bt.run .len [.tup a]=.ok (.int a.length):=id rfl
@[simp] theorem run_tup_l{a:List D}:Bt.run .tuple [.lst a]=.ok (.tup a):=id rfl
@[simp] theorem run_lst_t{a:List D}:Bt.run .list [.tup a]=.ok (.lst a):=id rfl
@[simp] theorem run_int_b{b:Bool}:Bt.run .int [.bl b]=.ok (.int (b2z b)):=id rfl
theorem DZ:∀ns:List Int,dA (ns.map D.int)=.ok ns
 |[]=>rfl
 |i::r=>by rw[aK,dA,DZ r];rfl
@[simp] theorem JM{ns:List Int}:Bt.run .sum [.lst (ns.map D.int)]=.ok (.int ns.sum):=by
 show(do let q<-dA (ns.map D.int);.ok (D.int q.sum))=_
 rw[DZ];rfl
@[simp] theorem Lf{α:Type}{f:α->Int}{xs:List α}:Bt.run .sum [.lst (xs.map (D.int∘f))]=.ok (.int (xs.map f).sum):=by rw[<-bY,JM]
@[simp] theorem part_int{i:Int}:(D.int i).part=.ok (some i):=id rfl
@[simp] theorem part_non:D.non.part=.ok none:=id rfl
@[simp] theorem sl_l{a:List D}{lo hi:Option Int}:D.sl (.lst a) lo hi=.ok (.lst (cut a lo hi)):=id rfl
@[simp] theorem sl_t{a:List D}{lo hi:Option Int}:D.sl (.tup a) lo hi=.ok (.tup (cut a lo hi)):=id rfl
@[simp] theorem items_l{a:List D}:(D.lst a).items=.ok a:=id rfl
@[simp] theorem items_t{a:List D}:(D.tup a).items=.ok a:=id rfl
theorem hV{a:List D}{i:Nat}{d:D}(h:a[i]?=some d):D.ix (.lst a) (.int i)=.ok d:=by
 have hi:=(eT.mp h).1
 show Res.of (atI a i)=_
 unfold atI ixN
 rw[if_pos (Ew i),if_pos (by lia)]
 simp[h,Res.of]
theorem hZ{a:List D}{i:Nat}{d:D}(h:a[i]?=some d):D.ix (.tup a) (.int i)=.ok d:=by
 have hi:=(eT.mp h).1
 show Res.of (atI a i)=_
 unfold atI ixN
 rw[if_pos (Ew i),if_pos (by lia)]
 simp[h,Res.of]
theorem bH{T:Tab}{D:List Df}{n f:Nat}{ds:List Tr.D}{d:Df}{x:Tr.D}{k:Bool}(h:D[f]?=some d)(hl:ds.length=d.pars)(hk:(k||!T.fresh f)=true)
 (he:exS T (aB T D n) d.body (ds.map Sl.v++aO (d.names-d.pars) Sl.no)=.ok (.rt x k)) (ht:d.told=none:=by rfl) (hm:T.mv f=none:=by rfl):aB T D (n+1) f ds=.ok x:=by
 rw[gR,h]
 show aC (ds.length==d.pars) _=_
 rw[bJ (by simpa using hl),ht,hm,show dF none ds=ds.map Sl.v from rfl]
 dsimp only
 rw[if_neg (λz=>by cases z)]
 cases hx:exX T (aB T D n) d.body (ds.map Sl.v++aO (d.names-d.pars) Sl.no)with
 |some z=>exact absurd he (jK hx _)
 |none=>
  dsimp only
  rw[he]
  show aC (k||!T.fresh f) _=_
  rw[bJ hk]
theorem JN{T:Tab}{D:List Df}{n f:Nat}{ds:List Tr.D}{d:Df}{e:Nv}(h:D[f]?=some d)(hl:ds.length=d.pars)(hk:T.fresh f=false)
 (he:exS T (aB T D n) d.body (ds.map Sl.v++aO (d.names-d.pars) Sl.no)=.ok (.nx e)) (ht:d.told=none:=by rfl) (hm:T.mv f=none:=by rfl):aB T D (n+1) f ds=.ok .non:=by
 rw[gR,h]
 show aC (ds.length==d.pars) _=_
 rw[bJ (by simpa using hl),ht,hm,show dF none ds=ds.map Sl.v from rfl]
 dsimp only
 rw[if_neg (λz=>by cases z)]
 cases hx:exX T (aB T D n) d.body (ds.map Sl.v++aO (d.names-d.pars) Sl.no)with
 |some z=>exact absurd he (jK hx _)
 |none=>
  dsimp only
  rw[he]
  show aC (!T.fresh f) _=_
  rw[hk];rfl
theorem rZ{T:Tab}{D:List Df}{n f:Nat}{ds:List Tr.D}{d:Df}{c:Str}{v:Tr.D}(h:D[f]?=some d)(hl:ds.length=d.pars)
 (he:exX T (aB T D n) d.body (ds.map Sl.v++aO (d.names-d.pars) Sl.no)=some (c,v)) (ht:d.told=none:=by rfl) (hm:T.mv f=none:=by rfl):aB T D (n+1) f ds=.err c v:=by
 rw[gR,h]
 show aC (ds.length==d.pars) _=_
 rw[bJ (by simpa using hl),ht,hm,show dF none ds=ds.map Sl.v from rfl]
 dsimp only
 rw[if_neg (λz=>by cases z),he]
theorem JO{T:Tab}{D:List Df}{n f a b:Nat}{x y r:Tr.D}{j k j' k':List (Sum Int Str×Tr.D)}{d:Df}(hm:T.mv f=some 1000)(h:D[f]?=some d)(hl:4=d.pars)
 (he:exS T (aB T D n) d.body ([.v x,.r a (.dct j),.r b (.dct k),.v y]++aO (d.names-d.pars) Sl.no)=.ok (.rr r a j' b k')) (ht:d.told=none:=by rfl) :
 aB T D (n+1) f [x,.tup [.int a,.dct j],.tup [.int b,.dct k],y]=.ok (.tup [r,.dct j',.dct k']):=by
 rw[gR,h]
 show aC (4==d.pars) _=_
 rw[bJ (by simpa using hl),ht]
 dsimp only
 rw[if_pos hm]
 show(match exS T (aB T D n) d.body ([.v x,.r a (.dct j),.r b (.dct k),.v y]++aO (d.names-d.pars) Sl.no)with
  |.ok (.rr x a1 j b1 k)=>aC (a1==a&&b1==b) (Res.ok (Tr.D.tup [x,.dct j,.dct k]))
  |_=>.no)=_
 rw[he]
 show aC (a==a&&b==b) _=_
 rw[bJ (by simp)]
@[simp] theorem ix_t0{a:D}{r:List D}:D.ix (.tup (a::r)) (.int 0)=.ok a:=hZ (i:=0) rfl
@[simp] theorem xU{a b:D}{r:List D}:D.ix (.tup (a::b::r)) (.int 1)=.ok b:=hZ (i:=1) rfl
@[simp] theorem D0{a b c:D}{r:List D}:D.ix (.tup (a::b::c::r)) (.int 2)=.ok c:=hZ (i:=2) rfl
@[simp] theorem D1{a b c d:D}{r:List D}:D.ix (.tup (a::b::c::d::r)) (.int 3)=.ok d:=hZ (i:=3) rfl
@[simp] theorem ix_t4{a b c d e:D}{r:List D}:D.ix (.tup (a::b::c::d::e::r)) (.int 4)=.ok e:=hZ (i:=4) rfl
@[simp] theorem ix_l0{a:D}{r:List D}:D.ix (.lst (a::r)) (.int 0)=.ok a:=hV (i:=0) rfl
@[simp] theorem ix_l1{a b:D}{r:List D}:D.ix (.lst (a::b::r)) (.int 1)=.ok b:=hV (i:=1) rfl
theorem sA{f:D->Nv->Res Out}{e:Nv}:aR f [] e=.ok (.nx e):=rfl
theorem dI{f:D->Nv->Res Out}{d:D}{r:List D}{e e1:Nv}(h:f d e=.ok (.nx e1)):aR f (d::r) e=aR f r e1:=by rw[aR,h];rfl
theorem D2{f:D->Nv->Res Out}{d:D}{r:List D}{e e1:Nv}(h:f d e=.ok (.ct e1)):aR f (d::r) e=aR f r e1:=by rw[aR,h];rfl
theorem D3{f:D->Nv->Res Out}{d:D}{r:List D}{e:Nv}{x:D}{a b:Nat}{j k:List (Sum Int Str×D)}(h:f d e=.ok (.rr x a j b k)):aR f (d::r) e=.ok (.rr x a j b k):=by rw[aR,h];rfl
theorem xV{f:D->Nv->Res Out}{d:D}{r:List D}{e:Nv}{x:D}{k:Bool}(h:f d e=.ok (.rt x k)):aR f (d::r) e=.ok (.rt x k):=by rw[aR,h];rfl
theorem D4{f:D->Nv->Res Out}(I:Nat->Nv->Prop):∀(ds:List D)(e:Nv)(j:Nat),I j e->(∀i d e,ds[i]?=some d->I (j+i) e->∃e',(f d e=.ok (.nx e')\/f d e=.ok (.ct e'))/\I (j+i+1) e')->∃e',aR f ds e=.ok (.nx e')/\I (j+ds.length) e'
 |[],e,j,h,_=>⟨e,rfl,h⟩
 |d::r,e,j,h,st=>by
  obtain⟨e1,h1,h2⟩:=st 0 d e rfl h
  obtain⟨e2,h3,h4⟩:=D4 I r e1 (j+1) h2 λi d' e' hd hI=>by
   have:=st (i+1) d' e' (by simpa using hd) (by rw[show j+(i+1)=j+1+i by lia];exact hI)
   rw[show j+(i+1)+1=j+1+i+1 by lia]at this
   exact this
  refine⟨e2,?_,by rw[aX,show j+(r.length+1)=j+1+r.length by lia];exact h4⟩
  rcases h1 with h1|h1
  ·rw[dI h1,h3]
  ·rw[D2 h1,h3]
theorem iR:∀(lo:Int)(n:Nat),cG lo n=(aF n).map λi=>.int (lo+(i:Int))
 |lo,0=>rfl
 |lo,n+1=>by
  rw[cG,iR (lo+1) n,AC,aK,bY]
  congr 1
  ·simp
  ·apply jC
   intro i _
   simp only[Function.comp]
   congr 1
   push_cast
   lia
@[simp] theorem Lg{lo:Int}{n:Nat}:(cG lo n).length=n:=by rw[iR];simp
@[simp] theorem JP:∀{k:Int} {ds:List D},(dB k ds).length=ds.length
 |k,[]=>rfl
 |k,x::r=>by rw[dB,aX,aX,JP]
end Tr
set_option maxRecDepth 100000
namespace Tr
open PySem
noncomputable def cM(ns:List Int)(k:Nat):Int:=ns.getD k 0
noncomputable def minV(n:Int):Int:=([0,n/5%7,n/5%31,n/5%400,n*n%1000000000]:List Int).getD (n%5).toNat 0
set_option genInjectivity false in
structure Part where
 name:Str
 voice:Str
 off:Int
 on:Int
noncomputable def Part.enc(p:Part):D:=.tup [.str p.name,.str p.voice,.int p.off,.int p.on]
structure Scene where
 name:Str
 len:Int
 pause:Int
 who:List Nat
noncomputable def aA(ws:List Nat):List D:=ws.map λ(i:Nat)=>D.int (i:Int)
noncomputable def Scene.enc(s:Scene):D:=.tup [.str s.name,.int s.len,.int s.pause,.tup (aA s.who)]
theorem ix_str{x:Str}{i:Nat}(h:i<x.cps.size)(hb:x.length<=big):∃y:Str,D.ix (.str x) (.int i)=.ok (.str y)/\y.length=1:=by
 refine⟨⟨#[x.cps[i]]⟩,?_,rfl⟩
 show aC (decide (x.length<=big)) (Res.of ((atI x.cps.toList i).map λc=>D.str ⟨#[c]⟩))=_
 rw[bJ (decide_eq_true hb)]
 unfold atI ixN
 rw[if_pos (Ew i),if_pos (by simp;lia)]
 simp[h,Res.of]
@[simp] theorem add_str{x y:Str}(h:x.length+y.length<=big):D.bin .Add (.str x) (.str y)=.ok (.str (x++y)):=by
 show aC (decide (x.length+y.length<=big)) _=_
 rw[bJ (decide_eq_true h)]
theorem bT:(1000:Nat)<big:=by decide
set_option genInjectivity false in
structure GoodScene(many:Nat)(s:Scene):Prop where
 len:0<=s.len
 pause:0<=s.pause
 nd:s.who.Nodup
 lt:∀i∈s.who,i<many
theorem dR(ws:List Nat):(aA ws).length=ws.length:=by unfold aA;simp
theorem oP(i:Nat):∀ws:List Nat,D.mem (.int i) (aA ws)=decide (i∈ws)
 |[]=>rfl
 |w::r=>by
  show(D.eqb (.int w) (.int i)||D.mem (.int i) (aA r))=_
  rw[oP i r]
  have:D.eqb (.int w) (.int i)=decide (i=w):=by
   show((w:Int)==(i:Int))=_
   by_cases h:i=w
   ·subst h;simp
   ·rw[decide_eq_false h];simp;lia
  rw[this]
  by_cases h1:i=w<;>by_cases h2:i∈r<;>simp[h1,h2]
theorem iS(k:Nat):∀ws:List Nat,D.pls (k+1) (aA ws)=true
 |[]=>rfl
 |w::r=>by
  show(D.pl k (.int w)&&D.pls (k+1) (aA r))=true
  rw[iS k r];cases k<;>rfl
@[simp] theorem JQ{i:Nat}{ws:List Nat}:D.cmp .In (.int i) (.tup (aA ws))=.ok (.bl (decide (i∈ws))):=by
 show(do let k<-D.inn (.int i) (.tup (aA ws));.ok (D.bl k))=_
 show(do let k<-aC (D.pls 30 (aA ws)&&D.pl 29 (.int i)) (.ok (D.mem (.int i) (aA ws)));.ok (D.bl k))=_
 rw[iS,oP];rfl
theorem JR(k:Nat)(s:Scene):D.pl (k+2) s.enc=true:=by
 show D.pls (k+2) [D.str s.name,.int s.len,.int s.pause,.tup (aA s.who)]=true
 simp only[D.pls,D.pl,iS,Ex,Eo]
theorem sC{α:Type}(f:α->D)(k:Nat)(h:∀a,D.pl k (f a)=true):∀xs:List α,D.pls (k+1) (xs.map f)=true
 |[]=>rfl
 |a::r=>by rw[aK,D.pls,h a,sC f k h r];rfl
@[simp] theorem pl_tup{n:Nat}{a:List D}:D.pl n (.tup a)=D.pls n a:=id rfl
@[simp] theorem xW{n:Nat}{a:List D}:D.pl n (.lst a)=D.pls n a:=id rfl
noncomputable def Scene.both(s:Scene):Int:=s.len+s.pause
noncomputable def eD(ss:List Scene)(s t:Nat):Int:=((ss[s]?).map Scene.pause).getD 0+(((ss.drop (s+1)).take (t-(s+1))).map Scene.both).sum
theorem JS(ss:List Scene)(s:Nat):eD ss s (s+1)=((ss[s]?).map Scene.pause).getD 0:=by unfold eD;simp
theorem take_add_one{α:Type}(l:List α)(n:Nat)(a:α)(h:l[n]?=some a):l.take (n+1)=l.take n++[a]:=by
 rw[List.take_add_one,h];rfl
theorem JT{ss:List Scene}{s t:Nat}{x:Scene}(h:s<t)(hx:ss[t]?=some x):eD ss s (t+1)=eD ss s t+x.both:=by
 unfold eD
 have e:(ss.drop (s+1))[t-(s+1)]?=some x:=by rw[List.getElem?_drop,show s+1+(t-(s+1))=t by lia];exact hx
 rw[show t+1-(s+1)=t-(s+1)+1 by lia,take_add_one _ _ _ e,iH,L5]
 simp
 lia
theorem cut_nn{α:Type}{xs:List α}{a b:Nat}(ha:a<=xs.length)(hb:b<=xs.length):cut xs (some (a:Int)) (some (b:Int))=(xs.drop a).take (b-a):=by
 unfold cut sIx
 simp only[]
 rw[if_neg (by lia),if_neg (by lia),lB,lB,mU ha,mU hb]
theorem xX{ss:List Scene}{s:Nat}{x:Scene}(h:ss[s]?=some x):D.ix (.tup (ss.map Scene.enc)) (.int s)=.ok x.enc:=hZ (by rw[bO,h];rfl)
theorem xY{ss:List Part}{s:Nat}{x:Part}(h:ss[s]?=some x):D.ix (.tup (ss.map Part.enc)) (.int s)=.ok x.enc:=hZ (by rw[bO,h];rfl)
@[simp] theorem enc1{s:Scene}:D.ix s.enc (.int 1)=.ok (.int s.len):=xU
@[simp] theorem enc2{s:Scene}:D.ix s.enc (.int 2)=.ok (.int s.pause):=D0
@[simp] theorem enc3{s:Scene}:D.ix s.enc (.int 3)=.ok (.tup (aA s.who)):=D1
@[simp] theorem penc2{s:Part}:D.ix s.enc (.int 2)=.ok (.int s.off):=D0
@[simp] theorem penc3{s:Part}:D.ix s.enc (.int 3)=.ok (.int s.on):=D1
end Tr
set_option maxRecDepth 100000
namespace Tr
open PySem
noncomputable def aJ(t:Nat):D:=.int (t:Int)
theorem JU(lo n:Nat):cG (lo:Int) n=(fT lo n).map aJ:=by
 rw[iR,List.range'_eq_map_range,bY]
 apply jC
 intro i _
 simp[aJ]
theorem lS{n:Nat}(h:n<=1000):hJ (.int (n:Int))=.ok ((aF n).map aJ):=by
 rw[kQ (by lia),iR]
 congr 1
 apply jC
 intro i _
 simp[aJ]
theorem D5{s m:Nat}(h:s<=1000)(h2:m<=1000):oO (.int ((s:Int)+1)) (.int (m:Int))=.ok ((fT (s+1) (m-(s+1))).map aJ):=by
 have:oO (.int ((s+1:Nat):Int)) (.int (m:Int))=_:=DW (by lia) (by lia)
 rw[JU]at this
 exact this
theorem JV{f:D->Nv->Res Out}(I:Nv->Prop)(g:Nat->Option (D×Bool))(ts:List Nat)(e:Nv)(h:I e)
 (st:∀t∈ts,∀e,I e->match g t with|some (x,k)=>f (aJ t) e=.ok (.rt x k)|none=>∃e',(f (aJ t) e=.ok (.nx e')\/f (aJ t) e=.ok (.ct e'))/\I e') :
 match ts.findSome? g with|some (x,k)=>aR f (ts.map aJ) e=.ok (.rt x k)|none=>∃e',aR f (ts.map aJ) e=.ok (.nx e')/\I e':=by
 induction ts generalizing e with
 |nil=>exact⟨e,rfl,h⟩
 |cons t r ih=>
  have h1:=st t bR e h
  rw[AJ,aK]
  cases hg:g t with
  |some y=>
   rw[hg]at h1
   exact xV h1
  |none=>
   rw[hg]at h1
   obtain⟨e',h2,h3⟩:=h1
   have eq:aR f (aJ t::r.map aJ) e=aR f (r.map aJ) e':=by
    rcases h2 with h2|h2
    ·exact dI h2
    ·exact D2 h2
   rw[eq]
   exact ih e' h3 λd' hd=>st d' (bG _ hd)
theorem D6{α β γ:Type}(h:α->Option β)(F:β->γ):∀l:List α,l.findSome? (λt=>(h t).map F)=(l.findSome? h).map F
 |[]=>rfl
 |a::r=>by
  rw[AJ,AJ]
  cases e:h a with
  |none=>simp[D6 h F r]
  |some b=>rfl
inductive Rz where
 |sc (s:Nat)|ch (s t:Nat) (have_ need:Int)
noncomputable def Rz.enc:Rz->D
 |.sc s=>.tup [.str "scene", .int s]
 |.ch s t h n=>.tup [.str "change", .int s,.int t,.int h,.int n]
noncomputable def iA:Option Rz->D
 |none=>.non
 |some r=>r.enc
@[simp] theorem isNon_optR{o:Option Rz}:(iA o).isNon=o.isNone:=by
 cases o with
 |none=>rfl
 |some r=>cases r<;>rfl
noncomputable def cP(ss:List Scene)(t:Nat):List Nat:=((ss[t]?).map Scene.who).getD []
noncomputable def fM(ps:List Part)(i j:Nat):Int:=((ps[i]?).map Part.off).getD 0+((ps[j]?).map Part.on).getD 0
noncomputable def lT(ps:List Part)(ss:List Scene)(s one other t:Nat):Option Rz:=
 if other∈cP ss t/\eD ss s t<fM ps one other then some (.ch s t (eD ss s t) (fM ps one other))else none
noncomputable def iT(ps:List Part)(ss:List Scene)(s one other:Nat):Option Rz:=(fT (s+1) (ss.length-(s+1))).findSome? (lT ps ss s one other)
noncomputable def iU(ps:List Part)(ss:List Scene)(i j s:Nat):Option Rz:=
 if i∈cP ss s/\j∈cP ss s then some (.sc s)else if i∈cP ss s then iT ps ss s i j else if j∈cP ss s then iT ps ss s j i else none
noncomputable def dS(ps:List Part)(ss:List Scene)(i j:Nat):Option Rz:=(aF ss.length).findSome? (iU ps ss i j)
noncomputable def gG(ss:List Scene)(k:Nat):Int:=((ss.take k).map Scene.both).sum
theorem D7{ss:List Scene}{k:Nat}{x:Scene}(h:ss[k]?=some x):gG ss (k+1)=gG ss k+x.both:=by
 unfold gG
 rw[take_add_one _ _ _ h,iH,L5]
 simp
theorem D8{ss:List Scene}{s:Nat}{x:Scene}(hx:ss[s]?=some x):∀{t:Nat},s<t->t<=ss.length->gG ss t-gG ss s-x.len=eD ss s t:=by
 intro t
 induction t with
 |zero=>intro h;lia
 |succ t ih=>
  intro h1 h2
  by_cases hs:s=t
  ·subst hs
   rw[D7 hx,JS,hx]
   simp[Scene.both]
   lia
  ·have hy:=bD (l:=ss) (i:=t) (by lia)
   rw[D7 hy,JT (by lia) hy,<-ih (by lia) (by lia)]
   lia
theorem sD{ss:List Scene}{s:Nat}(h:s<ss.length):cP ss s=ss[s].who:=by unfold cP;rw[bD h];rfl
theorem JW{ps:List Part}{i j:Nat}(h:i<ps.length)(h2:j<ps.length):fM ps i j=ps[i].off+ps[j].on:=by unfold fM;rw[bD h,bD h2];rfl
noncomputable def Rz.out(r:Rz):D×Bool:=(r.enc,false)
theorem D9{f:D->Nv->Res Out}{I:Nv->Prop}{g:Nat->Option Rz}{ts:List Nat}{e:Nv}(h:I e)
 (st:∀t∈ts,∀e,I e->match g t with|some r=>f (aJ t) e=.ok (.rt r.enc false)|none=>∃e',f (aJ t) e=.ok (.nx e')/\I e') :
 match ts.findSome? g with|some r=>aR f (ts.map aJ) e=.ok (.rt r.enc false)|none=>∃e',aR f (ts.map aJ) e=.ok (.nx e')/\I e':=by
 have:=JV (f:=f) I (λt=>(g t).map Rz.out) ts e h (by
  intro t ht e he
  have:=st t ht e he
  cases hg:g t with
  |none=>rw[hg]at this;obtain⟨e',h1,h2⟩:=this;exact⟨e',.inl h1,h2⟩
  |some r=>rw[hg]at this;exact this)
 rw[D6]at this
 cases hg:ts.findSome? g with
 |none=>rw[hg]at this;exact this
 |some r=>rw[hg]at this;exact this
end Tr
set_option maxRecDepth 100000
namespace Tr
open PySem
theorem D_(k j:Sum Int Str)(y:D):∀kvs:List (Sum Int Str×D),bB (kvs.map λkv=>if kv.1=k then(kv.1,y)else kv) j=(bB kvs j).map λx=>if j=k then y else x
 |[]=>rfl
 |(k',d)::r=>by
  have ih:=D_ k j y r
  rw[aK]
  unfold bB at ih⊢
  by_cases h1:k'=k<;>by_cases h2:k'=j
  ·subst h1;subst h2;simp[cJ]
  ·rw[if_pos h1]
   simp only[cJ,h2,decide_false,ih]
  ·have h3:j≠k:=λz=>h1 (h2.trans z)
   rw[if_neg h1]
   simp[cJ,h2,h3]
  ·rw[if_neg h1]
   simp only[cJ,h2,decide_false,ih]
theorem Da(k:Sum Int Str):∀kvs:List (Sum Int Str×D),(kvs.any λkv=>decide (kv.1=k))=(bB kvs k).isSome
 |[]=>rfl
 |(k',d)::r=>by
  have ih:=Da k r
  unfold bB at ih⊢
  by_cases h:k'=k
  ·simp[cJ,h]
  ·simp only[jV,cJ,h,decide_false,AB,ih]
theorem Dc(k j:Sum Int Str)(y:D):∀kvs:List (Sum Int Str×D),bB kvs k=none->bB (kvs++[(k,y)]) j=if j=k then some y else bB kvs j
 |[],_=>by
  by_cases h:k=j
  ·subst h;simp[bB,cJ]
  ·have h':¬j=k:=λz=>h z.symm
   simp[bB,cJ,h,h']
 |(k',d)::r,hn=>by
  have hk:¬k'=k:=λz=>by subst z;simp[bB,cJ]at hn
  have hn':bB r k=none:=by simpa[bB,cJ,hk]using hn
  have ih:=Dc k j y r hn'
  unfold bB at ih⊢
  by_cases h:k'=j
  ·have h':¬j=k:=λz=>hk (h.trans z)
   simp[cJ,h,h']
  ·simp only[L6,cJ,h,decide_false,ih]
theorem xZ(kvs:List (Sum Int Str×D))(k j:Sum Int Str)(y:D):bB (dE kvs k y) j=if j=k then some y else bB kvs j:=by
 unfold dE
 rw[Da]
 cases h:bB kvs k with
 |none=>
  rw[if_neg (by simp)]
  exact Dc k j y kvs h
 |some x=>
  rw[if_pos (by simp),D_]
  by_cases e:j=k
  ·subst e;rw[h];simp
  ·rw[if_neg e]
   cases bB kvs j<;>simp[e]
theorem cQ{α:Type}{f:D->Res (Option D)}(enc:α->D)(g:α->Option D):∀{xs:List α},(∀a∈xs,f (enc a)=.ok (g a))->aT f (xs.map enc)=.ok (xs.filterMap g)
 |[],_=>rfl
 |a::r,h=>by
  rw[aK,aT,h a bR,Res.ok_bind,cQ enc g λx hx=>h x (bG _ hx),Res.ok_bind,iF]
  cases g a<;>rfl
theorem JX{α:Type}{f:D->Res (Option D)}(enc:α->D)(p:α->Bool){xs:List α}(h:∀a∈xs,f (enc a)=.ok (if p a=true then some (enc a)else none)):aT f (xs.map enc)=.ok ((xs.filter p).map enc):=by
 rw[cQ enc (λa=>if p a=true then some (enc a)else none) h]
 congr 1
 induction xs with
 |nil=>rfl
 |cons a r ih=>
  rw[iF,jD,ih λx hx=>h x (bG _ hx)]
  cases p a<;>rfl
noncomputable def eZ(p:Nat×Nat):D:=.tup [.int p.1,.int p.2]
noncomputable def iV(many i:Nat):List (Nat×Nat):=(fT (i+1) (many-(i+1))).map λj=>(i,j)
noncomputable def eP(many:Nat):Nat->List (Nat×Nat)
 |0=>[]
 |k+1=>eP many k++iV many k
noncomputable def sE(many:Nat):List (Nat×Nat):=eP many many
theorem JY{many i:Nat}{p:Nat×Nat}(h:p∈iV many i):p.1=i/\i<p.2/\p.2<many:=by
 obtain⟨j,hj,rfl⟩:=bS.mp h
 have:=pQ.mp hj
 exact⟨rfl,by lia,by lia⟩
theorem yA{many:Nat}{p:Nat×Nat}:∀{k:Nat},p∈eP many k->p.1<p.2/\p.2<many
 |0,h=>by simp[eP]at h
 |k+1,h=>by
  rcases fQ.mp h with q|q
  ·exact yA q
  ·have:=JY q;lia
theorem yB(many:Nat):∀k,(eP many k).length<=k*many
 |0=>by simp[eP]
 |k+1=>by
  have:=yB many k
  rw[eP,cE,iV,aE,L7,Nat.succ_mul]
  lia
noncomputable def kR(ss:List Scene)(t:Nat):Int:=((ss[t]?).map Scene.len).getD 0
noncomputable def Dd(ss:List Scene)(one:Nat):Nat->Option Int
 |0=>none
 |k+1=>if one∈cP ss k then some (gG ss k+kR ss k)else Dd ss one k
noncomputable def De(ps:List Part)(ss:List Scene)(one other t:Nat):Bool:=
 decide (other∈cP ss t)&&(match Dd ss one t with|some e=>decide (gG ss t-e<fM ps one other)|none=>false)
noncomputable def hit(ps:List Part)(ss:List Scene)(i j t:Nat):Bool:=(decide (i∈cP ss t)&&decide (j∈cP ss t))||De ps ss i j t||De ps ss j i t
theorem JZ{ss:List Scene}(g:∀s∈ss,0<=s.len/\0<=s.pause){s t:Nat}(h:s<t)(ht:t<=ss.length):gG ss s+kR ss s<=gG ss t:=by
 have hs:s<ss.length:=by lia
 have hx:=bD hs
 have e:=D8 hx h ht
 have hl:kR ss s=ss[s].len:=by unfold kR;rw[hx];rfl
 have hb:0<=eD ss s t:=by
  unfold eD
  rw[hx]
  have h1:=(g ss[s] (fF hs)).2
  have h2:0<=(((ss.drop (s+1)).take (t-(s+1))).map Scene.both).sum:=by
   have:∀l:List Scene,(∀x∈l,0<=x.len/\0<=x.pause)->0<=(l.map Scene.both).sum:=by
    intro l
    induction l with
    |nil=>intro _;simp
    |cons x r ih=>
     intro h
     have a:=h x bR
     have b:=ih λy hy=>h y (bG _ hy)
     rw[aK,List.sum_cons]
     unfold Scene.both at *
     lia
   exact this _ λx hx=>g x (L8 (AK hx))
  simp only[Option.map_some,Option.getD_some]
  lia
 lia
theorem J0{ss:List Scene}{s t:Nat}(h:s<t)(ht:t<=ss.length):eD ss s t=gG ss t-(gG ss s+kR ss s):=by
 have hx:=bD (l:=ss) (i:=s) (by lia)
 have e:=D8 hx h ht
 have hl:kR ss s=(ss[s]'(by lia)).len:=by unfold kR;rw[hx];rfl
 lia
theorem Dg{α β:Type}{f:α->Option β}{l:List α}:(l.findSome? f).isSome=l.any λa=>(f a).isSome:=by
 induction l with
 |nil=>rfl
 |cons a r ih=>
  rw[AJ,jV]
  cases f a<;>simp[ih]
theorem short_some{ps:List Part}{ss:List Scene}{s i j:Nat}:(iT ps ss s i j).isSome=true↔∃t,s<t/\t<ss.length/\j∈cP ss t/\eD ss s t<fM ps i j:=by
 unfold iT
 rw[Dg,pR]
 constructor
 ·rintro⟨t,h1,h2⟩
  have:=pQ.mp h1
  unfold lT at h2
  split at h2
  ·rename_i c;exact⟨t,by lia,by lia,c.1,c.2⟩
  ·cases h2
 ·rintro⟨t,h1,h2,h3,h4⟩
  refine⟨t,pQ.mpr ⟨by lia,by lia⟩,?_⟩
  unfold lT
  rw[if_pos ⟨h3,h4⟩];rfl
theorem from_some{ps:List Part}{ss:List Scene}{s i j:Nat}:(iU ps ss i j s).isSome=true↔(i∈cP ss s/\j∈cP ss s)\/(i∈cP ss s/\(iT ps ss s i j).isSome=true/\¬j∈cP ss s)\/(j∈cP ss s/\(iT ps ss s j i).isSome=true/\¬i∈cP ss s):=by
 unfold iU
 by_cases h1:i∈cP ss s<;>by_cases h2:j∈cP ss s<;>simp[h1,h2]
theorem J1{ps:List Part}{ss:List Scene}{i j:Nat}:(dS ps ss i j).isSome=true↔∃s,s<ss.length/\(iU ps ss i j s).isSome=true:=by
 unfold dS
 rw[Dg,pR]
 constructor
 ·rintro⟨s,h1,h2⟩;exact⟨s,by simpa using h1,h2⟩
 ·rintro⟨s,h1,h2⟩;exact⟨s,by simpa using h1,h2⟩
theorem Dh{ps:List Part}{ss:List Scene}(g:∀s∈ss,0<=s.len/\0<=s.pause)(hp:∀p∈ps,p.off=0/\p.on=0)(i j:Nat):(dS ps ss i j).isSome=ss.any λs=>decide (i∈s.who)&&decide (j∈s.who):=by
 have need0:∀i j,fM ps i j=0:=by
  intro i j
  unfold fM
  have a:((ps[i]?).map Part.off).getD 0=0:=by
   cases e:ps[i]? with
   |none=>rfl
   |some p=>exact(hp p (jA e)).1
  have b:((ps[j]?).map Part.on).getD 0=0:=by
   cases e:ps[j]? with
   |none=>rfl
   |some p=>exact(hp p (jA e)).2
  lia
 have noshort:∀s i j,(iT ps ss s i j).isSome=true->False:=by
  intro s i j h
  obtain⟨t,h1,h2,h3,h4⟩:=short_some.mp h
  rw[need0,J0 h1 (by lia)]at h4
  have:=JZ g h1 (by lia)
  lia
 rw[Bool.eq_iff_iff,J1,pR]
 constructor
 ·rintro⟨s,h1,h2⟩
  rcases from_some.mp h2 with h|⟨_,h',_⟩|⟨_,h',_⟩
  ·refine⟨ss[s],fF h1,?_⟩
   rw[sD h1]at h
   rw[decide_eq_true h.1,decide_eq_true h.2];rfl
  ·exact(noshort _ _ _ h').elim
  ·exact(noshort _ _ _ h').elim
 ·rintro⟨x,h1,h2⟩
  obtain⟨s,hs,rfl⟩:=List.getElem_of_mem h1
  refine⟨s,hs,from_some.mpr (.inl ?_)⟩
  rw[sD hs]
  simpa using h2
end Tr
set_option maxRecDepth 100000
namespace Tr
open PySem
noncomputable def hasC(g:Str)(c:Nat):Bool:=decide (c∈g.cps.toList)
noncomputable def dJ(x:Str):List Nat:=x.cps.toList
@[simp] theorem Lh(x:Str):Bt.run .len [.str x]=aC (decide (x.length<=big)) (.ok (.int x.length)):=id rfl
theorem sF(x:Str):x.length=(dJ x).length:=by cases x;simp[Str.length,dJ]
section
variable{T:Tab}
@[simp] theorem fresh_and{a b:E}:bE T (.and a b)=false:=id rfl
@[simp] theorem fresh_mod{a b:E}:bE T (.bin .Mod a b)=false:=id rfl
@[simp] theorem fresh_con{d:D}:bE T (.con d)=false:=id rfl
@[simp] theorem fresh_var{i:Nat}:bE T (.var i)=false:=id rfl
@[simp] theorem fresh_tup{a:E}:bE T (.tup a)=false:=id rfl
end
theorem Di(x y:Str):D.cmp .Eq (.str x) (.str y)=.ok (.bl (x==y)):=rfl
theorem Dj{x y:Str}(h:dJ x=dJ y):x=y:=by
 cases x;cases y
 simp only[dJ]at h
 congr 1
 exact LX.mp h
theorem lU{α:Type}{xs:List α}{k:Nat}{x:α}(h:xs[k]?=some x):atI xs (k:Int)=some x:=by
 have hk:=(eT.mp h).1
 unfold atI ixN
 rw[if_pos (by lia),if_pos (by lia)]
 exact h
@[simp] theorem ix_lst2{a b c:D}{r:List D}:(D.lst (a::b::c::r)).ix (.int 2)=.ok c:=by
 show Res.of (atI _ ((2:Nat):Int))=_
 rw[lU (x:=c) rfl];rfl
@[simp] theorem ix_lst3{a b c d:D}{r:List D}:(D.lst (a::b::c::d::r)).ix (.int 3)=.ok d:=by
 show Res.of (atI _ ((3:Nat):Int))=_
 rw[lU (x:=d) rfl];rfl
@[simp] theorem ix_lst4{a b c d f:D}{r:List D}:(D.lst (a::b::c::d::f::r)).ix (.int 4)=.ok f:=by
 show Res.of (atI _ ((4:Nat):Int))=_
 rw[lU (x:=f) rfl];rfl
theorem sG{α:Type}{xs:List α}{a:Nat}(ha:a<=xs.length):cut xs (some (a:Int)) none=xs.drop a:=by
 unfold cut sIx
 simp only[]
 rw[if_neg (by lia),lB,mU ha,mR (by simp)]
theorem Dl{a b:List Nat}(h:a.length+b.length<=big):D.bin .Add (.str ⟨a.toArray⟩) (.str ⟨b.toArray⟩)=.ok (.str ⟨(a++b).toArray⟩):=by
 show aC (decide ((⟨a.toArray⟩:Str).length+(⟨b.toArray⟩:Str).length<=big)) (.ok (D.str ((⟨a.toArray⟩:Str)++(⟨b.toArray⟩:Str))))=_
 rw[show decide ((⟨a.toArray⟩:Str).length+(⟨b.toArray⟩:Str).length<=big)=true by
  rw[sF,sF];simp only[dJ,List.toList_toArray];exact decide_eq_true h]
 refine congrArg (λz=>Res.ok (D.str z)) (Dj ?_)
 show(a.toArray++b.toArray).toList=(a++b).toArray.toList
 simp
theorem sH{α:Type}{xs:List α}{b:Nat}(hb:b<=xs.length):cut xs none (some (b:Int))=xs.take b:=by
 unfold cut sIx
 simp only[]
 rw[if_neg (by lia),lB,mU hb,uM,pN]
theorem Dm{a b:List D}(h:a.length+b.length<=big):D.bin .Add (.lst a) (.lst b)=.ok (.lst (a++b)):=by
 show aC (decide (a.length+b.length<=big)) (.ok (D.lst (a++b)))=_
 rw[show decide (a.length+b.length<=big)=true by simpa using h]
 rfl
noncomputable def fA{α:Type}(c:Int)(l:List α):List α:=l.drop (c%((l.length:Int)+1)).toNat++l.take (c%((l.length:Int)+1)).toNat
theorem Dn{α:Type}(c:Int)(l:List α):(c%((l.length:Int)+1)).toNat<=l.length:=by
 have:=AL c (show(0:Int)<(l.length:Int)+1 by lia)
 lia
theorem Do{α:Type}{c:Int}{l:List α}{x:α}:x∈fA c l↔x∈l:=by
 unfold fA
 rw[fQ]
 constructor
 ·rintro(h|h)
  ·exact L8 h
  ·exact AK h
 ·intro h
  rw[<-L9 (c%((l.length:Int)+1)).toNat l,fQ]at h
  exact h.symm
theorem Dp{α:Type}(c:Int)(l:List α):(fA c l).Perm l:=by
 unfold fA
 refine(List.perm_append_comm).trans ?_
 rw[L9]
theorem Dq{α β:Type}(f:α->β)(c:Int)(l:List α):fA c (l.map f)=(fA c l).map f:=by
 unfold fA
 rw[aE,iH,uP,pS]
@[simp] theorem ix_lst5{a b c d f g:D}{r:List D}:(D.lst (a::b::c::d::f::g::r)).ix (.int 5)=.ok g:=by
 show Res.of (atI _ ((5:Nat):Int))=_
 rw[lU (x:=g) rfl];rfl
@[simp] theorem ix_lst6{a b c d f g h:D}{r:List D}:(D.lst (a::b::c::d::f::g::h::r)).ix (.int 6)=.ok h:=by
 show Res.of (atI _ ((6:Nat):Int))=_
 rw[lU (x:=h) rfl];rfl
@[simp] theorem ix_lst7{a b c d f g h i:D}{r:List D}:(D.lst (a::b::c::d::f::g::h::i::r)).ix (.int 7)=.ok i:=by
 show Res.of (atI _ ((7:Nat):Int))=_
 rw[lU (x:=i) rfl];rfl
noncomputable def ent(p:Str×List D):D:=.tup (.str p.1::p.2)
end Tr
set_option maxRecDepth 100000
namespace Tr
open PySem
set_option genInjectivity false in
structure Player where
 name:Str
 voices:Str
 hire:Int
noncomputable def Player.enc(p:Player):D:=.tup [.str p.name,.str p.voices,.int p.hire]
@[simp] theorem qenc1{s:Player}:D.ix s.enc (.int 1)=.ok (.str s.voices):=xU
@[simp] theorem penc1{s:Part}:D.ix s.enc (.int 1)=.ok (.str s.voice):=xU
theorem qs_at{ss:List Player}{s:Nat}{x:Player}(h:ss[s]?=some x):D.ix (.tup (ss.map Player.enc)) (.int s)=.ok x.enc:=hZ (by rw[bO,h];rfl)
noncomputable def bU:Option Nat->D
 |none=>.non
 |some j=>.int (j:Int)
@[simp] theorem optN_none:bU none=.non:=id rfl
@[simp] theorem J3{j:Nat}:bU (some j)=.int (j:Int):=id rfl
noncomputable def kS(p:Part)(q:Player):Bool:=match dJ p.voice with
 |[c]=>hasC q.voices c
 |_=>false
theorem J4{p:Part}{q:Player}(h:(dJ p.voice).length=1):D.cmp .NotIn (.str p.voice) (.str q.voices)=.ok (.bl (!kS p q)):=by
 obtain⟨c,hc⟩:∃c,dJ p.voice=[c]:=List.length_eq_one_iff.mp h
 have e:p.voice=gP c:=Dj (by rw[hc];rfl)
 unfold kS
 rw[hc]
 rw[e]
 rfl
noncomputable def lV(P:List Part)(Q:List Player)(k j:Nat):Bool:=((P[k]?).bind λp=>(Q[j]?).map λq=>kS p q).getD false
theorem yC{P:List Part}{Q:List Player}{k j:Nat}(hk:k<P.length)(hj:j<Q.length):lV P Q k j=kS P[k] Q[j]:=by
 unfold lV;rw[bD hk,bD hj];rfl
theorem cast_at{cs:List (Option Nat)}{k:Nat}{o:Option Nat}(h:cs[k]?=some o):D.ix (.lst (cs.map bU)) (.int k)=.ok (bU o):=hV (by rw[bO,h];rfl)
theorem J5(o:Option Nat)(j:Nat):D.cmp .Eq (bU o) (.int j)=.ok (.bl (decide (o=some j))):=by
 cases o with
 |none=>rfl
 |some i=>
  show Res.ok (D.bl ((i:Int)==(j:Int)))=_
  by_cases h:i=j
  ·subst h;simp
  ·rw[show((i:Int)==(j:Int))=false by simp;lia];simp[h]
theorem J6(o o':Option Nat):D.cmp .Eq (bU o) (bU o')=.ok (.bl (decide (o=o'))):=by
 cases o' with
 |none=>cases o<;>rfl
 |some j=>exact J5 o j
theorem yD{xs:List D}(h:D.pls 30 xs=true):D.cmp .Eq (.tup xs) (.tup [])=.ok (.bl xs.isEmpty):=by
 show aC (D.eqOk _ _) (.ok (D.bl (D.eqb (.tup xs) (.tup []))))=_
 rw[bJ (by unfold D.eqOk;rw[pl_tup,h];rfl)]
 cases xs<;>rfl
inductive Flt where
 |nob (i:Nat)|voi (i k:Nat)|cla (i j:Nat)
noncomputable def Flt.enc:Flt->D
 |.nob i=>.tup [.str "nobody", .int i]
 |.voi i k=>.tup [.str "voice", .int i,.int k]
 |.cla i j=>.tup [.str "clash", .int i,.int j]
noncomputable def eQ:Option Flt->D
 |none=>.non
 |some x=>x.enc
@[simp] theorem isNon_optF{o:Option Flt}:(eQ o).isNon=o.isNone:=by
 cases o with
 |none=>rfl
 |some x=>cases x<;>rfl
theorem flt_pl(k:Nat)(x:Flt):D.pl (k+1) x.enc=true:=by
 cases x<;>simp only[Flt.enc,D.pls,D.pl,Ex,Eo]
noncomputable def dU(P:List Part)(Q:List Player)(cs:List (Option Nat))(k:Nat):Option Flt:=match cs.getD k none with
 |none=>some (.nob k)
 |some j=>if lV P Q k j=true then none else some (.voi k j)
noncomputable def eR(cs:List (Option Nat))(i j:Nat):Bool:=(cs.getD i none).isSome&&decide (cs.getD i none=cs.getD j none)
noncomputable def iB(P:List Part)(Q:List Player)(ps:List (Nat×Nat))(cs:List (Option Nat)):List Flt:=
 (aF cs.length).filterMap (dU P Q cs)++(ps.filter λp=>eR cs p.1 p.2).map λp=>.cla p.1 p.2
theorem Dr{α:Type}(f:α->D)(x:α):∀(cs:List α)(j:Nat),dB (j:Int) (cs.map f)=(aF cs.length).map (λk=>D.tup [.int ((j+k:Nat):Int),f (cs.getD k x)])
 |[],_=>rfl
 |c::r,j=>by
  rw[aK,dB,aX,AC,aK,bY]
  have h:=Dr f x r (j+1)
  rw[show((j+1:Nat):Int)=(j:Int)+1 by push_cast;rfl]at h
  rw[h]
  congr 1
  apply jC
  intro k _
  simp only[Function.comp,List.getD_cons_succ]
  congr 4
  lia
theorem Ds{cs:List (Option Nat)}{k:Nat}(h:k<cs.length):cs[k]?=some (cs.getD k none):=by
 rw[gM,bD h];rfl
theorem Dt{cs:List (Option Nat)}{k:Nat}(h:k<cs.length):D.ix (.lst (cs.map bU)) (.int k)=.ok (bU (cs.getD k none)):=cast_at (Ds h)
noncomputable def Flt.names(p:Nat):Flt->Bool
 |.nob i=>i==p
 |.voi i _=>i==p
 |.cla i j=>i==p||j==p
end Tr
set_option maxRecDepth 100000
namespace Tr
open PySem
end Tr
set_option maxRecDepth 100000
namespace Tr
open PySem
theorem Du{many i j:Nat}:∀{k:Nat},i<k->i<j->j<many->(i,j)∈eP many k
 |0,h,_,_=>by lia
 |k+1,h,h1,h2=>by
  rw[eP,fQ]
  by_cases e:i=k
  ·subst e
   exact .inr (bS.mpr ⟨j,pQ.mpr (by lia),rfl⟩)
  ·exact .inl (Du (by lia) h1 h2)
theorem J8{many i j:Nat}(h1:i<j)(h2:j<many):(i,j)∈sE many:=Du (by lia) h1 h2
end Tr
set_option maxRecDepth 100000
namespace Tr
open PySem
noncomputable def aN(c:List (Nat×Nat))(p:Nat):Option Nat:=(c.find? λx=>x.1==p).map (·.2)
noncomputable def cW(c:List (Nat×Nat))(p g:Nat):List (Nat×Nat):=if(c.any λx=>x.1==p)=true then c.map (λx=>if x.1=p then(x.1,g)else x)else c++[(p,g)]
noncomputable def fcL(rec:Nat->List (Nat×Nat)->List Nat->Option (Bool×List (Nat×Nat)×List Nat))(gap:Nat):List Nat->List (Nat×Nat)->List Nat->Option (Bool×List (Nat×Nat)×List Nat)
 |[],c,a=>some (false,c,a)
 |p::r,c,a=>if p∈a then fcL rec gap r c a else
  match aN c p with
  |none=>some (true,cW c p gap,a++[p])
  |some g=>match rec g c (a++[p])with
   |some (true,c',a')=>some (true,cW c' p gap,a')
   |some (false,c',a')=>fcL rec gap r c' a'
   |none=>none
noncomputable def fc(ch:Nat->List Nat):Nat->Nat->List (Nat×Nat)->List Nat->Option (Bool×List (Nat×Nat)×List Nat)
 |0,_,_,_=>none
 |n+1,gap,c,a=>fcL (fc ch n) gap (ch gap) c a
theorem getA_none{c:List (Nat×Nat)}{p:Nat}:aN c p=none↔p∉c.map (·.1):=by
 unfold aN
 rw[Option.map_eq_none_iff,List.find?_eq_none]
 constructor
 ·intro h hm
  obtain⟨x,hx,e⟩:=bS.mp hm
  exact h x hx (by simpa using e)
 ·intro h x hx e
  exact h (bS.mpr ⟨x,hx,by simpa using e⟩)
theorem fN:∀{l U:List Nat},l.Nodup->(∀x∈l,x∈U)->l.length<=U.length
 |[],_,_,_=>jW _
 |a::r,U,h,hs=>by
  rw[iG]at h
  have ha:=hs a bR
  have:=fN (l:=r) (U:=U.erase a) h.2 λx hx=>(List.mem_erase_of_ne (λe:x=a=>h.1 (e▸hx))).mpr (hs x (bG _ hx))
  have l:=List.length_erase_of_mem ha
  have:=List.length_pos_of_mem ha
  rw[aX];lia
theorem J9{c:List (Nat×Nat)}{p g:Nat}(h:aN c p=some g):(p,g)∈c:=by
 unfold aN at h
 obtain⟨x,hx,rfl⟩:=LW.mp h
 have h1:=List.mem_of_find?_eq_some hx
 have h2:=List.find?_some hx
 have:x.1=p:=by simpa using h2
 rw[<-this];exact h1
theorem any_key{c:List (Nat×Nat)}{p:Nat}:(c.any λx=>x.1==p)=true↔p∈c.map (·.1):=by
 rw[pR,bS]
 simp
theorem Dv{c:List (Nat×Nat)}{p g:Nat}:(cW c p g).map (·.1)=if p∈c.map (·.1)then c.map (·.1)else c.map (·.1)++[p]:=by
 unfold cW
 by_cases h:p∈c.map (·.1)
 ·rw[if_pos (any_key.mpr h),if_pos h,bY]
  apply jC
  intro x _
  show(if x.1=p then(x.1,g)else x).1=x.1
  split<;>rfl
 ·rw[if_neg (λz=>h (any_key.mp z)),if_neg h,iH];rfl
theorem jO{x:Nat×Nat}{c:List (Nat×Nat)}{p:Nat}:aN (x::c) p=if x.1=p then some x.2 else aN c p:=by
 unfold aN
 rw[cJ]
 by_cases h:x.1=p
 ·rw[if_pos h,show(x.1==p)=true by simpa using h];rfl
 ·rw[if_neg h,show(x.1==p)=false by simpa using h]
theorem J_{c d:List (Nat×Nat)}{p:Nat}:aN (c++d) p=(aN c p).or (aN d p):=by
 induction c with
 |nil=>simp[aN]
 |cons x c ih=>
  rw[L6,jO,jO,ih]
  split<;>simp
theorem Ja{c:List (Nat×Nat)}{p g q:Nat}:aN (c.map λx=>if x.1=p then(x.1,g)else x) q=if q=p then(aN c p).map (λ_=>g)else aN c q:=by
 induction c with
 |nil=>simp[aN]
 |cons x c ih=>
  rw[aK,jO,jO,jO,ih]
  by_cases hx:x.1=p
  ·simp only[hx,if_true]
   by_cases hq:q=p
   ·subst hq;simp
   ·have hq':¬p=q:=λe=>hq e.symm
    simp[hq,hq']
  ·simp only[hx,if_false]
   by_cases hq:q=p
   ·subst hq;simp[hx]
   ·simp[hq]
theorem yE{c:List (Nat×Nat)}{p g q:Nat}:aN (cW c p g) q=if q=p then some g else aN c q:=by
 unfold cW
 by_cases h:p∈c.map (·.1)
 ·rw[if_pos (any_key.mpr h),Ja]
  by_cases hq:q=p
  ·rw[if_pos hq,if_pos hq]
   cases e:aN c p with
   |none=>exact absurd h (getA_none.mp e)
   |some z=>rfl
  ·rw[if_neg hq,if_neg hq]
 ·rw[if_neg (λz=>h (any_key.mp z)),J_,jO]
  by_cases hq:q=p
  ·subst hq
   rw[if_pos rfl,if_pos rfl,getA_none.mpr h];rfl
  ·rw[if_neg (λe=>hq e.symm),if_neg hq]
   cases aN c q<;>simp[aN]
noncomputable def eK(c:List (Nat×Nat))(g:Nat):Nat:=(c.filter λx=>x.2==g).length
theorem Jb{c:List (Nat×Nat)}(hd:(c.map (·.1)).Nodup){p g0 g:Nat}(h:aN c p=some g0)(q:Nat) :
 eK (c.map λx=>if x.1=p then(x.1,g)else x) q+(if g0=q then 1 else 0)=eK c q+if g=q then 1 else 0:=by
 induction c with
 |nil=>simp[aN]at h
 |cons x c ih=>
  rw[aK,iG]at hd
  rw[jO]at h
  by_cases hx:x.1=p
  ·rw[if_pos hx]at h
   cases h
   have same:c.map (λx=>if x.1=p then(x.1,g)else x)=c:=by
    refine(jC λy hy=>?_).trans (List.map_id c)
    have:y.1≠p:=λe=>hd.1 (by rw[hx,<-e];exact List.mem_map_of_mem hy)
    rw[if_neg this];rfl
   rw[aK,same,if_pos hx]
   unfold eK
   rw[jD,jD]
   by_cases a:x.2=q<;>by_cases b:g=q<;>simp[a,b]
  ·rw[if_neg hx]at h
   have:=ih hd.2 h
   rw[aK,if_neg hx]
   unfold eK at this⊢
   rw[jD,jD]
   by_cases a:x.2=q
   ·simp only[a,beq_self_eq_true,if_true,aX];lia
   ·simp only[show(x.2==q)=false by simpa using a,AE,if_false];exact this
theorem Jc{c:List (Nat×Nat)}{p g:Nat}(h:aN c p=none)(q:Nat):eK (cW c p g) q=eK c q+if g=q then 1 else 0:=by
 unfold cW
 rw[if_neg (λz=>getA_none.mp h (any_key.mp z))]
 unfold eK
 rw[L_,cE]
 congr 1
 by_cases a:g=q<;>simp[a]
theorem Jd{c:List (Nat×Nat)}(hd:(c.map (·.1)).Nodup){p g0 g:Nat}(h:aN c p=some g0)(q:Nat):eK (cW c p g) q+(if g0=q then 1 else 0)=eK c q+if g=q then 1 else 0:=by
 unfold cW
 rw[if_pos (any_key.mpr (Classical.byContradiction λz=>by rw[getA_none.mpr z]at h;cases h))]
 exact Jb hd h q
theorem Dw{c:List (Nat×Nat)}(hd:(c.map (·.1)).Nodup)(p g:Nat):((cW c p g).map (·.1)).Nodup:=by
 rw[Dv]
 split
 ·exact hd
 ·rename_i h
  rw[uQ]
  refine⟨hd,by simp,λx hx y hy e=>?_⟩
  rw[cS.mp hy]at e
  exact h (e▸hx)
noncomputable def OkA(ch:Nat->List Nat)(c:List (Nat×Nat)):Prop:=(c.map (·.1)).Nodup/\∀p g,aN c p=some g->p∈ch g
theorem OkA.put{ch:Nat->List Nat}{c:List (Nat×Nat)}(h:OkA ch c){p g:Nat}(hp:p∈ch g):OkA ch (cW c p g):=by
 refine⟨Dw h.1 p g,λq k e=>?_⟩
 rw[yE]at e
 split at e
 ·rename_i z
  cases e
  rw[z];exact hp
 ·exact h.2 q k e
structure Won(ch:Nat->List Nat)(gap:Nat)(c:List (Nat×Nat))(a:List Nat)(c':List (Nat×Nat))(a':List Nat):Prop where
 ok:OkA ch c'
 keep:∀p∈a,aN c' p=aN c p
 cnt:∀q,eK c' q=eK c q+if gap=q then 1 else 0
structure Lost(ch:Nat->List Nat)(gap:Nat)(xs:List Nat)(c:List (Nat×Nat))(a:List Nat)(c':List (Nat×Nat))(a':List Nat):Prop where
 same:c'=c
 sub:∀p∈a,p∈a'
 nd:a.Nodup->a'.Nodup
 all:∀p∈xs,p∈a'
 new:∀p∈a',p∉a->(∃g,aN c p=some g/\∀q∈ch g,q∈a')/\(p∈xs\/∃q g,q∈a'/\q∉a/\aN c q=some g/\p∈ch g)
theorem yF{ch:Nat->List Nat}{rec:Nat->List (Nat×Nat)->List Nat->Option (Bool×List (Nat×Nat)×List Nat)}
 (ih:∀g c a b c' a',OkA ch c->rec g c a=some (b,c',a')->if b=true then Won ch g c a c' a' else Lost ch g (ch g) c a c' a') (gap:Nat) :
 ∀(xs:List Nat)(c:List (Nat×Nat))(a:List Nat)(b:Bool)(c':List (Nat×Nat))(a':List Nat),(∀p∈xs,p∈ch gap)->OkA ch c->fcL rec gap xs c a=some (b,c',a')->if b=true then Won ch gap c a c' a' else Lost ch gap xs c a c' a'
 |[],c,a,b,c',a',_,ok,h=>by
  cases h
  rw[if_neg aP]
  exact⟨rfl,λp hp=>hp,λh=>h,λp hp=>(by cases hp),λp hp hn=>absurd hp hn⟩
 |p::r,c,a,b,c',a',hx,ok,h=>by
  have hr:∀q∈r,q∈ch gap:=λq hq=>hx q (bG _ hq)
  have hp:=hx p bR
  rw[fcL]at h
  by_cases pa:p∈a
  ·rw[if_pos pa]at h
   have:=yF ih gap r c a b c' a' hr ok h
   cases b with
   |true=>exact this
   |false=>
    rw[if_neg aP]at this⊢
    exact⟨this.same,this.sub,this.nd,λq hq=>by
     rcases aY.mp hq with rfl|hq
     ·exact this.sub _ pa
     ·exact this.all q hq,λq hq hn=>⟨(this.new q hq hn).1,(this.new q hq hn).2.imp (bG _) id⟩⟩
  ·rw[if_neg pa]at h
   cases e:aN c p with
   |none=>
    rw[e]at h
    cases h
    rw[if_pos rfl]
    exact⟨ok.put hp,λq hq=>by rw[yE,if_neg (λz:q=p=>pa (z▸hq))],λq=>Jc e q⟩
   |some g=>
    rw[e]at h
    dsimp only at h
    cases e2:rec g c (a++[p])with
    |none=>rw[e2]at h;cases h
    |some z=>
     obtain⟨b1,c1,a1⟩:=z
     rw[e2]at h
     have i:=ih g c (a++[p]) b1 c1 a1 ok e2
     cases b1 with
     |true=>
      rw[if_pos rfl]at i
      cases h
      rw[if_pos rfl]
      have gp:aN c1 p=some g:=by rw[i.keep p (by simp),e]
      refine⟨i.ok.put hp,λq hq=>?_,λq=>?_⟩
      ·rw[yE,if_neg (λz:q=p=>pa (z▸hq)),i.keep q (by simp[hq])]
      ·have h1:=Jd i.ok.1 (g:=gap) gp q
       have h2:=i.cnt q
       lia
     |false=>
      rw[if_neg aP]at i
      dsimp only at h
      obtain⟨rfl,i2,i3,i4,i5⟩:=i
      have j:=yF ih gap r c1 a1 b c' a' hr ok h
      have pin:p∈a1:=i2 p (by simp)
      cases b with
      |true=>
       rw[if_pos rfl]at j⊢
       exact⟨j.ok,λq hq=>j.keep q (i2 q (by simp[hq])),j.cnt⟩
      |false=>
       rw[if_neg aP]at j⊢
       obtain⟨j1,j2,j3,j4,j5⟩:=j
       refine⟨j1,λq hq=>j2 q (i2 q (by simp[hq])),λnd=>j3 (i3 ?_),λq hq=>?_,λq hq hn=>?_⟩
       ·rw[uQ]
        exact⟨nd,by simp,λx hx y hy e=>pa (by rw[cS.mp hy]at e;exact e▸hx)⟩
       ·rcases aY.mp hq with rfl|hq
        ·exact j2 _ pin
        ·exact j4 q hq
       ·by_cases q1:q∈a1
        ·by_cases qp:q=p
         ·subst qp
          exact⟨⟨g,e,λy hy=>j2 y (i4 y hy)⟩,.inl bR⟩
         ·obtain⟨⟨k,k1,k2⟩,k3⟩:=i5 q q1 (by simp[hn,qp])
          refine⟨⟨k,k1,λy hy=>j2 y (k2 y hy)⟩,.inr ?_⟩
          rcases k3 with k3|⟨y,z,y1,y2,y3,y4⟩
          ·exact⟨p,g,j2 p pin,pa,e,k3⟩
          ·exact⟨y,z,j2 y y1,λya=>y2 (by simp[ya]),y3,y4⟩
        ·obtain⟨k1,k3⟩:=j5 q hq q1
         refine⟨k1,?_⟩
         rcases k3 with k3|⟨y,z,y1,y2,y3,y4⟩
         ·exact .inl (bG _ k3)
         ·exact .inr ⟨y,z,y1,λya=>y2 (i2 y (by simp[ya])),y3,y4⟩
theorem yG(ch:Nat->List Nat):∀(n g:Nat)(c:List (Nat×Nat))(a:List Nat)(b:Bool)(c':List (Nat×Nat))(a':List Nat),OkA ch c->fc ch n g c a=some (b,c',a')->if b=true then Won ch g c a c' a' else Lost ch g (ch g) c a c' a'
 |0,_,_,_,_,_,_,_,h=>by cases h
 |n+1,g,c,a,b,c',a',ok,h=>yF (yG ch n) g (ch g) c a b c' a' (λ_ h=>h) ok h
theorem yH{ch:Nat->List Nat}{U:List Nat}{n:Nat}(hU:∀g,∀p∈ch g,p∈U)
 (ih:∀g c a,OkA ch c->a.Nodup->(∀p∈a,p∈U)->U.length<a.length+n->∃r,fc ch n g c a=some r) (gap:Nat) :
 ∀(xs:List Nat)(c:List (Nat×Nat))(a:List Nat),(∀p∈xs,p∈ch gap)->OkA ch c->a.Nodup->(∀p∈a,p∈U)->U.length<a.length+1+n->(∀p∈xs,p∉a->U.length<a.length+1+n)->∃r,fcL (fc ch n) gap xs c a=some r
 |[],c,a,_,_,_,_,_,_=>⟨_,rfl⟩
 |p::r,c,a,hx,ok,nd,au,hl,hq=>by
  have hr:∀q∈r,q∈ch gap:=λq hq=>hx q (bG _ hq)
  rw[fcL]
  by_cases pa:p∈a
  ·rw[if_pos pa]
   exact yH hU ih gap r c a hr ok nd au hl λq h1 h2=>hl
  ·rw[if_neg pa]
   cases e:aN c p with
   |none=>exact⟨_,rfl⟩
   |some g=>
    dsimp only
    have nd':(a++[p]).Nodup:=by
     rw[uQ]
     exact⟨nd,by simp,λx hx y hy e=>pa (by rw[cS.mp hy]at e;exact e▸hx)⟩
    have au':∀q∈a++[p],q∈U:=λq hq=>by
     rcases fQ.mp hq with h|h
     ·exact au q h
     ·rw[cS.mp h];exact hU gap p (hx p bR)
    obtain⟨⟨b1,c1,a1⟩,e2⟩:=ih g c (a++[p]) ok nd' au' (by rw[cE,jB];lia)
    rw[e2]
    have i:=yG ch n g c (a++[p]) b1 c1 a1 ok e2
    cases b1 with
    |true=>exact⟨_,rfl⟩
    |false=>
     rw[if_neg aP]at i
     obtain⟨rfl,i2,i3,i4,i5⟩:=i
     have au1:∀q∈a1,q∈U:=λq hq=>by
      by_cases z:q∈a++[p]
      ·exact au' q z
      ·rcases(i5 q hq z).2 with h|⟨y,k,_,_,_,h⟩
       ·exact hU g q h
       ·exact hU k q h
     have la:a.length+1<=a1.length:=by
      have:=fN nd' λq hq=>i2 q hq
      rw[cE,jB]at this
      exact this
     exact yH hU ih gap r c1 a1 hr ok (i3 nd') au1 (by lia) λ_ _ _=>by lia
theorem Dx{ch:Nat->List Nat}{U:List Nat}(hU:∀g,∀p∈ch g,p∈U):∀(n g:Nat)(c:List (Nat×Nat))(a:List Nat),OkA ch c->a.Nodup->(∀p∈a,p∈U)->U.length<a.length+n->∃r,fc ch n g c a=some r
 |0,g,c,a,ok,nd,au,hl=>by
  have:=fN nd au
  lia
 |n+1,g,c,a,ok,nd,au,hl=>yH hU (λg c a=>Dx hU n g c a) g (ch g) c a (λ_ h=>h) ok nd au (by lia) λ_ _ _=>by lia
end Tr
namespace K62
open PySem Tr
noncomputable def sI:E:=
 (.bin .Add (.ix (.var 0) (.con (.int 1))) (.ix (.var 0) (.con (.int 2))))
noncomputable def yI:S:=
 (.cons (.asg (.one 3) (.ix (.var 0) (.glob 2)))
 (.cons (.ret (.bin .Add (.ix (.ix (.var 3) (.var 1)) (.con (.int 2))) (.bt .sum (.acons (.comp 1 [] (.one 0) sI (.seq (.sl (.var 3) (.bin .Add (.var 1) (.con (.int 1))) (.var 2))) (.con (.bl true))) .anil))))
 .nil))
noncomputable def yJ:S:=
 (.cons (.ret (.bin .Add (.ix (.ix (.ix (.var 0) (.glob 0)) (.var 1)) (.con (.int 2))) (.ix (.ix (.ix (.var 0) (.glob 0)) (.var 2)) (.con (.int 3)))))
 .nil)
noncomputable def oQ:S:=
 (.cons (.ite (.cmp .In (.var 3) (.ix (.ix (.ix (.var 0) (.glob 2)) (.var 5)) (.con (.int 3))))
 (.cons (.asg (.one 6) (.call 0 (.acons (.var 0) (.acons (.var 1) (.acons (.var 5) .anil)))))
 (.cons (.ite (.cmp .Lt (.var 6) (.var 4))
 (.cons (.ret (.tup (.acons (.con (.str "change")) (.acons (.var 1) (.acons (.var 5) (.acons (.var 6) (.acons (.var 4) .anil)))))))
 .nil)
 .nil)
 .nil))
 .nil)
 .nil)
noncomputable def sJ:S:=
 (.cons (.asg (.one 4) (.call 1 (.acons (.var 0) (.acons (.var 2) (.acons (.var 3) .anil)))))
 (.cons (.forS (.one 5) (.rng2 (.bin .Add (.var 1) (.con (.int 1))) (.bt .len (.acons (.ix (.var 0) (.glob 2)) .anil))) oQ)
 (.cons (.ret (.con .non))
 .nil)))
noncomputable def lW:S:=
 (.cons (.asg (.one 4) (.ix (.ix (.ix (.var 0) (.glob 2)) (.var 1)) (.con (.int 3))))
 (.cons (.ite (.and (.cmp .In (.var 2) (.var 4)) (.cmp .In (.var 3) (.var 4)))
 (.cons (.ret (.tup (.acons (.con (.str "scene")) (.acons (.var 1) .anil))))
 .nil)
 .nil)
 (.cons (.ite (.cmp .In (.var 2) (.var 4))
 (.cons (.ret (.call 2 (.acons (.var 0) (.acons (.var 1) (.acons (.var 2) (.acons (.var 3) .anil))))))
 .nil)
 .nil)
 (.cons (.ite (.cmp .In (.var 3) (.var 4))
 (.cons (.ret (.call 2 (.acons (.var 0) (.acons (.var 1) (.acons (.var 3) (.acons (.var 2) .anil))))))
 .nil)
 .nil)
 (.cons (.ret (.con .non))
 .nil)))))
noncomputable def sL:S:=
 (.cons (.asg (.one 4) (.call 3 (.acons (.var 0) (.acons (.var 3) (.acons (.var 1) (.acons (.var 2) .anil))))))
 (.cons (.ite (.cmp .IsNot (.var 4) (.con .non))
 (.cons (.ret (.var 4))
 .nil)
 .nil)
 .nil))
noncomputable def sM:S:=
 (.cons (.forS (.one 3) (.rng (.bt .len (.acons (.ix (.var 0) (.glob 2)) .anil))) sL)
 (.cons (.ret (.con .non))
 .nil))
noncomputable def sN:E:=
 (.cmp .IsNot (.call 4 (.acons (.var 2) (.acons (.var 1) (.acons (.var 0) .anil)))) (.con .non))
noncomputable def sO:E:=
 (.tup (.acons (.var 1) (.acons (.var 0) .anil)))
noncomputable def yK:S:=
 (.cons (.ext 1 (.comp 1 [3,0] (.one 0) sO (.rng2 (.bin .Add (.var 3) (.con (.int 1))) (.var 2)) sN))
 .nil)
noncomputable def yL:S:=
 (.cons (.asgO 1 (.lst .anil))
 (.cons (.asg (.one 2) (.bt .len (.acons (.ix (.var 0) (.glob 0)) .anil)))
 (.cons (.forS (.one 3) (.rng (.var 2)) yK)
 (.cons (.retO 1)
 .nil))))
noncomputable def oR:S:=
 (.cons (.ite (.cmp .Is (.var 2) (.con .non))
 (.cons (.ret (.tup (.acons (.con (.str "nobody")) (.acons (.var 1) .anil))))
 .nil)
 .nil)
 (.cons (.ite (.cmp .NotIn (.ix (.ix (.ix (.var 0) (.glob 0)) (.var 1)) (.con (.int 1))) (.ix (.ix (.ix (.var 0) (.glob 1)) (.var 2)) (.con (.int 1))))
 (.cons (.ret (.tup (.acons (.con (.str "voice")) (.acons (.var 1) (.acons (.var 2) .anil)))))
 .nil)
 .nil)
 (.cons (.ret (.con .non))
 .nil)))
noncomputable def sP:S:=
 (.cons (.ret (.and (.cmp .IsNot (.ix (.var 0) (.var 1)) (.con .non)) (.cmp .Eq (.ix (.var 0) (.var 1)) (.ix (.var 0) (.var 2)))))
 .nil)
noncomputable def yM:E:=
 (.call 6 (.acons (.var 2) (.acons (.var 0) (.acons (.var 1) .anil))))
noncomputable def sQ:E:=
 (.cmp .IsNot (.var 0) (.con .non))
noncomputable def sR:E:=
 (.var 0)
noncomputable def sS:E:=
 (.call 7 (.acons (.var 2) (.acons (.var 0) (.acons (.var 1) .anil))))
noncomputable def sT:E:=
 (.tup (.acons (.con (.str "clash")) (.acons (.var 0) (.acons (.var 1) .anil))))
noncomputable def yN:S:=
 (.cons (.asgO 2 (.comp 2 [0] (.many [0,1]) yM (.enum (.var 1)) (.con (.bl true))))
 (.cons (.asgO 2 (.comp 1 [] (.one 0) sR (.seq (.rd 2)) sQ))
 (.cons (.ext 2 (.comp 2 [1] (.many [0,1]) sT (.seq (.call 5 (.acons (.var 0) .anil))) sS))
 (.cons (.retO 2)
 .nil))))
noncomputable def sU:S:=
 (.cons (.ite (.cmp .NotEq (.call 8 (.acons (.var 0) (.acons (.var 1) .anil))) (.lst .anil))
 (.cons (.rais "NoCasting" (.acons (.con (.str "the casting does not play")) .anil))
 .nil)
 .nil)
 .nil)
noncomputable def sV:E:=
 (.cmp .In (.ix (.var 2) (.var 0)) (.var 1))
noncomputable def sW:E:=
 (.var 0)
noncomputable def yO:S:=
 (.cons (.ret (.comp 1 [2,1] (.one 0) sW (.seq (.ix (.ix (.ix (.var 0) (.glob 2)) (.var 3)) (.con (.int 3)))) sV))
 .nil)
noncomputable def yP:E:=
 (.ix (.var 1) (.var 0))
noncomputable def sX:E:=
 (.cmp .Eq (.var 0) (.var 2))
noncomputable def sY:E:=
 (.var 1)
noncomputable def lX:E:=
 (.and (.cmp .NotIn (.var 0) (.var 1)) (.cmp .NotIn (.var 0) (.var 2)))
noncomputable def lY:E:=
 (.var 0)
noncomputable def yQ:S:=
 (.cons (.asg (.one 5) (.comp 1 [1] (.one 0) yP (.seq (.ix (.ix (.ix (.var 0) (.glob 2)) (.var 3)) (.con (.int 3)))) (.con (.bl true))))
 (.cons (.asg (.one 6) (.srt (.comp 2 [4] (.many [0,1]) sY (.seq (.ix (.var 0) (.glob 3))) sX)))
 (.cons (.ret (.comp 1 [2,5] (.one 0) lY (.seq (.var 6)) lX))
 .nil)))
noncomputable def yR:E:=
 (.ix (.var 1) (.var 0))
noncomputable def yS:S:=
 (.cons (.asg (.one 3) (.bin .Add (.lst (.acons (.var 2) .anil)) (.comp 1 [0] (.one 0) yR (.seqD (.var 1)) (.con (.bl true)))))
 (.cons (.ret (.tup (.acons (.con (.str "lacks")) (.acons (.srt (.var 3)) (.acons (.srt (.var 1)) .anil)))))
 .nil))
noncomputable def yT:E:=
 (.tup (.acons (.var 0) (.acons (.call 11 (.acons (.var 1) (.acons (.var 2) (.acons (.var 3) (.acons (.var 4) (.acons (.var 0) .anil)))))) .anil)))
noncomputable def kT:S:=
 (.cons (.newD 8)
 (.cons (.ifR true .omit 33 (.var 5) 6 8 (.var 7)
 (.cons (.sealed 8)
 (.cons (.sealed 6)
 (.cons (.ret (.call 12 (.acons (.var 6) (.acons (.var 8) (.acons (.var 7) .anil)))))
 .nil)))
 .nil)
 .nil))
noncomputable def yU:E:=
 (.tup (.acons (.ix (.var 1) (.var 0)) (.acons (.var 0) .anil)))
noncomputable def sZ:E:=
 (.tup (.acons (.var 0) (.acons (.ix (.var 1) (.var 0)) .anil)))
noncomputable def tD:S:=
 (.cons (.asg (.one 4) (.call 10 (.acons (.var 0) (.acons (.var 1) (.acons (.var 2) (.acons (.var 3) .anil))))))
 (.cons (.asg (.one 5) (.dck (.comp 1 [0,1,2,3] (.one 0) yT (.seq (.var 4)) (.con (.bl true)))))
 (.cons (.newD 6)
 (.cons (.forS (.one 7) (.seq (.var 4)) kT)
 (.cons (.sealed 6)
 (.cons (.asg (.one 9) (.dck (.comp 1 [6] (.one 0) yU (.seqD (.var 6)) (.con (.bl true)))))
 (.cons (.ret (.tup (.acons (.con (.str "covered")) (.acons (.comp 1 [9] (.one 0) sZ (.seq (.var 4)) (.con (.bl true))) .anil))))
 .nil)))))))
noncomputable def tF:S:=
 (.cons (.exp (.call 9 (.acons (.var 0) (.acons (.var 1) .anil))))
 (.cons (.ret (.call 13 (.acons (.var 0) (.acons (.var 1) (.acons (.var 2) (.acons (.var 3) .anil))))))
 .nil))
noncomputable def tH:E:=
 (.call 13 (.acons (.var 1) (.acons (.var 2) (.acons (.var 3) (.acons (.var 0) .anil)))))
noncomputable def tJ:S:=
 (.cons (.exp (.call 9 (.acons (.var 0) (.acons (.var 1) .anil))))
 (.cons (.ret (.comp 1 [0,1,2] (.one 0) tH (.rng (.bt .len (.acons (.ix (.var 0) (.glob 2)) .anil))) (.con (.bl true))))
 .nil))
noncomputable def lZ:S:=
 (.cons (.ite (.cmp .Eq (.ix (.call 13 (.acons (.var 0) (.acons (.var 1) (.acons (.var 2) (.acons (.var 3) .anil))))) (.con (.int 0))) (.con (.str "lacks")))
 (.cons (.ret (.var 3))
 .nil)
 .nil)
 .nil)
noncomputable def tK:S:=
 (.cons (.forS (.one 3) (.rng (.bt .len (.acons (.ix (.var 0) (.glob 2)) .anil))) lZ)
 (.cons (.ret (.con .non))
 .nil))
noncomputable def yV:E:=
 (.bin .Add (.var 1) (.tup (.acons (.var 0) .anil)))
noncomputable def tL:S:=
 (.cons (.asg (.one 4) (.ife (.var 3) (.bin .Add (.ix (.var 3) (.neg (.con (.int 1)))) (.con (.int 1))) (.con (.int 0))))
 (.cons (.ext 2 (.comp 1 [3] (.one 0) yV (.rng2 (.var 4) (.var 1)) (.con (.bl true))))
 .nil))
noncomputable def yW:S:=
 (.cons (.asgO 2 (.lst .anil))
 (.cons (.forS (.one 3) (.seq (.var 0)) tL)
 (.cons (.retO 2)
 .nil)))
noncomputable def tM:S:=
 (.cons (.asgN 2 (.call 17 (.acons (.var 2) (.acons (.var 0) .anil))))
 (.cons (.extN 3 2)
 .nil))
noncomputable def yX:S:=
 (.cons (.asgN 2 (.lst (.acons (.tup .anil) .anil)))
 (.cons (.asgO 3 (.lst (.acons (.tup .anil) .anil)))
 (.cons (.forS (.one 4) (.rng (.var 1)) tM)
 (.cons (.retO 3)
 .nil))))
noncomputable def tN:E:=
 (.tup (.acons (.var 0) (.acons (.call 16 (.acons (.var 1) (.acons (.var 2) (.acons (.var 0) .anil)))) .anil)))
noncomputable def tO:S:=
 (.cons (.exp (.call 9 (.acons (.var 0) (.acons (.var 1) .anil))))
 (.cons (.ret (.comp 1 [0,1] (.one 0) tN (.seq (.call 18 (.acons (.bt .len (.acons (.ix (.var 0) (.glob 1)) .anil)) (.acons (.var 2) .anil)))) (.con (.bl true))))
 .nil))
noncomputable def tP:S:=
 (.cons (.ite (.cmp .Lt (.var 1) (.bt .len (.acons (.var 0) .anil)))
 (.cons (.ret (.ix (.var 0) (.var 1)))
 .nil)
 .nil)
 (.cons (.ret (.con (.int 0)))
 .nil))
noncomputable def yY:S:=
 (.cons (.ret (.bin .Mod (.bin .Add (.bin .Mult (.bin .Mod (.var 0) (.con (.int 1000003))) (.bin .Add (.con (.int 48271)) (.bin .Mult (.bin .Mult (.con (.int 15838)) (.var 1)) (.var 1)))) (.bin .Mult (.con (.int 69621)) (.var 1))) (.con (.int 2147483647))))
 .nil)
noncomputable def yZ:S:=
 (.cons (.asg (.one 2) (.ix (.con (.str "abcdefghijklmnopqrstuvwxyz")) (.bin .Mod (.bin .Add (.var 0) (.bin .Mult (.var 1) (.ix (.lst (.acons (.con (.int 1)) (.acons (.con (.int 3)) (.acons (.con (.int 5)) (.acons (.con (.int 7)) .anil))))) (.bin .Mod (.bin .FloorDiv (.var 0) (.con (.int 26))) (.con (.int 4)))))) (.con (.int 26)))))
 (.cons (.asg (.one 3) (.ix (.lst (.acons (.con (.str "")) (.acons (.con (.str "a")) (.acons (.con (.str "ba")) (.acons (.con (.str "zzzzzzz")) .anil))))) (.bin .Mod (.bin .FloorDiv (.var 0) (.con (.int 104))) (.con (.int 4)))))
 (.cons (.asg (.one 4) (.bin .Mod (.bin .FloorDiv (.var 0) (.con (.int 416))) (.bin .Add (.bt .len (.acons (.var 3) .anil)) (.con (.int 1)))))
 (.cons (.ret (.bin .Add (.bin .Add (.sl (.var 3) .omit (.var 4)) (.var 2)) (.sl (.var 3) (.var 4) .omit)))
 .nil))))
noncomputable def zA:S:=
 (.cons (.ret (.bin .Mod (.bin .FloorDiv (.var 0) (.con (.int 6))) (.ix (.lst (.acons (.con (.int 7)) (.acons (.con (.int 7)) (.acons (.con (.int 40)) (.acons (.bin .Pow (.con (.int 10)) (.con (.int 9))) .anil))))) (.bin .Add (.bin .FloorDiv (.bin .Mod (.var 0) (.con (.int 6))) (.con (.int 2))) (.bin .FloorDiv (.bin .Mod (.var 0) (.con (.int 6))) (.con (.int 5)))))))
 .nil)
noncomputable def zB:S:=
 (.cons (.asg (.one 3) (.call 21 (.acons (.var 0) (.acons (.var 1) .anil))))
 (.cons (.asg (.one 4) (.ix (.lst (.acons (.con (.str "a")) (.acons (.con (.str "b")) (.acons (.con (.str "a")) (.acons (.sl (.call 22 (.acons (.bin .Mult (.con (.int 7)) (.var 2)) (.acons (.var 3) .anil))) .omit (.con (.int 1))) .anil))))) (.bin .Mod (.var 3) (.con (.int 4)))))
 (.cons (.ret (.tup (.acons (.call 22 (.acons (.var 2) (.acons (.var 1) .anil))) (.acons (.var 4) (.acons (.call 23 (.acons (.bin .FloorDiv (.var 3) (.con (.int 4))) .anil)) (.acons (.call 23 (.acons (.call 21 (.acons (.var 0) (.acons (.bin .Add (.var 1) (.con (.int 20))) .anil))) .anil)) .anil))))))
 .nil)))
noncomputable def zC:S:=
 (.cons (.asg (.one 3) (.call 21 (.acons (.var 0) (.acons (.var 1) .anil))))
 (.cons (.asg (.one 4) (.ix (.lst (.acons (.con (.str "ab")) (.acons (.con (.str "a")) (.acons (.con (.str "bca")) (.acons (.con (.str "")) (.acons (.con (.str "abcdefghijklmnopqrstuvwxyz")) (.acons (.con (.str "zb")) .anil))))))) (.bin .Mod (.var 3) (.con (.int 6)))))
 (.cons (.ret (.tup (.acons (.call 22 (.acons (.var 2) (.acons (.var 1) .anil))) (.acons (.var 4) (.acons (.call 23 (.acons (.bin .FloorDiv (.var 3) (.con (.int 6))) .anil)) .anil)))))
 .nil)))
noncomputable def oS:E:=
 (.cmp .Eq (.bin .Mod (.bin .FloorDiv (.var 1) (.ix (.lst (.acons (.con (.int 1)) (.acons (.con (.int 3)) (.acons (.con (.int 9)) (.acons (.con (.int 27)) (.acons (.con (.int 81)) (.acons (.con (.int 243)) (.acons (.con (.int 729)) (.acons (.con (.int 2187)) .anil))))))))) (.var 0))) (.con (.int 3))) (.con (.int 0)))
noncomputable def oT:E:=
 (.var 0)
noncomputable def zD:S:=
 (.cons (.asg (.one 4) (.call 21 (.acons (.var 0) (.acons (.bin .Add (.var 1) (.con (.int 40))) .anil))))
 (.cons (.asg (.one 5) (.comp 1 [4] (.one 0) oT (.rng (.var 3)) oS))
 (.cons (.asg (.one 6) (.bin .Mod (.var 0) (.bin .Add (.bt .len (.acons (.var 5) .anil)) (.con (.int 1)))))
 (.cons (.asg (.one 4) (.call 21 (.acons (.var 0) (.acons (.var 1) .anil))))
 (.cons (.asg (.one 7) (.call 23 (.acons (.call 21 (.acons (.var 0) (.acons (.bin .Add (.var 1) (.con (.int 20))) .anil))) .anil)))
 (.cons (.ret (.tup (.acons (.call 22 (.acons (.var 2) (.acons (.var 1) .anil))) (.acons (.call 23 (.acons (.var 4) .anil)) (.acons (.var 7) (.acons (.bt .tuple (.acons (.bin .Add (.sl (.var 5) (.var 6) .omit) (.sl (.var 5) .omit (.var 6))) .anil)) .anil))))))
 .nil))))))
noncomputable def mC:S:=
 (.cons (.asg (.one 6) (.call 21 (.acons (.var 0) (.acons (.var 5) .anil))))
 (.cons (.asg (.one 7) (.tup (.acons (.bin .FloorDiv (.var 5) (.var 2)) (.acons (.bin .Mod (.var 5) (.var 2)) .anil))))
 (.cons (.ite (.cmp .Eq (.bin .Mod (.bin .FloorDiv (.var 6) (.con (.int 64))) (.var 3)) (.con (.int 0)))
 (.cons (.app 4 (.var 7))
 .nil)
 .nil)
 .nil)))
noncomputable def zE:S:=
 (.cons (.asgO 4 (.lst .anil))
 (.cons (.forS (.one 5) (.rng (.bin .Mult (.var 1) (.var 2))) mC)
 (.cons (.asg (.one 8) (.bin .Mod (.var 0) (.bin .Add (.bt .len (.acons (.rd 4) .anil)) (.con (.int 1)))))
 (.cons (.ret (.bin .Add (.sl (.rd 4) (.var 8) .omit) (.sl (.rd 4) .omit (.var 8))))
 .nil))))
noncomputable def mD:E:=
 (.call 20 (.acons (.var 1) (.acons (.bin .Add (.var 2) (.var 0)) .anil)))
noncomputable def zF:E:=
 (.call 24 (.acons (.ix (.var 1) (.con (.int 2))) (.acons (.var 0) (.acons (.ix (.var 1) (.con (.int 0))) .anil))))
noncomputable def zG:E:=
 (.call 25 (.acons (.ix (.var 1) (.con (.int 3))) (.acons (.var 0) (.acons (.ix (.var 1) (.con (.int 4))) .anil))))
noncomputable def oU:S:=
 (.cons (.app 6 (.call 26 (.acons (.var 8) (.acons (.var 7) (.acons (.ix (.var 2) (.con (.int 5))) (.acons (.var 3) .anil))))))
 .nil)
noncomputable def oV:S:=
 (.cons (.app 9 (.tup (.acons (.var 10) (.acons (.var 11) (.acons (.bin .Mod (.call 21 (.acons (.ix (.var 2) (.con (.int 6))) (.acons (.bin .Add (.var 11) (.bin .Mult (.con (.int 9)) (.var 10))) .anil))) (.bin .Pow (.con (.int 10)) (.con (.int 9)))) .anil)))))
 .nil)
noncomputable def zH:S:=
 (.cons (.asg (.one 2) (.comp 1 [0,1] (.one 0) mD (.rng (.con (.int 8))) (.con (.bl true))))
 (.cons (.asg (.one 3) (.bin .Add (.bin .Mod (.ix (.var 2) (.con (.int 1))) (.con (.int 7))) (.bin .Mult (.con (.int 2)) (.bt .int (.acons (.and (.cmp .Eq (.bin .Mod (.bin .FloorDiv (.ix (.var 2) (.con (.int 1))) (.con (.int 7))) (.con (.int 8))) (.con (.int 5))) (.cmp .Eq (.bin .Mod (.ix (.var 2) (.con (.int 1))) (.con (.int 7))) (.con (.int 6)))) .anil)))))
 (.cons (.asg (.one 4) (.bt .tuple (.acons (.comp 1 [2] (.one 0) zF (.rng (.var 3)) (.con (.bl true))) .anil)))
 (.cons (.asg (.one 5) (.bt .tuple (.acons (.comp 1 [2] (.one 0) zG (.rng (.bin .Mod (.bin .FloorDiv (.ix (.var 2) (.con (.int 1))) (.con (.int 56))) (.con (.int 7)))) (.con (.bl true))) .anil)))
 (.cons (.asgO 6 (.lst .anil))
 (.cons (.forS (.many [7,8]) (.enum (.sl (.var 0) (.bin .Add (.var 1) (.con (.int 8))) (.bin .Add (.var 1) (.con (.int 17))))) oU)
 (.cons (.asgO 9 (.lst .anil))
 (.cons (.forS (.many [10,11]) (.seq (.call 27 (.acons (.ix (.var 2) (.con (.int 6))) (.acons (.bt .len (.acons (.var 5) .anil)) (.acons (.var 3) (.acons (.con (.int 3)) .anil)))))) oV)
 (.cons (.asg (.one 12) (.bt .tuple (.acons (.call 27 (.acons (.ix (.var 2) (.con (.int 7))) (.acons (.var 3) (.acons (.bt .len (.acons (.var 5) .anil)) (.acons (.con (.int 2)) .anil))))) .anil)))
 (.cons (.ret (.tup (.acons (.var 4) (.acons (.var 5) (.acons (.bt .tuple (.acons (.rd 6) .anil)) (.acons (.bt .tuple (.acons (.rd 9) .anil)) (.acons (.var 12) .anil)))))))
 .nil))))))))))
noncomputable def zI:E:=
 (.tup (.acons (.var 0) (.acons (.con (.str "a")) (.acons (.con (.int 0)) (.acons (.con (.int 0)) .anil)))))
noncomputable def zJ:E:=
 (.tup (.acons (.var 0) (.acons (.con (.str "ba")) (.acons (.var 2) .anil))))
noncomputable def zK:E:=
 (.bin .Mod (.call 21 (.acons (.var 1) (.acons (.var 0) .anil))) (.bt .len (.acons (.var 2) .anil)))
noncomputable def zL:E:=
 (.ix (.var 1) (.var 0))
noncomputable def mF:S:=
 (.cons (.ite (.cmp .NotIn (.ix (.var 4) (.var 11)) (.comp 1 [4] (.one 0) zL (.seq (.rd 10)) (.con (.bl true))))
 (.cons (.app 10 (.var 11))
 .nil)
 .nil)
 .nil)
noncomputable def tQ:S:=
 (.cons (.asgO 10 (.lst .anil))
 (.cons (.forS (.one 11) (.seq (.var 9)) mF)
 (.cons (.app 5 (.tup (.acons (.var 6) (.acons (.var 7) (.acons (.var 8) (.acons (.bt .tuple (.acons (.rd 10) .anil)) .anil))))))
 .nil)))
noncomputable def zM:S:=
 (.cons (.asg (.one 2) (.bt .tuple (.acons (.comp 4 [] (.many [0,1,2,3]) zI (.seq (.ix (.var 0) (.con (.int 0)))) (.con (.bl true))) .anil)))
 (.cons (.asg (.one 3) (.bt .tuple (.acons (.comp 3 [] (.many [0,1,2]) zJ (.seq (.ix (.var 0) (.con (.int 1)))) (.con (.bl true))) .anil)))
 (.cons (.asg (.one 4) (.comp 1 [1,3] (.one 0) zK (.rng (.bt .len (.acons (.var 2) .anil))) (.con (.bl true))))
 (.cons (.asgO 5 (.lst .anil))
 (.cons (.forS (.many [6,7,8,9]) (.seq (.sl (.ix (.var 0) (.con (.int 2))) .omit (.con (.int 5)))) tQ)
 (.cons (.ret (.tup (.acons (.tup (.acons (.var 2) (.acons (.var 3) (.acons (.bt .tuple (.acons (.rd 5) .anil)) (.acons (.ix (.var 0) (.con (.int 3))) (.acons (.ix (.var 0) (.con (.int 4))) .anil)))))) (.acons (.var 4) .anil))))
 .nil))))))
noncomputable def iW:S:=
 (.cons (.ite (.cmp .Eq (.var 2) (.con (.int 0)))
 (.cons (.exp (.call 19 (.acons (.var 0) (.acons (.var 1) (.acons (.con (.int 1)) .anil)))))
 .nil)
 (.cons (.ite (.cmp .Eq (.var 2) (.con (.int 1)))
 (.cons (.exp (.call 15 (.acons (.var 0) (.acons (.var 1) (.acons (.lst (.acons (.con (.int 0)) .anil)) .anil)))))
 .nil)
 (.cons (.exp (.call 14 (.acons (.var 0) (.acons (.var 1) (.acons (.lst .anil) (.acons (.var 3) .anil))))))
 .nil))
 .nil))
 .nil)
noncomputable abbrev oW:Told:=⟨iW, "NoCasting", .str "no casting", .str "told", .non,false⟩
noncomputable def tU:E:=
 (.cmp .NotEq (.var 0) (.var 1))
noncomputable def tV:E:=
 (.var 0)
noncomputable def kU:S:=
 (.cons (.asg (.one 3) (.bin .Mod (.bin .FloorDiv (.var 2) (.con (.int 3))) (.bt .len (.acons (.ix (.var 0) (.con (.int 2))) .anil))))
 (.cons (.asg (.one 4) (.ix (.ix (.ix (.var 0) (.con (.int 2))) (.var 3)) (.con (.int 3))))
 (.cons (.ite (.cmp .Eq (.var 4) (.tup .anil))
 (.cons (.ret (.tup (.acons (.var 0) (.acons (.con .non) .anil))))
 .nil)
 .nil)
 (.cons (.asg (.one 5) (.ix (.var 4) (.bin .Mod (.bin .FloorDiv (.var 2) (.con (.int 64))) (.bt .len (.acons (.var 4) .anil)))))
 (.cons (.ite (.cmp .Eq (.bin .Mod (.var 2) (.con (.int 3))) (.con (.int 0)))
 (.cons (.ret (.tup (.acons (.var 0) (.acons (.bin .Add (.bin .Add (.sl (.var 1) .omit (.var 5)) (.lst (.acons (.con .non) .anil))) (.sl (.var 1) (.bin .Add (.var 5) (.con (.int 1))) .omit)) .anil))))
 .nil)
 .nil)
 (.cons (.ite (.cmp .Eq (.bin .Mod (.var 2) (.con (.int 3))) (.con (.int 1)))
 (.cons (.asgO 6 (.bt .list (.acons (.ix (.var 0) (.con (.int 1))) .anil)))
 (.cons (.asg (.many [7,8,9]) (.ix (.rd 6) (.ix (.var 1) (.var 5))))
 (.cons (.lput 6 (.ix (.var 1) (.var 5)) (.tup (.acons (.var 7) (.acons (.ix (.lst (.acons (.con (.str "")) (.acons (.con (.str "b")) (.acons (.con (.str "bcdz")) .anil)))) (.bin .Mod (.bin .FloorDiv (.var 2) (.con (.int 64))) (.con (.int 3)))) (.acons (.var 9) .anil)))))
 (.cons (.ret (.tup (.acons (.bin .Add (.tup (.acons (.ix (.var 0) (.con (.int 0))) (.acons (.bt .tuple (.acons (.rd 6) .anil)) .anil))) (.sl (.var 0) (.con (.int 2)) .omit)) (.acons (.var 1) .anil))))
 .nil))))
 .nil)
 (.cons (.asg (.one 10) (.comp 1 [5] (.one 0) tV (.seq (.var 4)) tU))
 (.cons (.ite (.cmp .Eq (.var 10) (.lst .anil))
 (.cons (.ret (.tup (.acons (.var 0) (.acons (.con .non) .anil))))
 .nil)
 .nil)
 (.cons (.asg (.one 11) (.ix (.var 1) (.ix (.var 10) (.bin .Mod (.bin .FloorDiv (.var 2) (.con (.int 64))) (.bt .len (.acons (.var 10) .anil))))))
 (.cons (.ret (.tup (.acons (.var 0) (.acons (.bin .Add (.bin .Add (.sl (.var 1) .omit (.var 5)) (.lst (.acons (.var 11) .anil))) (.sl (.var 1) (.bin .Add (.var 5) (.con (.int 1))) .omit)) .anil))))
 .nil))))))))))
noncomputable def oX:S:=
 (.cons (.ite (.cmp .NotEq (.call 30 (.acons (.var 1) (.acons (.var 2) (.acons (.var 7) (.acons (.bin .Mod (.var 3) (.bt .len (.acons (.ix (.var 1) (.con (.int 2))) .anil))) .anil))))) (.con (.str "told")))
 (.cons (.ret (.con (.bl false)))
 .nil)
 .nil)
 (.cons (.ite (.and (.cmp .IsNot (.var 5) (.con .non)) (.cmp .NotEq (.call 30 (.acons (.var 4) (.acons (.var 5) (.acons (.var 7) (.acons (.bin .Mod (.var 3) (.bt .len (.acons (.ix (.var 1) (.con (.int 2))) .anil))) .anil))))) (.con (.str "no casting"))))
 (.cons (.ret (.con (.bl false)))
 .nil)
 .nil)
 .nil))
noncomputable def oY:S:=
 (.cons (.asg (.one 1) (.call 28 (.acons (.var 0) (.acons (.con (.int 2)) .anil))))
 (.cons (.ite (.or (.cmp .Eq (.ix (.var 1) (.con (.int 1))) (.tup .anil)) (.cmp .Eq (.ix (.var 1) (.con (.int 2))) (.tup .anil)))
 (.cons (.ret (.con (.bl true)))
 .nil)
 .nil)
 (.cons (.asg (.many [1,2]) (.call 29 (.acons (.var 1) (.acons (.call 20 (.acons (.var 0) (.acons (.con (.int 0)) .anil))) .anil))))
 (.cons (.asg (.one 3) (.call 20 (.acons (.var 0) (.acons (.con (.int 1)) .anil))))
 (.cons (.asg (.many [4,5]) (.call 31 (.acons (.var 1) (.acons (.var 2) (.acons (.var 3) .anil)))))
 (.cons (.asg (.one 6) (.bt .list (.acons (.var 2) .anil)))
 (.cons (.forS (.one 7) (.rng (.con (.int 3))) oX)
 (.cons (.ret (.and (.cmp .Eq (.var 2) (.var 6)) (.cmp .Eq (.call 30 (.acons (.var 1) (.acons (.var 2) (.acons (.con (.int 0)) (.acons (.con (.int 0)) .anil))))) (.con (.str "told")))))
 .nil))))))))
noncomputable def gH:S:=
 (.cons (.ite (.cmp .NotIn (.var 4) (.rd 2))
 (.cons (.dputR 2 (.var 4) (.con (.bl true)))
 (.cons (.ifR false (.cmp .NotIn (.var 4) (.rd 1)) 33 (.var 0) 1 2 (.ix (.rd 1) (.var 4))
 (.cons (.dputR 1 (.var 4) (.var 3))
 (.cons (.retR (.con (.bl true)) 1 2)
 .nil))
 .nil)
 .nil))
 .nil)
 .nil)
noncomputable def oZ:S:=
 (.cons (.forS (.one 4) (.seq (.ix (.var 0) (.var 3))) gH)
 (.cons (.retR (.con (.bl false)) 1 2)
 .nil))
noncomputable def T:Tab:=⟨λg=>match g with|0=>(.int 0)|1=>(.int 1)|2=>(.int 2)|3=>(.int 4)|_=>.non,λf=>f==5||f==8||f==10||f==11||f==15||f==17||f==18||f==19,λf=>match f with|33=>some 1000|_=>none⟩
@[simp] theorem T_glob0:T.glob 0=(.int 0):=id rfl
@[simp] theorem T_glob1:T.glob 1=(.int 1):=id rfl
@[simp] theorem T_glob2:T.glob 2=(.int 2):=id rfl
@[simp] theorem T_glob3:T.glob 3=(.int 4):=id rfl
@[simp] theorem T_fresh2:T.fresh 2=false:=id rfl
@[simp] theorem T_fresh12:T.fresh 12=false:=id rfl
@[simp] theorem T_fresh13:T.fresh 13=false:=id rfl
noncomputable def dfs:List Df:=[⟨4,3,yI,none⟩,⟨3,3,yJ,none⟩,⟨7,4,sJ,none⟩,⟨5,4,lW,none⟩,⟨5,3,sM,none⟩,⟨4,1,yL,none⟩,⟨3,3,oR,none⟩,⟨3,3,sP,none⟩,⟨3,2,yN,none⟩,⟨2,2,sU,none⟩,⟨4,4,yO,none⟩,⟨7,5,yQ,none⟩,⟨4,3,yS,none⟩,⟨10,4,tD,none⟩,⟨4,4,tF,none⟩,⟨3,3,tJ,none⟩,⟨4,3,tK,none⟩,⟨5,2,yW,none⟩,⟨5,2,yX,none⟩,⟨3,3,tO,none⟩,⟨2,2,tP,none⟩,⟨2,2,yY,none⟩,⟨5,2,yZ,none⟩,⟨1,1,zA,none⟩,⟨5,3,zB,none⟩,⟨5,3,zC,none⟩,⟨8,4,zD,none⟩,⟨9,4,zE,none⟩,⟨13,2,zH,none⟩,⟨12,2,zM,none⟩,⟨6,4,iW,(some oW)⟩,⟨12,3,kU,none⟩,⟨8,1,oY,none⟩,⟨5,4,oZ,none⟩]
theorem zN(n:Nat)(ns:List Int)(k:Nat):aB T dfs (n+1) 20 [.lst (ns.map D.int),.int k]=.ok (.int (cM ns k)):=by
 unfold cM
 refine bH (k:=false) rfl rfl rfl ?_
 by_cases h:k<ns.length
 ·have hi:(ns.map D.int)[k]?=some (.int (ns.getD k 0)):=by simp[h]
  have f1:bE T ((E.var 0).ix (E.var 1))=false:=rfl
  simp[tP,h,hV hi,f1]
 ·simp[tP,h]
noncomputable def gI(c:Int):Int:=if c/26%4=0 then 1 else if c/26%4=1 then 3 else if c/26%4=2 then 5 else 7
noncomputable def bX(c:Int):List Nat:=if c/104%4=0 then []else if c/104%4=1 then [97]else if c/104%4=2 then [98,97]else [122,122,122,122,122,122,122]
noncomputable def atV(c:Int):Nat:=(c/416%(((bX c).length:Int)+1)).toNat
noncomputable def tW(c k:Int):Nat:=97+((c+k*gI c)%26).toNat
noncomputable def gJ(c k:Int):List Nat:=(bX c).take (atV c)++tW c k::(bX c).drop (atV c)
noncomputable def dW(c k:Int):Str:=⟨(gJ c k).toArray⟩
theorem Dy(c k:Int):dJ (dW c k)=gJ c k:=by simp[dJ,dW]
theorem Dz(c:Int):(bX c).length<=7:=by
 unfold bX
 repeat' split
 all_goals simp
theorem EA(c:Int):atV c<=(bX c).length:=by
 unfold atV
 have:=AL (c/416) (show(0:Int)<((bX c).length:Int)+1 by lia)
 lia
theorem EB(c k:Int):(gJ c k).length=(bX c).length+1:=by
 have:=EA c
 unfold gJ
 rw[cE,aX,fS,pJ]
 lia
theorem Je (i:Int) (h:0<=i/\i<26):D.ix (.str "abcdefghijklmnopqrstuvwxyz") (.int i)=.ok (.str (gP (97+i.toNat))):=by
 have hb:=bT
 have a:∀j:Fin 26,atI (("abcdefghijklmnopqrstuvwxyz" : Str).cps.toList) ((j.val:Nat):Int)=some (97+j.val):=by decide
 have:=a ⟨i.toNat,by lia⟩
 rw[show((i.toNat:Nat):Int)=i by lia]at this
 show aC (decide (("abcdefghijklmnopqrstuvwxyz" : Str).length<=big)) (Res.of ((atI ("abcdefghijklmnopqrstuvwxyz" : Str).cps.toList i).map λc=>D.str ⟨#[c]⟩))=_
 rw[this,show decide (("abcdefghijklmnopqrstuvwxyz" : Str).length<=big)=true by
  rw[show("abcdefghijklmnopqrstuvwxyz" : Str).length=26 by decide];simp;lia]
 rfl
noncomputable def eE(c:Int):Str:=⟨(bX c).toArray⟩
theorem tY{α:Type}(a b c d:α)(i:Int)(h:0<=i/\i<4):atI [a,b,c,d] i=some (if i=0 then a else if i=1 then b else if i=2 then c else d):=by
 have:i=0\/i=1\/i=2\/i=3:=by lia
 rcases this with rfl|rfl|rfl|rfl<;>rfl
theorem tZ(n:Nat)(c k:Int):aB T dfs (n+1) 22 [.int c,.int k]=.ok (.str (dW c k)):=by
 refine bH (k:=true) rfl rfl rfl ?_
 have hb:=bT
 have r1:0<=c/26%4/\c/26%4<4:=by lia
 have r2:0<=c/104%4/\c/104%4<4:=by lia
 have e1:D.ix (.lst [.int 1,.int 3,.int 5,.int 7]) (.int (c/26%4))=.ok (.int (gI c)):=by
  show Res.of (atI _ _)=_
  rw[tY _ _ _ _ _ r1]
  unfold gI
  repeat' split
  all_goals rfl
 have e2:D.ix (.lst [.str "", .str "a", .str "ba", .str "zzzzzzz"]) (.int (c/104%4))=.ok (.str (eE c)):=by
  show Res.of (atI _ _)=_
  rw[tY _ _ _ _ _ r2]
  unfold eE bX
  repeat' split
  ·exact congrArg (λz=>Res.ok (D.str z)) (show("" : Str)=_ by decide)
  ·exact congrArg (λz=>Res.ok (D.str z)) (show("a" : Str)=_ by decide)
  ·exact congrArg (λz=>Res.ok (D.str z)) (show("ba" : Str)=_ by decide)
  ·exact congrArg (λz=>Res.ok (D.str z)) (show("zzzzzzz" : Str)=_ by decide)
 have hs:dJ (eE c)=bX c:=by simp[dJ,eE]
 have hl:=sF (eE c)
 rw[hs]at hl
 have ht:=Dz c
 have ha:=EA c
 have e3:D.bin .Mult (.int k) (.int (gI c))=.ok (.int (k*gI c)):=by
  show aC (dM k||dM (gI c)) _=_
  have:dM (gI c)=true:=by
   unfold gI
   repeat' split
   all_goals decide
  rw[this,AF];rfl
 have r3:0<=(c+k*gI c)%26/\(c+k*gI c)%26<26:=by lia
 have e4:=Je _ r3
 have e5:(eE c).length<=big:=by lia
 have e6:(0:Int)<(bX c).length+1:=by lia
 have e7:c/416%(((bX c).length:Int)+1)=(atV c:Int):=by
  unfold atV
  have:=pT (c/416) (show((bX c).length:Int)+1≠0 by lia)
  lia
 have e8:D.sl (.str (eE c)) none (some (atV c:Int))=.ok (.str ⟨((bX c).take (atV c)).toArray⟩):=by
  show aC (decide ((eE c).length<=big)) (.ok (D.str (iJ (eE c) none (some (atV c:Int)))))=_
  rw[show decide ((eE c).length<=big)=true by simpa using e5]
  unfold iJ
  rw[show(eE c).cps.toList=bX c from hs]
  have:cut (bX c) none (some (atV c:Int))=(bX c).take (atV c):=by
   unfold cut sIx
   simp only[]
   rw[if_neg (by lia),lB,mU ha,uM,pN]
  rw[this];rfl
 have e9:D.sl (.str (eE c)) (some (atV c:Int)) none=.ok (.str ⟨((bX c).drop (atV c)).toArray⟩):=by
  show aC (decide ((eE c).length<=big)) (.ok (D.str (iJ (eE c) (some (atV c:Int)) none)))=_
  rw[show decide ((eE c).length<=big)=true by simpa using e5]
  unfold iJ
  rw[show(eE c).cps.toList=bX c from hs,sG ha];rfl
 have e10:D.bin .Add (.str ⟨((bX c).take (atV c)).toArray⟩) (.str (gP (97+((c+k*gI c)%26).toNat)))=.ok (.str ⟨((bX c).take (atV c)++[tW c k]).toArray⟩):=by
  exact Dl (a:=(bX c).take (atV c)) (b:=[tW c k]) (by simp;lia)
 have e11:D.bin .Add (.str ⟨((bX c).take (atV c)++[tW c k]).toArray⟩) (.str ⟨((bX c).drop (atV c)).toArray⟩)=.ok (.str (dW c k)):=by
  rw[Dl (by simp;lia)]
  unfold dW gJ
  rw[pM];rfl
 have e12:(bX c).length<=big:=by lia
 simp[yZ,e1,e2,e3,e4,hl,e12,e6,e7,e8,e9,e10,e11]
noncomputable def minV(x:Int):Int:=x/6%(if x%6<4 then 7 else if x%6=4 then 40 else 1000000000)
theorem uA(x:Int):0<=minV x/\minV x<1000000000:=by
 unfold minV
 repeat' split
 all_goals lia
theorem pA(n:Nat)(x:Int):aB T dfs (n+1) 23 [.int x]=.ok (.int (minV x)):=by
 refine bH (k:=false) rfl rfl rfl ?_
 have e0:D.bin .Pow (.int 10) (.int 9)=.ok (.int 1000000000):=by rfl
 have e1:D.ix (.lst [.int 7,.int 7,.int 40,.int 1000000000]) (.int (x%6/2+x%6/5))=.ok (.int (if x%6<4 then 7 else if x%6=4 then 40 else 1000000000)):=by
  show Res.of (atI _ _)=_
  rw[tY _ _ _ _ _ (by lia)]
  repeat' split
  all_goals first|rfl|(exfalso;lia)
 have e2:(0:Int)<(if x%6<4 then 7 else if x%6=4 then 40 else 1000000000):=by
  repeat' split
  all_goals lia
 simp[zA,e0,e1,e2,minV]
noncomputable def aM(c k:Int):Int:=(c%1000003*(48271+15838*k*k)+69621*k)%2147483647
theorem zO(c k:Int):0<=aM c k/\aM c k<2147483647:=by unfold aM;lia
theorem kW{i j:Int}(h:dM i=true\/dM j=true):D.bin .Mult (.int i) (.int j)=.ok (.int (i*j)):=by
 show aC (dM i||dM j) _=_
 rcases h with h|h
 ·rw[h];rfl
 ·rw[h,AF];rfl
theorem iX(n:Nat)(c k:Int)(hk:0<=k/\k<1000000):aB T dfs (n+1) 21 [.int c,.int k]=.ok (.int (aM c k)):=by
 refine bH (k:=false) rfl rfl rfl ?_
 have hk2:dM k=true:=by unfold dM;simp;lia
 have e1:D.bin .Mult (.int 15838) (.int k)=.ok (.int (15838*k)):=kW (.inr hk2)
 have e2:D.bin .Mult (.int (15838*k)) (.int k)=.ok (.int (15838*k*k)):=kW (.inr hk2)
 have e3:D.bin .Mult (.int 69621) (.int k)=.ok (.int (69621*k)):=kW (.inr hk2)
 have e4:D.bin .Mult (.int (c%1000003)) (.int (48271+15838*k*k))=.ok (.int (c%1000003*(48271+15838*k*k))):=kW (.inl (by unfold dM;simp;lia))
 simp[yY,e1,e2,e3,e4,aM]
noncomputable def zP:List Nat->Nat
 |a::_=>a
 |[]=>97
noncomputable def uB(x base:Int):Nat:=if x%4=0 then 97 else if x%4=1 then 98 else if x%4=2 then 97 else zP (gJ (7*base) x)
theorem Jf(c k:Int):∃a r,gJ c k=a::r:=by
 have:=EB c k
 cases e:gJ c k with
 |nil=>rw[e]at this;simp at this
 |cons a r=>exact⟨a,r,rfl⟩
noncomputable def pB(cell base:Int)(k:Nat):Str×List D:=(dW base k,[.str (gP (uB (aM cell k) base)),.int (minV (aM cell k/4)),.int (minV (aM cell (k+20)))])
theorem Jg(n:Nat)(cell base:Int)(k:Nat)(hk:k<1000):aB T dfs (n+2) 24 [.int cell,.int k,.int base]=.ok (ent (pB cell base k)):=by
 refine bH (k:=false) rfl rfl rfl ?_
 have hb:=bT
 have e1:=iX n cell k (by lia)
 have e2:=iX n cell (k+20) (by lia)
 have e3:=tZ n base k
 have e4:=tZ n (7*base) (aM cell k)
 have e5:=pA n (aM cell k/4)
 have e6:=pA n (aM cell (k+20))
 have e7:D.bin .Mult (.int 7) (.int base)=.ok (.int (7*base)):=kW (.inl (by decide))
 have e8:D.sl (.str (dW (7*base) (aM cell k))) none (some 1)=.ok (.str (gP (zP (gJ (7*base) (aM cell k))))):=by
  obtain⟨a,r,e⟩:=Jf (7*base) (aM cell k)
  have hl:(dW (7*base) (aM cell k)).length<=big:=by
   rw[sF,Dy,EB];have:=Dz (7*base);lia
  show aC (decide ((dW (7*base) (aM cell k)).length<=big)) (.ok (D.str (iJ (dW (7*base) (aM cell k)) none (some 1))))=_
  rw[show decide ((dW (7*base) (aM cell k)).length<=big)=true by simpa using hl]
  unfold iJ
  rw[show(dW (7*base) (aM cell k)).cps.toList=gJ (7*base) (aM cell k)from Dy _ _,e]
  have:cut (a::r) none (some 1)=[a]:=by
   unfold cut sIx;simp
  rw[this];rfl
 have r:=zO cell k
 have e9:D.ix (.lst [.str "a", .str "b", .str "a", .str (gP (zP (gJ (7*base) (aM cell k))))]) (.int (aM cell k%4))=.ok (.str (gP (uB (aM cell k) base))):=by
  show Res.of (atI _ _)=_
  rw[tY _ _ _ _ _ (by lia)]
  unfold uB
  repeat' split
  ·exact congrArg (λz=>Res.ok (D.str z)) (show("a" : Str)=_ by decide)
  ·exact congrArg (λz=>Res.ok (D.str z)) (show("b" : Str)=_ by decide)
  ·exact congrArg (λz=>Res.ok (D.str z)) (show("a" : Str)=_ by decide)
  ·rfl
 simp[zB,e1,e2,e3,e4,e5,e6,e7,e8,e9,ent,pB]
noncomputable def uC (x:Int):Str:=if x%6=0 then "ab" else if x%6=1 then "a" else if x%6=2 then "bca" else if x%6=3 then "" else if x%6=4 then "abcdefghijklmnopqrstuvwxyz" else "zb"
noncomputable def pC(cell base:Int)(k:Nat):Str×List D:=(dW base k,[.str (uC (aM cell k)),.int (minV (aM cell k/6))])
theorem six_at{α:Type}(a b c d e f:α)(i:Int)(h:0<=i/\i<6):atI [a,b,c,d,e,f] i=some (if i=0 then a else if i=1 then b else if i=2 then c else if i=3 then d else if i=4 then e else f):=by
 have:i=0\/i=1\/i=2\/i=3\/i=4\/i=5:=by lia
 rcases this with rfl|rfl|rfl|rfl|rfl|rfl<;>rfl
theorem Jh(n:Nat)(cell base:Int)(k:Nat)(hk:k<1000):aB T dfs (n+2) 25 [.int cell,.int k,.int base]=.ok (ent (pC cell base k)):=by
 refine bH (k:=false) rfl rfl rfl ?_
 have hb:=bT
 have e1:=iX n cell k (by lia)
 have e3:=tZ n base k
 have e5:=pA n (aM cell k/6)
 have r:=zO cell k
 have e9:D.ix (.lst [.str "ab", .str "a", .str "bca", .str "", .str "abcdefghijklmnopqrstuvwxyz", .str "zb"]) (.int (aM cell k%6))=.ok (.str (uC (aM cell k))):=by
  show Res.of (atI _ _)=_
  rw[six_at _ _ _ _ _ _ _ (by lia)]
  unfold uC
  repeat' split
  all_goals rfl
 simp[zC,e1,e3,e5,e9,ent,pC]
noncomputable def fB(j:Nat):Int:=if j=0 then 1 else if j=1 then 3 else if j=2 then 9 else if j=3 then 27 else if j=4 then 81 else if j=5 then 243 else if j=6 then 729 else 2187
noncomputable def inV(x:Int)(j:Nat):Bool:=decide (x/fB j%3=0)
theorem Ji{α:Type}(a b c d e f g h:α)(i:Nat)(hi:i<8):atI [a,b,c,d,e,f,g,h] (i:Int)=some (if i=0 then a else if i=1 then b else if i=2 then c else if i=3 then d else if i=4 then e else if i=5 then f else if i=6 then g else h):=by
 have:i=0\/i=1\/i=2\/i=3\/i=4\/i=5\/i=6\/i=7:=by lia
 rcases this with rfl|rfl|rfl|rfl|rfl|rfl|rfl|rfl<;>rfl
theorem Jj(j:Nat):0<fB j/\fB j<1073741824:=by
 unfold fB
 repeat' split
 all_goals lia
theorem EC(n:Nat)(x:Int)(a b c d f g h:Sl):∀xs:List Nat,(∀j∈xs,j<8)->aT (aI T (aB T dfs n) 1 [4] (.one 0) oT oS [a,b,c,d,.v (.int x),f,g,h]) (xs.map λj:Nat=>D.int j)=.ok ((xs.filter (inV x)).map λj:Nat=>D.int j)
 |[],_=>rfl
 |j::r,hj=>by
  have h8:=hj j bR
  have e1:D.ix (.lst [.int 1,.int 3,.int 9,.int 27,.int 81,.int 243,.int 729,.int 2187]) (.int j)=.ok (.int (fB j)):=by
   show Res.of (atI _ _)=_
   rw[Ji _ _ _ _ _ _ _ _ j h8]
   unfold fB
   repeat' split
   all_goals rfl
  have hp:=Jj j
  have e2:D.bin .FloorDiv (.int x) (.int (fB j))=.ok (.int (x/fB j)):=by
   show aC (decide (0<fB j)&&decide (fB j<1073741824)) _=_
   rw[show decide (0<fB j)=true by simpa using hp.1,show decide (fB j<1073741824)=true by simpa using hp.2]
   rfl
  rw[aK,aT,EC n x a b c d f g h r λi hi=>hj i (bG _ hi)]
  by_cases q:x/fB j%3=0
  ·have q':inV x j=true:=by unfold inV;simpa using q
   rw[La q']
   simp[aI,Tr.aU,oT,oS,e1,e2,q]
  ·have q':¬inV x j=true:=by unfold inV;simpa using q
   rw[Lb q']
   simp[aI,Tr.aU,oT,oS,e1,e2,q]
noncomputable def kX(x:Int)(many:Nat):List Nat:=(aF many).filter (inV x)
theorem Jk(x:Int)(many:Nat):(kX x many).length<=many:=by
 have:=jY (inV x) (aF many)
 rw[cN]at this
 exact this
noncomputable def jP(cell:Int)(k many:Nat):List Nat:=fA cell (kX (aM cell (k+40)) many)
noncomputable def pD(cell base:Int)(k many:Nat):Str×List D:=(dW base k,[.int (minV (aM cell k)),.int (minV (aM cell (k+20))),.tup ((jP cell k many).map λj:Nat=>D.int j)])
theorem Jl(n:Nat)(cell base:Int)(k many:Nat)(hk:k<1000)(hm:many<=8):aB T dfs (n+2) 26 [.int cell,.int k,.int base,.int many]=.ok (ent (pD cell base k many)):=by
 refine bH (k:=false) rfl rfl rfl ?_
 have hb:=bT
 have e0:=iX n cell (k+40) (by lia)
 have e1:=iX n cell k (by lia)
 have e2:=iX n cell (k+20) (by lia)
 have e3:=tZ n base k
 have e4:=pA n (aM cell k)
 have e5:=pA n (aM cell (k+20))
 have e6:hJ (.int (many:Int))=.ok ((aF many).map λj:Nat=>D.int j):=by
  rw[kQ (by lia),iR]
  simp
 have e7:=λa b c d f g h=>EC (n+1) (aM cell (k+40)) a b c d f g h (aF many) λj hj=>by rw[dC]at hj;lia
 have hl:=Jk (aM cell (k+40)) many
 have e7':∀a b c d f g h,aT (aI T (aB T dfs (n+1)) 1 [4] (.one 0) oT oS [a,b,c,d,.v (.int (aM cell (k+40))),f,g,h]) ((aF many).map λj:Nat=>D.int j)=.ok ((kX (aM cell (k+40)) many).map λj:Nat=>D.int j):=e7
 clear e7
 have hw:jP cell k many=fA cell (kX (aM cell (k+40)) many):=rfl
 generalize kX (aM cell (k+40)) many=L at *
 have hr:=Dn cell L
 have e8:cell%((L.length:Int)+1)=(((cell%((L.length:Int)+1)).toNat:Nat):Int):=by
  have:=pT cell (show(L.length:Int)+1≠0 by lia)
  lia
 have e9:(0:Int)<(L.length:Int)+1:=by lia
 have hL:(L.map λj:Nat=>D.int j).length=L.length:=aE ..
 have e10:cut (L.map λj:Nat=>D.int j) (some (cell%((L.length:Int)+1))) none=(L.map λj:Nat=>D.int j).drop (cell%((L.length:Int)+1)).toNat:=by
  rw[e8];exact sG (by rw[hL];lia)
 have e11:cut (L.map λj:Nat=>D.int j) none (some (cell%((L.length:Int)+1)))=(L.map λj:Nat=>D.int j).take (cell%((L.length:Int)+1)).toNat:=by
  rw[e8];exact sH (by rw[hL];lia)
 have e12:D.bin .Add (.lst ((L.map λj:Nat=>D.int j).drop (cell%((L.length:Int)+1)).toNat)) (.lst ((L.map λj:Nat=>D.int j).take (cell%((L.length:Int)+1)).toNat))=.ok (.lst ((jP cell k many).map λj:Nat=>D.int j)):=by
  rw[Dm (by rw[pJ,fS,hL];lia),hw,<-Dq]
  unfold fA
  rw[hL]
 have e13:many<=big:=by lia
 have e14:L.length<=big:=by lia
 simp[zD,e0,e1,e2,e3,e4,e5,e6,e7',e9,e10,e11,e12,e13,e14,ent,pD]
noncomputable def jQ(cell share:Int)(k:Nat):Bool:=decide (aM cell k/64%share=0)
noncomputable def prD(p:Nat×Nat):D:=.tup [.int p.1,.int p.2]
noncomputable def prs(cell share:Int)(other:Nat)(xs:List Nat):List (Nat×Nat):=(xs.filter (jQ cell share)).map λk=>(k/other,k%other)
theorem Jm(n:Nat)(cell one share:Int)(other k:Nat)(ho:0<other/\other<1000)(hs:0<share)(hk:k<1000)(acc:List D)(ha:acc.length<1000)(x y z w:Sl) :
 aL T (aB T dfs (n+1)) (.one 5) mC (.int k) [.v (.int cell),.v (.int one),.v (.int other),.v (.int share),.o (.lst acc),x,y,z,w] =
  .ok (.nx [.v (.int cell),.v (.int one),.v (.int other),.v (.int share),.o (.lst (if jQ cell share k then acc++[prD (k/other,k%other)]else acc)),.v (.int k),.v (.int (aM cell k)),.v (prD (k/other,k%other)),w]):=by
 have hb:=bT
 have e1:=iX n cell k (by lia)
 have e2:D.bin .FloorDiv (.int k) (.int other)=.ok (.int ((k/other:Nat):Int)):=by
  show aC (decide ((0:Int)<other)&&decide ((other:Int)<1073741824)) _=_
  rw[show decide ((0:Int)<other)=true by simp;lia,show decide ((other:Int)<1073741824)=true by simp;lia]
  simp
 have e3:D.bin .Mod (.int k) (.int other)=.ok (.int ((k%other:Nat):Int)):=by
  show aC (decide ((0:Int)<other)) _=_
  rw[show decide ((0:Int)<other)=true by simp;lia]
  simp
 have e4:acc.length<big:=by lia
 by_cases q:aM cell k/64%share=0
 ·have q':jQ cell share k=true:=by unfold jQ;simpa using q
  simp[aL,mC,e1,e2,e3,hs,q,q',e4,prD]
 ·have q':jQ cell share k=false:=by unfold jQ;simpa using q
  simp[aL,mC,e1,e2,e3,hs,q,q',prD]
theorem ED(n:Nat)(cell one share:Int)(other:Nat)(ho:0<other/\other<1000)(hs:0<share)(w:Sl):∀(xs:List Nat)(acc:List D)(x y z:Sl),(∀k∈xs,k<1000)->acc.length+xs.length<1000 ->
 ∃x' y' z',aR (aL T (aB T dfs (n+1)) (.one 5) mC) (xs.map λk:Nat=>D.int k) [.v (.int cell),.v (.int one),.v (.int other),.v (.int share),.o (.lst acc),x,y,z,w] =
  .ok (.nx [.v (.int cell),.v (.int one),.v (.int other),.v (.int share),.o (.lst (acc++(prs cell share other xs).map prD)),x',y',z',w])
 |[],acc,x,y,z,_,_=>⟨x,y,z,by simp[prs,sA]⟩
 |k::r,acc,x,y,z,hx,hl=>by
  rw[aX]at hl
  have e:=Jm n cell one share other k ho hs (hx k bR) acc (by lia) x y z w
  obtain⟨x',y',z',e2⟩:=ED n cell one share other ho hs w r (if jQ cell share k then acc++[prD (k/other,k%other)]else acc) (.v (.int k)) (.v (.int (aM cell k))) (.v (prD (k/other,k%other))) (λi hi=>hx i (bG _ hi)) (by split<;>(try rw[cE,jB])<;>lia)
  refine⟨x',y',z',?_⟩
  rw[aK,dI e,e2]
  unfold prs
  cases q:jQ cell share k with
  |true=>rw[La q];simp
  |false=>rw[Lb (by rw[q];simp)];simp
noncomputable def fC(cell share:Int)(one other:Nat):List (Nat×Nat):=fA cell (prs cell share other (aF (one*other)))
theorem EE(cell share:Int)(other:Nat)(xs:List Nat):(prs cell share other xs).length<=xs.length:=by
 unfold prs
 rw[aE]
 exact jY _ _
theorem EF(n:Nat)(cell share:Int)(one other:Nat)(h1:one<=8)(h2:other<=8)(hs:0<share):aB T dfs (n+2) 27 [.int cell,.int one,.int other,.int share]=.ok (.lst ((fC cell share one other).map prD)):=by
 refine bH (k:=true) rfl rfl rfl ?_
 have hb:=bT
 have hm:one*other<=64:=uR h1 h2
 have e1:D.bin .Mult (.int one) (.int other)=.ok (.int ((one:Int)*(other:Int))):=kW (.inl (by unfold dM;simp;lia))
 have e2:hJ (.int ((one:Int)*(other:Int)))=.ok ((aF (one*other)).map λk:Nat=>D.int k):=by
  rw[show(one:Int)*(other:Int)=((one*other:Nat):Int) by push_cast;rfl,kQ (by lia),iR]
  simp
 have e3:∃x' y' z',aR (aL T (aB T dfs (n+1)) (.one 5) mC) ((aF (one*other)).map λk:Nat=>D.int k) [.v (.int cell),.v (.int one),.v (.int other),.v (.int share),.o (.lst []),.no,.no,.no,.no] =
  .ok (.nx [.v (.int cell),.v (.int one),.v (.int other),.v (.int share),.o (.lst ((prs cell share other (aF (one*other))).map prD)),x',y',z',.no]):=by
  by_cases ho:0<other
  ·have:=ED n cell one share other ⟨ho,by lia⟩ hs .no (aF (one*other)) [] .no .no .no (λk hk=>by rw[dC]at hk;lia) (by rw[cN];simp;lia)
   simpa using this
  ·have:other=0:=by lia
   subst this
   exact⟨.no,.no,.no,by simp[prs,sA]⟩
 obtain⟨x',y',z',e3⟩:=e3
 have hl:=EE cell share other (aF (one*other))
 rw[cN]at hl
 have hw:fC cell share one other=fA cell (prs cell share other (aF (one*other))):=rfl
 generalize prs cell share other (aF (one*other))=L at *
 have hr:=Dn cell L
 have e8:cell%((L.length:Int)+1)=(((cell%((L.length:Int)+1)).toNat:Nat):Int):=by
  have:=pT cell (show(L.length:Int)+1≠0 by lia)
  lia
 have e9:(0:Int)<(L.length:Int)+1:=by lia
 have hL:(L.map prD).length=L.length:=aE ..
 have e10:cut (L.map prD) (some (cell%((L.length:Int)+1))) none=(L.map prD).drop (cell%((L.length:Int)+1)).toNat:=by
  rw[e8];exact sG (by rw[hL];lia)
 have e11:cut (L.map prD) none (some (cell%((L.length:Int)+1)))=(L.map prD).take (cell%((L.length:Int)+1)).toNat:=by
  rw[e8];exact sH (by rw[hL];lia)
 have e12:D.bin .Add (.lst ((L.map prD).drop (cell%((L.length:Int)+1)).toNat)) (.lst ((L.map prD).take (cell%((L.length:Int)+1)).toNat))=.ok (.lst ((fC cell share one other).map prD)):=by
  rw[Dm (by rw[pJ,fS,hL];lia),hw,<-Dq]
  unfold fA
  rw[hL]
 have e14:L.length<=big:=by lia
 simp[zE,e1,e2,e3,e9,e10,e11,e12,e14]
noncomputable def dX(f:Nat->Int):D:=.lst [.int (f 0),.int (f 1),.int (f 2),.int (f 3),.int (f 4),.int (f 5),.int (f 6),.int (f 7)]
theorem Jn(n:Nat)(ns:List Int)(at_:Nat)(env:Nv):aT (aI T (aB T dfs (n+1)) 1 [0,1] (.one 0) mD (.con (.bl true)) (.v (.lst (ns.map D.int))::.v (.int at_)::env)) (cG 0 8)=.ok [.int (cM ns at_),.int (cM ns (at_+1)),.int (cM ns (at_+2)),.int (cM ns (at_+3)),.int (cM ns (at_+4)),.int (cM ns (at_+5)),.int (cM ns (at_+6)),.int (cM ns (at_+7))]:=by
 have e:∀xs:List Nat,aT (aI T (aB T dfs (n+1)) 1 [0,1] (.one 0) mD (.con (.bl true)) (.v (.lst (ns.map D.int))::.v (.int at_)::env)) (xs.map λj:Nat=>D.int j)=.ok (xs.map λj:Nat=>D.int (cM ns (at_+j))):=by
  intro xs
  induction xs with
  |nil=>rfl
  |cons x r ih=>
   have c:=zN n ns (at_+x)
   rw[show((at_+x:Nat):Int)=(at_:Int)+(x:Int) by push_cast;rfl]at c
   rw[aK,aT,ih]
   simp[aI,Tr.aU,mD,c]
 have e2:cG 0 8=(aF 8).map λj:Nat=>D.int j:=by rw[iR];simp
 rw[e2,e]
 rfl
theorem EG(n:Nat)(f:Nat->Int)(a b:Sl)(env:Nv):∀xs:List Nat,(∀k∈xs,k<1000)->aT (aI T (aB T dfs (n+2)) 1 [2] (.one 0) zF (.con (.bl true)) (a::b::.v (dX f)::env)) (xs.map λj:Nat=>D.int j)=.ok (xs.map λk=>ent (pB (f 2) (f 0) k))
 |[],_=>rfl
 |x::r,h=>by
  have c:=Jg n (f 2) (f 0) x (h x bR)
  rw[aK,aT,EG n f a b env r λk hk=>h k (bG _ hk)]
  simp[aI,Tr.aU,zF,dX,c]
theorem EH(n:Nat)(f:Nat->Int)(a b:Sl)(env:Nv):∀xs:List Nat,(∀k∈xs,k<1000)->aT (aI T (aB T dfs (n+2)) 1 [2] (.one 0) zG (.con (.bl true)) (a::b::.v (dX f)::env)) (xs.map λj:Nat=>D.int j)=.ok (xs.map λk=>ent (pC (f 3) (f 4) k))
 |[],_=>rfl
 |x::r,h=>by
  have c:=Jh n (f 3) (f 4) x (h x bR)
  rw[aK,aT,EH n f a b env r λk hk=>h k (bG _ hk)]
  simp[aI,Tr.aU,zG,dX,c]
noncomputable def kY(base:Int)(many:Nat):Nat->List Int->List (Str×List D)
 |_,[]=>[]
 |j,c::r=>pD c base j many::kY base many (j+1) r
theorem EI(n:Nat)(f:Nat->Int)(many:Nat)(hm:many<=8)(a0 a1 a4 a5 a9 a10 a11 a12:Sl):∀(cs:List Int)(j:Nat)(acc:List D)(x y:Sl),j+cs.length<1000->acc.length+cs.length<1000 ->
 ∃x' y',aR (aL T (aB T dfs (n+2)) (.many [7,8]) oU) (dB j (cs.map D.int)) [a0,a1,.v (dX f),.v (.int many),a4,a5,.o (.lst acc),x,y,a9,a10,a11,a12] =
  .ok (.nx [a0,a1,.v (dX f),.v (.int many),a4,a5,.o (.lst (acc++(kY (f 5) many j cs).map ent)),x',y',a9,a10,a11,a12])
 |[],j,acc,x,y,_,_=>⟨x,y,by simp[kY,dB,sA]⟩
 |c::r,j,acc,x,y,h1,h2=>by
  rw[aX]at h1 h2
  have hb:=bT
  have e0:=Jl n c (f 5) j many (by lia) hm
  have e1:acc.length<big:=by lia
  have e:aL T (aB T dfs (n+2)) (.many [7,8]) oU (.tup [.int j,.int c]) [a0,a1,.v (dX f),.v (.int many),a4,a5,.o (.lst acc),x,y,a9,a10,a11,a12] =
   .ok (.nx [a0,a1,.v (dX f),.v (.int many),a4,a5,.o (.lst (acc++[ent (pD c (f 5) j many)])),.v (.int j),.v (.int c),a9,a10,a11,a12]):=by
   simp[aL,oU,dX,e0,e1]
  obtain⟨x',y',e2⟩:=EI n f many hm a0 a1 a4 a5 a9 a10 a11 a12 r (j+1) (acc++[ent (pD c (f 5) j many)]) (.v (.int j)) (.v (.int c)) (by lia) (by simp;lia)
  refine⟨x',y',?_⟩
  rw[aK,dB,dI e,show(j:Int)+1=((j+1:Nat):Int) by push_cast;rfl,e2,kY,aK,pM]
  rfl
noncomputable def mH(cell:Int)(p:Nat×Nat):Nat×Nat×Nat:=(p.1,p.2,(aM cell (p.2+9*p.1)%1000000000).toNat)
noncomputable def lkD(l:Nat×Nat×Nat):D:=.tup [.int l.1,.int l.2.1,.int l.2.2]
theorem EJ(n:Nat)(f:Nat->Int)(a0 a1 a3 a4 a5 a6 a7 a8 a12:Sl):∀(ps:List (Nat×Nat))(acc:List D)(x y:Sl),(∀p∈ps,p.1<100/\p.2<100)->acc.length+ps.length<1000 ->
 ∃x' y',aR (aL T (aB T dfs (n+2)) (.many [10,11]) oV) (ps.map prD) [a0,a1,.v (dX f),a3,a4,a5,a6,a7,a8,.o (.lst acc),x,y,a12] =
  .ok (.nx [a0,a1,.v (dX f),a3,a4,a5,a6,a7,a8,.o (.lst (acc++(ps.map (mH (f 6))).map lkD)),x',y',a12])
 |[],acc,x,y,_,_=>⟨x,y,by simp[sA]⟩
 |p::r,acc,x,y,h1,h2=>by
  rw[aX]at h2
  have hb:=bT
  have hp:=h1 p bR
  have e0:=iX (n+1) (f 6) ((p.2:Int)+9*(p.1:Int)) (by lia)
  have e1:acc.length<big:=by lia
  have r1:=zO (f 6) ((p.2:Int)+9*(p.1:Int))
  have e3:D.bin .Mult (.int 9) (.int (p.1:Int))=.ok (.int (9*(p.1:Int))):=kW (.inl (by decide))
  have e4:((aM (f 6) ((p.2:Int)+9*(p.1:Int))%1000000000).toNat:Int)=aM (f 6) ((p.2:Int)+9*(p.1:Int))%1000000000:=by lia
  have e:aL T (aB T dfs (n+2)) (.many [10,11]) oV (prD p) [a0,a1,.v (dX f),a3,a4,a5,a6,a7,a8,.o (.lst acc),x,y,a12] =
   .ok (.nx [a0,a1,.v (dX f),a3,a4,a5,a6,a7,a8,.o (.lst (acc++[lkD (mH (f 6) p)])),.v (.int p.1),.v (.int p.2),a12]):=by
   simp[aL,oV,dX,prD,e0,e1,e3,lkD,mH,e4]
  obtain⟨x',y',e2⟩:=EJ n f a0 a1 a3 a4 a5 a6 a7 a8 a12 r (acc++[lkD (mH (f 6) p)]) (.v (.int p.1)) (.v (.int p.2)) (λq hq=>h1 q (bG _ hq)) (by simp;lia)
  refine⟨x',y',?_⟩
  rw[aK,dI e,e2,aK,aK,pM]
  rfl
noncomputable def bN(c:Int):Nat:=(c%7).toNat+(if c/7%8=5/\c%7=6 then 2 else 0)
theorem EK(c:Int):bN c<=8:=by unfold bN;split<;>lia
noncomputable def fV(ns:List Int)(at_ j:Nat):Int:=cM ns (at_+j)
noncomputable def mJ(f:Nat->Int):List (Str×List D):=(aF (bN (f 1))).map λk=>pB (f 2) (f 0) k
noncomputable def iY(f:Nat->Int):List (Str×List D):=(aF (f 1/56%7).toNat).map λk=>pC (f 3) (f 4) k
noncomputable def zQ(f:Nat->Int):List (Nat×Nat×Nat):=(fC (f 6) 3 (f 1/56%7).toNat (bN (f 1))).map (mH (f 6))
noncomputable def zR(f:Nat->Int):List (Nat×Nat):=fC (f 7) 2 (bN (f 1)) (f 1/56%7).toNat
noncomputable def uD(f:Nat->Int)(cs:List Int):List (Str×List D):=kY (f 5) (bN (f 1)) 0 cs
noncomputable def zS(f:Nat->Int)(cs:List Int):D:=.tup [.tup ((mJ f).map ent),.tup ((iY f).map ent),.tup ((uD f cs).map ent),.tup ((zQ f).map lkD),.tup ((zR f).map prD)]
theorem EL{cell share:Int}{one other:Nat}{p:Nat×Nat}(h:p∈fC cell share one other):p.1<one/\p.2<other:=by
 unfold fC prs at h
 rw[Do,bS]at h
 obtain⟨k,hk,rfl⟩:=h
 have hk:=(fP.mp hk).1
 rw[dC]at hk
 have ho:0<other:=by
  rcases Nat.eq_zero_or_pos other with z|z
  ·rw[z]at hk;simp at hk
  ·exact z
 exact⟨(Nat.div_lt_iff_lt_mul ho).mpr hk,Nat.mod_lt _ ho⟩
theorem EM{cell share:Int}{one other:Nat}:(fC cell share one other).length<=one*other:=by
 unfold fC
 rw[(Dp _ _).length_eq]
 have:=EE cell share other (aF (one*other))
 rwa [cN]at this
theorem EN{T:Tab}{cf:Nat->List D->Res D}{a r:S}{e e1:Nv}(h:exS T cf a e=.ok (.nx e1)):exS T cf (.cons a r) e=exS T cf r e1:=by rw[DX,h];rfl
theorem Jo(n:Nat)(ns:List Int)(at_:Nat)(hn:ns.length<=63)(ha:at_<=20):aB T dfs (n+3) 28 [.lst (ns.map D.int),.int at_]=.ok (zS (fV ns at_) ((ns.drop (at_+8)).take 9)):=by
 refine bH (k:=false) rfl rfl rfl ?_
 have hb:=bT
 have e1:=λenv=>Jn (n+1) ns at_ env
 have e1':∀env,aT (aI T (aB T dfs (n+2)) 1 [0,1] (.one 0) mD (.con (.bl true)) (.v (.lst (ns.map D.int))::.v (.int at_)::env)) (cG 0 8)=.ok [.int (fV ns at_ 0),.int (fV ns at_ 1),.int (fV ns at_ 2),.int (fV ns at_ 3),.int (fV ns at_ 4),.int (fV ns at_ 5),.int (fV ns at_ 6),.int (fV ns at_ 7)]:=e1
 clear e1
 have e0:hJ (.int 8)=.ok (cG 0 8):=kQ (n:=8) (by lia)
 generalize hf:fV ns at_=f at *
 have hm:=EK (f 1)
 have hp:(f 1/56%7).toNat<=6:=by lia
 have e2:hJ (.int (bN (f 1):Int))=.ok ((aF (bN (f 1))).map λj:Nat=>D.int j):=by
  rw[kQ (by lia),iR];simp
 have e3:hJ (.int (f 1/56%7))=.ok ((aF (f 1/56%7).toNat).map λj:Nat=>D.int j):=by
  have h:=kQ (n:=(f 1/56%7).toNat) (by lia)
  rw[Ey (by lia)]at h
  rw[h,iR];simp
 have e4:=λa b env=>EG n f a b env (aF (bN (f 1))) λk hk=>by rw[dC]at hk;lia
 have e5:=λa b env=>EH n f a b env (aF (f 1/56%7).toNat) λk hk=>by rw[dC]at hk;lia
 have e6:=EF n (f 6) 3 (f 1/56%7).toNat (bN (f 1)) (by lia) (by lia) (by lia)
 have e7:=EF n (f 7) 2 (bN (f 1)) (f 1/56%7).toNat (by lia) (by lia) (by lia)
 have hc:(ns.drop (at_+8)).take 9=(ns.drop (at_+8)).take 9:=rfl
 have e9:cut (ns.map D.int) (some ((at_:Int)+8)) (some ((at_:Int)+17))=((ns.drop (at_+8)).take 9).map D.int:=by
  unfold cut sIx
  simp only[]
  rw[if_neg (by lia),if_neg (by lia),pS,uP,aE]
  by_cases q:at_+8<=ns.length
  ·rw[show((at_:Int)+8).toNat=at_+8 by lia,show((at_:Int)+17).toNat=at_+17 by lia,mU q]
   by_cases q2:at_+17<=ns.length
   ·rw[mU q2,show at_+17-(at_+8)=9 by lia]
   ·rw[Lc (by lia),mR (by simp),mR (by simp;lia)]
  ·rw[show((at_:Int)+8).toNat=at_+8 by lia,Ld (i:=at_+8) (by simp;lia),Ld (by rw[aE];lia)]
   simp
 generalize hC:(ns.drop (at_+8)).take 9=C at *
 have hCl:C.length<=9:=by rw[<-hC,fS];lia
 have e10:=λa0 a1 a4 a5 a9 a10 a11 a12=>EI n f (bN (f 1)) hm a0 a1 a4 a5 a9 a10 a11 a12 C 0 [] .no .no (by lia) (by simp;lia)
 have e11:∀a0 a1 a3 a4 a5 a6 a7 a8 a12,_:=λa0 a1 a3 a4 a5 a6 a7 a8 a12=>EJ n f a0 a1 a3 a4 a5 a6 a7 a8 a12 (fC (f 6) 3 (f 1/56%7).toNat (bN (f 1))) [] .no .no (λp hp'=>by have:=EL hp';lia) (by
  have h1:=EM (cell:=f 6) (share:=3) (one:=(f 1/56%7).toNat) (other:=bN (f 1))
  have h2:(f 1/56%7).toNat*bN (f 1)<=6*8:=uR hp hm
  simp;lia)
 have z10:∀a0 a1 a4 a5 a9 a10 a11 a12,∃x' y',aR (aL T (aB T dfs (n+2)) (.many [7,8]) oU) (dB 0 (C.map D.int)) [a0,a1,.v (dX f),.v (.int (bN (f 1))),a4,a5,.o (.lst []),.no,.no,a9,a10,a11,a12]=.ok (.nx [a0,a1,.v (dX f),.v (.int (bN (f 1))),a4,a5,.o (.lst ((uD f C).map ent)),x',y',a9,a10,a11,a12]):=e10
 clear e10
 have e12:(if f 1/7%8=5/\f 1%7=6 then(2:Int)else 0)+f 1%7=(bN (f 1):Int):=by
  unfold bN;split<;>lia
 have e13:D.bin .Mult (.int 2) (.int 1)=.ok (.int 2):=rfl
 have e14:D.bin .Mult (.int 2) (.int 0)=.ok (.int 0):=rfl
 have hl1:bN (f 1)<=big:=by lia
 have hl2:(f 1/56%7).toNat<=big:=by lia
 have m0:Nat->True:=λ_=>trivial
 obtain⟨x1,y1,z10⟩:=z10 (.v (.lst (ns.map D.int))) (.v (.int at_)) (.v (.tup ((mJ f).map ent))) (.v (.tup ((iY f).map ent))) .no .no .no .no
 obtain⟨x2,y2,z11⟩:=e11 (.v (.lst (ns.map D.int))) (.v (.int at_)) (.v (.int (bN (f 1)))) (.v (.tup ((mJ f).map ent))) (.v (.tup ((iY f).map ent))) (.o (.lst ((uD f C).map ent))) x1 y1 .no
 have p1:(mJ f).map ent=(aF (bN (f 1))).map λk=>ent (pB (f 2) (f 0) k):=by unfold mJ;rw[bY];rfl
 have p2:(iY f).map ent=(aF (f 1/56%7).toNat).map λk=>ent (pC (f 3) (f 4) k):=by unfold iY;rw[bY];rfl
 have p3:((iY f).map ent).length=(f 1/56%7).toNat:=by rw[p2];simp
 rw[<-p1]at e4
 rw[<-p2]at e5
 simp only[dX]at e4 e5 z10 z11
 have h8:8<=big:=by lia
 have e6':aB T dfs (n+2) 27 [.int (f 6),.int (((iY f).map ent).length:Nat),.int (bN (f 1)),.int 3]=.ok (.lst ((fC (f 6) 3 (f 1/56%7).toNat (bN (f 1))).map prD)):=by rw[p3];exact e6
 have e7':aB T dfs (n+2) 27 [.int (f 7),.int (bN (f 1)),.int (((iY f).map ent).length:Nat),.int 2]=.ok (.lst ((zR f).map prD)):=by rw[p3];exact e7
 rw[aE]at e6' e7'
 have z11':aR (aL T (aB T dfs (n+2)) (.many [10,11]) oV) ((fC (f 6) 3 (f 1/56%7).toNat (bN (f 1))).map prD) _=.ok (.nx _):=z11
 rw[Er,show(fC (f 6) 3 (f 1/56%7).toNat (bN (f 1))).map (mH (f 6))=zQ f from rfl]at z11'
 unfold zH
 have s1:exS T (aB T dfs (n+2)) (.asg (.one 2) (.comp 1 [0,1] (.one 0) mD (.rng (.con (.int 8))) (.con (.bl true)))) [.v (.lst (ns.map D.int)),.v (.int at_),.no,.no,.no,.no,.no,.no,.no,.no,.no,.no,.no]=.ok (.nx [.v (.lst (ns.map D.int)),.v (.int at_),.v (.lst [.int (f 0),.int (f 1),.int (f 2),.int (f 3),.int (f 4),.int (f 5),.int (f 6),.int (f 7)]),.no,.no,.no,.no,.no,.no,.no,.no,.no,.no]):=by
  simp[e0,e1',h8]
 rw[show [D.lst (ns.map D.int),D.int at_].map Sl.v++aO (13-2) Sl.no=[.v (.lst (ns.map D.int)),.v (.int at_),.no,.no,.no,.no,.no,.no,.no,.no,.no,.no,.no]from rfl,EN s1]
 have v1:∀env:Nv,env.at 2=.v (.lst [.int (f 0),.int (f 1),.int (f 2),.int (f 3),.int (f 4),.int (f 5),.int (f 6),.int (f 7)])->evE T (aB T dfs (n+2)) (.bin .Add (.bin .Mod (.ix (.var 2) (.con (.int 1))) (.con (.int 7))) (.bin .Mult (.con (.int 2)) (.bt .int (.acons (.and (.cmp .Eq (.bin .Mod (.bin .FloorDiv (.ix (.var 2) (.con (.int 1))) (.con (.int 7))) (.con (.int 8))) (.con (.int 5))) (.cmp .Eq (.bin .Mod (.ix (.var 2) (.con (.int 1))) (.con (.int 7))) (.con (.int 6)))) .anil)))) env=.ok (.int (bN (f 1))):=by
  intro env h
  have w:f 1%7+(if f 1/7%8=5/\f 1%7=6 then(2:Int)else 0)=(bN (f 1):Int):=by unfold bN;split<;>lia
  rw[<-w]
  by_cases q1:f 1/7%8=5
  ·by_cases q2:f 1%7=6
   ·simp[h,q1,q2,e13]
    rfl
   ·have q3:(f 1%7==6)=false:=by simpa using q2
    simp[h,q1,q2,q3,b2z]
  ·simp[h,q1,b2z]
 have s2:exS T (aB T dfs (n+2)) (.asg (.one 3) (.bin .Add (.bin .Mod (.ix (.var 2) (.con (.int 1))) (.con (.int 7))) (.bin .Mult (.con (.int 2)) (.bt .int (.acons (.and (.cmp .Eq (.bin .Mod (.bin .FloorDiv (.ix (.var 2) (.con (.int 1))) (.con (.int 7))) (.con (.int 8))) (.con (.int 5))) (.cmp .Eq (.bin .Mod (.ix (.var 2) (.con (.int 1))) (.con (.int 7))) (.con (.int 6)))) .anil))))) [.v (.lst (ns.map D.int)),.v (.int at_),.v (.lst [.int (f 0),.int (f 1),.int (f 2),.int (f 3),.int (f 4),.int (f 5),.int (f 6),.int (f 7)]),.no,.no,.no,.no,.no,.no,.no,.no,.no,.no]=.ok (.nx [.v (.lst (ns.map D.int)),.v (.int at_),.v (.lst [.int (f 0),.int (f 1),.int (f 2),.int (f 3),.int (f 4),.int (f 5),.int (f 6),.int (f 7)]),.v (.int (bN (f 1))),.no,.no,.no,.no,.no,.no,.no,.no,.no]):=by
  rw[JD,v1 _ rfl];rfl
 rw[EN s2]
 clear s1 s2 v1
 simp[e2,e3,e4,e5,hl1,hl2,e9,xS,z10,e6',e7',z11',zS]
noncomputable def partR(f:Nat->Int)(k:Nat):Part:=⟨dW (f 0) k,gP (uB (aM (f 2) k) (f 0)),minV (aM (f 2) k/4),minV (aM (f 2) (k+20))⟩
noncomputable def Jp(f:Nat->Int)(k:Nat):Player:=⟨dW (f 4) k,uC (aM (f 3) k),minV (aM (f 3) k/6)⟩
noncomputable def sceneR(base:Int)(many:Nat)(cell:Int)(k:Nat):Scene:=⟨dW base k,minV (aM cell k),minV (aM cell (k+20)),jP cell k many⟩
noncomputable def jR(base:Int)(many:Nat):Nat->List Int->List Scene
 |_,[]=>[]
 |j,c::r=>sceneR base many c j::jR base many (j+1) r
theorem EO(base:Int)(many:Nat):∀(cs:List Int)(j:Nat),(kY base many j cs).map ent=(jR base many j cs).map Scene.enc
 |[],_=>rfl
 |c::r,j=>by rw[kY,jR,aK,aK,EO base many r (j+1)];rfl
theorem ES(base:Int)(many:Nat):∀(cs:List Int)(j:Nat),(jR base many j cs).length=cs.length
 |[],_=>rfl
 |c::r,j=>by rw[jR,aX,aX,ES base many r (j+1)]
theorem Jq(cell:Int)(k many:Nat):(jP cell k many).Nodup:=by
 unfold jP
 refine(Dp _ _).nodup_iff.mpr ?_
 unfold kX
 exact List.Pairwise.filter _ List.nodup_range
theorem Jr{cell:Int}{k many i:Nat}(h:i∈jP cell k many):i<many:=by
 unfold jP at h
 rw[Do]at h
 unfold kX at h
 simpa using(fP.mp h).1
theorem ET(base:Int)(many:Nat):∀(cs:List Int)(j:Nat)(s:Scene),s∈jR base many j cs->GoodScene many s
 |[],_,s,h=>by cases h
 |c::r,j,s,h=>by
  rw[jR]at h
  rcases aY.mp h with rfl|h
  ·exact⟨(uA _).1,(uA _).1,Jq _ _ _,λi hi=>Jr hi⟩
  ·exact ET base many r (j+1) s h
structure Drawn(P:List Part)(Q:List Player)(S:List Scene):Prop where
 hp:P.length<=8
 hq:Q.length<=6
 hs:S.length<=9
 voice:∀p∈P,(dJ p.voice).length=1
 good:∀s∈S,GoodScene P.length s
 dress:∀p∈P,0<=p.off/\0<=p.on
theorem Js(n:Nat)(P A B C:D)(ss:List Scene)(hl:ss.length<=24)(s t:Nat)(h:s<t)(ht:t<=ss.length):aB T dfs (n+1) 0 [.tup [P,A,.tup (ss.map Scene.enc),B,C],.int s,.int t]=.ok (.int (eD ss s t)):=by
 refine bH (k:=true) rfl rfl rfl ?_
 have hs:s<ss.length:=by lia
 have e1:=xX (bD hs)
 have e2:cut (ss.map Scene.enc) (some ((s:Int)+1)) (some (t:Int))=((ss.drop (s+1)).take (t-(s+1))).map Scene.enc:=by
  have:=cut_nn (xs:=ss.map Scene.enc) (a:=s+1) (b:=t) (by simp;lia) (by simp;lia)
  rw[pS,uP,<-this]
  push_cast
  rfl
 have e3:aT (aI T (aB T dfs n) 1 [] (.one 0) sI (.con (.bl true)) [.v (.tup [P,A,.tup (ss.map Scene.enc),B,C]),.v (.int s),.v (.int t),.v (.tup (ss.map Scene.enc))]) (((ss.drop (s+1)).take (t-(s+1))).map Scene.enc)=.ok ((((ss.drop (s+1)).take (t-(s+1))).map Scene.both).map D.int):=by
  rw[bY]
  have:∀xs:List Scene,aT (aI T (aB T dfs n) 1 [] (.one 0) sI (.con (.bl true)) [.v (.tup [P,A,.tup (ss.map Scene.enc),B,C]),.v (.int s),.v (.int t),.v (.tup (ss.map Scene.enc))]) (xs.map Scene.enc)=.ok (xs.map (D.int∘Scene.both)):=by
   intro xs
   induction xs with
   |nil=>rfl
   |cons x r ih=>
    rw[aK,aT,ih]
    simp[aI,Tr.aU,sI,Scene.both]
  exact this _
 have e4:((ss.map Scene.enc).length:Nat)<=big:=by have:=bT;simp;lia
 have e5:((((ss.drop (s+1)).take (t-(s+1))).map Scene.enc).length:Nat)<=big:=by have:=bT;simp;lia
 have e6:((ss[s]?).map Scene.pause).getD 0=ss[s].pause:=by simp[hs]
 have e7:eD ss s t=ss[s].pause+(((ss.drop (s+1)).take (t-(s+1))).map Scene.both).sum:=by unfold eD;rw[e6]
 rw[e7]
 clear e7 e4 ht
 generalize (ss.drop (s+1)).take (t-(s+1))=X at *
 simp only[aE]at e5
 simp[yI,e1,e2,e3,e5]
theorem Jt(n:Nat)(A S B C:D)(ps:List Part)(i j:Nat)(hi:i<ps.length)(hj:j<ps.length):aB T dfs (n+1) 1 [.tup [.tup (ps.map Part.enc),A,S,B,C],.int i,.int j]=.ok (.int (fM ps i j)):=by
 refine bH (k:=true) rfl rfl rfl ?_
 simp[yJ,xY (bD hi),xY (bD hj),JW hi hj]
theorem EU(n:Nat)(A B C:D)(ps:List Part)(ss:List Scene)(hl:ss.length<=24)(s i j:Nat)(hs:s<ss.length)(hi:i<ps.length)(hj:j<ps.length) :
 aB T dfs (n+2) 2 [.tup [.tup (ps.map Part.enc),A,.tup (ss.map Scene.enc),B,C],.int s,.int i,.int j]=.ok (iA (iT ps ss s i j)):=by
 have ct:=Jt n A (.tup (ss.map Scene.enc)) B C ps i j hi hj
 have rg:=D5 (s:=s) (m:=ss.length) (by lia) (by lia)
 have loop:=D9 (f:=aL T (aB T dfs (n+1)) (.one 5) oQ) (g:=lT ps ss s i j) (ts:=fT (s+1) (ss.length-(s+1)))
  (e:=[.v (.tup [.tup (ps.map Part.enc),A,.tup (ss.map Scene.enc),B,C]),.v (.int s),.v (.int i),.v (.int j),.v (.int (fM ps i j)),.no,.no])
  (I:=λe=>∃s5 s6,e=[.v (.tup [.tup (ps.map Part.enc),A,.tup (ss.map Scene.enc),B,C]),.v (.int s),.v (.int i),.v (.int j),.v (.int (fM ps i j)),s5,s6]) ⟨_,_,rfl⟩ (by
   rintro t ht e ⟨s5,s6,rfl⟩
   have ht':s<t/\t<ss.length:=by have:=pQ.mp ht;lia
   have e1:=xX (bD ht'.2)
   have e2:=Js n (.tup (ps.map Part.enc)) A B C ss hl s t ht'.1 (by lia)
   have e3:=sD ht'.2
   unfold lT
   by_cases c1:j∈cP ss t
   ·by_cases c2:eD ss s t<fM ps i j
    ·rw[if_pos ⟨c1,c2⟩]
     rw[e3]at c1
     simp[aL,oQ,aJ,e1,e2,c1,c2,bE,Rz.enc]
    ·rw[if_neg (by simp[c2])]
     rw[e3]at c1
     refine⟨?e1,?h1,?i1⟩
     case h1=>
      simp[aL,oQ,aJ,e1,e2,c1,c2,bE]
      exact rfl
     case i1=>exact⟨_,_,rfl⟩
   ·rw[if_neg (by simp[c1])]
    rw[e3]at c1
    refine⟨?e2,?h2,?i2⟩
    case h2=>
     simp[aL,oQ,aJ,e1,e2,c1,bE]
     exact rfl
    case i2=>exact⟨_,_,rfl⟩)
 refine bH (k:=false) rfl rfl rfl ?_
 unfold iT
 cases hg:(fT (s+1) (ss.length-(s+1))).findSome? (lT ps ss s i j)with
 |some r=>
  rw[hg]at loop
  simp[sJ,ct,rg,loop,iA]
 |none=>
  rw[hg]at loop
  obtain⟨e',h1,s5,s6,rfl⟩:=loop
  simp[sJ,ct,rg,h1,iA,bE]
theorem Ju(n:Nat)(A B C:D)(ps:List Part)(ss:List Scene)(hl:ss.length<=24)(s i j:Nat)(hs:s<ss.length)(hi:i<ps.length)(hj:j<ps.length) :
 aB T dfs (n+3) 3 [.tup [.tup (ps.map Part.enc),A,.tup (ss.map Scene.enc),B,C],.int s,.int i,.int j]=.ok (iA (iU ps ss i j s)):=by
 have e1:=xX (bD hs)
 have e2:=EU n A B C ps ss hl s i j hs hi hj
 have e3:=EU n A B C ps ss hl s j i hs hj hi
 have e4:=sD hs
 refine bH (k:=false) rfl rfl rfl ?_
 unfold iU
 rw[e4]
 by_cases c1:i∈ss[s].who<;>by_cases c2:j∈ss[s].who
 ·simp[lW,e1,c1,c2,iA,Rz.enc,bE]
 ·simp[lW,e1,c1,c2,e2]
 ·simp[lW,e1,c1,c2,e3]
 ·simp[lW,e1,c1,c2,iA,bE]
theorem Jv(n:Nat)(A B C:D)(ps:List Part)(ss:List Scene)(hl:ss.length<=24)(i j:Nat)(hi:i<ps.length)(hj:j<ps.length) :
 aB T dfs (n+4) 4 [.tup [.tup (ps.map Part.enc),A,.tup (ss.map Scene.enc),B,C],.int i,.int j]=.ok (iA (dS ps ss i j)):=by
 have rg:=lS (n:=ss.length) (by lia)
 have loop:=D9 (f:=aL T (aB T dfs (n+3)) (.one 3) sL) (g:=iU ps ss i j) (ts:=aF ss.length)
  (e:=[.v (.tup [.tup (ps.map Part.enc),A,.tup (ss.map Scene.enc),B,C]),.v (.int i),.v (.int j),.no,.no])
  (I:=λe=>∃s5 s6,e=[.v (.tup [.tup (ps.map Part.enc),A,.tup (ss.map Scene.enc),B,C]),.v (.int i),.v (.int j),s5,s6]) ⟨_,_,rfl⟩ (by
   rintro s ht e ⟨s5,s6,rfl⟩
   have e1:=Ju n A B C ps ss hl s i j (by simpa using ht) hi hj
   cases hg:iU ps ss i j s with
   |some r=>
    rw[hg]at e1
    simp[aL,sL,aJ,e1,bE]
    rfl
   |none=>
    rw[hg]at e1
    refine⟨?e1,?h1,?i1⟩
    case h1=>
     simp[aL,sL,aJ,e1]
     exact rfl
    case i1=>exact⟨_,_,rfl⟩)
 refine bH (k:=false) rfl rfl rfl ?_
 unfold dS
 cases hg:(aF ss.length).findSome? (iU ps ss i j)with
 |some r=>
  rw[hg]at loop
  simp[sM,rg,loop,iA]
 |none=>
  rw[hg]at loop
  obtain⟨e',h1,s5,s6,rfl⟩:=loop
  simp[sM,rg,h1,iA,bE]
theorem Jw(n:Nat)(A B C:D)(ps:List Part)(ss:List Scene)(hl:ss.length<=24)(hp:ps.length<=8) :
 aB T dfs (n+5) 5 [.tup [.tup (ps.map Part.enc),A,.tup (ss.map Scene.enc),B,C]]=.ok (.lst (((sE ps.length).filter λp=>(dS ps ss p.1 p.2).isSome).map eZ)):=by
 have rg:=lS (n:=ps.length) (by lia)
 obtain⟨e',h1,s3,rfl⟩:=D4 (f:=aL T (aB T dfs (n+4)) (.one 3) yK)
  (λi e=>∃s3,e=[.v (.tup [.tup (ps.map Part.enc),A,.tup (ss.map Scene.enc),B,C]),.o (.lst (((eP ps.length i).filter λp=>(dS ps ss p.1 p.2).isSome).map eZ)),.v (.int ps.length),s3])
  ((aF ps.length).map aJ) [.v (.tup [.tup (ps.map Part.enc),A,.tup (ss.map Scene.enc),B,C]),.o (.lst []),.v (.int ps.length),.no] 0 ⟨_,rfl⟩ (by
   rintro i0 d e hd ⟨s3,rfl⟩
   rw[AI]
   rw[bO]at hd
   cases hx:(aF ps.length)[i0]? with
   |none=>rw[hx]at hd;cases hd
   |some i=>
   rw[hx]at hd
   cases hd
   have hi':=eT.mp hx
   simp at hi'
   obtain⟨hi,rfl⟩:=hi'
   have rg2:=D5 (s:=i0) (m:=ps.length) (by lia) (by lia)
   have hc:aT (aI T (aB T dfs (n+4)) 1 [3,0] (.one 0) sO sN [.v (.tup [.tup (ps.map Part.enc),A,.tup (ss.map Scene.enc),B,C]),.o (.lst (((eP ps.length i0).filter λp=>(dS ps ss p.1 p.2).isSome).map eZ)),.v (.int ps.length),.v (.int i0)]) ((fT (i0+1) (ps.length-(i0+1))).map aJ) =
    .ok (((iV ps.length i0).filter λp=>(dS ps ss p.1 p.2).isSome).map eZ):=by
    rw[cQ aJ (λj=>if(dS ps ss i0 j).isSome=true then some (eZ (i0,j))else none) (by
     intro j hj
     have hj':=pQ.mp hj
     have e1:=Jv n A B C ps ss hl i0 j hi (by lia)
     cases hr:dS ps ss i0 j with
     |none=>rw[hr]at e1;simp[aI,Tr.aU,aJ,sN,sO,e1]
     |some r=>rw[hr]at e1;simp[aI,Tr.aU,aJ,sN,sO,e1,eZ])]
    refine congrArg Res.ok ?_
    unfold iV
    generalize fT (i0+1) (ps.length-(i0+1))=l
    induction l with
    |nil=>rfl
    |cons j r ih=>
     rw[iF,aK,jD]
     dsimp only
     rw[ih]
     cases (dS ps ss i0 j).isSome<;>rfl
   have b1:(((eP ps.length i0).filter λp=>(dS ps ss p.1 p.2).isSome).map eZ).length+(((iV ps.length i0).filter λp=>(dS ps ss p.1 p.2).isSome).map eZ).length<=big:=by
    have h1:=yB ps.length i0
    have h2:(iV ps.length i0).length<=8:=by rw[iV,aE,L7];lia
    have h3:=jY (λp:Nat×Nat=>(dS ps ss p.1 p.2).isSome) (eP ps.length i0)
    have h4:=jY (λp:Nat×Nat=>(dS ps ss p.1 p.2).isSome) (iV ps.length i0)
    have h5:i0*ps.length<=8*8:=uR (by lia) hp
    have:=bT
    rw[aE,aE]
    lia
   have b2:((fT (i0+1) (ps.length-(i0+1))).map aJ).length<=big:=by have:=bT;simp;lia
   refine⟨?e1,.inl ?h1,?i1⟩
   case h1=>
    rw[aL]
    simp only[JJ,aJ,Res.ok_bind,yK,DX,JF,Iz,JA,Iy,Iv,Iw,List.set,JI,JH,val_v,JK,rg2,hc,JG,JE,own_o,decide_eq_true b1,decide_eq_true b2,Ax,Bool.and_self,JB,JC]
    exact rfl
   case i1=>exact⟨.v (aJ i0),by rw[eP,L_,iH];rfl⟩)
 refine bH (k:=true) rfl rfl rfl ?_
 have hlen:((aF ps.length).map aJ).length=ps.length:=by simp
 rw[hlen,AI]at h1
 simp[yL,rg,h1,sE]
theorem Jx(n:Nat)(P:List Part)(Q:List Player)(X Y Z:D)(hv:∀p∈P,(dJ p.voice).length=1)(cs:List (Option Nat))(hc:∀j,some j∈cs->j<Q.length)(k:Nat)(hk:k<P.length)(hk2:k<cs.length) :
 aB T dfs (n+1) 6 [.tup [.tup (P.map Part.enc),.tup (Q.map Player.enc),X,Y,Z],.int k,bU (cs.getD k none)]=.ok (eQ (dU P Q cs k)):=by
 refine bH (k:=false) rfl rfl rfl ?_
 unfold dU
 cases h:cs.getD k none with
 |none=>simp[oR,eQ,Flt.enc]
 |some j=>
  have hj:j<Q.length:=hc j (by
   have:=Ds hk2
   rw[h]at this
   exact jA this)
  have e1:=xY (bD hk)
  have e2:=qs_at (bD hj)
  have e3:=J4 (p:=P[k]) (q:=Q[j]) (hv _ (fF hk))
  rw[<-yC hk hj]at e3
  dsimp only
  generalize lV P Q k j=c at e3
  cases c with
  |true=>simp[oR,e1,e2,e3,eQ]
  |false=>simp[oR,e1,e2,e3,eQ,Flt.enc]
theorem Jy(n:Nat)(cs:List (Option Nat))(i j:Nat)(hi:i<cs.length)(hj:j<cs.length):aB T dfs (n+1) 7 [.lst (cs.map bU),.int i,.int j]=.ok (.bl (eR cs i j)):=by
 refine bH (k:=false) rfl rfl rfl ?_
 have e1:=Dt hi
 have e2:=Dt hj
 have e3:=J6 (cs.getD i none) (cs.getD j none)
 unfold eR
 generalize cs.getD i none=a at *
 generalize cs.getD j none=b at *
 cases a with
 |none=>simp[sP,e1]
 |some x=>simp only[J3]at e1 e3;simp[sP,e1,e2,e3]
theorem Jz(n:Nat)(P:List Part)(Q:List Player)(S:List Scene)(Y Z:D)(hp:P.length<=8)(hs:S.length<=24)(hv:∀p∈P,(dJ p.voice).length=1)(cs:List (Option Nat))(hl:cs.length=P.length)(hc:∀j,some j∈cs->j<Q.length)(ps:List (Nat×Nat))(hps:∀p∈ps,p.1<P.length/\p.2<P.length)(hpl:ps.length<=100)
 (cl:aB T dfs (n+5) 5 [.tup [.tup (P.map Part.enc),.tup (Q.map Player.enc),.tup (S.map Scene.enc),Y,Z]]=.ok (.lst (ps.map eZ))) :
 aB T dfs (n+6) 8 [.tup [.tup (P.map Part.enc),.tup (Q.map Player.enc),.tup (S.map Scene.enc),Y,Z],.lst (cs.map bU)]=.ok (.lst ((iB P Q ps cs).map Flt.enc)):=by
 have hb:=bT
 refine bH (k:=true) rfl rfl rfl ?_
 have c1:∀x,aT (aI T (aB T dfs (n+5)) 2 [0] (.many [0,1]) yM (.con (.bl true)) [.v (.tup [.tup (P.map Part.enc),.tup (Q.map Player.enc),.tup (S.map Scene.enc),Y,Z]),.v (.lst (cs.map bU)),x]) (dB 0 (cs.map bU))=.ok ((aF cs.length).map λk=>eQ (dU P Q cs k)):=by
  intro x
  have e:=Dr bU none cs 0
  rw[show((0:Nat):Int)=0 from rfl]at e
  rw[e,cQ (λk=>D.tup [.int ((0+k:Nat):Int),bU (cs.getD k none)]) (λk=>some (eQ (dU P Q cs k))) (by
   intro k hk
   have hk:k<cs.length:=by simpa using hk
   have e1:=Jx (n+4) P Q (.tup (S.map Scene.enc)) Y Z hv cs hc k (by lia) hk
   simp only[AI]
   generalize bU (cs.getD k none)=z at e1⊢
   simp[aI,Tr.aU,yM,e1]),jE]
 have c2:∀x y z (l:List (Option Flt)),aT (aI T (aB T dfs (n+5)) 1 [] (.one 0) sR sQ [x,y,z]) (l.map eQ)=.ok ((l.filterMap id).map Flt.enc):=by
  intro x y z l
  rw[cQ eQ (λo=>o.map Flt.enc) (by
   intro o _
   cases o with
   |none=>simp[aI,Tr.aU,sR,sQ,eQ]
   |some f=>simp[aI,Tr.aU,sR,sQ];rfl)]
  refine congrArg Res.ok ?_
  induction l with
  |nil=>rfl
  |cons o r ih=>cases o<;>simp[ih]
 have c3:∀x z,aT (aI T (aB T dfs (n+5)) 2 [1] (.many [0,1]) sT sS [x,.v (.lst (cs.map bU)),z]) (ps.map eZ)=.ok (((ps.filter λp=>eR cs p.1 p.2).map λp=>Flt.cla p.1 p.2).map Flt.enc):=by
  intro x z
  rw[cQ eZ (λp=>if eR cs p.1 p.2=true then some (Flt.enc (.cla p.1 p.2))else none) (by
   intro p hp'
   have h:=hps p hp'
   have e1:=Jy (n+4) cs p.1 p.2 (by lia) (by lia)
   generalize eR cs p.1 p.2=c at e1
   cases c with
   |true=>simp[aI,Tr.aU,eZ,sT,sS,e1,Flt.enc]
   |false=>simp[aI,Tr.aU,eZ,sT,sS,e1])]
  refine congrArg Res.ok ?_
  clear cl hpl hps
  induction ps with
  |nil=>rfl
  |cons p r ih=>
   rw[iF,jD]
   cases eR cs p.1 p.2<;>simp[ih]
 have c4:((aF cs.length).map λk=>eQ (dU P Q cs k))=((aF cs.length).map (dU P Q cs)).map eQ:=by rw[bY];rfl
 rw[c4]at c1
 have c5:=λx y z=>c2 x y z ((aF cs.length).map (dU P Q cs))
 have l1:cs.length<=big:=by lia
 have l2:(((aF cs.length).map (dU P Q cs)).map eQ).length<=big:=by simp;lia
 have l3:ps.length<=big:=by lia
 have l5:=jY (λp:Nat×Nat=>eR cs p.1 p.2) ps
 have l6:(((aF cs.length).map (dU P Q cs)).filterMap id).length<=cs.length:=by
  have:=List.length_filterMap_le id ((aF cs.length).map (dU P Q cs))
  simpa using this
 have f1:iB P Q ps cs=((aF cs.length).map (dU P Q cs)).filterMap id++(ps.filter λp=>eR cs p.1 p.2).map λp=>Flt.cla p.1 p.2:=by
  unfold iB
  rw[LR];rfl
 rw[f1]
 generalize ((aF cs.length).map (dU P Q cs)).filterMap id=A at *
 generalize hB:((aF cs.length).map (dU P Q cs)).map eQ=B at *
 have l7:A.length+((ps.filter λp=>eR cs p.1 p.2)).length<=big:=by lia
 generalize hG:(ps.filter λp=>eR cs p.1 p.2).map (λp=>Flt.cla p.1 p.2)=G at *
 have l8:A.length+G.length<=big:=by rw[<-hG,aE];exact l7
 simp[yN,xS,c1,l1,c5,l2,cl,c3,l3,l8]
noncomputable def bF(c:List (Nat×Nat)):List (Sum Int Str×D):=c.map λx=>(.inl (x.1:Int),.int (x.2:Int))
noncomputable def bI(a:List Nat):List (Sum Int Str×D):=a.map λ(p:Nat)=>(.inl (p:Int),.bl true)
theorem zT(c:List (Nat×Nat))(p:Nat):bB (bF c) (.inl (p:Int))=(aN c p).map λ(g:Nat)=>D.int (g:Int):=by
 unfold bB bF aN
 rw[List.find?_map,Le,Le]
 rw[show((λkv:Sum Int Str×D=>decide (kv.1=Sum.inl (p:Int)))∘λx:Nat×Nat=>((Sum.inl (x.1:Int):Sum Int Str),D.int (x.2:Int)))=λx:Nat×Nat=>x.1==p from funext λx=>by
  show decide ((Sum.inl (x.1:Int):Sum Int Str)=Sum.inl (p:Int))=(x.1==p)
  by_cases h:x.1=p
  ·rw[h];simp
  ·rw[decide_eq_false (λz=>h (by injection z with z;lia))];simp[h]]
 rfl
theorem KA(a:List Nat)(p:Nat):bB (bI a) (.inl (p:Int))=if p∈a then some (.bl true)else none:=by
 unfold bB bI
 induction a with
 |nil=>rfl
 |cons x r ih=>
  rw[aK,cJ]
  by_cases h:x=p
  ·subst h
   rw[show decide ((Sum.inl (x:Int):Sum Int Str)=Sum.inl (x:Int))=true by simp,if_pos bR];rfl
  ·rw[show decide ((Sum.inl (x:Int):Sum Int Str)=Sum.inl (p:Int))=false from decide_eq_false (λz=>h (by injection z with z;lia))]
   rw[ih]
   by_cases q:p∈r
   ·rw[if_pos q,if_pos (bG _ q)]
   ·rw[if_neg q,if_neg (λz=>by rcases aY.mp z with z|z;exact h z.symm;exact q z)]
theorem KB(a:List Nat)(p:Nat):((bI a).any λkv=>decide (kv.1=(.inl (p:Int))))=decide (p∈a):=by
 unfold bI
 rw[List.any_map]
 induction a with
 |nil=>rfl
 |cons x r ih=>
  rw[jV,ih]
  by_cases h:x=p
  ·subst h;simp
  ·have:((λkv:Sum Int Str×D=>decide (kv.1=Sum.inl (p:Int)))∘λ(p:Nat)=>((Sum.inl (p:Int):Sum Int Str),D.bl true)) x=false:=decide_eq_false (λz=>h (by injection z with z;lia))
   rw[this,AB]
   simp only[aY]
   rw[decide_eq_decide]
   exact⟨.inr,λz=>z.resolve_left λe=>h e.symm⟩
theorem KC{a:List Nat}{p:Nat}(h:p∉a):dE (bI a) (.inl (p:Int)) (.bl true)=bI (a++[p]):=by
 unfold dE
 rw[KB,if_neg (by simpa using h)]
 unfold bI
 rw[iH];rfl
theorem EV(c:List (Nat×Nat))(p g:Nat):dE (bF c) (.inl (p:Int)) (.int (g:Int))=bF (cW c p g):=by
 unfold dE cW
 have e1:((bF c).any λkv=>decide (kv.1=(.inl (p:Int))))=c.any λx=>x.1==p:=by
  unfold bF
  rw[List.any_map]
  congr 1
  funext x
  show decide ((Sum.inl (x.1:Int):Sum Int Str)=Sum.inl (p:Int))=(x.1==p)
  by_cases h:x.1=p
  ·rw[h];simp
  ·rw[decide_eq_false (λz=>h (by injection z with z;lia))];simp[h]
 rw[e1]
 by_cases h:(c.any λx=>x.1==p)=true
 ·rw[if_pos h,if_pos h]
  unfold bF
  rw[bY,bY]
  apply jC
  intro x _
  show(if(Sum.inl (x.1:Int):Sum Int Str)=Sum.inl (p:Int)then(Sum.inl (x.1:Int),D.int (g:Int))else(Sum.inl (x.1:Int),D.int (x.2:Int)))=_
  by_cases q:x.1=p
  ·rw[if_pos (by rw[q])]
   show _=((Sum.inl (((if x.1=p then(x.1,g)else x):Nat×Nat).1:Int):Sum Int Str),D.int (((if x.1=p then(x.1,g)else x):Nat×Nat).2:Int))
   rw[if_pos q]
  ·rw[if_neg (λz=>q (by injection z with z;lia))]
   show _=((Sum.inl (((if x.1=p then(x.1,g)else x):Nat×Nat).1:Int):Sum Int Str),D.int (((if x.1=p then(x.1,g)else x):Nat×Nat).2:Int))
   rw[if_neg q]
 ·rw[if_neg h,if_neg h]
  unfold bF
  rw[iH];rfl
noncomputable abbrev fcE(C:D)(t1 t2:Nat)(c:List (Nat×Nat))(a:List Nat)(g:Nat)(x:Sl):Nv:=[.v C,.r t1 (.dct (bF c)),.r t2 (.dct (bI a)),.v (.int (g:Int)),x]
theorem EW(a:List Nat)(p:Nat):D.cmp .NotIn (.int (p:Int)) (.dct (bI a))=.ok (.bl (decide (p∉a))):=by
 show(do let k<-D.inn (.int (p:Int)) (.dct (bI a));Res.ok (D.bl (!k)))=_
 rw[show D.inn (.int (p:Int)) (.dct (bI a))=.ok (bB (bI a) (.inl (p:Int))).isSome from rfl,KA,Res.ok_bind]
 by_cases h:p∈a
 ·rw[if_pos h];simp[h]
 ·rw[if_neg h];simp[h]
theorem EY(c:List (Nat×Nat))(p:Nat):D.cmp .NotIn (.int (p:Int)) (.dct (bF c))=.ok (.bl (aN c p).isNone):=by
 show(do let k<-D.inn (.int (p:Int)) (.dct (bF c));Res.ok (D.bl (!k)))=_
 rw[show D.inn (.int (p:Int)) (.dct (bF c))=.ok (bB (bF c) (.inl (p:Int))).isSome from rfl,zT,Res.ok_bind]
 cases aN c p<;>rfl
structure Sm(U G:List Nat)(c:List (Nat×Nat))(a:List Nat):Prop where
 cn:(c.map (·.1)).Nodup
 cu:∀p∈c.map (·.1),p∈U
 an:a.Nodup
 au:∀p∈a,p∈U
 cv:∀x∈c,x.2∈G
theorem Sm.len{U G:List Nat}{c:List (Nat×Nat)}{a:List Nat}(h:Sm U G c a)(hU:U.length<=100):(bF c).length<big/\(bI a).length<big:=by
 have hb:=bT
 have h1:=fN h.cn h.cu
 have h2:=fN h.an h.au
 unfold bF bI
 rw[aE,aE]
 rw[aE]at h1
 exact⟨by lia,by lia⟩
theorem Sm.ask{U G:List Nat}{c:List (Nat×Nat)}{a:List Nat}(h:Sm U G c a){p:Nat}(hp:p∈U)(hn:p∉a):Sm U G c (a++[p]):=
 ⟨h.cn,h.cu,uQ.mpr ⟨h.an,by simp,λx hx y hy e=>hn (by rw[cS.mp hy]at e;exact e▸hx)⟩,λx hx=>by
  rcases fQ.mp hx with z|z
  ·exact h.au x z
  ·rw[cS.mp z];exact hp,h.cv⟩
theorem KD{c:List (Nat×Nat)}{p g:Nat}{x:Nat×Nat}(h:x∈cW c p g):x∈c\/x.2=g:=by
 unfold cW at h
 split at h
 ·obtain⟨y,hy,e⟩:=bS.mp h
  split at e
  ·exact .inr (by rw[<-e])
  ·exact .inl (e▸hy)
 ·rcases fQ.mp h with z|z
  ·exact .inl z
  ·exact .inr (by rw[cS.mp z])
theorem Sm.put{U G:List Nat}{c:List (Nat×Nat)}{a:List Nat}(h:Sm U G c a){p:Nat}(hp:p∈U){g:Nat}(hg:g∈G):Sm U G (cW c p g) a:=
 ⟨Dw h.cn p g,λx hx=>by
  rw[Dv]at hx
  split at hx
  ·exact h.cu x hx
  ·rcases fQ.mp hx with z|z
   ·exact h.cu x z
   ·rw[cS.mp z];exact hp,h.an,h.au,λx hx=>(KD hx).elim (h.cv x) λe=>e▸hg⟩
theorem uE{cf:Nat->List D->Res D}{C:D}{t1 t2 g:Nat}{U G:List Nat}(hg:g∈G)(hU:U.length<=100){rec:Nat->List (Nat×Nat)->List Nat->Option (Bool×List (Nat×Nat)×List Nat)}
 (hrec:∀g c a b c' a',g∈G->Sm U G c a->rec g c a=some (b,c',a')->Sm U G c' a'/\fG cf 33 C (bF c) (bI a) (.int (g:Int))=.ok (.bl b,bF c',bI a')) :
 ∀(xs:List Nat)(c:List (Nat×Nat))(a:List Nat)(b:Bool)(c':List (Nat×Nat))(a':List Nat)(x:Sl),(∀p∈xs,p∈U)->Sm U G c a->fcL rec g xs c a=some (b,c',a') ->
  Sm U G c' a'/\if b=true then aR (aL T cf (.one 4) gH) (xs.map aJ) (fcE C t1 t2 c a g x)=.ok (.rr (.bl true) t1 (bF c') t2 (bI a'))else ∃y,aR (aL T cf (.one 4) gH) (xs.map aJ) (fcE C t1 t2 c a g x)=.ok (.nx (fcE C t1 t2 c' a' g y))
 |[],c,a,b,c',a',x,_,h,e=>by
  cases e
  exact⟨h,by rw[if_neg aP];exact⟨x,rfl⟩⟩
 |p::r,c,a,b,c',a',x,hx,h,e=>by
  have hp:=hx p bR
  have hr:∀q∈r,q∈U:=λq hq=>hx q (bG _ hq)
  rw[fcL]at e
  by_cases ha:p∈a
  ·rw[if_pos ha]at e
   obtain⟨g1,g2⟩:=uE (t1:=t1) (t2:=t2) hg hU hrec r c a b c' a' (.v (.int (p:Int))) hr h e
   refine⟨g1,?_⟩
   have body:aL T cf (.one 4) gH (aJ p) (fcE C t1 t2 c a g x)=.ok (.nx (fcE C t1 t2 c a g (.v (.int (p:Int))))):=by
    have q:=EW a p
    rw[decide_eq_false (by simpa using ha)]at q
    simp[aL,gH,fcE,aJ,q]
   rw[aK,dI body]
   exact g2
  ·rw[if_neg ha]at e
   have q:=EW a p
   rw[decide_eq_true ha]at q
   have qa:=KC ha
   have hA:=h.ask hp ha
   cases hc:aN c p with
   |none=>
    rw[hc]at e
    cases e
    refine⟨hA.put hp hg,?_⟩
    rw[if_pos rfl]
    have qc:=EY c p
    rw[hc]at qc
    have pc:=EV c p g
    have body:aL T cf (.one 4) gH (aJ p) (fcE C t1 t2 c a g x)=.ok (.rr (.bl true) t1 (bF (cW c p g)) t2 (bI (a++[p]))):=by
     have st:exS T cf (.ifR false (.cmp .NotIn (.var 4) (.rd 1)) 33 (.var 0) 1 2 (.ix (.rd 1) (.var 4)) (.cons (.dputR 1 (.var 4) (.var 3)) (.cons (.retR (.con (.bl true)) 1 2) .nil)) .nil) (fcE C t1 t2 c (a++[p]) g (.v (.int (p:Int))))=.ok (.rr (.bl true) t1 (bF (cW c p g)) t2 (bI (a++[p]))):=by
      rw[ifR_t rfl (by decide) (z:=.bl true) (by simp[fcE,qc]) rfl]
      have l1:=(h.len hU).1
      simp[fcE,pc,l1,Res.of,cZ]
     have l2:=(h.len hU).2
     generalize hz:(S.ifR false (.cmp .NotIn (.var 4) (.rd 1)) 33 (.var 0) 1 2 (.ix (.rd 1) (.var 4)) (.cons (.dputR 1 (.var 4) (.var 3)) (.cons (.retR (.con (.bl true)) 1 2) .nil)) .nil)=W at st
     simp only[fcE]at st
     simp[aL,gH,fcE,aJ,q,qa,l2,hz,st,Res.of,cZ]
    rw[aK,D3 body]
   |some g0=>
    rw[hc]at e
    dsimp only at e
    cases hz:rec g0 c (a++[p])with
    |none=>rw[hz]at e;cases e
    |some z=>
     obtain⟨b1,c1,a1⟩:=z
     obtain⟨s1,rf⟩:=hrec g0 c (a++[p]) b1 c1 a1 (h.cv _ (J9 hc)) hA hz
     rw[hz]at e
     have qc:=EY c p
     rw[hc]at qc
     have ix:D.ix (.dct (bF c)) (.int (p:Int))=.ok (.int (g0:Int)):=by rw[rY,rX,Res.ok_bind,zT,hc];rfl
     have l2:=(h.len hU).2
     have st:=DY (T:=T) (cf:=cf) (e:=fcE C t1 t2 c (a++[p]) g (.v (.int (p:Int)))) (neg:=false) (c:=.cmp .NotIn (.var 4) (.rd 1)) (x:=.var 0) (i:=1) (j:=2) (y:=.ix (.rd 1) (.var 4)) (a:=.cons (.dputR 1 (.var 4) (.var 3)) (.cons (.retR (.con (.bl true)) 1 2) .nil)) (b:=.nil) (f:=33) (k:=b1) rfl (by decide) (.inr ⟨(show _=Res.ok (D.bl false) by simp[fcE,qc]),rfl⟩) (d1:=C) (by simp[fcE]) (g:=bF c) (by simp[fcE]) (h:=bI (a++[p])) (by simp[fcE]) (d2:=.int (g0:Int)) (by simp[fcE,ix]) rf rfl
     generalize hw:(S.ifR false (.cmp .NotIn (.var 4) (.rd 1)) 33 (.var 0) 1 2 (.ix (.rd 1) (.var 4)) (.cons (.dputR 1 (.var 4) (.var 3)) (.cons (.retR (.con (.bl true)) 1 2) .nil)) .nil)=W at st
     cases b1 with
     |true=>
      cases e
      refine⟨s1.put hp hg,?_⟩
      rw[if_pos rfl]
      have pc:=EV c1 p g
      have l1:=(s1.len hU).1
      have body:aL T cf (.one 4) gH (aJ p) (fcE C t1 t2 c a g x)=.ok (.rr (.bl true) t1 (bF (cW c1 p g)) t2 (bI a')):=by
       rw[if_pos (by decide)]at st
       simp[fcE,pc,l1,Res.of,cZ]at st
       simp[aL,gH,fcE,aJ,q,qa,l2,hw,st,Res.of,cZ]
      rw[aK,D3 body]
     |false=>
      obtain⟨g1,g2⟩:=uE (t1:=t1) (t2:=t2) hg hU hrec r c1 a1 b c' a' (.v (.int (p:Int))) hr s1 e
      refine⟨g1,?_⟩
      have body:aL T cf (.one 4) gH (aJ p) (fcE C t1 t2 c a g x)=.ok (.nx (fcE C t1 t2 c1 a1 g (.v (.int (p:Int))))):=by
       rw[if_neg (by decide)]at st
       simp[fcE]at st
       simp[aL,gH,fcE,aJ,q,qa,l2,hw,st,Res.of,cZ]
      rw[aK,dI body]
      exact g2
theorem E1{C:D}{U G:List Nat}(hU:U.length<=100){ch:Nat->List Nat}(hch:∀g∈G,D.ix C (.int (g:Int))=.ok (.lst ((ch g).map aJ))/\∀p∈ch g,p∈U)(m:Nat) :
 ∀(n g:Nat)(c:List (Nat×Nat))(a:List Nat)(b:Bool)(c':List (Nat×Nat))(a':List Nat),g∈G->Sm U G c a->fc ch n g c a=some (b,c',a')->Sm U G c' a'/\∀t1 t2:Nat,aB T dfs (m+n) 33 [C,.tup [.int t1,.dct (bF c)],.tup [.int t2,.dct (bI a)],.int (g:Int)]=.ok (.tup [.bl b,.dct (bF c'),.dct (bI a')])
 |0,g,c,a,b,c',a',hg,h,e=>by cases e
 |n+1,g,c,a,b,c',a',hg,h,e=>by
  rw[fc]at e
  have hrec:∀g c a b c' a',g∈G->Sm U G c a->fc ch n g c a=some (b,c',a')->Sm U G c' a'/\fG (aB T dfs (m+n)) 33 C (bF c) (bI a) (.int (g:Int))=.ok (.bl b,bF c',bI a'):=λg c a b c' a' hg h e=>by
   obtain⟨h1,h2⟩:=E1 hU hch m n g c a b c' a' hg h e
   exact⟨h1,BU λt1 t2 _=>h2 t1 t2⟩
  obtain⟨ix,hu⟩:=hch g hg
  refine⟨(uE (t1:=0) (t2:=0) hg hU hrec (ch g) c a b c' a' .no hu h e).1,λt1 t2=>?_⟩
  obtain⟨_,run⟩:=uE (C:=C) (t1:=t1) (t2:=t2) hg hU hrec (ch g) c a b c' a' .no hu h e
  refine JO rfl rfl rfl ?_
  show exS T (aB T dfs (m+n)) oZ (fcE C t1 t2 c a g .no)=_
  cases b with
  |true=>
   rw[if_pos rfl]at run
   simp only[fcE]at run⊢
   simp[oZ,ix,run]
  |false=>
   rw[if_neg aP]at run
   obtain⟨y,run⟩:=run
   simp only[fcE]at run⊢
   simp[oZ,ix,run]
theorem in_lN{i:Nat}{ws:List Nat}:D.cmp .In (.int (i:Int)) (.lst (aA ws))=.ok (.bl (decide (i∈ws))):=by
 show(do let k<-aC (D.pls 30 (aA ws)&&D.pl 29 (.int (i:Int))) (.ok (D.mem (.int (i:Int)) (aA ws)));.ok (D.bl k))=_
 rw[bJ (by rw[iS 29 ws];rfl),oP];rfl
theorem zU{i:Nat}{ws:List Nat}:D.cmp .NotIn (.int (i:Int)) (.lst (aA ws))=.ok (.bl (!decide (i∈ws))):=by
 show(do let k<-aC (D.pls 30 (aA ws)&&D.pl 29 (.int (i:Int))) (.ok (D.mem (.int (i:Int)) (aA ws)));.ok (D.bl (!k)))=_
 rw[bJ (by rw[iS 29 ws];rfl),oP];rfl
theorem book62(n:Nat)(ns:List Int)(at_:Nat)(hn:ns.length<=63)(ha:at_<=20):∃(P:List Part)(Q:List Player)(S:List Scene)(L:D)(cv:List (Nat×Nat)),Drawn P Q S/\(∀x∈cv,x.1<P.length/\x.2<Q.length)/\cv.length<=48 /\
 aB T dfs (n+3) 28 [.lst (ns.map D.int),.int at_]=.ok (.tup [.tup (P.map Part.enc),.tup (Q.map Player.enc),.tup (S.map Scene.enc),L,.tup (cv.map prD)]):=by
 have e:=Jo n ns at_ hn ha
 generalize hf:fV ns at_=f at e
 generalize hC:(ns.drop (at_+8)).take 9=cs at e
 have hcl:cs.length<=9:=by rw[<-hC,fS];lia
 have hm:=EK (f 1)
 refine⟨(aF (bN (f 1))).map (partR f),(aF (f 1/56%7).toNat).map (Jp f),jR (f 5) (bN (f 1)) 0 cs,.tup ((zQ f).map lkD),zR f,⟨by simpa using hm,by simp;lia,by rw[ES];exact hcl,?_,?_,?_⟩,?_,?_,?_⟩
 ·intro p hp
  obtain⟨k,_,rfl⟩:=bS.mp hp
  rfl
 ·intro s hs
  rw[aE,cN]
  exact ET _ _ _ _ s hs
 ·intro p hp
  obtain⟨k,_,rfl⟩:=bS.mp hp
  exact⟨(uA _).1,(uA _).1⟩
 ·intro x hx
  rw[aE,cN,aE,cN]
  exact EL hx
 ·have h:=EM (cell:=f 7) (share:=2) (one:=bN (f 1)) (other:=(f 1/56%7).toNat)
  have:=uR hm (show(f 1/56%7).toNat<=6 by lia)
  exact cD h this
 ·rw[e]
  unfold zS mJ iY uD
  rw[EO,bY,bY,bY,bY]
  rfl
noncomputable def iC (p:Part):Part:=⟨p.name, "a", 0,0⟩
noncomputable def fD (q:Player):Player:=⟨q.name, "ba", q.hire⟩
noncomputable def cA(cs:List Nat)(i:Nat):Nat:=cs.getD i 0
noncomputable def eS(cell:Int)(m n:Nat):List Nat:=(aF n).map λ(k:Nat)=>(aM cell (k:Int)%(m:Int)).toNat
noncomputable def fO(cs:List Nat):List Nat->List Nat->List Nat
 |kept,[]=>kept
 |kept,p::r=>if cA cs p∈kept.map (λi=>cA cs i)then fO cs kept r else fO cs (kept++[p]) r
noncomputable def gK(cs:List Nat)(s:Scene):Scene:=⟨s.name,s.len,s.pause,fO cs [] s.who⟩
theorem uF(cs:List Nat):∀(r kept:List Nat),(kept.map (λi=>cA cs i)).Nodup->((fO cs kept r).map (λi=>cA cs i)).Nodup/\(∀x∈fO cs kept r,x∈kept\/x∈r)
 |[],kept,h=>⟨h,λx hx=>.inl hx⟩
 |p::r,kept,h=>by
  rw[fO]
  by_cases c:cA cs p∈kept.map (λi=>cA cs i)
  ·rw[if_pos c]
   obtain⟨h1,h2⟩:=uF cs r kept h
   exact⟨h1,λx hx=>(h2 x hx).imp id (bG _)⟩
  ·rw[if_neg c]
   obtain⟨h1,h2⟩:=uF cs r (kept++[p]) (by
    rw[iH,uQ]
    refine⟨h,by simp,λx hx y hy e=>c ?_⟩
    rw[aK,pK,cS]at hy
    rw[<-hy,<-e];exact hx)
   refine⟨h1,λx hx=>?_⟩
   rcases h2 x hx with z|z
   ·rcases fQ.mp z with z|z
    ·exact .inl z
    ·exact .inr (by rw[cS.mp z];exact bR)
   ·exact .inr (bG _ z)
theorem E2{α β:Type}(f:α->β):∀{l:List α},(l.map f).Nodup->l.Nodup
 |[],_=>jX
 |a::r,h=>by
  rw[aK,iG]at h
  exact iG.mpr ⟨λz=>h.1 (bS.mpr ⟨a,z,rfl⟩),E2 f h.2⟩
theorem KE{cs:List Nat}{m:Nat}{s:Scene}(h:GoodScene m s):GoodScene m (gK cs s):=by
 obtain⟨h1,h2⟩:=uF cs s.who [] jX
 exact⟨h.len,h.pause,E2 _ h1,λi hi=>h.lt i ((h2 i hi).resolve_left λz=>by cases z)⟩
theorem cast_at{cs:List Nat}{i:Nat}(h:i<cs.length):D.ix (.lst (aA cs)) (.int (i:Int))=.ok (.int (cA cs i:Int)):=by
 refine hV ?_
 unfold aA
 rw[bO,bD h,show cA cs i=cs[i] by unfold cA;rw[gM,bD h];rfl];rfl
theorem zV(n:Nat){cs:List Nat}(h8:cs.length<=8)(a0 a1 a2 a3 a5 a6 a7 a8 a9:Sl):∀(r kept:List Nat)(x:Sl),(∀i∈r,i<cs.length)->(∀i∈kept,i<cs.length)->kept.length+r.length<=100 ->
 ∃y,aR (aL T (aB T dfs n) (.one 11) mF) (aA r) [a0,a1,a2,a3,.v (.lst (aA cs)),a5,a6,a7,a8,a9,.o (.lst (aA kept)),x]=.ok (.nx [a0,a1,a2,a3,.v (.lst (aA cs)),a5,a6,a7,a8,a9,.o (.lst (aA (fO cs kept r))),y])
 |[],kept,x,_,_,_=>⟨x,rfl⟩
 |p::r,kept,x,hr,hk,hl=>by
  have hb:=bT
  have hp:=hr p bR
  have e1:=cast_at hp
  have c1:∀z,aT (aI T (aB T dfs n) 1 [4] (.one 0) zL (.con (.bl true)) [a0,a1,a2,a3,.v (.lst (aA cs)),a5,a6,a7,a8,a9,.o (.lst (aA kept)),z]) (aA kept)=.ok (aA (kept.map λi=>cA cs i)):=λz=>by
   unfold aA
   rw[cQ (λ(i:Nat)=>D.int (i:Int)) (λi=>some (D.int (cA cs i:Int))) (λi hi=>by
    have:=cast_at (hk i hi)
    unfold aA at this
    simp[aI,Tr.aU,zL,this]),jE,bY];rfl
  have ln:(aA kept).length<=big:=by rw[dR];rw[aX]at hl;lia
  have ll:(aA kept).length<big:=by rw[dR];rw[aX]at hl;lia
  have q:=zU (i:=cA cs p) (ws:=kept.map λi=>cA cs i)
  rw[fO]
  have ap:aA kept++[D.int (p:Int)]=aA (kept++[p]):=by unfold aA;rw[iH];rfl
  by_cases c:cA cs p∈kept.map (λi=>cA cs i)
  ·rw[if_pos c]
   rw[decide_eq_true c]at q
   obtain⟨y,hy⟩:=zV n h8 a0 a1 a2 a3 a5 a6 a7 a8 a9 r kept (.v (.int (p:Int))) (λi hi=>hr i (bG _ hi)) hk (by rw[aX]at hl;lia)
   refine⟨y,?_⟩
   have body:aL T (aB T dfs n) (.one 11) mF (.int (p:Int)) [a0,a1,a2,a3,.v (.lst (aA cs)),a5,a6,a7,a8,a9,.o (.lst (aA kept)),x]=.ok (.nx [a0,a1,a2,a3,.v (.lst (aA cs)),a5,a6,a7,a8,a9,.o (.lst (aA kept)),.v (.int (p:Int))]):=by
    generalize aA kept=k at *
    simp[aL,mF,e1,c1,ln,q]
   show aR _ (.int (p:Int)::aA r) _=_
   rw[dI body,hy]
  ·rw[if_neg c]
   rw[decide_eq_false c]at q
   obtain⟨y,hy⟩:=zV n h8 a0 a1 a2 a3 a5 a6 a7 a8 a9 r (kept++[p]) (.v (.int (p:Int))) (λi hi=>hr i (bG _ hi)) (λi hi=>by
    rcases fQ.mp hi with z|z
    ·exact hk i z
    ·rw[cS.mp z];exact hp) (by rw[aX]at hl;rw[cE,jB];lia)
   refine⟨y,?_⟩
   have body:aL T (aB T dfs n) (.one 11) mF (.int (p:Int)) [a0,a1,a2,a3,.v (.lst (aA cs)),a5,a6,a7,a8,a9,.o (.lst (aA kept)),x]=.ok (.nx [a0,a1,a2,a3,.v (.lst (aA cs)),a5,a6,a7,a8,a9,.o (.lst (aA (kept++[p]))),.v (.int (p:Int))]):=by
    rw[<-ap]
    generalize aA kept=k at *
    simp[aL,mF,e1,c1,ln,ll,q]
   show aR _ (.int (p:Int)::aA r) _=_
   rw[dI body,hy]
theorem KG{α:Type}(xs:List α)(k:Nat):cut xs none (some (k:Int))=xs.take k:=by
 by_cases h:k<=xs.length
 ·exact sH h
 ·unfold cut sIx
  dsimp only
  rw[if_neg (by lia),lB,Lc (by lia),uM,pN,List.take_length,mR (by lia)]
theorem E3(n:Nat){cs:List Nat}(h8:cs.length<=8)(a0 a1 a2 a3:Sl):∀(ss done:List Scene)(x6 x7 x8 x9 x10 x11:Sl),(∀s∈ss,GoodScene cs.length s)->done.length+ss.length<=100 ->
 ∃y6 y7 y8 y9 y10 y11,aR (aL T (aB T dfs n) (.many [6,7,8,9]) tQ) (ss.map Scene.enc) [a0,a1,a2,a3,.v (.lst (aA cs)),.o (.lst (done.map Scene.enc)),x6,x7,x8,x9,x10,x11]=.ok (.nx [a0,a1,a2,a3,.v (.lst (aA cs)),.o (.lst ((done++ss.map (gK cs)).map Scene.enc)),y6,y7,y8,y9,y10,y11])
 |[],done,x6,x7,x8,x9,x10,x11,_,_=>⟨x6,x7,x8,x9,x10,x11,by rw[pK (f:=gK cs),mM];rfl⟩
 |s::ss,done,x6,x7,x8,x9,x10,x11,hg,hl=>by
  have hb:=bT
  have gs:=hg s bR
  have w8:s.who.length<=8:=cD (fN gs.nd (U:=aF cs.length) λx hx=>dC.mpr (gs.lt x hx)) (by rw[cN];exact h8)
  rw[aX]at hl
  obtain⟨y,hy⟩:=zV n h8 a0 a1 a2 a3 (.o (.lst (done.map Scene.enc))) (.v (.str s.name)) (.v (.int s.len)) (.v (.int s.pause)) (.v (.tup (aA s.who))) s.who [] x11 gs.lt (λi hi=>by cases hi) (by rw[uL];lia)
  obtain⟨y6,y7,y8,y9,y10,y11,h⟩:=E3 n h8 a0 a1 a2 a3 ss (done++[gK cs s]) (.v (.str s.name)) (.v (.int s.len)) (.v (.int s.pause)) (.v (.tup (aA s.who))) (.o (.lst (aA (fO cs [] s.who)))) y (λt ht=>hg t (bG _ ht)) (by rw[cE,jB];lia)
  refine⟨y6,y7,y8,y9,y10,y11,?_⟩
  have ll:(done.map Scene.enc).length<big:=by rw[aE];lia
  have ap:done.map Scene.enc++[D.tup [.str s.name,.int s.len,.int s.pause,.tup (aA (fO cs [] s.who))]]=(done++[gK cs s]).map Scene.enc:=by rw[iH];rfl
  have body:aL T (aB T dfs n) (.many [6,7,8,9]) tQ s.enc [a0,a1,a2,a3,.v (.lst (aA cs)),.o (.lst (done.map Scene.enc)),x6,x7,x8,x9,x10,x11]=.ok (.nx [a0,a1,a2,a3,.v (.lst (aA cs)),.o (.lst ((done++[gK cs s]).map Scene.enc)),.v (.str s.name),.v (.int s.len),.v (.int s.pause),.v (.tup (aA s.who)),.o (.lst (aA (fO cs [] s.who))),y]):=by
   rw[show aA []=[]from rfl]at hy
   rw[<-ap]
   generalize done.map Scene.enc=dd at *
   generalize aA (fO cs [] s.who)=kk at *
   simp[aL,tQ,Scene.enc,hy,ll]
  rw[aK,dI body,h,aK]
  rw[pM];rfl
theorem KH{cell:Int}{m n:Nat}(hm:0<m){j:Nat}(h:j∈eS cell m n):j<m:=by
 obtain⟨k,_,rfl⟩:=bS.mp h
 have:=AL (aM cell (k:Int)) (show(0:Int)<(m:Int) by lia)
 have:=pT (aM cell (k:Int)) (show(m:Int)≠0 by lia)
 lia
theorem staged(n:Nat)(P:List Part)(Q:List Player)(S:List Scene)(L C:D)(dr:Drawn P Q S)(hq:0<Q.length)(cell:Int) :
 aB T dfs (n+2) 29 [.tup [.tup (P.map Part.enc),.tup (Q.map Player.enc),.tup (S.map Scene.enc),L,C],.int cell] =
  .ok (.tup [.tup [.tup ((P.map iC).map Part.enc),.tup ((Q.map fD).map Player.enc),.tup (((S.take 5).map (gK (eS cell Q.length P.length))).map Scene.enc),L,C],.lst (aA (eS cell Q.length P.length))]):=by
 have hb:=bT
 have hp8:=dr.hp
 have hq6:=dr.hq
 refine bH (k:=false) rfl rfl rfl ?_
 have c1:∀e,aT (aI T (aB T dfs (n+1)) 4 [] (.many [0,1,2,3]) zI (.con (.bl true)) e) (P.map Part.enc)=.ok ((P.map iC).map Part.enc):=λe=>by
  rw[cQ Part.enc (λp=>some (iC p).enc) (λp _=>by simp[aI,Tr.aU,zI,Part.enc,iC]),jE,bY];rfl
 have c2:∀e,aT (aI T (aB T dfs (n+1)) 3 [] (.many [0,1,2]) zJ (.con (.bl true)) e) (Q.map Player.enc)=.ok ((Q.map fD).map Player.enc):=λe=>by
  rw[cQ Player.enc (λp=>some (fD p).enc) (λp _=>by simp[aI,Tr.aU,zJ,Player.enc,fD]),jE,bY];rfl
 have lp:Bt.run .len [.tup ((P.map iC).map Part.enc)]=.ok (.int (P.length:Nat)):=by
  show Res.ok (D.int (((P.map iC).map Part.enc).length:Nat))=_
  rw[aE,aE]
 have lq:Bt.run .len [.tup ((Q.map fD).map Player.enc)]=.ok (.int (Q.length:Nat)):=by
  show Res.ok (D.int (((Q.map fD).map Player.enc).length:Nat))=_
  rw[aE,aE]
 have rg:=lS (n:=P.length) (by lia)
 have c3:∀a0 a2 x4 x5 x6 x7 x8 x9 x10 x11,aT (aI T (aB T dfs (n+1)) 1 [1,3] (.one 0) zK (.con (.bl true)) [a0,.v (.int cell),a2,.v (.tup ((Q.map fD).map Player.enc)),x4,x5,x6,x7,x8,x9,x10,x11]) ((aF P.length).map aJ)=.ok (aA (eS cell Q.length P.length)):=λa0 a2 x4 x5 x6 x7 x8 x9 x10 x11=>by
  rw[cQ aJ (λ(k:Nat)=>some (D.int ((aM cell (k:Int)%(Q.length:Int)).toNat:Int))) (λk hk=>by
   have hk:=dC.mp hk
   have e1:=iX n cell (k:Int) ⟨by lia,by lia⟩
   have e2:D.bin .Mod (.int (aM cell (k:Int))) (.int (Q.length:Nat))=.ok (.int ((aM cell (k:Int)%(Q.length:Int)).toNat:Int)):=by
    rw[xT (by lia)]
    have:=pT (aM cell (k:Int)) (show(Q.length:Int)≠0 by lia)
    rw[Ey this]
   generalize ((Q.map fD).map Player.enc)=qq at *
   simp[aI,Tr.aU,zK,aJ,e1,lq,e2]),jE]
  unfold aA eS
  rw[bY];rfl
 have hcl:(eS cell Q.length P.length).length=P.length:=by unfold eS;rw[aE,cN]
 have sl:D.sl (.tup (S.map Scene.enc)) none (some 5)=.ok (.tup ((S.take 5).map Scene.enc)):=by
  show Res.ok (D.tup (cut (S.map Scene.enc) none (some 5)))=_
  rw[show(some (5:Int))=some ((5:Nat):Int)from rfl]
  rw[KG,pS]
 generalize hcs:eS cell Q.length P.length=cs at *
 obtain⟨y6,y7,y8,y9,y10,y11,lo⟩:=E3 (n+1) (cs:=cs) (by lia) (.v (.tup [.tup (P.map Part.enc),.tup (Q.map Player.enc),.tup (S.map Scene.enc),L,C])) (.v (.int cell)) (.v (.tup ((P.map iC).map Part.enc))) (.v (.tup ((Q.map fD).map Player.enc))) (S.take 5) [] .no .no .no .no .no .no (λs hs=>by rw[hcl];exact dr.good s (AK hs)) (by rw[uL,fS];lia)
 have l1:((P.map Part.enc)).length<=big:=by rw[aE];lia
 have l2:((Q.map Player.enc)).length<=big:=by rw[aE];lia
 have l3:((aF P.length).map aJ).length<=big:=by rw[aE,cN];lia
 rw[pK,Er]at lo
 generalize (P.map iC).map Part.enc=pe at *
 generalize (Q.map fD).map Player.enc=qe at *
 generalize ((S.take 5).map (gK cs)).map Scene.enc=se at *
 generalize (S.take 5).map Scene.enc=s5 at *
 generalize S.map Scene.enc=s0 at *
 generalize P.map Part.enc=p0 at *
 generalize Q.map Player.enc=q0 at *
 generalize (aF P.length).map aJ=rr at *
 generalize aA cs=cc at *
 simp[zM,c1,c2,c3,lp,lq,rg,l1,l2,l3,sl,lo]
noncomputable def iD(A:D)(aw:List Nat):Prop:=∀j:Nat,D.cmp .In (.int (j:Int)) A=.ok (.bl (decide (j∈aw)))/\D.cmp .NotIn (.int (j:Int)) A=.ok (.bl (!decide (j∈aw)))
theorem E4(aw:List Nat):iD (.lst (aA aw)) aw:=λ_=>⟨in_lN,zU⟩
theorem KI(aw:List Nat):iD (.tup (aA aw)) aw:=λj=>⟨JQ,by
 show(do let k<-aC (D.pls 30 (aA aw)&&D.pl 29 (.int (j:Int))) (.ok (D.mem (.int (j:Int)) (aA aw)));.ok (D.bl (!k)))=_
 rw[bJ (by rw[iS 29 aw];rfl),oP];rfl⟩
noncomputable def pE(cs aw:List Nat)(s:Scene):List Nat:=s.who.filter λi=>decide (cA cs i∈aw)
theorem zW{S:List Scene}{k:Nat}(h:k<S.length):D.ix (.tup (S.map Scene.enc)) (.int (k:Int))=.ok S[k].enc:=hZ (by rw[bO,bD h];rfl)
theorem KJ(n:Nat)(B0 B1 L C:D)(S:List Scene)(cs aw:List Nat)(A:D)(hA:iD A aw)(hs:∀s∈S,GoodScene cs.length s)(h8:cs.length<=8)(k:Nat)(hk:k<S.length) :
 aB T dfs (n+1) 10 [.tup [B0,B1,.tup (S.map Scene.enc),L,C],.lst (aA cs),A,.int (k:Int)]=.ok (.lst (aA (pE cs aw S[k]))):=by
 have hb:=bT
 have gs:=hs S[k] (fF hk)
 have e1:=zW hk
 have w8:S[k].who.length<=8:=cD (fN gs.nd (U:=aF cs.length) λx hx=>dC.mpr (gs.lt x hx)) (by rw[cN];exact h8)
 refine bH (k:=true) rfl rfl rfl ?_
 have c1:∀a0 a3,aT (aI T (aB T dfs n) 1 [2,1] (.one 0) sW sV [a0,.v (.lst (aA cs)),.v A,a3]) (aA S[k].who)=.ok (aA (pE cs aw S[k])):=λa0 a3=>by
  unfold pE aA
  rw[cQ (λ(i:Nat)=>D.int (i:Int)) (λi=>if cA cs i∈aw then some (D.int (i:Int))else none) (λi hi=>by
   have e1:=cast_at (gs.lt i hi)
   have e2:=(hA (cA cs i)).1
   unfold aA at e1
   generalize cA cs i=j at *
   by_cases h:j∈aw
   ·rw[decide_eq_true h]at e2
    rw[if_pos h]
    simp[aI,Tr.aU,sW,sV,e1,e2]
   ·rw[decide_eq_false h]at e2
    rw[if_neg h]
    simp[aI,Tr.aU,sW,sV,e1,e2])]
  refine congrArg Res.ok ?_
  generalize S[k].who=l
  induction l with
  |nil=>rfl
  |cons x r ih=>
   rw[iF,jD]
   by_cases h:cA cs x∈aw
   ·rw[if_pos h,if_pos (by simpa using h),aK,ih]
   ·rw[if_neg h,if_neg (by simpa using h),ih]
 have lw:(aA S[k].who).length<=big:=by rw[dR];lia
 have e3:D.ix S[k].enc (.int 3)=.ok (.tup (aA S[k].who)):=by unfold Scene.enc;rfl
 generalize S[k].enc=se at *
 generalize aA S[k].who=ww at *
 simp[yO,e1,e3,c1,lw]
noncomputable def eL(l:List Nat):List Nat:=(dN (l.map λ(n:Nat)=>(n:Int))).map Int.toNat
theorem E5(n:Int):∀(l:List Int)(x:Int),x∈fX n l↔x=n\/x∈l
 |[],x=>by simp[fX]
 |m::r,x=>by
  rw[fX]
  split
  ·simp
  ·rw[aY,E5 n r x,aY]
   constructor
   ·rintro(h|h|h)
    ·exact .inr (.inl h)
    ·exact .inl h
    ·exact .inr (.inr h)
   ·rintro(h|h|h)
    ·exact .inr (.inl h)
    ·exact .inl h
    ·exact .inr (.inr h)
theorem uG:∀(l:List Int)(x:Int),x∈dN l↔x∈l
 |[],x=>by simp[dN]
 |n::r,x=>by rw[dN,E5,uG r,aY]
theorem E6(n:Int):∀l:List Int,(fX n l).length=l.length+1
 |[]=>rfl
 |m::r=>by
  rw[fX]
  split
  ·rfl
  ·rw[aX,E6 n r,aX]
theorem E7:∀l:List Int,(dN l).length=l.length
 |[]=>rfl
 |n::r=>by rw[dN,E6,E7 r,aX]
theorem sortN_mem{l:List Nat}{x:Nat}:x∈eL l↔x∈l:=by
 unfold eL
 rw[bS]
 constructor
 ·rintro⟨y,hy,rfl⟩
  obtain⟨z,hz,rfl⟩:=bS.mp ((uG _ _).mp hy)
  simpa using hz
 ·intro h
  exact⟨(x:Int),(uG _ _).mpr (bS.mpr ⟨x,h,rfl⟩),by simp⟩
theorem KL(l:List Nat):(eL l).length=l.length:=by unfold eL;rw[aE,E7,aE]
theorem E8:∀l:List Nat,dA (aA l)=.ok (l.map λ(n:Nat)=>(n:Int))
 |[]=>rfl
 |n::r=>by
  show(do let q<-dA (aA r);Res.ok ((n:Int)::q))=_
  rw[E8 r];rfl
theorem E9(l:List Nat):(dN (l.map λ(n:Nat)=>(n:Int))).map D.int=aA (eL l):=by
 unfold eL aA
 rw[bY]
 refine jC λx hx=>?_
 obtain⟨z,_,rfl⟩:=bS.mp ((uG _ _).mp hx)
 rfl
theorem E_{l:List Nat}(h:l.length<64):nF (.lst (aA l))=.ok (.lst (aA (eL l))):=by
 show(do let ns<-dA (aA l);aC (decide (ns.length<64)) (.ok (D.lst ((dN ns).map D.int))))=_
 rw[E8,Res.ok_bind,bJ (by rw[aE];exact decide_eq_true h),E9]
noncomputable def iE(cs:List Nat)(s:Scene):List Nat:=s.who.map (cA cs)
noncomputable def pF(cv:List (Nat×Nat))(cs aw:List Nat)(s:Scene)(part:Nat):List Nat:=(eL ((cv.filter λx=>x.1==part).map (·.2))).filter λj=>!decide (j∈aw)&&!decide (j∈iE cs s)
theorem KM(n:Nat)(B0 B1 L:D)(S:List Scene)(cv:List (Nat×Nat))(hcv:cv.length<=48)(cs aw:List Nat)(A:D)(hA:iD A aw)(hs:∀s∈S,GoodScene cs.length s)(h8:cs.length<=8)(k:Nat)(hk:k<S.length)(part:Nat) :
 aB T dfs (n+1) 11 [.tup [B0,B1,.tup (S.map Scene.enc),L,.tup (cv.map prD)],.lst (aA cs),A,.int (k:Int),.int (part:Int)]=.ok (.lst (aA (pF cv cs aw S[k] part))):=by
 have hb:=bT
 have gs:=hs S[k] (fF hk)
 have e1:=zW hk
 have w8:S[k].who.length<=8:=cD (fN gs.nd (U:=aF cs.length) λx hx=>dC.mpr (gs.lt x hx)) (by rw[cN];exact h8)
 refine bH (k:=true) rfl rfl rfl ?_
 have c1:∀a0 a2 a3 a4 a5 a6,aT (aI T (aB T dfs n) 1 [1] (.one 0) yP (.con (.bl true)) [a0,.v (.lst (aA cs)),a2,a3,a4,a5,a6]) (aA S[k].who)=.ok (aA (iE cs S[k])):=λa0 a2 a3 a4 a5 a6=>by
  unfold iE aA
  rw[cQ (λ(i:Nat)=>D.int (i:Int)) (λi=>some (D.int (cA cs i:Int))) (λi hi=>by
   have e1:=cast_at (gs.lt i hi)
   unfold aA at e1
   generalize cA cs i=j at *
   simp[aI,Tr.aU,yP,e1]),jE,bY];rfl
 have c2:∀a0 a1 a2 a3 a5 a6,aT (aI T (aB T dfs n) 2 [4] (.many [0,1]) sY sX [a0,a1,a2,a3,.v (.int (part:Int)),a5,a6]) (cv.map prD)=.ok (aA ((cv.filter λx=>x.1==part).map (·.2))):=λa0 a1 a2 a3 a5 a6=>by
  rw[cQ prD (λx=>if x.1=part then some (D.int (x.2:Int))else none) (λx hx=>by
   by_cases h:x.1=part
   ·rw[if_pos h]
    have:((x.1:Nat):Int)=(part:Int):=by rw[h]
    simp[aI,Tr.aU,sY,sX,prD,this]
   ·rw[if_neg h]
    have:¬((x.1:Nat):Int)=(part:Int):=by lia
    simp[aI,Tr.aU,sY,sX,prD,this])]
  refine congrArg Res.ok ?_
  unfold aA
  generalize cv=l
  induction l with
  |nil=>rfl
  |cons x r ih=>
   rw[iF,jD]
   by_cases h:x.1=part
   ·rw[if_pos h,if_pos (by simpa using h),aK,aK,ih]
   ·rw[if_neg h,if_neg (by simpa using h),ih]
 have hl:((cv.filter λx=>x.1==part).map (·.2)).length<=48:=by rw[aE];exact cD (jY ..) hcv
 have so:=E_ (l:=(cv.filter λx=>x.1==part).map (·.2)) (by lia)
 have c3:∀a0 a1 a3 a4 a6,aT (aI T (aB T dfs n) 1 [2,5] (.one 0) lY lX [a0,a1,.v A,a3,a4,.v (.lst (aA (iE cs S[k]))),a6]) (aA (eL ((cv.filter λx=>x.1==part).map (·.2))))=.ok (aA (pF cv cs aw S[k] part)):=λa0 a1 a3 a4 a6=>by
  unfold pF
  generalize eL ((cv.filter λx=>x.1==part).map (·.2))=l
  have:aT (aI T (aB T dfs n) 1 [2,5] (.one 0) lY lX [a0,a1,.v A,a3,a4,.v (.lst (aA (iE cs S[k]))),a6]) (l.map λ(i:Nat)=>D.int (i:Int))=_:=cQ (λ(i:Nat)=>D.int (i:Int)) (λj=>if(!decide (j∈aw)&&!decide (j∈iE cs S[k]))=true then some (D.int (j:Int))else none) (λj hj=>by
   have e2:=(hA j).2
   have e3:=zU (i:=j) (ws:=iE cs S[k])
   cases q1:decide (j∈aw)with
   |true=>rw[q1]at e2;simp[aI,Tr.aU,lY,lX,e2]
   |false=>
    rw[q1]at e2
    cases q2:decide (j∈iE cs S[k])with
    |true=>rw[q2]at e3;simp[aI,Tr.aU,lY,lX,e2,e3]
    |false=>rw[q2]at e3;simp[aI,Tr.aU,lY,lX,e2,e3])
  refine this.trans (congrArg Res.ok ?_)
  unfold aA
  clear this
  induction l with
  |nil=>rfl
  |cons x r ih=>
   rw[iF,jD]
   by_cases h:(!decide (x∈aw)&&!decide (x∈iE cs S[k]))=true
   ·rw[if_pos h,if_pos h,aK,ih]
   ·rw[if_neg h,if_neg h,ih]
 have lw:(aA S[k].who).length<=big:=by rw[dR];lia
 have lc:(cv.map prD).length<=big:=by rw[aE];lia
 have ls:(aA (eL ((cv.filter λx=>x.1==part).map (·.2)))).length<=big:=by rw[dR,KL];lia
 have e3:D.ix S[k].enc (.int 3)=.ok (.tup (aA S[k].who)):=by unfold Scene.enc;rfl
 generalize S[k].enc=se at *
 generalize aA S[k].who=ww at *
 generalize aA (iE cs S[k])=bw at *
 generalize aA (eL ((cv.filter λx=>x.1==part).map (·.2)))=sn at *
 generalize aA ((cv.filter λx=>x.1==part).map (·.2))=sm at *
 generalize cv.map prD=cw at *
 simp[yQ,e1,e3,c1,c2,c3,lw,lc,ls,so]
theorem Ea{f:Nat->D}:∀(G:List Nat)(kvs:List (Sum Int Str×D))(g:Nat),bB (eG (G.map λ(g:Nat)=>(.inl (g:Int),f g)) kvs) (.inl (g:Int))=if g∈G then some (f g)else bB kvs (.inl (g:Int))
 |[],kvs,g=>by rw[if_neg (by simp)];rfl
 |x::r,kvs,g=>by
  show bB (eG (r.map λ(g:Nat)=>(.inl (g:Int),f g)) (dE kvs (.inl (x:Int)) (f x))) (.inl (g:Int))=_
  rw[Ea r _ g,xZ]
  by_cases h:g∈r
  ·rw[if_pos h,if_pos (bG _ h)]
  ·rw[if_neg h]
   by_cases e:g=x
   ·subst e;rw[if_pos rfl,if_pos bR]
   ·rw[if_neg (λz=>e (by injection z with z;lia)),if_neg (λz=>by rcases aY.mp z with z|z;exact e z;exact h z)]
theorem Eb:∀(qs kvs:List (Sum Int Str×D))(k:Sum Int Str),(k∈qs.map (·.1)\/(bB kvs k).isSome=true)->(bB (eG qs kvs) k).isSome=true
 |[],kvs,k,h=>by
  rcases h with h|h
  ·cases h
  ·exact h
 |q::r,kvs,k,h=>by
  show(bB (eG r (dE kvs q.1 q.2)) k).isSome=true
  refine Eb r _ k ?_
  rcases h with h|h
  ·rw[aK]at h
   rcases aY.mp h with h|h
   ·exact .inr (by rw[xZ,if_pos h];rfl)
   ·exact .inl h
  ·refine .inr ?_
   rw[xZ]
   split
   ·rfl
   ·exact h
theorem Ec:∀a:List Nat,jG (bI a)=.ok (a.map λ(n:Nat)=>(n:Int))
 |[]=>rfl
 |n::r=>by
  show(do let q<-jG (bI r);Res.ok ((n:Int)::q))=_
  rw[Ec r];rfl
theorem KN{a:List Nat}(h:a.length<64):nF (.dct (bI a))=.ok (.lst (aA (eL a))):=by
 show(do let ns<-jG (bI a);aC (decide (ns.length<64)) (.ok (D.lst ((dN ns).map D.int))))=_
 rw[Ec,Res.ok_bind,bJ (by rw[aE];exact decide_eq_true h),E9]
theorem KO(a:List Nat):nD (.dct (bI a))=.ok (aA a):=by
 show Res.ok _=_
 unfold bI aA
 rw[bY];rfl
theorem KP(c:List (Nat×Nat)):nD (.dct (bF c))=.ok (aA (c.map (·.1))):=by
 show Res.ok _=_
 unfold bF aA
 rw[bY,bY];rfl
theorem Ed{c:List (Nat×Nat)}{p g:Nat}(h:aN c p=some g):D.ix (.dct (bF c)) (.int (p:Int))=.ok (.int (g:Int)):=by rw[rY,rX,Res.ok_bind,zT,h];rfl
theorem KQ (n:Nat) (c:List (Nat×Nat)) (a:List Nat) (g:Nat) (ha:a.length<=20) (hc:∀p∈a,∃g,aN c p=some g):∃x,aB T dfs (n+1) 12 [.dct (bF c),.dct (bI a),.int (g:Int)]=.ok (.tup (.str "lacks" :: x)):=by
 have hb:=bT
 refine⟨[.lst (aA (eL (g::a.map λp=>(aN c p).getD 0))),.lst (aA (eL a))],bH (k:=false) rfl rfl rfl ?_⟩
 have c1:∀a1 a2 a3,aT (aI T (aB T dfs n) 1 [0] (.one 0) yR (.con (.bl true)) [.v (.dct (bF c)),a1,a2,a3]) (aA a)=.ok (aA (a.map λp=>(aN c p).getD 0)):=λa1 a2 a3=>by
  unfold aA
  rw[cQ (λ(i:Nat)=>D.int (i:Int)) (λp=>some (D.int (((aN c p).getD 0:Nat):Int))) (λp hp=>by
   obtain⟨g,hg⟩:=hc p hp
   have e:=Ed hg
   rw[hg]
   simp[aI,Tr.aU,yR,e]),jE,bY];rfl
 have ks:=KO a
 have s1:=E_ (l:=g::a.map λp=>(aN c p).getD 0) (by rw[aX,aE];lia)
 have s2:=KN (a:=a) (by lia)
 have la:(aA a).length<=big:=by rw[dR];lia
 have ad:D.bin .Add (.lst [.int (g:Int)]) (.lst (aA (a.map λp=>(aN c p).getD 0)))=.ok (.lst (aA (g::a.map λp=>(aN c p).getD 0))):=by
  show aC _ _=_
  rw[bJ (decide_eq_true (by rw[dR,aE,jB];lia))];rfl
 generalize aA (g::a.map λp=>(aN c p).getD 0)=z1 at *
 generalize aA (a.map λp=>(aN c p).getD 0)=z2 at *
 generalize aA a=z3 at *
 simp[yS,ks,c1,la,ad,s1,s2]
section
variable{C BK CS A K4:D}{x3:Sl}{U G:List Nat}{ch:Nat->List Nat}
noncomputable abbrev stE(BK CS A:D)(x3:Sl)(K4 C:D)(c:List (Nat×Nat))(x7 x8 x9:Sl):Nv:=[.v BK,.v CS,.v A,x3,.v K4,.v C,.o (.dct (bF c)),x7,x8,x9]
theorem Ee(m:Nat)(hU:U.length<=6)(hch:∀g∈G,D.ix C (.int (g:Int))=.ok (.lst ((ch g).map aJ))/\∀p∈ch g,p∈U)(hall:∀g,∀p∈ch g,p∈U) :
 ∀(r:List Nat)(c:List (Nat×Nat))(x7 x8 x9:Sl),(∀g∈r,g∈G)->OkA ch c->Sm U G c [] ->
  (∃x,aR (aL T (aB T dfs (m+7)) (.one 7) kT) (aA r) (stE BK CS A x3 K4 C c x7 x8 x9)=.ok (.rt (.tup (.str "lacks" :: x)) false)) \/
  ∃c' y7 y8,aR (aL T (aB T dfs (m+7)) (.one 7) kT) (aA r) (stE BK CS A x3 K4 C c x7 x8 x9)=.ok (.nx (stE BK CS A x3 K4 C c' y7 y8 x9))/\OkA ch c'/\Sm U G c' []/\(∀g,eK c g<=eK c' g)/\∀g∈r,0<eK c' g
 |[],c,x7,x8,x9,_,ok,sm=>.inr ⟨c,x7,x8,rfl,ok,sm,λg=>aQ _,λg hg=>by cases hg⟩
 |g::r,c,x7,x8,x9,hr,ok,sm=>by
  have hg:=hr g bR
  obtain⟨⟨b,c',a'⟩,e⟩:=Dx (U:=U) hall 7 g c [] ok jX (λp hp=>by cases hp) (by rw[uL];lia)
  have ok2:=yG ch 7 g c [] b c' a' ok e
  obtain⟨sm2,run⟩:=E1 (U:=U) (G:=G) (by lia) hch m 7 g c [] b c' a' hg sm e
  have rf:fG (aB T dfs (m+7)) 33 C (bF c) (bI []) (.int (g:Int))=.ok (.bl b,bF c',bI a'):=BU λt1 t2 _=>run t1 t2
  have st:=DY (T:=T) (cf:=aB T dfs (m+7)) (e:=stE BK CS A x3 K4 C c (.v (.int (g:Int))) (.o (.dct [])) x9) (neg:=true) (c:=.omit) (z:=.non) (x:=.var 5) (i:=6) (j:=8) (y:=.var 7) (a:=.cons (.sealed 8) (.cons (.sealed 6) (.cons (.ret (.call 12 (.acons (.var 6) (.acons (.var 8) (.acons (.var 7) .anil))))) .nil))) (b:=.nil) (f:=33) (k:=b) rfl (by decide) (.inl rfl) (d1:=C) (by simp[stE]) (g:=bF c) (by simp[stE]) (h:=bI []) (by simp[stE];rfl) (d2:=.int (g:Int)) (by simp[stE]) rf rfl
  generalize hw:(S.ifR true .omit 33 (.var 5) 6 8 (.var 7) (.cons (.sealed 8) (.cons (.sealed 6) (.cons (.ret (.call 12 (.acons (.var 6) (.acons (.var 8) (.acons (.var 7) .anil))))) .nil))) .nil)=W at st
  cases b with
  |true=>
   rw[if_pos rfl]at ok2
   rw[if_neg (by decide)]at st
   simp[stE]at st
   have sm3:Sm U G c' []:=⟨sm2.cn,sm2.cu,jX,(λp hp=>by cases hp),sm2.cv⟩
   have body:aL T (aB T dfs (m+7)) (.one 7) kT (.int (g:Int)) (stE BK CS A x3 K4 C c x7 x8 x9)=.ok (.nx (stE BK CS A x3 K4 C c' (.v (.int (g:Int))) (.o (.dct (bI a'))) x9)):=by
    simp[aL,kT,stE,hw,st]
   rcases Ee m hU hch hall r c' (.v (.int (g:Int))) (.o (.dct (bI a'))) x9 (λq hq=>hr q (bG _ hq)) ok2.ok sm3 with⟨x,h⟩|⟨c2,y7,y8,h,h1,h2,h3,h4⟩
   ·exact .inl ⟨x,by show aR _ (.int (g:Int)::aA r) _=_;rw[dI body,h]⟩
   ·refine .inr ⟨c2,y7,y8,by show aR _ (.int (g:Int)::aA r) _=_;rw[dI body,h],h1,h2,λq=>?_,λq hq=>?_⟩
    ·have:=ok2.cnt q;have:=h3 q;lia
    ·rcases aY.mp hq with z|z
     ·subst z
      have:=ok2.cnt q
      rw[if_pos rfl]at this
      have:=h3 q
      lia
     ·exact h4 q z
  |false=>
   rw[if_neg aP]at ok2
   rw[if_pos (by decide)]at st
   have la:a'.length<=20:=cD (fN sm2.an sm2.au) (by lia)
   obtain⟨x,ex⟩:=KQ (m+6) c' a' g la (λp hp=>by
    obtain⟨⟨g0,e0,_⟩,_⟩:=ok2.new p hp (by simp)
    exact⟨g0,by rw[ok2.same];exact e0⟩)
   refine .inl ⟨x,?_⟩
   simp[stE,ex]at st
   have body:aL T (aB T dfs (m+7)) (.one 7) kT (.int (g:Int)) (stE BK CS A x3 K4 C c x7 x8 x9)=.ok (.rt (.tup (.str "lacks" :: x)) false):=by
    simp[aL,kT,stE,hw,st]
   show aR _ (.int (g:Int)::aA r) _=_
   rw[xV body]
end
theorem zX:∀{c:List (Nat×Nat)} {p g:Nat},(c.map (·.1)).Nodup->(p,g)∈c->aN c p=some g
 |x::r,p,g,nd,h=>by
  rw[aK,iG]at nd
  rw[jO]
  rcases aY.mp h with h|h
  ·rw[<-h,if_pos rfl]
  ·rw[if_neg (λz=>nd.1 (by rw[z];exact bS.mpr ⟨_,h,rfl⟩))]
   exact zX nd.2 h
theorem zY{α:Type}(k v:α->D)(key:α->Sum Int Str)(h:∀a,cZ (k a)=some (key a)):∀l:List α,gQ (l.map λa=>.tup [k a,v a])=.ok (l.map λa=>(key a,v a))
 |[]=>rfl
 |a::r=>by
  show(do let q0<-Res.of (cZ (k a));let q<-gQ (r.map λa=>.tup [k a,v a]);Res.ok ((q0,v a)::q))=_
  rw[h a,zY k v key h r];rfl
theorem KR(m:Nat)(B0 B1 L:D)(S:List Scene)(cv:List (Nat×Nat))(hcv:cv.length<=48)(q:Nat)(hq:q<=6)(hcq:∀x∈cv,x.2<q)(cs aw:List Nat)(A:D)(hA:iD A aw)(hs:∀s∈S,GoodScene cs.length s)(h8:cs.length<=8)(k:Nat)(hk:k<S.length) :
 ∃w x,aB T dfs (m+8) 13 [.tup [B0,B1,.tup (S.map Scene.enc),L,.tup (cv.map prD)],.lst (aA cs),A,.int (k:Int)]=.ok (.tup (.str w::x)):=by
 have hb:=bT
 have gs:=hs S[k] (fF hk)
 have e1:=KJ (m+6) B0 B1 L (.tup (cv.map prD)) S cs aw A hA hs h8 k hk
 have e2:=λg=>KM (m+6) B0 B1 L S cv hcv cs aw A hA hs h8 k hk g
 have hall:∀g,∀p∈pF cv cs aw S[k] g,p∈aF q:=λg p hp=>by
  have h1:=sortN_mem.mp (fP.mp hp).1
  obtain⟨x,hx,rfl⟩:=bS.mp h1
  exact dC.mpr (hcq x (fP.mp hx).1)
 have gl:(pE cs aw S[k]).length<=8:=by
  refine cD (jY ..) (cD (fN gs.nd (U:=aF cs.length) λx hx=>dC.mpr (gs.lt x hx)) ?_)
  rw[cN];exact h8
 generalize hG:pE cs aw S[k]=G at *
 generalize hC:pF cv cs aw S[k]=ch at *
 generalize hB:D.tup [B0,B1,.tup (S.map Scene.enc),L,.tup (cv.map prD)]=BK at *
 have c1:∀x4 x5 x6 x7 x8 x9,aT (aI T (aB T dfs (m+7)) 1 [0,1,2,3] (.one 0) yT (.con (.bl true)) [.v BK,.v (.lst (aA cs)),.v A,.v (.int (k:Int)),x4,x5,x6,x7,x8,x9]) (aA G)=.ok (G.map λ(g:Nat)=>D.tup [.int (g:Int),.lst (aA (ch g))]):=λx4 x5 x6 x7 x8 x9=>by
  show aT _ (G.map λ(i:Nat)=>D.int (i:Int))=_
  rw[cQ (λ(i:Nat)=>D.int (i:Int)) (λ(g:Nat)=>some (D.tup [.int (g:Int),.lst (aA (ch g))])) (λg _=>by
   have e:=e2 g
   generalize D.lst (aA (ch g))=z at *
   generalize D.lst (aA cs)=z2 at *
   simp[aI,Tr.aU,yT,e]),jE]
 have p1:nE (.lst (G.map λ(g:Nat)=>D.tup [.int (g:Int),.lst (aA (ch g))]))=.ok (.dct (eG (G.map λ(g:Nat)=>(.inl (g:Int),.lst (aA (ch g)))) [])):=by
  show(do let qs<-gQ _;Res.ok (D.dct (eG qs [])))=_
  rw[zY (λ(g:Nat)=>D.int (g:Int)) (λg=>.lst (aA (ch g))) (λ(g:Nat)=>.inl (g:Int)) (λ_=>rfl)]<;>rfl
 have hix:∀g∈G,D.ix (.dct (eG (G.map λ(g:Nat)=>(.inl (g:Int),.lst (aA (ch g)))) [])) (.int (g:Int))=.ok (.lst ((ch g).map aJ)):=λg hg=>by
  rw[rY,rX,Res.ok_bind,Ea (f:=λg=>.lst (aA (ch g))) G [] g,if_pos hg];rfl
 generalize hCH:D.dct (eG (G.map λ(g:Nat)=>(.inl (g:Int),.lst (aA (ch g)))) [])=CH at *
 have lg:(aA G).length<=big:=by rw[dR];lia
 have lo:=Ee (BK:=BK) (CS:=.lst (aA cs)) (A:=A) (x3:=.v (.int (k:Int))) (K4:=.lst (aA G)) (C:=CH) (U:=aF q) (G:=G) (ch:=ch) m (by rw[cN];exact hq) (λg hg=>⟨hix g hg,hall g⟩) hall G [] .no .no .no (λg hg=>hg) ⟨jX,λp g h=>by cases h⟩ ⟨jX,(λp hp=>by cases hp),jX,(λp hp=>by cases hp),λx hx=>by cases hx⟩
 rw[show stE BK (.lst (aA cs)) A (.v (.int (k:Int))) (.lst (aA G)) CH [] .no .no .no=[.v BK,.v (.lst (aA cs)),.v A,.v (.int (k:Int)),.v (.lst (aA G)),.v CH,.o (.dct []),.no,.no,.no]from rfl]at lo
 rcases lo with⟨x,lo⟩|⟨c,y7,y8,lo,ok,sm,_,cnt⟩
 ·refine⟨"lacks", x,bH (k:=false) rfl rfl rfl ?_⟩
  generalize D.lst (aA cs)=z2 at *
  generalize aA G=g2 at *
  generalize (G.map λ(g:Nat)=>D.tup [.int (g:Int),.lst (aA (ch g))])=g3 at *
  simp[tD,e1,lg,c1,p1,lo]
 ·have c2:∀x0 x1 x2 x3 x4 x5 x7 x8 x9,aT (aI T (aB T dfs (m+7)) 1 [6] (.one 0) yU (.con (.bl true)) [x0,x1,x2,x3,x4,x5,.v (.dct (bF c)),x7,x8,x9]) (aA (c.map (·.1)))=.ok ((c.map (·.1)).map λ(p:Nat)=>D.tup [.int (((aN c p).getD 0:Nat):Int),.int (p:Int)]):=λx0 x1 x2 x3 x4 x5 x7 x8 x9=>by
   show aT _ ((c.map (·.1)).map λ(i:Nat)=>D.int (i:Int))=_
   rw[cQ (λ(i:Nat)=>D.int (i:Int)) (λ(p:Nat)=>some (D.tup [.int (((aN c p).getD 0:Nat):Int),.int (p:Int)])) (λp hp=>by
    obtain⟨y,hy,rfl⟩:=bS.mp hp
    have e0:=zX ok.1 (show(y.1,y.2)∈c from hy)
    have e:=Ed e0
    rw[e0]
    simp[aI,Tr.aU,yU,e]),jE]
  have p2:nE (.lst ((c.map (·.1)).map λ(p:Nat)=>D.tup [.int (((aN c p).getD 0:Nat):Int),.int (p:Int)]))=.ok (.dct (eG ((c.map (·.1)).map λ(p:Nat)=>(.inl (((aN c p).getD 0:Nat):Int),.int (p:Int))) [])):=by
   show(do let qs<-gQ _;Res.ok (D.dct (eG qs [])))=_
   rw[zY (λ(p:Nat)=>D.int (((aN c p).getD 0:Nat):Int)) (λ(p:Nat)=>.int (p:Int)) (λ(p:Nat)=>.inl (((aN c p).getD 0:Nat):Int)) (λ_=>rfl)]<;>rfl
  have has:∀g∈G,∃v,D.ix (.dct (eG ((c.map (·.1)).map λ(p:Nat)=>(.inl (((aN c p).getD 0:Nat):Int),.int (p:Int))) [])) (.int (g:Int))=.ok v:=λg hg=>by
   have h0:=cnt g hg
   unfold eK at h0
   obtain⟨x,hx⟩:=List.exists_mem_of_length_pos h0
   obtain⟨hx1,hx2⟩:=fP.mp hx
   have e0:=zX ok.1 (show(x.1,x.2)∈c from hx1)
   have hx2:x.2=g:=by simpa using hx2
   have:=Eb ((c.map (·.1)).map λ(p:Nat)=>(.inl (((aN c p).getD 0:Nat):Int),.int (p:Int))) [] (.inl (g:Int)) (.inl (bS.mpr ⟨(.inl (g:Int),.int (x.1:Int)),bS.mpr ⟨x.1,bS.mpr ⟨x,hx1,rfl⟩,by rw[e0,hx2];rfl⟩,rfl⟩))
   obtain⟨v,hv⟩:=LP.mp this
   exact⟨v,by rw[rY,rX,Res.ok_bind,hv];rfl⟩
  generalize D.dct (eG ((c.map (·.1)).map λ(p:Nat)=>(.inl (((aN c p).getD 0:Nat):Int),.int (p:Int))) [])=PL at *
  have c3:∀x0 x1 x2 x3 x4 x5 x6 x7 x8,∃l,aT (aI T (aB T dfs (m+7)) 1 [9] (.one 0) sZ (.con (.bl true)) [x0,x1,x2,x3,x4,x5,x6,x7,x8,.v PL]) (aA G)=.ok l:=λx0 x1 x2 x3 x4 x5 x6 x7 x8=>by
   have:=cQ (f:=aI T (aB T dfs (m+7)) 1 [9] (.one 0) sZ (.con (.bl true)) [x0,x1,x2,x3,x4,x5,x6,x7,x8,.v PL]) (xs:=G) (λ(i:Nat)=>D.int (i:Int)) (λ(g:Nat)=>some (D.tup [.int (g:Int),match D.ix PL (.int (g:Int))with | .ok v=>v|_=>.non])) (λg hg=>by
    obtain⟨v,e⟩:=has g hg
    rw[e]
    simp[aI,Tr.aU,sZ,e])
   exact⟨_,this⟩
  have ks:=KP c
  have lc:(aA (c.map (·.1))).length<=big:=by
   have:=fN sm.cn sm.cu
   rw[cN]at this
   rw[dR];lia
  obtain⟨l,hl⟩:=c3 (.v BK) (.v (.lst (aA cs))) (.v A) (.v (.int (k:Int))) (.v (.lst (aA G))) (.v CH) (.v (.dct (bF c))) y7 y8
  refine⟨"covered", [.lst l],bH (k:=false) rfl rfl rfl ?_⟩
  simp only[stE]at lo
  generalize D.lst (aA cs)=z2 at *
  generalize aA G=g2 at *
  generalize (G.map λ(g:Nat)=>D.tup [.int (g:Int),.lst (aA (ch g))])=g3 at *
  generalize aA (c.map (·.1))=g4 at *
  generalize ((c.map (·.1)).map λ(p:Nat)=>D.tup [.int (((aN c p).getD 0:Nat):Int),.int (p:Int)])=g5 at *
  simp[tD,e1,lg,c1,p1,lo,ks,lc,c2,p2,hl]
section
variable{B0 B1 L C:D}{S:List Scene}{CS:D}
noncomputable abbrev bkD(B0 B1:D)(S:List Scene)(L C:D):D:=.tup [B0,B1,.tup (S.map Scene.enc),L,C]
noncomputable def mK(m:Nat)(BK CS:D)(n:Nat):Prop:=∀A aw,iD A aw->∀k,k<n->∃w x,aB T dfs (m+8) 13 [BK,CS,A,.int ((k:Nat):Int)]=.ok (.tup (.str w::x))
theorem uH:Bt.run .len [.tup (S.map Scene.enc)]=.ok (.int (S.length:Nat)):=by
 show Res.ok (D.int ((S.map Scene.enc).length:Nat))=_
 rw[aE]
theorem Ef(m:Nat){BK A:D}{aw:List Nat}(hA:iD A aw){n:Nat}(hT:mK m BK CS n):∀(ks:List Nat)(x:Sl),(∀k∈ks,k<n) ->
 ∃out,aR (aL T (aB T dfs (m+8)) (.one 3) lZ) (ks.map aJ) [.v BK,.v CS,.v A,x]=.ok out/\((∃k,out=.rt (.int k) false)\/∃y,out=.nx [.v BK,.v CS,.v A,y])
 |[],x,_=>⟨_,rfl,.inr ⟨x,rfl⟩⟩
 |k::r,x,h=>by
  obtain⟨w,z,e⟩:=hT A aw hA k (h k bR)
  by_cases hw:w = "lacks"
  ·subst hw
   refine⟨_,?_,.inl ⟨(k:Int),rfl⟩⟩
   have body:aL T (aB T dfs (m+8)) (.one 3) lZ (aJ k) [.v BK,.v CS,.v A,x]=.ok (.rt (.int (k:Int)) false):=by
    simp[aL,lZ,aJ,e,Di]
   rw[aK,xV body]
  ·obtain⟨out,h1,h2⟩:=Ef m hA hT r (.v (.int (k:Int))) λq hq=>h q (bG _ hq)
   refine⟨out,?_,h2⟩
   have hw2:(w == "lacks")=false:=by simpa using hw
   have body:aL T (aB T dfs (m+8)) (.one 3) lZ (aJ k) [.v BK,.v CS,.v A,x]=.ok (.nx [.v BK,.v CS,.v A,.v (.int (k:Int))]):=by
    simp[aL,lZ,aJ,e,Di,hw2]
   rw[aK,dI body,h1]
theorem KS(m:Nat){A:D}{aw:List Nat}(hA:iD A aw)(hs:S.length<=9)(hT:mK m (bkD B0 B1 S L C) CS S.length):∃d,aB T dfs (m+9) 16 [bkD B0 B1 S L C,CS,A]=.ok d:=by
 obtain⟨out,h1,h2⟩:=Ef m hA hT (aF S.length) .no λk hk=>dC.mp hk
 have rg:=lS (n:=S.length) (by lia)
 have ln:=uH (S:=S)
 simp only[bkD]at h1⊢
 generalize S.map Scene.enc=se at *
 generalize (aF S.length).map aJ=rr at *
 rcases h2 with⟨k,rfl⟩|⟨y,rfl⟩
 ·exact⟨.int k,bH (k:=false) rfl rfl rfl (by simp[tK,ln,rg,h1])⟩
 ·exact⟨.non,bH (k:=false) rfl rfl rfl (by simp[tK,ln,rg,h1])⟩
theorem KU(n many:Nat)(hm:many<=6):aB T dfs (n+1) 17 [.lst [.tup []],.int (many:Int)]=.ok (.lst ((aF many).map λ(p:Nat)=>D.tup [.int (p:Int)])):=by
 have hb:=bT
 refine bH (k:=true) rfl rfl rfl ?_
 have rg:oO (.int 0) (.int (many:Int))=.ok ((aF many).map aJ):=by
  have:=DW (n:=0) (m:=many) (by lia) (by lia)
  rw[show((0:Nat):Int)=0 from rfl]at this
  rw[this,pN]
  have h2:=lS (n:=many) (by lia)
  rw[kQ (by lia)]at h2
  exact h2
 have c1:∀a0 a1 a2 a4,aT (aI T (aB T dfs n) 1 [3] (.one 0) yV (.con (.bl true)) [a0,a1,a2,.v (.tup []),a4]) ((aF many).map aJ)=.ok ((aF many).map λ(p:Nat)=>D.tup [.int (p:Int)]):=λa0 a1 a2 a4=>by
  rw[cQ aJ (λ(p:Nat)=>some (D.tup [.int (p:Int)])) (λp _=>by
   have ad:D.bin .Add (.tup []) (.tup [.int (p:Int)])=.ok (.tup [.int (p:Int)]):=rfl
   simp[aI,Tr.aU,yV,aJ,ad]),jE]
 have l1:((aF many).map aJ).length<=big:=by rw[aE,cN];lia
 have l2:((aF many).map λ(p:Nat)=>D.tup [.int (p:Int)]).length<=big:=by rw[aE,cN];lia
 have tr:(D.tup []).truth=.ok false:=rfl
 have body:aL T (aB T dfs n) (.one 3) tL (.tup []) [.v (.lst [.tup []]),.v (.int (many:Int)),.o (.lst []),.no,.no]=.ok (.nx [.v (.lst [.tup []]),.v (.int (many:Int)),.o (.lst ((aF many).map λ(p:Nat)=>D.tup [.int (p:Int)])),.v (.tup []),.v (.int 0)]):=by
  generalize (aF many).map (λ(p:Nat)=>D.tup [.int (p:Int)])=z at *
  generalize (aF many).map aJ=rr at *
  simp[aL,tL,tr,rg,c1,l1,l2]
 have lo:aR (aL T (aB T dfs n) (.one 3) tL) [.tup []] [.v (.lst [.tup []]),.v (.int (many:Int)),.o (.lst []),.no,.no]=.ok (.nx [.v (.lst [.tup []]),.v (.int (many:Int)),.o (.lst ((aF many).map λ(p:Nat)=>D.tup [.int (p:Int)])),.v (.tup []),.v (.int 0)]):=by rw[dI body];rfl
 generalize (aF many).map (λ(p:Nat)=>D.tup [.int (p:Int)])=z at *
 simp[yW,lo]
theorem Eg{cf:Nat->List D->Res D}{e:Nv}{i:Nat}{x:E}:exS T cf (.asgN i x) e=(do let d<-evE T cf x e;aC (nG T x e&&(d.isNon||d.flatL)) (.ok (.nx (e.set i (.n d))))):=id rfl
theorem KW(n many:Nat)(hm:many<=6):aB T dfs (n+2) 18 [.int (many:Int),.int 1]=.ok (.lst (.tup []::(aF many).map λ(p:Nat)=>D.tup [.int (p:Int)])):=by
 have hb:=bT
 have e1:=KU n many hm
 have fl:D.flatL (.lst ((aF many).map λ(p:Nat)=>D.tup [.int (p:Int)]))=true:=by
  show D.flats _=true
  generalize aF many=l
  induction l with
  |nil=>rfl
  |cons x r ih=>rw[aK,D.flats,ih];rfl
 have ll:((aF many).map λ(p:Nat)=>D.tup [.int (p:Int)]).length+1<=big:=by rw[aE,cN];lia
 refine bH (k:=true) rfl rfl rfl ?_
 generalize (aF many).map (λ(p:Nat)=>D.tup [.int (p:Int)])=z at *
 have s1:exS T (aB T dfs (n+1)) (.asgN 2 (.lst (.acons (.tup .anil) .anil))) [.v (.int (many:Int)),.v (.int 1),.no,.no,.no]=.ok (.nx [.v (.int (many:Int)),.v (.int 1),.n (.lst [.tup []]),.no,.no]):=by
  rw[Eg]
  simp
  rfl
 have s2:exS T (aB T dfs (n+1)) (.asgN 2 (.call 17 (.acons (.var 2) (.acons (.var 0) .anil)))) [.v (.int (many:Int)),.v (.int 1),.n (.lst [.tup []]),.o (.lst [.tup []]),.v (.int 0)]=.ok (.nx [.v (.int (many:Int)),.v (.int 1),.n (.lst z),.o (.lst [.tup []]),.v (.int 0)]):=by
  rw[Eg]
  have nv:(Sl.n (.lst [.tup []])).val=.ok (.lst [.tup []]):=rfl
  simp[nv,e1]
  rw[bJ (by rw[fl,AF,Ex];rfl)]
 have s3:exS T (aB T dfs (n+1)) (.extN 3 2) [.v (.int (many:Int)),.v (.int 1),.n (.lst z),.o (.lst [.tup []]),.v (.int 0)]=.ok (.nx [.v (.int (many:Int)),.v (.int 1),.n (.lst z),.o (.lst (.tup []::z)),.v (.int 0)]):=by
  rw[vW]
  show(do let a<-Sl.own (.o (.lst [.tup []]));aC (decide (a.length+z.length<=big)) (Res.ok (Out.nx _)))=_
  show aC (decide (1+z.length<=big)) _=_
  rw[bJ (decide_eq_true (by lia))];rfl
 have rg:hJ (.int 1)=.ok [.int 0]:=rfl
 have body:aL T (aB T dfs (n+1)) (.one 4) tM (.int 0) [.v (.int (many:Int)),.v (.int 1),.n (.lst [.tup []]),.o (.lst [.tup []]),.no]=.ok (.nx [.v (.int (many:Int)),.v (.int 1),.n (.lst z),.o (.lst (.tup []::z)),.v (.int 0)]):=by
  simp[aL,tM,s2,s3]
 have lo:aR (aL T (aB T dfs (n+1)) (.one 4) tM) [.int 0] [.v (.int (many:Int)),.v (.int 1),.n (.lst [.tup []]),.o (.lst [.tup []]),.no]=.ok (.nx [.v (.int (many:Int)),.v (.int 1),.n (.lst z),.o (.lst (.tup []::z)),.v (.int 0)]):=by rw[dI body];rfl
 simp[yX,s1,rg,lo]
end
theorem KY(fs:List Flt):D.cmp .NotEq (.lst (fs.map Flt.enc)) (.lst [])=.ok (.bl (!fs.isEmpty)):=by
 show aC (D.eqOk (.lst (fs.map Flt.enc)) (.lst [])) (.ok (D.bl (!D.eqb (.lst (fs.map Flt.enc)) (.lst []))))=_
 rw[bJ (by unfold D.eqOk;rw[xW,sC Flt.enc 29 (flt_pl 28) fs];rfl)]
 cases fs<;>rfl
theorem ask_ok(n:Nat)(b c:D)(h:aB T dfs (n+6) 8 [b,c]=.ok (.lst [])):aB T dfs (n+7) 9 [b,c]=.ok .non:=by
 refine JN (e:=[.v b,.v c]) rfl rfl rfl ?_
 have q:D.cmp .NotEq (.lst []) (.lst [])=.ok (.bl false):=rfl
 simp[sU,h,q]
theorem ask_no (n:Nat) (b c:D) (fs:List Flt) (h:aB T dfs (n+6) 8 [b,c]=.ok (.lst (fs.map Flt.enc))) (hf:fs≠[]):aB T dfs (n+7) 9 [b,c]=.err "NoCasting" .non:=by
 refine rZ rfl rfl ?_
 have q:=KY fs
 rw[show fs.isEmpty=false by cases fs with|nil=>exact absurd rfl hf|cons _ _=>rfl]at q
 generalize fs.map Flt.enc=z at *
 simp[sU,kL,gS,gT,gU,jJ,h,q,D.truth]
section
variable{B0 L C:D}{Q:List Player}{S:List Scene}{CS:D}
theorem KZ:Bt.run .len [.tup (Q.map Player.enc)]=.ok (.int (Q.length:Nat)):=by
 show Res.ok (D.int ((Q.map Player.enc).length:Nat))=_
 rw[aE]
theorem K0(m:Nat){BK A:D}{aw:List Nat}(hA:iD A aw){n k:Nat}(hk:k<n)(hT:mK m BK CS n)(ha:aB T dfs (m+8) 9 [BK,CS]=.ok .non):∃d,aB T dfs (m+9) 14 [BK,CS,A,.int (k:Int)]=.ok d:=by
 obtain⟨w,x,e⟩:=hT A aw hA k hk
 exact⟨_,bH (k:=false) rfl rfl rfl (by
  simp[tF,ha,e]
  rfl)⟩
theorem K1(m:Nat){B1 A:D}{aw:List Nat}(hA:iD A aw)(hs:S.length<=9)(hT:mK m (bkD B0 B1 S L C) CS S.length)(ha:aB T dfs (m+8) 9 [bkD B0 B1 S L C,CS]=.ok .non):∃d,aB T dfs (m+9) 15 [bkD B0 B1 S L C,CS,A]=.ok d:=by
 have hb:=bT
 have c1:∃l,aT (aI T (aB T dfs (m+8)) 1 [0,1,2] (.one 0) tH (.con (.bl true)) [.v (bkD B0 B1 S L C),.v CS,.v A]) ((aF S.length).map aJ)=.ok l:=by
  have:=cQ (f:=aI T (aB T dfs (m+8)) 1 [0,1,2] (.one 0) tH (.con (.bl true)) [.v (bkD B0 B1 S L C),.v CS,.v A]) (xs:=aF S.length) aJ (λ(k:Nat)=>some (match aB T dfs (m+8) 13 [bkD B0 B1 S L C,CS,A,.int (k:Int)]with | .ok v=>v|_=>.non)) (λk hk=>by
   obtain⟨w,x,e⟩:=hT A aw hA k (dC.mp hk)
   rw[e]
   simp only[bkD]at e⊢
   simp[aI,Tr.aU,tH,aJ,e])
  exact⟨_,this⟩
 obtain⟨l,c1⟩:=c1
 have rg:=lS (n:=S.length) (by lia)
 have ln:=uH (S:=S)
 have l1:((aF S.length).map aJ).length<=big:=by rw[aE,cN];lia
 refine⟨.lst l,bH (k:=true) rfl rfl rfl ?_⟩
 simp only[bkD]at c1 ha⊢
 generalize S.map Scene.enc=se at *
 generalize (aF S.length).map aJ=rr at *
 simp[tJ,ha,ln,rg,l1,c1]
theorem K2(m:Nat)(hq:Q.length<=6)(hs:S.length<=9)(hT:mK m (bkD B0 (.tup (Q.map Player.enc)) S L C) CS S.length)(ha:aB T dfs (m+9) 9 [bkD B0 (.tup (Q.map Player.enc)) S L C,CS]=.ok .non) :
 ∃d,aB T dfs (m+10) 19 [bkD B0 (.tup (Q.map Player.enc)) S L C,CS,.int 1]=.ok d:=by
 have hb:=bT
 have e1:=KW (m+7) Q.length hq
 have all:∀z∈(D.tup []::(aF Q.length).map λ(p:Nat)=>D.tup [.int (p:Int)]),∃aw:List Nat,z=.tup (aA aw):=λz hz=>by
  rcases aY.mp hz with h|h
  ·exact⟨[],h⟩
  ·obtain⟨p,_,rfl⟩:=bS.mp h
   exact⟨[p],rfl⟩
 have ll:(D.tup []::(aF Q.length).map λ(p:Nat)=>D.tup [.int (p:Int)]).length<=big:=by rw[aX,aE,cN];lia
 generalize (D.tup []::(aF Q.length).map λ(p:Nat)=>D.tup [.int (p:Int)])=zs at *
 have c1:∃l,aT (aI T (aB T dfs (m+9)) 1 [0,1] (.one 0) tN (.con (.bl true)) [.v (bkD B0 (.tup (Q.map Player.enc)) S L C),.v CS,.v (.int 1)]) zs=.ok l:=by
  have:=cQ (f:=aI T (aB T dfs (m+9)) 1 [0,1] (.one 0) tN (.con (.bl true)) [.v (bkD B0 (.tup (Q.map Player.enc)) S L C),.v CS,.v (.int 1)]) (xs:=zs) id (λ(z:D)=>some (D.tup [z,match aB T dfs (m+9) 16 [bkD B0 (.tup (Q.map Player.enc)) S L C,CS,z]with | .ok v=>v|_=>.non])) (λz hz=>by
   obtain⟨aw,rfl⟩:=all z hz
   obtain⟨d,e⟩:=KS (m:=m) (KI aw) hs hT
   rw[e]
   simp only[bkD]at e⊢
   generalize aA aw=nz at *
   simp[aI,Tr.aU,tN,e])
  rw[List.map_id]at this
  exact⟨_,this⟩
 obtain⟨l,c1⟩:=c1
 have lq:=KZ (Q:=Q)
 refine⟨.lst l,bH (k:=true) rfl rfl rfl ?_⟩
 simp only[bkD]at c1 ha⊢
 generalize Q.map Player.enc=qe at *
 simp[tO,ha,lq,e1,ll,c1]
end
theorem K3 (n:Nat) (b c a:D) (h:aB T dfs (n+7) 9 [b,c]=.err "NoCasting" .non):aB T dfs (n+8) 15 [b,c,a]=.err "NoCasting" .non:=by
 refine rZ rfl rfl ?_
 simp[tJ,kL,gS,gT,gU,jJ,h]
theorem K5 (n:Nat) (b c a:D) (h:aB T dfs (n+7) 9 [b,c]=.err "NoCasting" .non):aB T dfs (n+8) 19 [b,c,a]=.err "NoCasting" .non:=by
 refine rZ rfl rfl ?_
 simp[tO,kL,gS,gT,gU,jJ,h]
theorem K6 (n:Nat) (b c a k:D) (h:aB T dfs (n+7) 9 [b,c]=.err "NoCasting" .non):aB T dfs (n+8) 14 [b,c,a,k]=.err "NoCasting" .non:=by
 refine rZ rfl rfl ?_
 simp[tF,kL,gS,gT,gU,jJ,h]
theorem told_x{n f:Nat}{ds:List D}{d:Df}{t:Told}{v:D}(h:dfs[f]?=some d)(ht:d.told=some t)(hl:ds.length=d.pars)(hk:T.fresh f=false)(hi:t.ini=.non)(hn:t.num=false)
 (he:exX T (aB T dfs n) t.b (ds.map Sl.v++[.v .non,.no])=some (t.c,v)):aB T dfs (n+1) f ds=.ok t.yes:=by
 rw[gR,h]
 show aC (ds.length==d.pars) _=_
 rw[bJ (by simpa using hl),ht]
 dsimp only
 rw[hi,he]
 show aC (t.c==t.c&&!T.fresh f) (if t.num=true then _ else _)=_
 rw[hk,bJ (by simp),hn];rfl
theorem told_n{n f:Nat}{ds:List D}{d:Df}{t:Told}{e:Nv}(h:dfs[f]?=some d)(ht:d.told=some t)(hl:ds.length=d.pars)(hk:T.fresh f=false)(hi:t.ini=.non)
 (he:exS T (aB T dfs n) t.b (ds.map Sl.v++[.v .non,.no])=.ok (.nx e)):aB T dfs (n+1) f ds=.ok t.thr:=by
 rw[gR,h]
 show aC (ds.length==d.pars) _=_
 rw[bJ (by simpa using hl),ht]
 dsimp only
 rw[hi]
 cases hx:exX T (aB T dfs n) t.b (ds.map Sl.v++[.v .non,.no])with
 |some z=>exact absurd he (jK hx _)
 |none=>
  dsimp only
  rw[he]
  show aC (!T.fresh f) _=_
  rw[hk];rfl
theorem K7 (n:Nat) (b c:D) (w:Int) (k:D) (h:aB T dfs (n+7) 9 [b,c]=.err "NoCasting" .non):aB T dfs (n+9) 30 [b,c,.int w,k]=.ok (.str "no casting"):=by
 have e1:=λa=>K3 n b c a h
 have e2:=λa=>K5 n b c a h
 have e3:=λa=>K6 n b c a k h
 refine told_x (t:=oW) (v:=.non) rfl rfl rfl rfl rfl rfl ?_
 by_cases hw:w=0
 ·simp[iW,kL,gS,gT,gU,jJ,hw,e2,D.truth]
 ·have hw2:(w==0)=false:=by simpa using hw
  by_cases hv:w=1
  ·simp[iW,kL,gS,gT,gU,jJ,hv,e1,D.truth]
  ·have hv2:(w==1)=false:=by simpa using hv
   simp[iW,kL,gS,gT,gU,jJ,hw2,hv2,e3,D.truth]
theorem K8 (n:Nat) (b c x y z:D) (w:Int) (k:D) (h1:aB T dfs (n+10) 19 [b,c,.int 1]=.ok x) (h2:aB T dfs (n+10) 15 [b,c,.lst [.int 0]]=.ok y) (h3:aB T dfs (n+10) 14 [b,c,.lst [],k]=.ok z):aB T dfs (n+11) 30 [b,c,.int w,k]=.ok (.str "told"):=by
 refine told_n (t:=oW) (e:=[.v b,.v c,.v (.int w),.v k,.v .non,.no]) rfl rfl rfl rfl rfl ?_
 by_cases hw:w=0
 ·simp[iW,hw,h1]
 ·have hw2:(w==0)=false:=by simpa using hw
  by_cases hv:w=1
  ·simp[iW,hv,h2]
  ·have hv2:(w==1)=false:=by simpa using hv
   simp[iW,hw2,hv2,h3]
noncomputable abbrev psV(P:List Part)(S:List Scene):List (Nat×Nat):=(sE P.length).filter λp=>(dS P S p.1 p.2).isSome
theorem Ei(n:Nat)(P:List Part)(Q:List Player)(S:List Scene)(Y Z:D)(hp:P.length<=8)(hs:S.length<=24)(hv:∀p∈P,(dJ p.voice).length=1)(cs:List (Option Nat))(hl:cs.length=P.length)(hc:∀j,some j∈cs->j<Q.length) :
 aB T dfs (n+6) 8 [.tup [.tup (P.map Part.enc),.tup (Q.map Player.enc),.tup (S.map Scene.enc),Y,Z],.lst (cs.map bU)]=.ok (.lst ((iB P Q (psV P S) cs).map Flt.enc)):=by
 refine Jz n P Q S Y Z hp hs hv cs hl hc (psV P S) (λp hx=>?_) ?_ (Jw n _ _ _ P S hs hp)
 ·have:=yA (fP.mp hx).1
  exact⟨by lia,this.2⟩
 ·have h1:=yB P.length P.length
  have h2:=uR hp hp
  exact cD (jY ..) (cD h1 (by lia))
theorem uI(cs:List Nat):aA cs=(cs.map some).map bU:=by unfold aA;rw[bY];rfl
theorem pG{cs:List Nat}{i:Nat}(h:i<cs.length):(cs.map some).getD i none=some (cA cs i):=by
 unfold cA
 rw[gM,bO,gM,bD h];rfl
theorem uJ{cs:List Nat}{i:Nat}(h:i<cs.length):cA cs i∈cs:=by
 unfold cA
 rw[gM,bD h]
 exact fF h
structure Stage(P:List Part)(Q:List Player)(S:List Scene)(cs:List Nat):Prop where
 hp:P.length<=8
 hq:Q.length<=6
 hs:S.length<=5
 voice:∀p∈P,p.voice = "a" /\ p.off=0/\p.on=0
 voices:∀q∈Q,q.voices = "ba"
 good:∀s∈S,GoodScene P.length s
 len:cs.length=P.length
 lt:∀j∈cs,j<Q.length
 own:∀s∈S,(s.who.map (cA cs)).Nodup
theorem Stage.one{P:List Part}{Q:List Player}{S:List Scene}{cs:List Nat}(h:Stage P Q S cs):∀p∈P,(dJ p.voice).length=1:=λp hp=>by rw[(h.voice p hp).1];rfl
theorem has_ba {p:Part} {q:Player} (h1:p.voice = "a") (h2:q.voices = "ba"):kS p q=true:=by
 unfold kS;rw[h1,h2];rfl
theorem Ej{f:Nat->Nat}:∀{l:List Nat},(l.map f).Nodup->∀{x y:Nat},x∈l->y∈l->f x=f y->x=y
 |a::r,nd,x,y,hx,hy,e=>by
  rw[aK,iG]at nd
  rcases aY.mp hx with h1|h1<;>rcases aY.mp hy with h2|h2
  ·rw[h1,h2]
  ·exact absurd (bS.mpr ⟨y,h2,by rw[<-e,h1]⟩) nd.1
  ·exact absurd (bS.mpr ⟨x,h1,by rw[e,h2]⟩) nd.1
  ·exact Ej nd.2 h1 h2 e
theorem K9{P:List Part}{Q:List Player}{S:List Scene}{cs:List Nat}(h:Stage P Q S cs):iB P Q (psV P S) (cs.map some)=[]:=by
 unfold iB
 rw[List.append_eq_nil_iff]
 constructor
 ·rw[List.filterMap_eq_nil_iff]
  intro k hk
  rw[aE]at hk
  have hk:=dC.mp hk
  unfold dU
  rw[pG hk]
  have hj:=h.lt _ (uJ hk)
  have:lV P Q k (cA cs k)=true:=by
   rw[yC (by rw[<-h.len];exact hk) hj]
   exact has_ba (h.voice _ (fF _)).1 (h.voices _ (fF _))
  simp[this]
 ·rw[List.map_eq_nil_iff,List.filter_eq_nil_iff]
  intro p hp
  obtain⟨h1,h2⟩:=fP.mp hp
  have hlt:=yA h1
  rw[Dh (λs hs=>⟨(h.good s hs).len,(h.good s hs).pause⟩) (λq hq=>(h.voice q hq).2)]at h2
  obtain⟨s,hs,hw⟩:=pR.mp h2
  rw[aD,decide_eq_true_eq,decide_eq_true_eq]at hw
  unfold eR
  rw[pG (by rw[h.len];lia),pG (by rw[h.len];lia)]
  intro hz
  simp at hz
  have:=Ej (h.own s hs) hw.1 hw.2 hz
  lia
theorem zZ{α:Type}{l:List α}{x:α}(h:x∈l):l≠[]:=λz=>by rw[z]at h;cases h
theorem K_{P:List Part}{Q:List Player}{ps:List (Nat×Nat)}{cs:List (Option Nat)}{p:Nat}(hp:p<cs.length):iB P Q ps (cs.set p none)≠[]:=by
 refine zZ (x:=.nob p) (pI _ (jU.mpr ⟨p,dC.mpr (by rw[cI];exact hp),?_⟩))
 unfold dU
 rw[show(cs.set p none).getD p none=none by rw[gM,iZ hp];rfl]
theorem Ka{P:List Part}{Q:List Player}{S:List Scene}{cs:List Nat}(h:Stage P Q S cs){ps:List (Nat×Nat)}{p:Nat}(hp:p<cs.length)(nm v:Str)(hire:Int)(hv:hasC v 97=false):iB P (Q.set (cA cs p) ⟨nm,v,hire⟩) ps (cs.map some)≠[]:=by
 have hj:=h.lt _ (uJ hp)
 refine zZ (x:=.voi p (cA cs p)) (pI _ (jU.mpr ⟨p,dC.mpr (by rw[aE];exact hp),?_⟩))
 unfold dU
 rw[pG hp]
 have:lV P (Q.set (cA cs p) ⟨nm,v,hire⟩) p (cA cs p)=false:=by
  rw[yC (by rw[<-h.len];exact hp) (by rw[cI];exact hj),List.getElem_set_self]
  unfold kS
  rw[(h.voice _ (fF (by rw[<-h.len];exact hp))).1]
  exact hv
 simp[this]
theorem Kb{P:List Part}{Q:List Player}{S:List Scene}{cs:List Nat}(h:Stage P Q S cs){s:Scene}(hs:s∈S){p o:Nat}(hp:p∈s.who)(ho:o∈s.who)(ne:o≠p):iB P Q (psV P S) ((cs.map some).set p (some (cA cs o)))≠[]:=by
 have lp:p<cs.length:=by rw[h.len];exact(h.good s hs).lt p hp
 have lo:o<cs.length:=by rw[h.len];exact(h.good s hs).lt o ho
 have e1:((cs.map some).set p (some (cA cs o))).getD p none=some (cA cs o):=by rw[gM,iZ (by rw[aE];exact lp)];rfl
 have e2:((cs.map some).set p (some (cA cs o))).getD o none=some (cA cs o):=by
  rw[gM,kZ (Ne.symm ne),<-gM,pG lo]
 have go:∀i j,i<j->i∈s.who->j∈s.who->((cs.map some).set p (some (cA cs o))).getD i none=some (cA cs o)->((cs.map some).set p (some (cA cs o))).getD j none=some (cA cs o)->iB P Q (psV P S) ((cs.map some).set p (some (cA cs o)))≠[]:=by
  intro i j hij hi hj z1 z2
  refine zZ (x:=.cla i j) (fR _ (bS.mpr ⟨(i,j),fP.mpr ⟨fP.mpr ⟨J8 hij ((h.good s hs).lt j hj),?_⟩,?_⟩,rfl⟩))
  ·rw[Dh (λs hs=>⟨(h.good s hs).len,(h.good s hs).pause⟩) (λq hq=>(h.voice q hq).2)]
   exact pR.mpr ⟨s,hs,by rw[decide_eq_true hi,decide_eq_true hj];rfl⟩
  ·show eR _ i j=true
   unfold eR
   rw[z1,z2];simp
 rcases Nat.lt_or_gt_of_ne ne with z|z
 ·exact go o p z ho hp e2 e1
 ·exact go p o z hp ho e1 e2
theorem Kc{n a:Nat}(h:a<n)(hn:n<1000):qG n (.int (a:Int))=.ok a:=by
 show aC (cT (a:Int)) (Res.of (Tr.ixN n (a:Int)))=_
 rw[bJ (by unfold cT;simp;lia)]
 unfold Tr.ixN
 rw[if_pos (by lia),if_pos (by lia)]
 simp[Res.of]
theorem pH(a:Int){b:Nat}(h:0<b):∃k:Nat,k<b/\D.bin .Mod (.int a) (.int (b:Int))=.ok (.int (k:Int)):=by
 have hz:(0:Int)<(b:Int):=by lia
 have h1:=pT a (Int.ne_of_gt hz)
 have h2:=AL a hz
 refine⟨(a%(b:Int)).toNat,by lia,?_⟩
 rw[xT hz,Ey h1]
theorem Ek{cs:List Nat}{p:Nat}(hp:p<cs.length)(h8:cs.length<=8)(o:Option Nat):D.sl (.lst (aA cs)) none (some (p:Int))=.ok (.lst (aA (cs.take p)))/\D.sl (.lst (aA cs)) (some ((p:Int)+1)) none=.ok (.lst (aA (cs.drop (p+1)))) /\
 D.bin .Add (.lst (aA (cs.take p))) (.lst [bU o])=.ok (.lst (aA (cs.take p)++[bU o]))/\D.bin .Add (.lst (aA (cs.take p)++[bU o])) (.lst (aA (cs.drop (p+1))))=.ok (.lst (((cs.map some).set p o).map bU)):=by
 have hb:=bT
 refine⟨?_,?_,?_,?_⟩
 ·show Res.ok (D.lst (cut (aA cs) none (some (p:Int))))=_
  rw[sH (by rw[dR];lia)]
  unfold aA
  rw[pS]
 ·show Res.ok (D.lst (cut (aA cs) (some ((p:Int)+1)) none))=_
  rw[show(p:Int)+1=((p+1:Nat):Int)from rfl,sG (by rw[dR];lia)]
  unfold aA
  rw[uP]
 ·show aC _ _=_
  rw[bJ (decide_eq_true (by rw[dR,fS,jB];lia))]
 ·show aC _ _=_
  rw[bJ (decide_eq_true (by rw[cE,dR,dR,fS,pJ,jB];lia))]
  refine congrArg Res.ok (congrArg D.lst ?_)
  rw[List.set_eq_take_append_cons_drop,if_pos (by rw[aE];exact hp),uI,uI,iH,aK,pM,pS,uP];rfl
noncomputable def badC(W:D):Prop:=∃l,W=.lst l
theorem bad(n:Nat)(P:List Part)(Q:List Player)(S:List Scene)(L C:D)(cs:List Nat)(st:Stage P Q S cs)(hs0:0<S.length)(cell:Int) :
 ∃B2 W,aB T dfs (n+1) 31 [.tup [.tup (P.map Part.enc),.tup (Q.map Player.enc),.tup (S.map Scene.enc),L,C],.lst (aA cs),.int cell]=.ok (.tup [B2,W]) /\
  (W=.non\/(badC W/\∀k,∃fs,fs≠[]/\aB T dfs (k+6) 8 [B2,W]=.ok (.lst (fs.map Flt.enc)))):=by
 have hb:=bT
 have h8:cs.length<=8:=by rw[st.len];exact st.hp
 have hq6:=st.hq
 have hs5:=st.hs
 obtain⟨k0,hk0,e1⟩:=pH (cell/3) hs0
 have ln:=uH (S:=S)
 have e2:=zW hk0
 have gs:=st.good S[k0] (fF hk0)
 have e3:D.ix S[k0].enc (.int 3)=.ok (.tup (aA S[k0].who)):=by unfold Scene.enc;rfl
 have pl:D.pls 30 (aA S[k0].who)=true:=iS 29 _
 have q0:=yD pl
 have w8:S[k0].who.length<=8:=cD (fN gs.nd (U:=aF cs.length) λx hx=>dC.mpr (by rw[st.len];exact gs.lt x hx)) (by rw[cN];exact h8)
 by_cases he:S[k0].who=[]
 ·refine⟨.tup [.tup (P.map Part.enc),.tup (Q.map Player.enc),.tup (S.map Scene.enc),L,C],.non,bH (k:=false) rfl rfl rfl ?_,.inl rfl⟩
  rw[he]at e3 q0
  rw[show(aA ([]:List Nat))=[]from rfl]at e3 q0
  generalize S[k0].enc=se at *
  generalize S.map Scene.enc=ss at *
  generalize P.map Part.enc=pp at *
  generalize Q.map Player.enc=qq at *
  simp[kU,ln,e1,e2,e3,q0]
 have hw0:0<S[k0].who.length:=AM.mpr he
 obtain⟨k1,hk1,e4⟩:=pH (cell/64) hw0
 have lw:Bt.run .len [.tup (aA S[k0].who)]=.ok (.int (S[k0].who.length:Nat)):=by
  show Res.ok (D.int ((aA S[k0].who).length:Nat))=_
  rw[dR]
 have e5:D.ix (.tup (aA S[k0].who)) (.int (k1:Int))=.ok (.int (S[k0].who[k1]:Int)):=hZ (by unfold aA;rw[bO,bD hk1];rfl)
 have hpw:S[k0].who[k1]∈S[k0].who:=fF hk1
 have q1:D.cmp .Eq (.tup (aA S[k0].who)) (.tup [])=.ok (.bl false):=by
  rw[q0]
  cases hz:S[k0].who with
  |nil=>exact absurd hz he
  |cons _ _=>rfl
 have hlp:S[k0].who[k1]<cs.length:=by rw[st.len];exact gs.lt _ hpw
 have e6:=cast_at hlp
 have lwb:(aA S[k0].who).length<=big:=by rw[dR];lia
 generalize hp:S[k0].who[k1]=p at *
 have fa:=λk (Q':List Player) (o:List (Option Nat)) (h1:o.length=cs.length) (h2:∀j,some j∈o->j<Q'.length)=>Ei k P Q' S L C st.hp (by lia) st.one o (by rw[h1];exact st.len) h2
 have sop:∀o:Option Nat,(∀j,o=some j->j<Q.length)->∀j,some j∈(cs.map some).set p o->j<Q.length:=λo ho j hj=>by
  rcases List.mem_or_eq_of_mem_set hj with z|z
  ·obtain⟨y,hy,e⟩:=bS.mp z
   cases e
   exact st.lt _ hy
  ·exact ho j z.symm
 rcases(by lia:cell%3=0\/cell%3=1\/cell%3=2)with w|w|w
 ·obtain⟨g1,g2,g3,g4⟩:=Ek hlp h8 none
  rw[show bU none=.non from rfl]at g3 g4
  refine⟨.tup [.tup (P.map Part.enc),.tup (Q.map Player.enc),.tup (S.map Scene.enc),L,C],.lst (((cs.map some).set p none).map bU),bH (k:=false) rfl rfl rfl ?_,.inr ⟨⟨_,rfl⟩,λk=>⟨_,K_ (by rw[aE];exact hlp),fa k Q _ (by rw[cI,aE]) (sop none λj z=>by cases z)⟩⟩⟩
  generalize S[k0].enc=se at *
  generalize S.map Scene.enc=ss at *
  generalize P.map Part.enc=pp at *
  generalize Q.map Player.enc=qq at *
  generalize aA S[k0].who=ww at *
  generalize ((cs.map some).set p none).map bU=z1 at *
  generalize aA (cs.take p)=z2 at *
  generalize aA (cs.drop (p+1))=z3 at *
  generalize aA cs=z4 at *
  simp[kU,ln,e1,e2,e3,q1,lw,e4,e5,w,g1,g2,g3,g4]
 ·have hj:=st.lt _ (uJ hlp)
  have bl:Bt.run .list [.tup (Q.map Player.enc)]=.ok (.lst (Q.map Player.enc)):=rfl
  have e7:D.ix (.lst (Q.map Player.enc)) (.int (cA cs p:Int))=.ok (D.tup [.str Q[cA cs p].name,.str Q[cA cs p].voices,.int Q[cA cs p].hire]):=hV (by rw[bO,bD hj];rfl)
  obtain⟨i3,hi3,m3⟩:=pH (cell/64) (b:=3) (by lia)
  rw[show((3:Nat):Int)=3 from rfl,xT (by lia)]at m3
  injection m3 with m3
  injection m3 with m3
  obtain⟨v,hv,e8⟩:∃v:Str,hasC v 97=false/\D.ix (.lst [.str "", .str "b", .str "bcdz"]) (.int (i3:Int))=.ok (.str v):=by
   match i3,hi3 with
   |0,_=>exact⟨"", rfl,hV (i:=0) rfl⟩
   |1,_=>exact⟨"b", rfl,hV (i:=1) rfl⟩
   |2,_=>exact⟨"bcdz", rfl,hV (i:=2) rfl⟩
   |j+3,hj=>lia
  have px:=Kc (n:=(Q.map Player.enc).length) (a:=cA cs p) (by rw[aE];exact hj) (by rw[aE];lia)
  have sm:(Q.map Player.enc).set (cA cs p) (.tup [.str Q[cA cs p].name,.str v,.int Q[cA cs p].hire])=(Q.set (cA cs p) ⟨Q[cA cs p].name,v,Q[cA cs p].hire⟩).map Player.enc:=by rw[List.map_set];rfl
  have sl2:D.sl (.tup [.tup (P.map Part.enc),.tup (Q.map Player.enc),.tup (S.map Scene.enc),L,C]) (some 2) none=.ok (.tup [.tup (S.map Scene.enc),L,C]):=rfl
  have tb:∀l,Bt.run .tuple [.lst l]=.ok (.tup l):=λ_=>rfl
  have ad:∀l,D.bin .Add (.tup [.tup (P.map Part.enc),.tup l]) (.tup [.tup (S.map Scene.enc),L,C])=.ok (.tup [.tup (P.map Part.enc),.tup l,.tup (S.map Scene.enc),L,C]):=λ_=>rfl
  have nf:=uI cs
  have ff:=λk=>fa k (Q.set (cA cs p) ⟨Q[cA cs p].name,v,Q[cA cs p].hire⟩) (cs.map some) (by rw[aE]) (λj hj=>by
   obtain⟨y,hy,e⟩:=bS.mp hj
   cases e
   rw[cI]
   exact st.lt _ hy)
  have bv:=Ka st (ps:=psV P S) hlp Q[cA cs p].name v Q[cA cs p].hire hv
  refine⟨.tup [.tup (P.map Part.enc),.tup ((Q.set (cA cs p) ⟨Q[cA cs p].name,v,Q[cA cs p].hire⟩).map Player.enc),.tup (S.map Scene.enc),L,C],.lst (aA cs),bH (k:=false) rfl rfl rfl ?_,.inr ⟨⟨_,rfl⟩,λk=>⟨_,bv,by rw[nf];exact ff k⟩⟩⟩
  clear ff bv fa sop nf
  generalize (Q.set (cA cs p) ⟨Q[cA cs p].name,v,Q[cA cs p].hire⟩).map Player.enc=q2 at *
  generalize Q[cA cs p]=qp at *
  generalize cA cs p=j at *
  generalize S[k0].enc=se at *
  generalize S.map Scene.enc=ss at *
  generalize P.map Part.enc=pp at *
  generalize Q.map Player.enc=qq at *
  generalize aA S[k0].who=ww at *
  generalize aA cs=z4 at *
  simp[kU,ln,e1,e2,e3,q1,lw,e4,e5,e6,w,bl,e7,m3,e8,px,sm,sl2,tb,ad]
 ·have c1:∀a0 a1 a2 a3 a4 a6 a7 a8 a9 a10 a11,aT (aI T (aB T dfs n) 1 [5] (.one 0) tV tU [a0,a1,a2,a3,a4,.v (.int (p:Int)),a6,a7,a8,a9,a10,a11]) (aA S[k0].who)=.ok (aA (S[k0].who.filter λo=>!decide (o=p))):=λa0 a1 a2 a3 a4 a6 a7 a8 a9 a10 a11=>by
   refine JX (λ(i:Nat)=>D.int (i:Int)) (λo=>!decide (o=p)) (xs:=S[k0].who) λo _=>?_
   have ne:D.cmp .NotEq (.int (o:Int)) (.int (p:Int))=.ok (.bl (!decide (o=p))):=by
    show Res.ok (D.bl (!((o:Int)==(p:Int))))=_
    refine congrArg Res.ok (congrArg D.bl (congrArg (!·) ?_))
    by_cases z:o=p
    ·subst z;simp
    ·rw[decide_eq_false z];exact beq_eq_false_iff_ne.mpr (by lia)
   cases hz:decide (o=p)with
   |true=>rw[hz]at ne;simp[aI,Tr.aU,tV,tU,ne]
   |false=>rw[hz]at ne;simp[aI,Tr.aU,tV,tU,ne]
  have mo:∀o∈S[k0].who.filter λo=>!decide (o=p),o∈S[k0].who/\o≠p:=λo ho=>by
   obtain⟨h1,h2⟩:=fP.mp ho
   exact⟨h1,by simpa using h2⟩
  have lo8:(S[k0].who.filter λo=>!decide (o=p)).length<=8:=cD (jY ..) w8
  generalize (S[k0].who.filter λo=>!decide (o=p))=os at *
  have q2:D.cmp .Eq (.lst (aA os)) (.lst [])=.ok (.bl os.isEmpty):=by
   show aC (D.eqOk (.lst (aA os)) (.lst [])) (.ok (D.bl (D.eqb (.lst (aA os)) (.lst []))))=_
   rw[bJ (by unfold D.eqOk;rw[xW,iS 29 os];rfl)]
   cases os<;>rfl
  by_cases ho:os=[]
  ·refine⟨.tup [.tup (P.map Part.enc),.tup (Q.map Player.enc),.tup (S.map Scene.enc),L,C],.non,bH (k:=false) rfl rfl rfl ?_,.inl rfl⟩
   subst ho
   rw[show(aA ([]:List Nat))=[]from rfl]at c1 q2
   generalize S[k0].enc=se at *
   generalize S.map Scene.enc=ss at *
   generalize P.map Part.enc=pp at *
   generalize Q.map Player.enc=qq at *
   generalize aA S[k0].who=ww at *
   generalize aA cs=z4 at *
   simp[kU,ln,e1,e2,e3,q1,lw,e4,e5,w,c1,lwb,q2]
  ·rw[show os.isEmpty=false by cases os with|nil=>exact absurd rfl ho|cons _ _=>rfl]at q2
   obtain⟨k2,hk2,e7⟩:=pH (cell/64) (AM.mpr ho)
   have lq:Bt.run .len [.lst (aA os)]=.ok (.int (os.length:Nat)):=by
    show Res.ok (D.int ((aA os).length:Nat))=_
    rw[dR]
   have e8:D.ix (.lst (aA os)) (.int (k2:Int))=.ok (.int (os[k2]:Int)):=hV (by unfold aA;rw[bO,bD hk2];rfl)
   obtain⟨o1,o2⟩:=mo os[k2] (fF hk2)
   generalize os[k2]=o at *
   have hlo:o<cs.length:=by rw[st.len];exact gs.lt _ o1
   have e9:=cast_at hlo
   obtain⟨g1,g2,g3,g4⟩:=Ek hlp h8 (some (cA cs o))
   rw[show bU (some (cA cs o))=.int (cA cs o:Int)from rfl]at g3 g4
   have bc:=Kb st (fF hk0) hpw o1 o2
   refine⟨.tup [.tup (P.map Part.enc),.tup (Q.map Player.enc),.tup (S.map Scene.enc),L,C],.lst (((cs.map some).set p (some (cA cs o))).map bU),bH (k:=false) rfl rfl rfl ?_,.inr ⟨⟨_,rfl⟩,λk=>⟨_,bc,fa k Q _ (by rw[cI,aE]) (sop _ λj z=>by cases z;exact st.lt _ (uJ hlo))⟩⟩⟩
   clear fa sop bc
   generalize S[k0].enc=se at *
   generalize S.map Scene.enc=ss at *
   generalize P.map Part.enc=pp at *
   generalize Q.map Player.enc=qq at *
   generalize aA S[k0].who=ww at *
   generalize ((cs.map some).set p (some (cA cs o))).map bU=z1 at *
   generalize aA (cs.take p)=z2 at *
   generalize aA (cs.drop (p+1))=z3 at *
   generalize aA cs=z4 at *
   generalize aA os=z5 at *
   generalize cA cs o=co at *
   simp[kU,ln,e1,e2,e3,q1,lw,e4,e5,w,c1,lwb,q2,lq,e7,e8,e9,g1,g2,g3,g4]
theorem Kd{P:List Part}{Q:List Player}{S:List Scene}(dr:Drawn P Q S)(hq:0<Q.length)(cell:Int):Stage (P.map iC) (Q.map fD) ((S.take 5).map (gK (eS cell Q.length P.length))) (eS cell Q.length P.length):=by
 have hcl:(eS cell Q.length P.length).length=P.length:=by unfold eS;rw[aE,cN]
 refine⟨by rw[aE];exact dr.hp,by rw[aE];exact dr.hq,by rw[aE,fS];lia,λp hp=>?_,λq hq=>?_,λs hs=>?_,by rw[aE];exact hcl,λj hj=>by rw[aE];exact KH hq hj,λs hs=>?_⟩
 ·obtain⟨x,_,rfl⟩:=bS.mp hp
  exact⟨rfl,rfl,rfl⟩
 ·obtain⟨x,_,rfl⟩:=bS.mp hq
  rfl
 ·obtain⟨x,hx,rfl⟩:=bS.mp hs
  rw[aE]
  exact KE (dr.good x (AK hx))
 ·obtain⟨x,hx,rfl⟩:=bS.mp hs
  exact(uF _ x.who [] jX).1
theorem AA{P:List Part}{Q:List Player}{S:List Scene}{cs:List Nat}{L:D}{cv:List (Nat×Nat)}(st:Stage P Q S cs)(hcv:cv.length<=48)(hcq:∀x∈cv,x.2<Q.length)(m:Nat):mK m (bkD (.tup (P.map Part.enc)) (.tup (Q.map Player.enc)) S L (.tup (cv.map prD))) (.lst (aA cs)) S.length:=λA aw hA k hk=>
 KR m _ _ L S cv hcv Q.length st.hq hcq cs aw A hA (λs hs=>by rw[st.len];exact st.good s hs) (by rw[st.len];exact st.hp) k hk
theorem El{P:List Part}{Q:List Player}{S:List Scene}{cs:List Nat}{L:D}{cv:List (Nat×Nat)}(st:Stage P Q S cs)(hcv:cv.length<=48)(hcq:∀x∈cv,x.2<Q.length)(w:Int){k:Nat}(hk:k<S.length) :
 aB T dfs 29 30 [bkD (.tup (P.map Part.enc)) (.tup (Q.map Player.enc)) S L (.tup (cv.map prD)),.lst (aA cs),.int w,.int (k:Int)]=.ok (.str "told"):=by
 have hs5:=st.hs
 have ha:aB T dfs 27 9 [bkD (.tup (P.map Part.enc)) (.tup (Q.map Player.enc)) S L (.tup (cv.map prD)),.lst (aA cs)]=.ok .non:=by
  refine ask_ok 20 _ _ ?_
  have f:=Ei 20 P Q S L (.tup (cv.map prD)) st.hp (by lia) st.one (cs.map some) (by rw[aE];exact st.len) (λj hj=>by
   obtain⟨y,hy,e⟩:=bS.mp hj
   cases e
   exact st.lt _ hy)
  rw[K9 st,<-uI]at f
  exact f
 obtain⟨x,h1⟩:=K2 (m:=18) st.hq (by lia) (AA st hcv hcq 18) ha
 obtain⟨y,h2⟩:=K1 (m:=19) (E4 [0]) (by lia) (AA st hcv hcq 19) ha
 obtain⟨z,h3⟩:=K0 (m:=19) (E4 []) hk (AA st hcv hcq 19) ha
 exact K8 18 _ _ x y z w _ h1 h2 h3
theorem Ke(ns:List Int)(hn:ns.length<=63):aB T dfs 30 32 [.lst (ns.map D.int)]=.ok (.bl true):=by
 have hb:=bT
 obtain⟨P,Q,S,L,cv,dr,hcx,hcv,e1⟩:=book62 26 ns 2 hn (by lia)
 rw[show((2:Nat):Int)=2 from rfl]at e1
 have c0:=zN 28 ns 0
 rw[show((0:Nat):Int)=0 from rfl]at c0
 have c1:=zN 28 ns 1
 rw[show((1:Nat):Int)=1 from rfl]at c1
 have q1:=yD (xs:=Q.map Player.enc) (sC Player.enc 29 (λq=>by rfl) Q)
 have q2:=yD (xs:=S.map Scene.enc) (sC Scene.enc 29 (JR 27) S)
 refine bH (k:=false) rfl rfl rfl ?_
 by_cases hq:Q=[]
 ·rw[show(Q.map Player.enc).isEmpty=true by rw[hq];rfl]at q1
  generalize P.map Part.enc=pp at *
  generalize Q.map Player.enc=qq at *
  generalize S.map Scene.enc=ss at *
  generalize cv.map prD=cc at *
  simp[oY,e1,q1]
 rw[show(Q.map Player.enc).isEmpty=false by cases Q with|nil=>exact absurd rfl hq|cons _ _=>rfl]at q1
 by_cases hs:S=[]
 ·rw[show(S.map Scene.enc).isEmpty=true by rw[hs];rfl]at q2
  generalize P.map Part.enc=pp at *
  generalize Q.map Player.enc=qq at *
  generalize S.map Scene.enc=ss at *
  generalize cv.map prD=cc at *
  simp[oY,e1,q1,q2]
 rw[show(S.map Scene.enc).isEmpty=false by cases S with|nil=>exact absurd rfl hs|cons _ _=>rfl]at q2
 have hq0:0<Q.length:=AM.mpr hq
 have e2:=staged 27 P Q S L (.tup (cv.map prD)) dr hq0 (cM ns 0)
 have st:=Kd dr hq0 (cM ns 0)
 have hS0:0<((S.take 5).map (gK (eS (cM ns 0) Q.length P.length))).length:=by
  have:=AM.mpr hs
  rw[aE,fS];lia
 have hcq:∀x∈cv,x.2<(Q.map fD).length:=λx hx=>by rw[aE];exact(hcx x hx).2
 generalize eS (cM ns 0) Q.length P.length=cs at *
 generalize hP2:P.map iC=P2 at *
 generalize hQ2:Q.map fD=Q2 at *
 generalize hS2:(S.take 5).map (gK cs)=S2 at *
 obtain⟨B2,W,e3,hW⟩:=bad 28 P2 Q2 S2 L (.tup (cv.map prD)) cs st hS0 (cM ns 1)
 obtain⟨k,hk,e4⟩:=pH (cM ns 1) hS0
 have tg:=λw=>El (L:=L) st hcv hcq w hk
 have t0:=El (L:=L) st hcv hcq 0 (k:=0) hS0
 rw[show((0:Nat):Int)=0 from rfl]at t0
 simp only[bkD]at tg t0
 have ln:=uH (S:=S2)
 have bl:Bt.run .list [.lst (aA cs)]=.ok (.lst (aA cs)):=rfl
 have eqc:D.cmp .Eq (.lst (aA cs)) (.lst (aA cs))=.ok (.bl true):=by
  have pl:D.pl 30 (.lst (aA cs))=true:=by rw[xW];exact iS 29 cs
  show aC (D.eqOk _ _) (.ok (D.bl (D.eqb _ _)))=_
  rw[bJ (by unfold D.eqOk;rw[pl];rfl),D.eqb_refl 30 _ pl]
 have rg:hJ (.int 3)=.ok [.int 0,.int 1,.int 2]:=rfl
 have n1:D.cmp .NotEq (.str "told") (.str "told")=.ok (.bl false):=rfl
 have n2:D.cmp .NotEq (.str "no casting") (.str "no casting")=.ok (.bl false):=rfl
 have n3:D.cmp .Eq (.str "told") (.str "told")=.ok (.bl true):=rfl
 have body:∀(w:Int)(x:Sl),aL T (aB T dfs 29) (.one 7) oX (.int w) [.v (.lst (ns.map D.int)),.v (.tup [.tup (P2.map Part.enc),.tup (Q2.map Player.enc),.tup (S2.map Scene.enc),L,.tup (cv.map prD)]),.v (.lst (aA cs)),.v (.int (cM ns 1)),.v B2,.v W,.v (.lst (aA cs)),x] =
  .ok (.nx [.v (.lst (ns.map D.int)),.v (.tup [.tup (P2.map Part.enc),.tup (Q2.map Player.enc),.tup (S2.map Scene.enc),L,.tup (cv.map prD)]),.v (.lst (aA cs)),.v (.int (cM ns 1)),.v B2,.v W,.v (.lst (aA cs)),.v (.int w)]):=by
  intro w x
  have tw:=tg w
  rcases hW with rfl|⟨⟨l,rfl⟩,hf⟩
  ·generalize P2.map Part.enc=pp at *
   generalize Q2.map Player.enc=qq at *
   generalize S2.map Scene.enc=ss at *
   generalize cv.map prD=cc at *
   generalize aA cs=nc at *
   simp[aL,oX,ln,e4,tw,n1]
  ·obtain⟨fs,f1,f2⟩:=hf 20
   have tb:=K7 20 B2 (.lst l) w (.int (k:Int)) (ask_no 20 B2 (.lst l) fs f2 f1)
   have nn:(D.lst l).isNon=false:=rfl
   generalize P2.map Part.enc=pp at *
   generalize Q2.map Player.enc=qq at *
   generalize S2.map Scene.enc=ss at *
   generalize cv.map prD=cc at *
   generalize aA cs=nc at *
   simp[aL,oX,ln,e4,tw,n1,nn,tb,n2]
 have lo:aR (aL T (aB T dfs 29) (.one 7) oX) [.int 0,.int 1,.int 2] [.v (.lst (ns.map D.int)),.v (.tup [.tup (P2.map Part.enc),.tup (Q2.map Player.enc),.tup (S2.map Scene.enc),L,.tup (cv.map prD)]),.v (.lst (aA cs)),.v (.int (cM ns 1)),.v B2,.v W,.v (.lst (aA cs)),.no] =
  .ok (.nx [.v (.lst (ns.map D.int)),.v (.tup [.tup (P2.map Part.enc),.tup (Q2.map Player.enc),.tup (S2.map Scene.enc),L,.tup (cv.map prD)]),.v (.lst (aA cs)),.v (.int (cM ns 1)),.v B2,.v W,.v (.lst (aA cs)),.v (.int 2)]):=by
  rw[dI (body 0 _),dI (body 1 _),dI (body 2 _)];rfl
 clear body tg hW
 generalize P2.map Part.enc=pp2 at *
 generalize Q2.map Player.enc=qq2 at *
 generalize S2.map Scene.enc=ss2 at *
 generalize P.map Part.enc=pp at *
 generalize Q.map Player.enc=qq at *
 generalize S.map Scene.enc=ss at *
 generalize cv.map prD=cc at *
 generalize aA cs=nc at *
 simp[oY,e1,q1,q2,c0,c1,e2,e3,bl,rg,lo,eqc,t0,n3]
end K62
namespace K62
open PySem L2 Tr
noncomputable def top(i:Nat):Stmt:=PySem.Challenge.pw_troupe_k62_no_casting.main.body.getD i (.Pass ⟨0,0,0,0⟩)
noncomputable abbrev Kf:DefT:=⟨"time_between", top 12,["book", "s", "t", "scenes"],["book", "s", "t"],yI,none⟩
noncomputable abbrev Kg:DefT:=⟨"change_time", top 13,["book", "one", "other"],["book", "one", "other"],yJ,none⟩
noncomputable abbrev Kh:DefT:=⟨"short_change_from", top 14,["book", "s", "one", "other", "need", "t", "have"],["book", "s", "one", "other"],sJ,none⟩
noncomputable abbrev Ki:DefT:=⟨"reason_from", top 15,["book", "s", "i", "j", "numbers"],["book", "s", "i", "j"],lW,none⟩
noncomputable abbrev Kj:DefT:=⟨"reason_of", top 16,["book", "i", "j", "s", "reason"],["book", "i", "j"],sM,none⟩
noncomputable abbrev Kk:DefT:=⟨"clashes_of", top 17,["book", "pairs", "many", "i"],["book"],yL,none⟩
noncomputable abbrev Kl:DefT:=⟨"fault_of_part", top 19,["book", "i", "player"],["book", "i", "player"],oR,none⟩
noncomputable abbrev Km:DefT:=⟨"have_one_player", top 20,["casting", "i", "j"],["casting", "i", "j"],sP,none⟩
noncomputable abbrev Kn:DefT:=⟨"faults_of", top 21,["book", "casting", "faults"],["book", "casting"],yN,none⟩
noncomputable abbrev Ko:DefT:=⟨"ask_that_it_plays", top 22,["book", "casting"],["book", "casting"],sU,none⟩
noncomputable abbrev Kp:DefT:=⟨"gaps_of", top 24,["book", "casting", "away", "scene"],["book", "casting", "away", "scene"],yO,none⟩
noncomputable abbrev Kq:DefT:=⟨"covers_of", top 25,["book", "casting", "away", "scene", "part", "busy", "told"],["book", "casting", "away", "scene", "part"],yQ,none⟩
noncomputable abbrev Kr:DefT:=⟨"lack_told", top 27,["covered", "asked", "gap", "gaps"],["covered", "asked", "gap"],yS,none⟩
noncomputable abbrev Ks:DefT:=⟨"scene_told", top 28,["book", "casting", "away", "scene", "gaps", "choices", "covered", "gap", "asked", "players"],["book", "casting", "away", "scene"],tD,none⟩
noncomputable abbrev Kt:DefT:=⟨"scene_of_night", top 29,["book", "casting", "away", "scene"],["book", "casting", "away", "scene"],tF,none⟩
noncomputable abbrev Ku:DefT:=⟨"night_of", top 30,["book", "casting", "away"],["book", "casting", "away"],tJ,none⟩
noncomputable abbrev Kv:DefT:=⟨"first_lacking", top 31,["book", "casting", "away", "scene"],["book", "casting", "away"],tK,none⟩
noncomputable abbrev Kw:DefT:=⟨"one_longer", top 32,["sets", "many", "longer", "players", "start"],["sets", "many"],yW,none⟩
noncomputable abbrev Kx:DefT:=⟨"sets_up_to", top 33,["many", "most", "sets", "found", "size"],["many", "most"],yX,none⟩
noncomputable abbrev Ky:DefT:=⟨"nights_of", top 34,["book", "casting", "most"],["book", "casting", "most"],tO,none⟩
noncomputable abbrev Kz:DefT:=⟨"_law_cell_at", top 36,["_law_script", "_law_k"],["_law_script", "_law_k"],tP,none⟩
noncomputable abbrev LA:DefT:=⟨"_law_mix", top 37,["_law_cell", "_law_k"],["_law_cell", "_law_k"],yY,none⟩
noncomputable abbrev LB:DefT:=⟨"_law_name", top 38,["_law_cell", "_law_k", "_law_letter", "_law_tail", "_law_at"],["_law_cell", "_law_k"],yZ,none⟩
noncomputable abbrev LC:DefT:=⟨"_law_minutes", top 39,["_law_number"],["_law_number"],zA,none⟩
noncomputable abbrev LD:DefT:=⟨"_law_part", top 40,["_law_cell", "_law_k", "_law_base", "_law_number", "_law_voice"],["_law_cell", "_law_k", "_law_base"],zB,none⟩
noncomputable abbrev LF:DefT:=⟨"_law_player", top 41,["_law_cell", "_law_k", "_law_base", "_law_number", "_law_voices"],["_law_cell", "_law_k", "_law_base"],zC,none⟩
noncomputable abbrev LG:DefT:=⟨"_law_scene", top 42,["_law_cell", "_law_k", "_law_base", "_law_many", "_law_number", "_law_some", "_law_middle", "_law_pause"],["_law_cell", "_law_k", "_law_base", "_law_many"],zD,none⟩
noncomputable abbrev LH:DefT:=⟨"_law_pairs", top 43,["_law_cell", "_law_one", "_law_other", "_law_share", "_law_found", "_law_k", "_law_number", "_law_pair", "_law_middle"],["_law_cell", "_law_one", "_law_other", "_law_share"],zE,none⟩
noncomputable abbrev LI:DefT:=⟨"_law_drawn", top 44,["_law_script", "_law_at", "_law_cells", "_law_many", "_law_parts", "_law_players", "_law_scenes", "_law_k", "_law_cell", "_law_likes", "_law_player_here", "_law_part_here", "_law_covers"],["_law_script", "_law_at"],zH,none⟩
noncomputable abbrev LJ:DefT:=⟨"_law_staged", top 45,["_law_book", "_law_cell", "_law_parts", "_law_players", "_law_casting", "_law_scenes", "_law_name_here", "_law_length", "_law_pause", "_law_numbers", "_law_kept", "_law_part_here"],["_law_book", "_law_cell"],zM,none⟩
noncomputable abbrev d_law_told:DefT:=⟨"_law_told", top 48,["_law_book", "_law_casting", "_law_way", "_law_scene_here", "_law_wrong", "_law_e"],["_law_book", "_law_casting", "_law_way", "_law_scene_here"],iW,(some oW)⟩
noncomputable abbrev LK:DefT:=⟨"_law_bad", top 49,["_law_book", "_law_casting", "_law_cell", "_law_scene_here", "_law_parts", "_law_part_here", "_law_players", "_law_name_here", "_law_voices", "_law_hire", "_law_others_here", "_law_other"],["_law_book", "_law_casting", "_law_cell"],kU,none⟩
noncomputable abbrev d_law:DefT:=⟨"law", top 50,["_law_script", "_law_book", "_law_casting", "_law_cell", "_law_other", "_law_wrong", "_law_kept", "_law_way"],["_law_script"],oY,none⟩
noncomputable abbrev LL:DefT:=⟨"finds_cover", top 26,["choices", "covered", "asked", "gap", "player"],["choices", "covered", "asked", "gap"],oZ,none⟩
noncomputable def defs:List DefT:=[Kf,Kg,Kh,Ki,Kj,Kk,Kl,Km,Kn,Ko,Kp,Kq,Kr,Ks,Kt,Ku,Kv,Kw,Kx,Ky,Kz,LA,LB,LC,LD,LF,LG,LH,LI,LJ,d_law_told,LK,d_law,LL]
noncomputable def Tx:Txt:=⟨["PARTS", "PLAYERS", "SCENES", "COVERS"],[("time_between":Str),("change_time":Str),("short_change_from":Str),("reason_from":Str),("reason_of":Str),("clashes_of":Str),("fault_of_part":Str),("have_one_player":Str),("faults_of":Str),("ask_that_it_plays":Str),("gaps_of":Str),("covers_of":Str),("lack_told":Str),("scene_told":Str),("scene_of_night":Str),("night_of":Str),("first_lacking":Str),("one_longer":Str),("sets_up_to":Str),("nights_of":Str),("_law_cell_at":Str),("_law_mix":Str),("_law_name":Str),("_law_minutes":Str),("_law_part":Str),("_law_player":Str),("_law_scene":Str),("_law_pairs":Str),("_law_drawn":Str),("_law_staged":Str),("_law_told":Str),("_law_bad":Str),("law":Str)],[],[],[("NoCasting" : Str)],[],[(33, "finds_cover")]⟩
theorem okB:defs.all (·.okB Tx)=true:=by decide +kernel
noncomputable abbrev xt:ToldT:=⟨"TroupeError", "_law_others", top 47,["_law_e"], "_law_e", [("NoBook" : Str),("NoChange" : Str),("NoName" : Str),("NoRow" : Str)]⟩
theorem oB:oI xt=true:=by decide +kernel
theorem sB:kP d_law_told.N d_law_told.ps (bA d_law_told.st)=true:=by decide +kernel
end K62
open PySem PySem.W PyProof.Rows
set_option maxRecDepth 100000 in
set_option maxHeartbeats 0 in
theorem PySem.Challenge.cw_troupe_k62_no_casting_holds : PySem.Challenge.rw_troupe_k62_no_casting.Holds := by
 refine K62.hd ?_
 k_fill
 refine Tr.walkT (l:=PySem.Challenge.rw_troupe_k62_no_casting) (T:=K62.T) (Tx:=K62.Tx) (defs:=K62.defs) (i:=32) (n:=30) rfl rfl rfl rfl rfl ⟨rfl,by decide,by decide⟩ K62.Ke (λw h Y=>PySem.W.kIn_of Y) ?X (λ_ _ _ _ _ _ _=>rfl)
 case X=>
  intro w mg h KX G
  refine' Tr.Ir (x:=K62.xt) (td:=K62.oW) ⟨Tr.dn_of rfl rfl,K62.okB,(Tr.all_cons (Tr.bL KX G ?a0 ?l0 ?c0 ?k0 ?b0) (Tr.all_cons (Tr.bL KX G ?a1 ?l1 ?c1 ?k1 ?b1) (Tr.all_cons (Tr.bL KX G ?a2 ?l2 ?c2 ?k2 ?b2) (Tr.all_cons (Tr.bL KX G ?a3 ?l3 ?c3 ?k3 ?b3) (Tr.all_cons (Tr.bL KX G ?a4 ?l4 ?c4 ?k4 ?b4) (Tr.all_cons (Tr.bL KX G ?a5 ?l5 ?c5 ?k5 ?b5) (Tr.all_cons (Tr.bL KX G ?a6 ?l6 ?c6 ?k6 ?b6) (Tr.all_cons (Tr.bL KX G ?a7 ?l7 ?c7 ?k7 ?b7) (Tr.all_cons (Tr.bL KX G ?a8 ?l8 ?c8 ?k8 ?b8) (Tr.all_cons (Tr.bL KX G ?a9 ?l9 ?c9 ?k9 ?b9) (Tr.all_cons (Tr.bL KX G ?a10 ?l10 ?c10 ?k10 ?b10) (Tr.all_cons (Tr.bL KX G ?a11 ?l11 ?c11 ?k11 ?b11) (Tr.all_cons (Tr.bL KX G ?a12 ?l12 ?c12 ?k12 ?b12) (Tr.all_cons (Tr.bL KX G ?a13 ?l13 ?c13 ?k13 ?b13) (Tr.all_cons (Tr.bL KX G ?a14 ?l14 ?c14 ?k14 ?b14) (Tr.all_cons (Tr.bL KX G ?a15 ?l15 ?c15 ?k15 ?b15) (Tr.all_cons (Tr.bL KX G ?a16 ?l16 ?c16 ?k16 ?b16) (Tr.all_cons (Tr.bL KX G ?a17 ?l17 ?c17 ?k17 ?b17) (Tr.all_cons (Tr.bL KX G ?a18 ?l18 ?c18 ?k18 ?b18) (Tr.all_cons (Tr.bL KX G ?a19 ?l19 ?c19 ?k19 ?b19) (Tr.all_cons (Tr.bL KX G ?a20 ?l20 ?c20 ?k20 ?b20) (Tr.all_cons (Tr.bL KX G ?a21 ?l21 ?c21 ?k21 ?b21) (Tr.all_cons (Tr.bL KX G ?a22 ?l22 ?c22 ?k22 ?b22) (Tr.all_cons (Tr.bL KX G ?a23 ?l23 ?c23 ?k23 ?b23) (Tr.all_cons (Tr.bL KX G ?a24 ?l24 ?c24 ?k24 ?b24) (Tr.all_cons (Tr.bL KX G ?a25 ?l25 ?c25 ?k25 ?b25) (Tr.all_cons (Tr.bL KX G ?a26 ?l26 ?c26 ?k26 ?b26) (Tr.all_cons (Tr.bL KX G ?a27 ?l27 ?c27 ?k27 ?b27) (Tr.all_cons (Tr.bL KX G ?a28 ?l28 ?c28 ?k28 ?b28) (Tr.all_cons (Tr.bL KX G ?a29 ?l29 ?c29 ?k29 ?b29) (Tr.all_cons (Tr.bL KX G ?a30 ?l30 ?c30 ?k30 ?b30) (Tr.all_cons (Tr.bL KX G ?a31 ?l31 ?c31 ?k31 ?b31) (Tr.all_cons (Tr.bL KX G ?a32 ?l32 ?c32 ?k32 ?b32) (Tr.all_cons (Tr.bL KX G ?a33 ?l33 ?c33 ?k33 ?b33) Tr.iQ)))))))))))))))))))))))))))))))))),(Tr.rV (Tr.rT KX G ?gg0) (Tr.rV (Tr.rT KX G ?gg1) (Tr.rV (Tr.rT KX G ?gg2) (Tr.rV (Tr.rT KX G ?gg3) Tr.gl_nil)))),(Tr.all_cons (Tr.cV KX G ?z0) (Tr.all_cons (Tr.cV KX G ?z1) (Tr.all_cons (Tr.cV KX G ?z2) (Tr.all_cons (Tr.cV KX G ?z3) (Tr.all_cons (Tr.cV KX G ?z4) (Tr.all_cons (Tr.cV KX G ?z5) (Tr.all_cons (Tr.cV KX G ?z6) (Tr.all_cons (Tr.cV KX G ?z7) (Tr.all_cons (Tr.cV KX G ?z8) (Tr.all_cons (Tr.cV KX G ?z9) (Tr.all_cons (Tr.cV KX G ?z10) (Tr.all_cons (Tr.cV KX G ?z11) (Tr.all_cons (Tr.cV KX G ?z12) (Tr.all_cons (Tr.cV KX G ?z13) (Tr.all_cons (Tr.cV KX G ?z14) (Tr.all_cons (Tr.cV KX G ?z15) (Tr.all_cons (Tr.cV KX G ?z16) (Tr.all_cons (Tr.cV KX G ?z17) (Tr.all_cons (Tr.cV KX G ?z18) Tr.iQ))))))))))))))))))),Tr.iQ,Tr.iQ,(Tr.all_cons (Tr.cls_ex KX G ?ca0 ?ce0) Tr.iQ),Tr.iQ,(Tr.all_cons ⟨_,rfl,rfl⟩ Tr.iQ),Tr.iQ⟩ rfl rfl K62.sB rfl rfl (by decide +kernel) K62.oB ⟨Tr.xR KX G ?ta0 ?te0,Tr.xR KX G ?ta1 ?te1,?tm,⟨?x1,?x2,?x3,?x4,?x5,?x6,?x7⟩,Tr.Iu,?tv,(Tr.all_cons (Tr.rR KX G ?oa0 ?oe0) (Tr.all_cons (Tr.rR KX G ?oa1 ?oe1) (Tr.all_cons (Tr.rR KX G ?oa2 ?oe2) (Tr.all_cons (Tr.rR KX G ?oa3 ?oe3) Tr.iQ)))),Tr.cV KX G ?tz,Tr.bL KX G ?fa ?fl ?fc ?fk ?fb⟩
  (case ta0=>k_is);(case ta1=>k_is);(case te0=>kernel_rfl);(case te1=>kernel_rfl);(case tm=>kernel_rfl)
  (case x1=>kernel_rfl);(case x2=>kernel_rfl);(case x3=>kernel_rfl);(case x4=>kernel_rfl);(case x5=>kernel_rfl);(case x6=>kernel_rfl);(case x7=>kernel_rfl)
  (case tv=>kernel_rfl);(case tz=>k_is)
  (case oa0=>k_is);(case oe0=>kernel_rfl)
  (case oa1=>k_is);(case oe1=>kernel_rfl)
  (case oa2=>k_is);(case oe2=>kernel_rfl)
  (case oa3=>k_is);(case oe3=>kernel_rfl)
  (case fa=>k_is);(case fl=>k_is);(case fc=>k_is);(case fk=>k_is)
  (case fb=>exact λ_ _ _ _ _ _=>Tr.rS (λ_=>rfl))
  (case ca0=>k_is);(case ce0=>kernel_rfl)
  (case a0=>k_is);(case l0=>k_is);(case c0=>k_is);(case k0=>k_is)
  (case b0=>exact λ_ _ _ _ _ _=>Tr.fL (λ_ _ _=>rfl))
  (case a1=>k_is);(case l1=>k_is);(case c1=>k_is);(case k1=>k_is)
  (case b1=>exact λ_ _ _ _ _ _=>Tr.fL (λ_ _ _=>rfl))
  (case a2=>k_is);(case l2=>k_is);(case c2=>k_is);(case k2=>k_is)
  (case b2=>exact λ_ _ _ _ _ _=>Tr.len4 (λ_ _ _ _=>rfl))
  (case a3=>k_is);(case l3=>k_is);(case c3=>k_is);(case k3=>k_is)
  (case b3=>exact λ_ _ _ _ _ _=>Tr.len4 (λ_ _ _ _=>rfl))
  (case a4=>k_is);(case l4=>k_is);(case c4=>k_is);(case k4=>k_is)
  (case b4=>exact λ_ _ _ _ _ _=>Tr.fL (λ_ _ _=>rfl))
  (case a5=>k_is);(case l5=>k_is);(case c5=>k_is);(case k5=>k_is)
  (case b5=>exact λ_ _ _ _ _ _=>Tr.rS (λ_=>rfl))
  (case a6=>k_is);(case l6=>k_is);(case c6=>k_is);(case k6=>k_is)
  (case b6=>exact λ_ _ _ _ _ _=>Tr.fL (λ_ _ _=>rfl))
  (case a7=>k_is);(case l7=>k_is);(case c7=>k_is);(case k7=>k_is)
  (case b7=>exact λ_ _ _ _ _ _=>Tr.fL (λ_ _ _=>rfl))
  (case a8=>k_is);(case l8=>k_is);(case c8=>k_is);(case k8=>k_is)
  (case b8=>exact λ_ _ _ _ _ _=>Tr.iP (λ_ _=>rfl))
  (case a9=>k_is);(case l9=>k_is);(case c9=>k_is);(case k9=>k_is)
  (case b9=>exact λ_ _ _ _ _ _=>Tr.iP (λ_ _=>rfl))
  (case a10=>k_is);(case l10=>k_is);(case c10=>k_is);(case k10=>k_is)
  (case b10=>exact λ_ _ _ _ _ _=>Tr.len4 (λ_ _ _ _=>rfl))
  (case a11=>k_is);(case l11=>k_is);(case c11=>k_is);(case k11=>k_is)
  (case b11=>exact λ_ _ _ _ _ _=>Tr.len5 (λ_ _ _ _ _=>rfl))
  (case a12=>k_is);(case l12=>k_is);(case c12=>k_is);(case k12=>k_is)
  (case b12=>exact λ_ _ _ _ _ _=>Tr.fL (λ_ _ _=>rfl))
  (case a13=>k_is);(case l13=>k_is);(case c13=>k_is);(case k13=>k_is)
  (case b13=>exact λ_ _ _ _ _ _=>Tr.len4 (λ_ _ _ _=>rfl))
  (case a14=>k_is);(case l14=>k_is);(case c14=>k_is);(case k14=>k_is)
  (case b14=>exact λ_ _ _ _ _ _=>Tr.len4 (λ_ _ _ _=>rfl))
  (case a15=>k_is);(case l15=>k_is);(case c15=>k_is);(case k15=>k_is)
  (case b15=>exact λ_ _ _ _ _ _=>Tr.fL (λ_ _ _=>rfl))
  (case a16=>k_is);(case l16=>k_is);(case c16=>k_is);(case k16=>k_is)
  (case b16=>exact λ_ _ _ _ _ _=>Tr.fL (λ_ _ _=>rfl))
  (case a17=>k_is);(case l17=>k_is);(case c17=>k_is);(case k17=>k_is)
  (case b17=>exact λ_ _ _ _ _ _=>Tr.iP (λ_ _=>rfl))
  (case a18=>k_is);(case l18=>k_is);(case c18=>k_is);(case k18=>k_is)
  (case b18=>exact λ_ _ _ _ _ _=>Tr.iP (λ_ _=>rfl))
  (case a19=>k_is);(case l19=>k_is);(case c19=>k_is);(case k19=>k_is)
  (case b19=>exact λ_ _ _ _ _ _=>Tr.fL (λ_ _ _=>rfl))
  (case a20=>k_is);(case l20=>k_is);(case c20=>k_is);(case k20=>k_is)
  (case b20=>exact λ_ _ _ _ _ _=>Tr.iP (λ_ _=>rfl))
  (case a21=>k_is);(case l21=>k_is);(case c21=>k_is);(case k21=>k_is)
  (case b21=>exact λ_ _ _ _ _ _=>Tr.iP (λ_ _=>rfl))
  (case a22=>k_is);(case l22=>k_is);(case c22=>k_is);(case k22=>k_is)
  (case b22=>exact λ_ _ _ _ _ _=>Tr.iP (λ_ _=>rfl))
  (case a23=>k_is);(case l23=>k_is);(case c23=>k_is);(case k23=>k_is)
  (case b23=>exact λ_ _ _ _ _ _=>Tr.rS (λ_=>rfl))
  (case a24=>k_is);(case l24=>k_is);(case c24=>k_is);(case k24=>k_is)
  (case b24=>exact λ_ _ _ _ _ _=>Tr.fL (λ_ _ _=>rfl))
  (case a25=>k_is);(case l25=>k_is);(case c25=>k_is);(case k25=>k_is)
  (case b25=>exact λ_ _ _ _ _ _=>Tr.fL (λ_ _ _=>rfl))
  (case a26=>k_is);(case l26=>k_is);(case c26=>k_is);(case k26=>k_is)
  (case b26=>exact λ_ _ _ _ _ _=>Tr.len4 (λ_ _ _ _=>rfl))
  (case a27=>k_is);(case l27=>k_is);(case c27=>k_is);(case k27=>k_is)
  (case b27=>exact λ_ _ _ _ _ _=>Tr.len4 (λ_ _ _ _=>rfl))
  (case a28=>k_is);(case l28=>k_is);(case c28=>k_is);(case k28=>k_is)
  (case b28=>exact λ_ _ _ _ _ _=>Tr.iP (λ_ _=>rfl))
  (case a29=>k_is);(case l29=>k_is);(case c29=>k_is);(case k29=>k_is)
  (case b29=>exact λ_ _ _ _ _ _=>Tr.iP (λ_ _=>rfl))
  (case a30=>k_is);(case l30=>k_is);(case c30=>k_is);(case k30=>k_is)
  (case b30=>exact λ_ _ _ _ _ _=>Tr.len4 (λ_ _ _ _=>rfl))
  (case a31=>k_is);(case l31=>k_is);(case c31=>k_is);(case k31=>k_is)
  (case b31=>exact λ_ _ _ _ _ _=>Tr.fL (λ_ _ _=>rfl))
  (case a32=>k_is);(case l32=>k_is);(case c32=>k_is);(case k32=>k_is)
  (case b32=>exact λ_ _ _ _ _ _=>Tr.rS (λ_=>rfl))
  (case a33=>k_is);(case l33=>k_is);(case c33=>k_is);(case k33=>k_is)
  (case b33=>exact λ_ _ _ _ _ _=>Tr.len4 (λ_ _ _ _=>rfl))
  (case gg0=>k_is)
  (case gg1=>k_is)
  (case gg2=>k_is)
  (case gg3=>k_is)
  (case z0=>k_is)
  (case z1=>k_is)
  (case z2=>k_is)
  (case z3=>k_is)
  (case z4=>k_is)
  (case z5=>k_is)
  (case z6=>k_is)
  (case z7=>k_is)
  (case z8=>k_is)
  (case z9=>k_is)
  (case z10=>k_is)
  (case z11=>k_is)
  (case z12=>k_is)
  (case z13=>k_is)
  (case z14=>k_is)
  (case z15=>k_is)
  (case z16=>k_is)
  (case z17=>k_is)
  (case z18=>k_is)
